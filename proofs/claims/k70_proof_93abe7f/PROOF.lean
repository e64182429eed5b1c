import PyProof.Rows.All
import Wide.All
import OpenK.AllK
import Wide.FinOn
import KE.KExcIs
import KE.KExcInit
import HandS.ForMost
import HandS.Exc
import HandS.ExcInit
import HandS.IsInst
import HandS.ExcValue
import HandS.Defaults
import HandS.ClsMeth
import PyProof.ReprRoads
import PyProof.CallFns
import HandS.DictComp
import HandS.Walk
import PySem.Challenge.RW_standlots_k70_errors
set_option Elab.async false
set_option linter.all false
set_option maxRecDepth 100000
set_option maxHeartbeats 4000000
/-! Own exception classes over any built-in base (ValueError, LookupError, OverflowError): what the class must be, its object made, its one field stored and read, asked by isinstance. -/
namespace Lots
open PySem PySem.Spec PySem.W PyProof.Rows
section
open Builtin Builtin.ObjectAttr
variable {prog : Program} {w : World} {A : Around} {R : Result → Shared → Prop} {hp : Heap} {ge : Array GenState} {dr : Drawn} {tk0 : Nat} {oss : OsState}
/-- the first field of an exception that has no dict yet, whatever built-in class its own class rests on -/
theorem first_field {K : Frag} {fld : Str} {tk : Tok} {v : Value} {x C : Addr} {fv : Array Value} {cd : ClassData} {B : String} {bmB : List Value} (SF : StoreFacts B bmB "object.__setattr__" "object")
    (kin : K.In hp) (at_ : hp.get? x = some { cls := .ref C, data := .fields fv }) (over : excOver K C bmB = true) (isC : clsIn K C = some cd) (dic : cd.hasDict = true) (ntk : takerIn K C fld = some none)
    (next : ∀ h2 tk2 dx, (∀ b o, b ≠ x → hp.get? b = some o → h2.get? b = some o) → hp.objs.size ≤ dx → dx ≠ x → h2.get? x = some { cls := .ref C, dict := some dx, data := .fields fv } →
      h2.Ns1 dx (fun y => if y = fld then some v else none) → R (.ok (.ret .none)) ⟨h2, ge, dr, tk2, oss⟩) :
    codeAny (model prog w) A (.call (.builtin "object.__setattr__") ⟨[.ref x, .str fld tk, v], []⟩) R ⟨hp, ge, dr, tk0, oss⟩ := by
  have apart : x ≠ hp.objs.size := Nat.ne_of_lt (Heap.lt_size at_)
  have Lc : Looks (model prog w) hp (classData C) cd := looks_clsIn kin isC
  refine osa_openX (s := ⟨hp, ge, dr, tk0, oss⟩) (r := none) SF kin (ox := { cls := .ref C, data := .fields fv }) (od := none) ⟨at_, rfl, rfl, trivial⟩ over ntk fun b => ?_
  obtain ⟨cn, cb, cm, cns, cq, chd, csn, csub, cab, ccol, cdel⟩ := cd
  dsimp only at dic
  subst dic
  show wpAny _ _ (storeInOwnDict (.ref x) (.ref C) (.str fld tk) fld v b) _ _ _
  unfold storeInOwnDict ownDictForStores
  repeat (first | with_reducible refine HandSPX.store_in_new ?_ ?_ | with_reducible refine wpAny_loadPart_at at_ ?_ | with_reducible refine Lc.at ?_ | wp_step)
  · exact ⟨_, #[], _, (Heap.get?_update_ne _ _ _ _ apart.symm).trans (Heap.get?_push_at rfl rfl), rfl, fun e z => absurd z (by simp), fun _ => rfl⟩
  · intro h2 tk2 hns same
    have xk : (hp.push { cls := .type "dict", data := .dict #[] }).get? x = some { cls := .ref C, data := .fields fv } := Heap.get?_push_of_some _ at_
    refine next h2 tk2 hp.objs.size (fun b o hb ho => ?_) (Nat.le_refl _) apart.symm ?_ hns
    · have away := same.2 b (Nat.ne_of_lt (Heap.lt_size ho))
      exact away.trans ((Heap.get?_update_ne _ _ _ _ hb).trans (Heap.get?_push_of_some _ ho))
    · exact (same.2 x apart).trans (Heap.get?_update_self _ xk rfl)
end
end Lots

/-! C(name = value, ..) of an own exception class: BaseException.__new__ takes any keywords, the own __init__ gets them. -/
namespace Lots
open PySem PySem.Spec PySem.HandSPX
section
variable {M : Model} {A : Around} {E : Value → Shared → Prop} {h : Heap} {ge : Array GenState} {dr : Drawn} {tk0 : Nat} {oss : OsState}
variable {cn cq : Str} {C N : Addr} {cb cm cmB : List Value} {hdc : Bool} {csn : List Str} {csub : List Value} {cab : Bool} {ccol : Option Bool} {cdd : Option Addr} {z0 z1 z2 z3 z5 : Option Value} {B newId initId : String} {kws : List (Str × Value)}
theorem new_asked (FB : ExcBaseFacts B newId initId cmB) (hT : ∀ T : String, cm.contains (.type T) = cmB.contains (.type T)) {args : List Value} {Q : Unit → Shared → Prop}
    (hC : h.get? C = some (excClassObj cn cq C N cb cm hdc csn csub cab ccol cdd z0 z1 z2 z3 z5 newId)) (hq : Q () ⟨h, ge, dr, tk0, oss⟩) :
    wpAny M A (checkBuiltinCall newId ⟨.ref C :: args, kws⟩) Q E ⟨h, ge, dr, tk0, oss⟩ := by
  have inB : (Value.ref C :: cm).contains (.type B) = true := by
    rw [List.contains_cons, hT, FB.hasB, Bool.or_true]
  have ns := FB.noStar
  simp only [checkBuiltinCall, FB.newKind, FB.newSplit, FB.newRow]
  repeat (first | refine wpAny_loadPart_at hC ?_ | (refine wpAny_isSubtype_exc hC ?_; rw [inB]) | refine wpAny_staticBase_exc hC ?_ | refine wpAny_madeBy_exc hC ?_ | simp only [bne_self_eq_false, Bool.false_eq_true, if_false, Bind.check] | wp_step)
  all_goals first | exact hq | skip
end
section
variable {prog : Program} {w : World} {A : Around} {E : Value → Shared → Prop} {R : Result → Shared → Prop} {h : Heap} {ge : Array GenState} {dr : Drawn} {tk0 : Nat} {oss : OsState}
variable {cn cq : Str} {C N : Addr} {cb cm cmB : List Value} {hdc : Bool} {csn : List Str} {csub : List Value} {cab : Bool} {ccol : Option Bool} {cdd : Option Addr} {z0 z1 z2 z3 z5 : Option Value} {B newId initId : String} {kws : List (Str × Value)}
theorem new_made (FB : ExcBaseFacts B newId initId cmB) (hT : ∀ T : String, cm.contains (.type T) = cmB.contains (.type T)) {args : List Value}
    (hC : h.get? C = some (excClassObj cn cq C N cb cm hdc csn csub cab ccol cdd z0 z1 z2 z3 z5 newId)) (hz : args.length ≤ sizeLine)
    (hq : R (.ok (.ret (.ref (h.objs.size + 1)))) ⟨(h.push (W.kdv_tup args)).push (excO C h.objs.size), ge, dr, tk0, oss⟩) :
    codeAny (model prog w) A (.builtin newId ⟨.ref C :: args, kws⟩) R ⟨h, ge, dr, tk0, oss⟩ := by
  have tail := FB.ends
  have inB : (Value.ref C :: cm).contains (.type B) = true := by
    rw [List.contains_cons, hT, FB.hasB, Bool.or_true]
  have noA : (Value.ref C :: cm).contains (.type "AttributeError") = false := by
    rw [List.contains_cons, hT, FB.noAttr]
    rfl
  have noN : (Value.ref C :: cm).contains (.type "NameError") = false := by
    rw [List.contains_cons, hT, FB.noName]
    rfl
  refine codeAny_builtinAt FB.entry ?_
  unfold Builtin.«BaseException.__new__»
  refine wpAt_bind ?_
  show wpAt _ _ _ (stack >>= _) _ _ _
  refine wpAt_bind (wpAt_stack fun p below => wpAt_of_wpAny ?_)
  wp_walk
  refine wpAt_of_wpAny ?_
  rw [FB.owner]
  repeat (first | with_reducible refine wpAny_madeHere_exc FB.canon hC ?_ | with_reducible refine wpAny_loadPart_at hC ?_ | (with_reducible refine wpAny_isSubtype_exc hC ?_; first | rw [inB] | rw [noA] | rw [noN]) | wp_step)
  show R _ _
  rw [Heap.size_push]
  exact hq

theorem class_asked {M : Model} {E2 : Value → Shared → Prop} {args : List Value} {Q : Unit → Shared → Prop} (hC : h.get? C = some (excClassObj cn cq C N cb cm hdc csn csub cab ccol cdd z0 z1 z2 z3 z5 newId))
    (hq : Q () ⟨h, ge, dr, tk0, oss⟩) : wpAny M A (checkBuiltinCall "type.__call__" ⟨.ref C :: args, kws⟩) Q E2 ⟨h, ge, dr, tk0, oss⟩ := by
  have sb := tc_sub
  have isT : (⟨h, ge, dr, tk0, oss⟩ : Shared).TypeIs (.ref C) "type" := ⟨_, hC, rfl⟩
  simp only [checkBuiltinCall, tc_kind, tc_split]
  repeat (any_goals (first | assumption | with_reducible refine wpAny_loadPart_at hC ?_ | with_reducible refine wpAny_onRaise ?_ | with_reducible refine wpAny_map ?_ | wp_step))
theorem class_called (FB : ExcBaseFacts B newId initId cmB) (hT : ∀ T : String, cm.contains (.type T) = cmB.contains (.type T)) {args : List Value} {fI : Addr} {Q : Fin → Shared → Prop}
    (hC : h.get? C = some (excClassObj cn cq C N cb cm hdc csn csub cab ccol cdd z0 z1 z2 z3 z5 newId))
    (look : W.Looks (model prog w) h (typeLookup (.ref C) "__init__") (some (.ref fI))) (bnd : ∀ me, W.Looks (model prog w) h (bindSpecial (.ref fI) me) (.ref fI, [me])) (hz : args.length ≤ sizeLine)
    (next : codeAny (model prog w) A (.call (.ref fI) ⟨.ref (h.objs.size + 1) :: args, kws⟩)
      (fun r s' => match r with | .ok (.ret v) => v = .none ∧ Q (.done (.ret (.ref (h.objs.size + 1)))) s' | .ok _ => False | .error e => E e s')
      ⟨(h.push (W.kdv_tup args)).push (excO C h.objs.size), ge, dr, tk0, oss⟩) :
    wpAny (model prog w) A (Builtin.«type.__call__» ⟨.ref C :: args, kws⟩) Q E ⟨h, ge, dr, tk0, oss⟩ := by
  repeat (first | with_reducible refine wpAny_loadPart_at hC ?_ | with_reducible refine wpAny_madeBy_exc hC ?_ | wp_step)
  refine codeAny_call_builtin_code (Code.quiet_builtin _ FB.quiet) (new_asked FB hT hC ?_)
  refine new_made FB hT hC hz ?_
  show wpAny _ _ _ _ _ _
  have kept : ∀ b o, h.get? b = some o → ((h.push (W.kdv_tup args)).push (excO C h.objs.size)).get? b = some o := fun b o z => Heap.get?_push_of_some _ (Heap.get?_push_of_some _ z)
  have hC2 := kept _ _ hC
  have made : ((h.push (W.kdv_tup args)).push (excO C h.objs.size)).get? (h.objs.size + 1) = some (excO C h.objs.size) := by heap_get
  have isIn : (Value.ref C :: cm).contains (.ref C) = true := by simp
  have look2 := look.keeps kept
  have bnd2 := (bnd (.ref (h.objs.size + 1))).keeps kept
  unfold isInstance
  repeat (first | with_reducible refine wpAny_loadPart_at made ?_ | (with_reducible refine wpAny_isSubtype_exc hC2 ?_; rw [isIn]) | wp_step)
  show wpAny _ _ (typeLookup (.ref C) _) _ _ _
  refine look2.at ?_
  refine wpAny_holding (wpAny_bind (bnd2.at ?_))
  refine wpAny_bind (wpAny_call (codeAny_mono next fun r s' z => ?_))
  rcases r with e | (v | _ | _ | _) <;> first | exact z | exact z.elim | skip
  obtain ⟨rfl, z⟩ := z
  first
    | exact wpAny_pure (wpAny_pure z)
    | (wp_walk; exact z)
/-- C(.., name = value, ..): the exception is made, then its own __init__ runs -/
theorem call_kw (FB : ExcBaseFacts B newId initId cmB) (hT : ∀ T : String, cm.contains (.type T) = cmB.contains (.type T)) {args : List Value} {fI : Addr}
    (hC : h.get? C = some (excClassObj cn cq C N cb cm hdc csn csub cab ccol cdd z0 z1 z2 z3 z5 newId))
    (look : W.Looks (model prog w) h (typeLookup (.ref C) "__init__") (some (.ref fI))) (bnd : ∀ me, W.Looks (model prog w) h (bindSpecial (.ref fI) me) (.ref fI, [me])) (hz : args.length ≤ sizeLine)
    (next : codeAny (model prog w) (A.under (.builtin "type.__call__" ⟨.ref C :: args, kws⟩)) (.call (.ref fI) ⟨.ref (h.objs.size + 1) :: args, kws⟩) (W.InitBack (h.objs.size + 1) R)
      ⟨(h.push (W.kdv_tup args)).push (excO C h.objs.size), ge, dr, tk0, oss⟩) :
    codeAny (model prog w) A (.call (.ref C) ⟨args, kws⟩) R ⟨h, ge, dr, tk0, oss⟩ := by
  have g1 := tc_lookup
  have g2 := tc_bind (.ref C)
  have isT : (⟨h, ge, dr, tk0, oss⟩ : Shared).TypeIs (.ref C) "type" := ⟨_, hC, rfl⟩
  refine codeAny_of_tree ?_
  show wpAny _ _ (callAny (.ref C) _) _ _ _
  repeat (any_goals (first | assumption | with_reducible refine wpAny_loadPart_at hC ?_ | wp_step))
  refine ⟨rfl, ?_⟩
  refine codeAny_call_builtin_at (Code.quiet_builtin _ (by decide +kernel)) entry_typeCall (class_asked hC (class_called FB hT hC look bnd hz ?_))
  refine codeAny_mono next fun r s' z => ?_
  rcases r with e | (v | _ | _ | _) <;> exact z
end
end Lots

/-! The same over the abstract heap: rules for defs. -/
namespace Lots
open PySem PySem.Spec PyProof.Rows L2

/-- what the written part says of the own exception class at C, which rests on the built-in B -/
structure ErrC (K : PySem.W.Frag) (C : Addr) (B newId initId : String) (bmB : List Value) : Prop where
  fb : ExcBaseFacts B newId initId bmB
  sf : StoreFacts B bmB "object.__setattr__" "object"
  obj : ∃ cn cq N cb bm csn csub cab ccol cdd k0 k1 k2 k3 k5, K.lookup C = some (excClassObj cn cq C N cb bm true csn csub cab ccol cdd k0 k1 k2 k3 k5 newId) ∧ PySem.W.excTail bmB bm = true
  ov : PySem.W.excOver K C bmB = true
  sa : PySem.W.findIn K (.ref C) "__setattr__" = some (some (.builtin "object.__setattr__"))
  ga : PySem.W.findIn K (.ref C) "__getattribute__" = some (some (.builtin "BaseException.__getattribute__"))
  gg : PySem.W.findIn K (.ref C) "__getattr__" = some none
  eb : PySem.W.subIn K (.ref C) (.type "BaseException") = some true
  tc : PySem.W.typeIn K (.ref C) = some (.type "type")
  kp : PySem.W.keepIn K (.ref C) = true
  hd : PySem.W.hasDictIn K C = true
  cc : PySem.W.findIn K (.ref C) "__class__" = some (some (.builtin "object.__class__"))
  mo : PySem.W.mroIn K C (.type "object") = some true

section
variable {X : Cx} {pins : List (Addr × Obj)} {σ : L2.St} {H : Hp} {s : Shared} {a C dx : Addr} {f : Str} {y : V} {u : Value} {B newId initId : String} {bmB : List Value}
/-- an object of ours turned, another one laid beside it -/
theorem turn_lay {h2 : Heap} {oa od : HO} {t2 : Nat} (I : Inv X pins σ H s) (mu : Mut (H a)) (kp : ∀ b v, b ≠ a → s.heap.get? b = some v → h2.get? b = some v) (new : s.heap.objs.size ≤ dx) (ne : dx ≠ a)
    (okA : ∀ G : Heap, G.get? a = h2.get? a → ObjOk X.prog X.w (upd H a oa) G a oa) (th : ∃ v, h2.get? a = some v) (okD : ObjOk X.prog X.w (upd (upd H a oa) dx od) h2 dx od) :
    Inv X pins σ (upd (upd H a oa) dx od) { s with heap := h2, toks := t2 } := by
  obtain ⟨G, g1, g2⟩ := restrict h2 fun b => decide (b ≠ dx)
  have same : ∀ b, b ≠ dx → G.get? b = h2.get? b := fun b hb => g1 b (decide_eq_true hb)
  have gone : G.get? dx = none := g2 dx (by simp)
  have ga : G.get? a = h2.get? a := same a ne.symm
  have J : Inv X pins σ (upd H a oa) { s with heap := G, toks := t2 } := I.write (x := a) (e := a) (o := oa) mu (.inl rfl)
    (fun b v hb z => (same b (Nat.ne_of_lt (Nat.lt_of_lt_of_le (Heap.lt_size z) new))).trans (kp b v hb z)) (by rw [ga]; exact th) (okA G ga)
  have free : upd H a oa dx = none := by
    rw [upd_ne ne]
    exact I.hok.fresh new
  refine J.laidN (fun b v z => ?_) gone free okD
  by_cases hb : b = dx
  · rw [hb] at z
    rw [show G.get? dx = none from gone] at z
    cases z
  · rw [← same b hb]
    exact z
theorem cls_of (T : ErrC X.K C B newId initId bmB) : ∃ cd, PySem.W.clsIn X.K C = some cd ∧ cd.hasDict = true := by
  obtain ⟨cn, cq, N, cb, bm, csn, csub, cab, ccol, cdd, k0, k1, k2, k3, k5, hC, _⟩ := T.obj
  exact ⟨{ name := cn, bases := cb, mro := .ref C :: bm, ns := N, qualname := cq, hasDict := true, slotNames := csn, subclasses := csub, abstract := cab, collection := ccol, hasDel := false }, by unfold PySem.W.clsIn; rw [hC] <;> rfl, rfl⟩
/-- self.f = y in an own __init__ -/
theorem field_put {A : Around} {E : Value → Shared → Prop} {Q : Unit → Shared → Prop} (T : ErrC X.K C B newId initId bmB) (I : Inv X pins σ H s) (e : H a = some (exo a C none)) (no : PySem.W.findIn X.K (.ref C) f = some none) (ry : RelV y u)
    (next : ∀ d s', H d = none → d ≠ a → Inv X pins σ (upd (upd H a (exo a C (some d))) d (exd d [(f, y)])) s' → Q () s') : wpAny (model X.prog X.w) A (setAttr (.ref a) f u) Q E s := by
  obtain ⟨cd, isC, dic⟩ := cls_of T
  obtain ⟨t1, ho⟩ := exo_at I.hok e
  obtain ⟨hp, ge, dr, tk, oss⟩ := s
  refine PySem.W.set_plain I.kIn (ox := { cls := .ref C, dict := none, data := .fields #[.ref t1, .none, .none, .none, .bool false, .none] }) (od := none) ⟨ho, rfl, rfl, trivial⟩ T.sa ?_
  refine first_field T.sf I.kIn ho T.ov isC dic (by unfold PySem.W.takerIn; rw [no]; rfl) (fun h2 t2 d kept big ne hx hns => ?_)
  refine next d _ (I.hok.fresh big) ne (turn_lay (t2 := t2) I (by rw [e]; exact True.intro) kept big ne (fun G z => exo_ok (z.trans hx)) ⟨_, hx⟩ (exd_ok hns (relO_put (fs := []) ry fun g => True.intro)))
/-- B.__init__(self, ..) -/
theorem base_init {A : Around} {E : Value → Shared → Prop} {us : List Value} {Q : Value → Shared → Prop} (T : ErrC X.K C B newId initId bmB) (I : Inv X pins σ H s) (e : H a = some (exo a C none)) (hl : us.length ≤ sizeLine) (next : ∀ s', Inv X pins σ H s' → Q .none s') :
    wpAny (model X.prog X.w) A (call (.builtin initId) (.ref a :: us)) Q E s := by
  obtain ⟨cn, cq, N, cb, bm, csn, csub, cab, ccol, cdd, k0, k1, k2, k3, k5, hC, hbm⟩ := T.obj
  obtain ⟨t1, ho⟩ := exo_at I.hok e
  obtain ⟨hp, ge, dr, tk, oss⟩ := s
  refine wpAny_call (PySem.HandSPX.init_base T.fb (fun Y => PySem.W.excTail_contains Y bm hbm) (I.kIn _ _ hC) ho hl fun h2 t2 kept hx => ?_)
  have J := I.write (t' := tk) (x := a) (e := a) (o := exo a C none) (by rw [e]; exact True.intro) (.inl rfl) kept ⟨_, hx⟩ (exo_ok hx)
  have back : upd H a (exo a C none) = H := by
    funext b
    by_cases hb : b = a
    · rw [hb, upd_same, e]
    · rw [upd_ne hb]
  rw [back] at J
  exact next _ J
end

/-! ### readings -/
/-- Base.__init__(self, ..) -/
def tBaseI (K : PySem.W.Frag) (B newId initId : String) (bmB : List Value) (ta : TA) : TE := fun σ H Q => ta σ H fun vs H1 => ∃ (a C : Addr) (ws : List V), vs = .ref a :: ws ∧ ws.length ≤ 1000 ∧ ErrC K C B newId initId bmB ∧ H1 a = some (exo a C none) ∧ Q .non H1
/-- self.f = e -/
def tPut (K : PySem.W.Frag) (f : Str) (to te : TE) : TS := fun D σ H => te σ H fun y H1 => to σ H1 fun x H2 => ∃ (a C : Addr) (B newId initId : String) (bmB : List Value), x = .ref a ∧ ErrC K C B newId initId bmB ∧ PySem.W.findIn K (.ref C) f = some none ∧ H2 a = some (exo a C none) ∧
  ∀ d, H2 d = none → d ≠ a → D.nx σ (upd (upd H2 a (exo a C (some d))) d (exd d [(f, y)]))
/-- C(e, ..) -/
def tErr (C : Addr) (sp : Sp) (ta : TA) : TE := fun σ H Q => ta σ H fun vs H1 => vs.length ≤ 1000 ∧ ∀ a, H1 a = none → sp (.ref a :: vs) (upd H1 a (exo a C none)) (fun v H2 => v = .non ∧ Q (.ref a) H2) E0
/-- C(k = e) -/
def tErrK (C : Addr) (sp : Sp) (tk : TA) : TE := fun σ H Q => tk σ H fun zs H1 => zs.length = 1 ∧ ∀ a, H1 a = none → sp (.ref a :: zs) (upd H1 a (exo a C none)) (fun v H2 => v = .non ∧ Q (.ref a) H2) E0
/-- e.f of a made exception -/
def tGet (K : PySem.W.Frag) (f : Str) (te : TE) : TE := fun σ H Q => te σ H fun x H1 => ∃ (a C d : Addr) (B newId initId : String) (bmB : List Value) (fs : List (Str × V)) (v : V), x = .ref a ∧ ErrC K C B newId initId bmB ∧ PySem.W.findIn K (.ref C) f = some none ∧
  H1 a = some (exo a C (some d)) ∧ H1 d = some (exd d fs) ∧ fs.lookup f = some v ∧ Q v H1
section
variable {X : Cx} {CX : CXT} {k : Nat} {fI D C : Addr} {fd : FuncData} {ps ks : List Str} {sp : Sp} {o e : Expr} {es : List Expr} {kws : List Keyword} {to te : TE} {ta tk : TA} {f x : Str} {p p' p1 p2 pos : Pos} {B newId initId : String} {bmB : List Value}
/-- Base.__init__(self, ..), Base an own class -/
theorem pe_ownbase {pl : Sem Bool} (hg : Gl X x) (hm : X.mg x = some (.ref D)) (hs : PySem.W.specialIn X.K (.ref D) "__getattribute__" = some (some (.builtin "type.__getattribute__"))) (hr : PySem.W.readsIn X.K D (.type "type") = true)
    (hf : PySem.W.findCls X.K (.ref D) (.type "type") "__init__" = some (.val (.builtin initId))) (hh : PySem.W.handedIn (.builtin initId) = true) (ha : PA X (e :: es) ta)
    (hc : eval (.Call (.Attribute (.Name x p1) "__init__" p2) (e :: es) [] pos) X.env = (do
      let ov ← eval (.Name x p1) X.env
      standAt p2.atName
      let (g, first) ← holding [ov] (getMethod ov "__init__" pl)
      callWith pos g first (backTo pos (starEach (e :: es) X.env)) (backToKw pos (keywordEach [] X.env))) := by rfl)
    (he : starEach (e :: es) X.env = (false, eval e X.env) :: starEach es X.env := by rfl) (hpl : (backTo pos (starEach es X.env)).any (·.1) = false := by rfl) (hdb : (x == ("__debug__" : Str)) = false := by decide) :
    PE X (.Call (.Attribute (.Name x p1) "__init__" p2) (e :: es) [] pos) (tBaseI X.K B newId initId bmB ta) := by
  refine ⟨fun pins s σ H Q I h => ?_⟩
  refine PySem.W.methodCall_KW (ld_glob I hg hm ?_ hdb) hc
  refine PySem.W.method_cls I.kIn hs ?_
  refine PySem.W.cls_value I.kIn hr hf hh ?_
  show wpAny _ _ (callWith pos (Value.builtin initId) [] (backTo pos (starEach (e :: es) X.env)) []) _ _ _
  refine PyProof.Rows.callWith_method1 (thn (ha.run pos pins _ σ H _ (I.tok _) h) fun us s1 ⟨vs, H1, I1, r1, a, C, ws, ev, hl, T, ea, q⟩ => ?_) he hpl
  subst ev
  cases r1 with
  | @cons _ u0 _ ur ra rw' =>
    obtain rfl : u0 = Value.ref a := ra
    have short : ur.length ≤ sizeLine := by
      rw [← Paired.length rw', sizeLine_eq]
      omega
    exact base_init T I1 ea short fun s' J => ⟨.non, H1, J, rfl, q⟩
/-- B.__init__(self, ..), B a built-in class -/
theorem pe_bltbase {pl : Sem Bool} (hg : Gl X x) (hm : X.mg x = none) (hv : bootBuiltins x = some (.type B)) (tB : typeOf (.type B) = pure (.type "type")) (stb : Manifest.isStub B = false) (hf : PySem.W.findCls X.K (.type B) (.type "type") "__init__" = some (.val (.builtin initId))) (hh : PySem.W.handedIn (.builtin initId) = true) (ha : PA X (e :: es) ta)
    (hn : x ≠ "__name__" := by decide)
    (hc : eval (.Call (.Attribute (.Name x p1) "__init__" p2) (e :: es) [] pos) X.env = (do
      let ov ← eval (.Name x p1) X.env
      standAt p2.atName
      let (g, first) ← holding [ov] (getMethod ov "__init__" pl)
      callWith pos g first (backTo pos (starEach (e :: es) X.env)) (backToKw pos (keywordEach [] X.env))) := by rfl)
    (he : starEach (e :: es) X.env = (false, eval e X.env) :: starEach es X.env := by rfl) (hpl : (backTo pos (starEach es X.env)).any (·.1) = false := by rfl) (hdb : (x == ("__debug__" : Str)) = false := by decide) :
    PE X (.Call (.Attribute (.Name x p1) "__init__" p2) (e :: es) [] pos) (tBaseI X.K B newId initId bmB ta) := by
  refine ⟨fun pins s σ H Q I h => ?_⟩
  refine PySem.W.methodCall_KW (ld_blt I hg hm hv ?_ hn hdb) hc
  obtain ⟨m, fr⟩ := I.fr
  refine PySem.W.method_type fr I.ok.mod.kin tB stb hf hh ?_
  show wpAny _ _ (callWith pos (Value.builtin initId) [] (backTo pos (starEach (e :: es) X.env)) []) _ _ _
  refine PyProof.Rows.callWith_method1 (thn (ha.run pos pins _ σ H _ (I.tok _) h) fun us s1 ⟨vs, H1, I1, r1, a, C, ws, ev, hl, T, ea, q⟩ => ?_) he hpl
  subst ev
  cases r1 with
  | @cons _ u0 _ ur ra rw' =>
    obtain rfl : u0 = Value.ref a := ra
    have short : ur.length ≤ sizeLine := by
      rw [← Paired.length rw', sizeLine_eq]
      omega
    exact base_init T I1 ea short fun s' J => ⟨.non, H1, J, rfl, q⟩
theorem ps_put (ho : PE X o to) (he : PE X e te) (hs : swapsWith e (some (.Attribute o f p')) pos.line X.env = pure false := by rfl) : PS X (.Assign [.Attribute o f p'] e pos) (tPut X.K f to te) := by
  refine ⟨fun pins s σ H D I h => ?_⟩
  refine plainObj_wpAny_Assign_Attribute (thn (he.run pins s σ H _ I h) fun v s1 ⟨y, H1, I1, r1, q1⟩ => thn (ho.run pins s1 σ H1 _ I1 q1) fun u s2 ⟨x, H2, I2, r2, a, C, B, newId, initId, bmB, ex, T, hno, ea, q⟩ => ?_) hs
  subst ex
  obtain rfl : u = Value.ref a := r2
  exact field_put T I2 ea hno r1 fun d s' n ne J => ⟨σ, _, J, q d n ne⟩
/-- what C's own __init__ at fI must be -/
structure ErrI (K : PySem.W.Frag) (C fI : Addr) : Prop where
  at_ : PySem.W.findIn K (.ref C) "__init__" = some (some (.ref fI))
  ty : PySem.W.typeIn K (.ref fI) = some (.type "function")
/-- the exception object, laid -/
theorem exc_laid0 {pins : List (Addr × Obj)} {σ : L2.St} {H : Hp} {hp : Heap} {ge : Array GenState} {dr : Drawn} {tk : Nat} {oss : OsState} (us : List Value) (I : Inv X pins σ H ⟨hp, ge, dr, tk, oss⟩) :
    Inv X pins σ (upd H (hp.objs.size + 1) (exo (hp.objs.size + 1) C none)) ⟨(hp.push (PySem.W.kdv_tup us)).push (PySem.HandSPX.excO C hp.objs.size), ge, dr, tk, oss⟩ := by
  have kept : ∀ b o, hp.get? b = some o → ((hp.push (PySem.W.kdv_tup us)).push (PySem.HandSPX.excO C hp.objs.size)).get? b = some o := fun b o z => Heap.get?_push_of_some _ (Heap.get?_push_of_some _ z)
  have made : ((hp.push (PySem.W.kdv_tup us)).push (PySem.HandSPX.excO C hp.objs.size)).get? (hp.objs.size + 1) = some (PySem.HandSPX.excO C hp.objs.size) := by heap_get
  exact I.laid (t' := tk) (a := hp.objs.size + 1) (o := exo (hp.objs.size + 1) C none) (h' := (hp.push (PySem.W.kdv_tup us)).push (PySem.HandSPX.excO C hp.objs.size)) kept (Nat.le_succ _) (exo_ok made)
theorem run_err {pins : List (Addr × Obj)} {σ : L2.St} {H : Hp} {s : Shared} {Q : VK} {us : List Value} {vs : List V} (T : ErrC X.K C B newId initId bmB) (J : ErrI X.K C fI) (F1 : FnOk X.prog X.w X.K X.mg X.base CX0 k fI fd ps sp) (hr : Room (k + 1) X.A) (hb : Binds X.K fd ps [])
    (I : Inv X pins σ H s) (r : Vals vs us) (hz : vs.length ≤ 1000) (h : ∀ a, H a = none → sp (.ref a :: vs) (upd H a (exo a C none)) (fun v H2 => v = .non ∧ Q (.ref a) H2) E0) :
    wpAny (model X.prog X.w) X.A (call (.ref C) us) (EP X pins σ Q) X.xe s := by
  obtain ⟨cn, cq, N, cb, bm, csn, csub, cab, ccol, cdd, k0, k1, k2, k3, k5, hC, hbm⟩ := T.obj
  obtain ⟨hp, ge, dr, tk, oss⟩ := s
  have free : H (hp.objs.size + 1) = none := I.hok.fresh (Nat.le_succ _)
  have want := h (hp.objs.size + 1) free
  have I2 := exc_laid0 (C := C) us I
  have r2 : Vals (V.ref (hp.objs.size + 1) :: vs) (Value.ref (hp.objs.size + 1) :: us) := .cons rfl r
  have hl : ((Value.ref (hp.objs.size + 1) :: us) ++ []).length = ps.length := by
    rw [List.append_nil, ← r2.length]
    exact F1.len _ _ _ _ want
  have hus : us.length ≤ sizeLine := by
    rw [← Paired.length r, sizeLine_eq]
    omega
  have bt := hb ⟨(hp.push (PySem.W.kdv_tup us)).push (PySem.HandSPX.excO C hp.objs.size), ge, dr, tk, oss⟩ (Value.ref (hp.objs.size + 1) :: us) I2.kIn hl
  rw [List.append_nil] at bt
  refine wpAny_call (PySem.HandSPX.call_own T.fb (fun Y => PySem.W.excTail_contains Y bm hbm) (I.kIn _ _ hC) (PySem.W.looks_findIn I.kIn J.at_) (fun me => PySem.W.bind_fn I.kIn me J.ty) hus ?_)
  refine codeAny_mono (F1.run _ X.stack _ _ ⟨Value.ref (hp.objs.size + 1) :: us, []⟩ (Value.ref (hp.objs.size + 1) :: us) _ _ E0 (hr.make C us []) (I2.env0.make C us []) bt r2 want) fun r s' back => ?_
  cases r with
  | error er => exact back.elim
  | ok fl =>
    cases fl with
    | ret u =>
      obtain ⟨v, H', I3, rv, ev, q3⟩ := I2.after back
      subst ev
      exact ⟨rv, ⟨V.ref (hp.objs.size + 1), H', I3, rfl, q3⟩⟩
    | next => exact False.elim back
    | brk => exact False.elim back
    | cont => exact False.elim back
/-- C(e, ..) as a value -/
theorem pe_err (T : ErrC X.K C B newId initId bmB) (J : ErrI X.K C fI) (F1 : FnOk X.prog X.w X.K X.mg X.base CX0 k fI fd ps sp) (hr : Room (k + 1) X.A) (hb : Binds X.K fd ps []) (hg : Gl X x) (hm : X.mg x = some (.ref C)) (ha : PA X (e :: es) ta)
    (hdb : (x == ("__debug__" : Str)) = false := by decide) (he : starEach (e :: es) X.env = (false, eval e X.env) :: starEach es X.env := by rfl) (hpl : (backTo pos (starEach es X.env)).any (·.1) = false := by rfl) :
    PE X (.Call (.Name x p) (e :: es) [] pos) (tErr C sp ta) := by
  refine ⟨fun pins s σ H Q I h => ?_⟩
  refine wpAny_Call_Name_kw (ld_glob I hg hm ?_ hdb)
  refine PySem.W.callWith_K (h₀ := X.base) I.ok.mod.kin T.kp (thn (ha.run pos pins s σ H _ I h) fun us s1 ⟨vs, H1, I1, r, hz, q⟩ => ⟨I1.kIn, ?_⟩) he hpl
  exact run_err T J F1 hr hb I1 r hz q
theorem run_errK {pins : List (Addr × Obj)} {σ : L2.St} {H : Hp} {s : Shared} {Q : VK} {wv : Value} {z : V} {fld : Str} (T : ErrC X.K C B newId initId bmB) (J : ErrI X.K C fI) (F1 : FnOk X.prog X.w X.K X.mg X.base CX0 k fI fd ps sp) (hr : Room (k + 1) X.A)
    (hb : ∀ me wv : Value, bindArgs fd ⟨[me], [(fld, wv)]⟩ = pure (ps.zip [me, wv]))
    (I : Inv X pins σ H s) (r : RelV z wv) (h : ∀ a, H a = none → sp [.ref a, z] (upd H a (exo a C none)) (fun v H2 => v = .non ∧ Q (.ref a) H2) E0) :
    wpAny (model X.prog X.w) X.A (call (.ref C) [] [(fld, wv)]) (EP X pins σ Q) X.xe s := by
  obtain ⟨cn, cq, N, cb, bm, csn, csub, cab, ccol, cdd, k0, k1, k2, k3, k5, hC, hbm⟩ := T.obj
  obtain ⟨hp, ge, dr, tk, oss⟩ := s
  have free : H (hp.objs.size + 1) = none := I.hok.fresh (Nat.le_succ _)
  have want := h (hp.objs.size + 1) free
  have I2 := exc_laid0 (C := C) [] I
  have r2 : Vals [V.ref (hp.objs.size + 1), z] [Value.ref (hp.objs.size + 1), wv] := .cons rfl (.cons r .nil)
  refine wpAny_call (call_kw T.fb (fun Y => PySem.W.excTail_contains Y bm hbm) (I.kIn _ _ hC) (PySem.W.looks_findIn I.kIn J.at_) (fun me => PySem.W.bind_fn I.kIn me J.ty) (Nat.zero_le _) ?_)
  refine codeAny_mono (F1.run _ X.stack _ _ ⟨[Value.ref (hp.objs.size + 1)], [(fld, wv)]⟩ [Value.ref (hp.objs.size + 1), wv] _ _ E0 (hr.make C [] [(fld, wv)]) (I2.env0.make C [] [(fld, wv)]) (.of_eq (hb _ _)) r2 want) fun r s' back => ?_
  cases r with
  | error er => exact back.elim
  | ok fl =>
    cases fl with
    | ret u =>
      obtain ⟨v, H', I3, rv, ev, q3⟩ := I2.after back
      subst ev
      exact ⟨rv, ⟨V.ref (hp.objs.size + 1), H', I3, rfl, q3⟩⟩
    | next => exact False.elim back
    | brk => exact False.elim back
    | cont => exact False.elim back
/-- C(fld = e) as a value -/
theorem pe_errK {fld : Str} (T : ErrC X.K C B newId initId bmB) (J : ErrI X.K C fI) (F1 : FnOk X.prog X.w X.K X.mg X.base CX0 k fI fd ps sp) (hr : Room (k + 1) X.A) (hb : ∀ me wv : Value, bindArgs fd ⟨[me], [(fld, wv)]⟩ = pure (ps.zip [me, wv])) (hg : Gl X x) (hm : X.mg x = some (.ref C)) (hk : PK X kws tk)
    (hall : (backToKw pos (keywordEach kws X.env)).all (·.1.isSome) = true := by rfl) (hks : (backToKw pos (keywordEach kws X.env)).filterMap (·.1) = [fld] := by rfl)
    (hdb : (x == ("__debug__" : Str)) = false := by decide) (hpl : ((backTo pos (starEach [] X.env)).any (·.1) || (backToKw pos (keywordEach kws X.env)).any (·.1.isNone)) = false := by rfl) :
    PE X (.Call (.Name x p) [] kws pos) (tErrK C sp tk) := by
  refine ⟨fun pins s σ H Q I h => ?_⟩
  refine wpAny_Call_Name_kw (ld_glob I hg hm ?_ hdb)
  refine PySem.W.callWith_KW0 (h₀ := X.base) I.ok.mod.kin T.kp hall ?_ hpl
  refine thn (hk.run pos pins s σ H _ I h) fun ws s2 ⟨zs, H2, I2, rz, l2, q2⟩ => ⟨I2.kIn, ?_⟩
  rw [hks]
  obtain ⟨z, rfl⟩ : ∃ z, zs = [z] := by
    cases zs with
    | nil => cases l2
    | cons z r =>
      cases r with
      | nil => exact ⟨z, rfl⟩
      | cons _ _ => exact absurd l2 (by simp)
  obtain ⟨wv, rfl, rv⟩ := vals1 rz
  exact run_errK T J F1 hr hb I2 rv q2
/-- e.f of a made exception -/
theorem pe_get (he : PE X e te) (hb : attributeBase e f X.env (eval e X.env) = eval e X.env := by rfl) : PE X (.Attribute e f pos) (tGet X.K f te) := by
  refine ⟨fun pins s σ H Q I h => ?_⟩
  refine attr_of hb (thn (he.run pins s σ H _ I h) fun u s1 ⟨x, H1, I1, rx, a, C, d, B, newId, initId, bmB, fs, v, ex, T, no, ea, ed, l, q⟩ => ?_)
  subst ex
  obtain rfl : u = Value.ref a := rx
  obtain ⟨t1, ho⟩ := exo_at I1.hok ea
  obtain ⟨mA, hns, rel⟩ := exd_at I1.hok ed
  obtain ⟨od, hod, look⟩ := lookIn_ns hns
  obtain ⟨w, hw, rw'⟩ := RelO.some_of (v := v) (o := mA f) (by rw [← l]; exact rel f)
  have inst : PySem.W.InstAt s1.heap a { cls := .ref C, dict := some d, data := .fields #[.ref t1, .none, .none, .none, .bool false, .none] } C (some od) := ⟨ho, rfl, rfl, hod⟩
  exact HandSPX.exc_get I1.kIn inst T.ga T.gg T.eb (PySem.W.findObj_own T.hd no rfl (by rw [look, hw])) (handed_of rw') ⟨v, H1, I1.tok _, rw', q⟩

/-! ### isinstance of a made exception -/
/-- what the text says of __class__, once -/
structure ClsAsk (K : PySem.W.Frag) : Prop where
  dn : PySem.W.specialIn K (.builtin "object.__class__") "__get__" = some (some (.builtin "getset_descriptor.__get__"))
  dt : PySem.W.takesIn K (.builtin "object.__class__") = some true
theorem kit_exc {pins : List (Addr × Obj)} {σ : L2.St} {H : Hp} {s : Shared} {a d : Addr} (S : ClsAsk X.K) (T : ErrC X.K C B newId initId bmB) (I : Inv X pins σ H s) (ea : H a = some (exo a C (some d))) (ed : ∃ fs, H d = some (exd d fs)) :
    ∃ P : Heap → Prop, PySem.W.KitX X.K (.ref a) (.ref C) P ∧ P s.heap := by
  obtain ⟨t1, ho⟩ := exo_at I.hok ea
  obtain ⟨fs, ed⟩ := ed
  obtain ⟨mA, hns, _⟩ := exd_at I.hok ed
  obtain ⟨od, hod, _⟩ := lookIn_ns hns
  obtain ⟨cd, isC, _⟩ := cls_of T
  exact ⟨_, PySem.W.kitx_exc (ox := { cls := .ref C, dict := some d, data := .fields #[.ref t1, .none, .none, .none, .bool false, .none] }) (od := some od) (by rw [isC]; rfl) T.ga T.gg T.eb T.cc S.dn S.dt T.mo, ⟨ho, rfl, rfl, hod⟩⟩
/-- isinstance(x, c), x a made exception of the class at C -/
def rIsX (K : PySem.W.Frag) : List V → Hp → VK → Prop := fun xs H Q => ∃ (a C d : Addr) (B newId initId : String) (bmB : List Value) (c : V) (u : Value) (b : Bool), xs = [.ref a, c] ∧ ErrC K C B newId initId bmB ∧ H a = some (exo a C (some d)) ∧ (∃ fs, H d = some (exd d fs)) ∧
  ClsV c u ∧ PySem.W.kitOne K (.ref C) u = some b ∧ Q (.bl b) H
/-- isinstance(x, (c1, c2, ..)) -/
def rIsXT (K : PySem.W.Frag) : List V → Hp → VK → Prop := fun xs H Q => ∃ (a C d tp : Addr) (B newId initId : String) (bmB : List Value) (cs : List V) (us : List Value) (b : Bool), xs = [.ref a, .ref tp] ∧ ErrC K C B newId initId bmB ∧ H a = some (exo a C (some d)) ∧ (∃ fs, H d = some (exd d fs)) ∧
  H tp = some (.tup cs) ∧ Paired ClsV cs us ∧ PySem.W.kitAny K (.ref C) us = some b ∧ Q (.bl b) H
theorem call_isX (S : ClsAsk X.K) : CallR X (.builtin "isinstance") (rIsX X.K) := by
  intro pins s σ H xs us Q I r h
  obtain ⟨a, C, d, B, newId, initId, bmB, c, u, b, rfl, T, ea, ed, k, e, q⟩ := h
  obtain ⟨u1, u2, rfl, r1, r2⟩ := vals2 r
  have e2 := k.eq r2
  subst e2
  cases (show u1 = Value.ref a from r1)
  obtain ⟨P, Z, p⟩ := kit_exc S T I ea ed
  exact PySem.W.kia_one Z I.kIn p e (fun z => nomatch z) fun tk => ⟨.bl b, H, I.tok tk, rfl, q⟩
theorem call_isXT (S : ClsAsk X.K) : CallR X (.builtin "isinstance") (rIsXT X.K) := by
  intro pins s σ H xs us Q I r h
  obtain ⟨a, C, d, tp, B, newId, initId, bmB, cs, ws, b, rfl, T, ea, ed, hT, k, e, q⟩ := h
  obtain ⟨u1, u2, rfl, r1, r2⟩ := vals2 r
  cases (show u1 = Value.ref a from r1)
  cases (show u2 = Value.ref tp from r2)
  obtain ⟨P, Z, p⟩ := kit_exc S T I ea ed
  obtain ⟨_, its, rv, o, h1, h2, n, h3⟩ := (show ObjOk X.prog X.w H s.heap tp (.tup cs) from I.hok tp _ hT)
  have e3 := ClsV.all k rv
  subst e3
  obtain ⟨oc, od, dt, sl⟩ := o
  simp only at h2 h3
  subst h2 h3
  exact PySem.W.kia_tup Z I.kIn p h1 e (fun z => nomatch z) fun tk => ⟨.bl b, H, I.tok tk, rfl, q⟩
end
end Lots

/-! Promises that hold where no repr is running around (A.guards = some []): what repr of lists and tuples asks. The law itself is called so. -/
namespace Lots
open PySem PySem.Spec PyProof.Rows L2

/-- a promise where no repr runs around -/
structure FnG (P : Program) (w : World) (K : PySem.W.Frag) (mg : Str → Option Value) (base : Heap) (CX : CXT) (k : Nat) (f : Addr) (fd : FuncData) (ps : List Str) (sp : Sp) : Prop where
  len : ∀ vs H Q E, sp vs H Q E → vs.length = ps.length
  run : ∀ (A : Around) (outer : List Env) (s : Shared) (H : Hp) (args : Args) (us : List Value) (vs : List V) (Q : VK) (E : XK), Room k A → A.guards = some [] → Env0 P w K mg base A outer s H → BindsTo s fd args (ps.zip us) → Vals vs us → sp vs H Q E →
    codeAny (model P w) A (.call (.ref f) args) (CR CX outer P w H s Q E) s
section
variable {P : Program} {w : World} {K : PySem.W.Frag} {mg : Str → Option Value} {base : Heap} {CX : CXT}
theorem FnG.of {k : Nat} {f : Addr} {fd : FuncData} {ps : List Str} {sp : Sp} (F : FnOk P w K mg base CX k f fd ps sp) : FnG P w K mg base CX k f fd ps sp :=
  ⟨F.len, fun A outer s H args us vs Q E hr _ => F.run A outer s H args us vs Q E hr⟩
theorem FnG.mono {j k : Nat} {f : Addr} {fd : FuncData} {ps : List Str} {sp : Sp} (F : FnG P w K mg base CX j f fd ps sp) (h : j ≤ k) : FnG P w K mg base CX k f fd ps sp :=
  ⟨F.len, fun A outer s H args us vs Q E hr hg => F.run A outer s H args us vs Q E (hr.mono h) hg⟩
/-- a def by its body, as the library's rule, with the guards told to the body -/
theorem fn_guarded {k : Nat} {f : Addr} {name qual : Str} {params : Arguments} {body : List Stmt} {scope : Scope} {dV kV doc pm cdv ct oc : Value} {an od : Option Addr}
    {osl : Array (Option Value)} {N ps : List Str} {sp : Sp} (lk : K.lookup f = some ⟨oc, od, .func (PySem.W.fnOf name qual params body scope dV kV doc pm an cdv ct), osl⟩) (code : PySem.W.codeIn K cdv qual = true) (S : FnScope N ps scope)
    (len : ∀ vs H Q E, sp vs H Q E → vs.length = ps.length)
    (body_ok : ∀ (A : Around) (outer : List Env) (s : Shared) (H : Hp) (vs : List V) (Q : VK) (E : XK), Room k (A.deeper (envOfC qual scope s.heap.objs.size f cdv)) → (A.deeper (envOfC qual scope s.heap.objs.size f cdv)).guards = some [] → sp vs H Q E →
      ∃ t, PSs (cxOf CX P w K mg base N qual scope f cdv A outer s H E) body t ∧ t { nx := fun _ H' => Q .non H', rt := Q } (start N vs) H) :
    FnG P w K mg base CX (k + 1) f (PySem.W.fnOf name qual params body scope dV kV doc pm an cdv ct) ps sp := by
  refine ⟨len, fun A outer s H args us vs Q E room hg e0 bnd r want => ?_⟩
  have hl := len _ _ _ _ want
  have kin : K.In s.heap := e0.mod.kin.keeps fun b o z => (e0.bs b o z).1
  have lim : s.heap.NoLimit := e0.mod.nolimit.keeps fun b o z => (e0.bs b o z).1
  have kinds : ∀ y ∈ ps.zip us, scope.names.lookup y.1 = some .local ∨ (scope.names.lookup y.1 = some .cell ∧ ((cellsFrom (s.heap.objs.size + 1) scope.names []).lookup y.1).isSome = true) := fun ⟨n, v⟩ hy => by
    rcases S.par n (List.of_mem_zip hy).1 with q | q
    · exact .inl q
    · exact .inr ⟨q, PySem.W.cellsFrom_some _ _ _ (.inl q)⟩
  refine codeAny_call_function room.depth (kin _ _ lk) rfl S.co S.gen rfl (PySem.W.codeRec_of kin code) (bnd _ _ _ _ ?_)
  refine wpAny_newFunctionEnv_cells S.kind kinds fun env he s1 x => ?_
  subst he
  refine ⟨lim.keeps x.toInCall.keep, codeAny_func ?_⟩
  have gd : (A.deeper (envOfC qual scope s.heap.objs.size f cdv)).guards = some [] := by
    first | exact hg | (unfold Around.deeper; exact hg) | (simp [Around.deeper, hg])
  obtain ⟨t, ht, hq⟩ := body_ok A outer s H vs Q E (room.deeper _) gd want
  have I : Inv (cxOf CX P w K mg base N qual scope f cdv A outer s H E) [] (start N vs) H s1 := inv_start S room.hd e0 hl r x
  refine wpAny_mono (ht.run [] s1 (start N vs) H _ I hq) (fun fl s' hs => ?_) fun e s' hs => hs
  have fin : ∀ {σ2 : L2.St} {H2 : Hp} {v : V} {u : Value}, Inv (cxOf CX P w K mg base N qual scope f cdv A outer s H E) [] σ2 H2 s' → RelV v u → Q v H2 → CE outer P w H s Q u s' :=
    fun {σ2 H2 v u} J rv q => ⟨v, H2, J.os, J.bare, J.base, J.hok, rv, q⟩
  cases fl with
  | ret u =>
    obtain ⟨v, σ2, H2, J, rv, q⟩ := hs
    exact fin J rv q
  | next =>
    obtain ⟨σ2, H2, J, q⟩ := hs
    exact fin (v := V.non) (u := Value.none) J rfl q
  | brk =>
    obtain ⟨_, _, _, q⟩ := hs
    exact q.elim
  | cont =>
    obtain ⟨_, _, _, q⟩ := hs
    exact q.elim
theorem okG {x qual : Str} {st : Stmt} {f : Addr} {fd : FuncData} {N ps : List Str} {k : Nat} {sp : Sp} (F : Fun K x qual st f fd) (S : FnScope N ps (defScope st)) (len : ∀ vs H Q E, sp vs H Q E → vs.length = ps.length)
    (body_ok : ∀ (cdv : Value) (A : Around) (outer : List Env) (s : Shared) (H : Hp) (vs : List V) (Q : VK) (E : XK), Room k (A.deeper (envOfC qual (defScope st) s.heap.objs.size f cdv)) → (A.deeper (envOfC qual (defScope st) s.heap.objs.size f cdv)).guards = some [] → sp vs H Q E →
      ∃ t, PSs (cxOf CX0 P w K mg base N qual (defScope st) f cdv A outer s H E).nox (defBody st) t ∧ t { nx := fun _ H' => Q .non H', rt := Q } (start N vs) H) : FnG P w K mg base CX0 (k + 1) f fd ps sp := by
  obtain ⟨oc, od, kV, doc, pm, an, cdv, ct, osl, rfl, lk, code⟩ := F.ex
  refine fn_guarded lk code S len fun A outer s H vs Q E room gd want => ?_
  obtain ⟨t, h, q⟩ := body_ok cdv A outer s H vs Q E room gd want
  exact ⟨t, h.nox, q⟩
end
section
variable {X : Cx} {CX : CXT} {k : Nat} {f C : Addr} {fd : FuncData} {ps : List Str} {sp : Sp} {dvs : List V} {ds : List Value} {E : XK} {x : Str} {p pos : Pos} {e : Expr} {es : List Expr} {t : TA}
/-- f(e, ..), every parameter given -/
def tCall1 (sp : Sp) (E : XK) (t : TA) : TE := fun σ H Q => t σ H fun vs H1 => sp vs H1 Q E
theorem pe_callG (F : FnG X.prog X.w X.K X.mg X.base CX k f fd ps sp) (gd : X.A.guards = some []) (hr : Room k X.A) (hg : Gl X x) (hm : X.mg x = some (.ref f)) (hk : PySem.W.keepIn X.K (.ref f) = true) (hb : Binds X.K fd ps []) (hx : Passes CX X E)
    (ha : PA X (e :: es) t) (hdb : (x == ("__debug__" : Str)) = false := by decide) (he : starEach (e :: es) X.env = (false, eval e X.env) :: starEach es X.env := by rfl) (hpl : (backTo pos (starEach es X.env)).any (·.1) = false := by rfl) :
    PE X (.Call (.Name x p) (e :: es) [] pos) (tCall1 sp E t) := by
  refine ⟨fun pins s σ H Q I h => ?_⟩
  refine wpAny_Call_Name_kw (ld_glob I hg hm ?_ hdb)
  refine PySem.W.callWith_K (h₀ := X.base) I.ok.mod.kin hk (thn (ha.run pos pins s σ H _ I h) fun us s1 ⟨vs, H1, I1, r, want⟩ => ⟨I1.kIn, ?_⟩) he hpl
  have want : sp vs H1 Q E := want
  have hl : us.length = ps.length := r.length.symm.trans (F.len _ _ _ _ want)
  have bt := hb s1 us I1.kIn (by rw [List.append_nil]; exact hl)
  rw [List.append_nil] at bt
  refine wpAny_call (codeAny_mono (F.run X.A X.stack s1 H1 ⟨us, []⟩ us vs Q E hr gd I1.env0 bt r want) fun r s' hq => ?_)
  cases r with
  | error e => exact hx pins σ H1 s1 e s' I1 hq
  | ok fl =>
    cases fl with
    | ret u => exact I1.after hq
    | next => exact hq.elim
    | brk => exact hq.elim
    | cont => exact hq.elim
end

/-! ### the law called -/
theorem law_run {P : Program} {w : World} {K : PySem.W.Frag} {mg mb : Str → Option Value} {k : Nat} {fa a : Addr} {fd : FuncData} {x : Str} {sp : Sp} {s1 : Shared} {vs : List Value} {ns : List Int}
    (kin : K.In s1.heap) (gns : s1.heap.Ns mainGlobals mg) (bns : s1.heap.Ns builtinsNs mb) (boot : ∀ x : Str, x ≠ "__name__" → mb x = bootBuiltins x) (lim : s1.heap.NoLimit) (nog : s1.gens = #[])
    (ha : s1.heap.get? a = some { cls := .type "list", data := .seq vs.toArray }) (are : IntsAre vs ns) (hl : ns.length ≤ sizeLine) (room : Room k callerA)
    (F : ∀ base : Heap, K.In base → base.Ns mainGlobals mg → FnG P w K mg base CX0 k fa fd [x] sp) (bnd : ∀ (s : Shared) (u : Value), BindsTo s fd ⟨[u], []⟩ [(x, u)])
    (want : ∀ H : Hp, Only H → SqL K H a (ns.map V.int) → sp [.ref a] H (fun v _ => v = .bl true) fun _ _ _ => False) :
    codeAny (model P w) callerA (.call (.ref fa) ⟨[.ref a], []⟩) (fun r s' => r = .ok (.ret (.bool true)) ∧ OldK s1.heap s'.heap ∧ s'.os = s1.os ∧ AllBare s'.gens) s1 := by
  have rv := vals_ints are
  have lenV := are.length
  have core : ∀ H : Hp, Only H → SqL K H a (ns.map V.int) → HOk P w H s1.heap → (∀ b, H b ≠ none → b = a) → (H a ≠ none → K.lookup a = none) →
      codeAny (model P w) callerA (.call (.ref fa) ⟨[.ref a], []⟩) (fun r s' => r = .ok (.ret (.bool true)) ∧ OldK s1.heap s'.heap ∧ s'.os = s1.os ∧ AllBare s'.gens) s1 := by
    intro H only seq hok onlyA outK
    have hid : ∀ {b : Addr} {o : Obj}, s1.heap.get? b = some o → H b = none → (hidT s1.heap H).get? b = some o := fun z n => hidT_get z n
    have noDict : ∀ {b : Addr} {o : Obj} {es : Array DictEntry} {ep : Nat}, s1.heap.get? b = some o → o.data = .dict es ep → H b = none := fun {b o es ep} z d => by
      cases q : H b with
      | none => rfl
      | some u =>
        obtain rfl : b = a := onlyA b (by rw [q]; simp)
        rw [ha] at z
        cases z
        have d2 : Data.seq vs.toArray _ = Data.dict es ep := d
        cases d2
    have nsH : ∀ {b : Addr} {m : Str → Option Value}, s1.heap.Ns b m → (hidT s1.heap H).Ns b m := fun {b m} ⟨o, es, ep, z, d, r⟩ => ⟨o, es, ep, hid z (noDict z d), d, r⟩
    have kinH : K.In (hidT s1.heap H) := fun b o z => hid (kin b o z) (by
      cases q : H b with
      | none => rfl
      | some u =>
        obtain rfl : b = a := onlyA b (by rw [q]; simp)
        rw [outK (by rw [q]; simp)] at z
        cases z)
    have md : Mod K mg (hidT s1.heap H) := ⟨kinH, nsH gns, ⟨mb, nsH bns, boot⟩, let ⟨mc, h1, h2⟩ := lim; ⟨mc, nsH h1, h2⟩⟩
    have e0 : Env0 P w K mg (hidT s1.heap H) callerA [] s1 H := ⟨rfl, md, fun b o z => of_hidT z, Nat.le_of_eq (hidT_size _ _), trivial, fun b hb => absurd (show b ∈ ([] : List Addr) from hb) (by simp), hok, .of_eq nog⟩
    refine codeAny_mono ((F _ kinH (nsH gns)).run callerA [] s1 H ⟨[.ref a], []⟩ [.ref a] [.ref a] _ _ room rfl e0 (bnd s1 (.ref a)) (.cons rfl .nil) (want H only seq)) fun r s' z => ?_
    cases r with
    | error e => exact z.elim
    | ok fl =>
      cases fl with
      | next => exact z.elim
      | brk => exact z.elim
      | cont => exact z.elim
      | ret u =>
        obtain ⟨v, H2, os, bare, un, hok2, ru, q⟩ := z
        obtain rfl : v = .bl true := q
        obtain rfl : u = Value.bool true := ru
        refine ⟨rfl, OldK.of_keep fun b o old => ?_, os, bare⟩
        cases q : H b with
        | none => exact un.keep b o old q (fun z => absurd (show b ∈ ([] : List Addr) from z) (by simp)) (by simp)
        | some u =>
          rcases only b with z | ⟨ob, xs, z⟩
          · rw [q] at z
            cases z
          · obtain ⟨e1, _⟩ := hok b _ z
            obtain ⟨e2, _⟩ := hok2 b _ (un.frzs b ob _ z)
            rw [old] at e1
            cases e1
            exact e2
  cases hk : K.lookup a with
  | some o =>
    have z := kin a o hk
    rw [ha] at z
    cases z
    refine core (fun _ => none) (fun _ => .inl rfl) (.inr ⟨_, vs.toArray, _, hk, rfl, rfl, rfl, by rw [List.size_toArray, lenV]; exact hl, by simpa using rv⟩) (fun b u q => ?_) (fun b q => absurd rfl q) fun q => absurd rfl q
    have q2 : (none : Option HO) = some u := q
    cases q2
  | none =>
    refine core (fun b => if b = a then some (.frz { cls := .type "list", data := .seq vs.toArray } (.lst (ns.map V.int))) else none) (fun b => ?_) (.inl (.inr ⟨{ cls := .type "list", data := .seq vs.toArray }, if_pos rfl⟩)) (fun b u q => ?_) (fun b q => ?_) fun _ => hk
    · by_cases hb : b = a
      · exact .inr ⟨_, _, if_pos hb⟩
      · exact .inl (if_neg hb)
    · by_cases hb : b = a
      · have q2 := (if_pos hb).symm.trans q
        cases q2
        subst hb
        exact ⟨ha, by rw [List.length_map]; exact hl, vs, _, rv, ha⟩
      · have q2 := (if_neg hb).symm.trans q
        cases q2
    · by_cases hb : b = a
      · exact hb
      · exact absurd (if_neg hb) q
/-- the end of a law: its guarded promise gives the statement's walk -/
theorem walk_guarded {l : PySem.W.OpenLaw} {n k : Nat} {q : Program} {loose : List Str} {XP : (Str → Option Value) → Heap → Prop} {YP : World → Heap → Prop} {d : DefRec} {K : Params → PySem.W.Frag} {sp : PySem.W.Frag → Sp} {x : Str}
    (hn : l.most = some n) (hn2 : n ≤ sizeLine) (hdf : d.params.defaults = []) (room : Room k callerA) (hY : ∀ (w : World) (h : Heap), YP w h → (K w.params).In h)
    (F : ∀ (w : World) (mg : Str → Option Value) (fa : Addr) (h : Heap), (K w.params).In h → h.Ns mainGlobals mg → mg d.name = some (.ref fa) →
      ∃ fd : FuncData, (∀ (s : Shared) (u : Value), BindsTo s fd ⟨[u], []⟩ [(x, u)]) ∧ ∀ base : Heap, (K w.params).In base → base.Ns mainGlobals mg → FnG l.prog w (K w.params) mg base CX0 k fa fd [x] (sp (K w.params)))
    (want : ∀ (K : PySem.W.Frag) (H : Hp) (a : Addr) (ns : List Int), ns.length ≤ n → Only H → SqL K H a (ns.map V.int) → sp K [.ref a] H (fun v _ => v = .bl true) fun _ _ _ => False) :
    PySem.W.WalkO q loose XP YP l.row.toRowW d [] (fun f vs => PySem.call f vs) := by
  refine Att.attach_call hn hdf fun w s0 s1 mg mb fa o pm cd doc a vs ns G Y ho hd hcd hmg hobj are hlen nog => ?_
  have kin := hY w _ Y
  obtain ⟨fd, bnd, hF⟩ := F w mg fa _ kin G.T.g hmg
  exact law_run kin G.T.g G.T.b G.T.builtins G.T.nolimit nog hobj are (Nat.le_trans hlen hn2) room hF bnd fun H only seq => want _ H a ns hlen only seq
end Lots

/-! repr(x) of data: None, bools, ints, texts, lists, tuples at any depth, the empty dict. Asked where no repr runs around. -/
namespace Lots
open PySem PySem.Spec PyProof.Rows L2
mutual
inductive Dr (K : PySem.W.Frag) (H : Hp) : V → PyData → Prop
  | non : Dr K H .non .none
  | bl (b : Bool) : Dr K H (.bl b) (.bool b)
  | int (i : Int) : Dr K H (.int i) (.int i)
  | str (x : Str) : Dr K H (.str x) (.str x)
  | lst {a : Addr} {xs : List V} {ds : List PyData} (at_ : Rd H a (.lst xs)) (no : PyData.hasDictAll ds = false) (all : DrAll K H xs ds) : Dr K H (.ref a) (.list ds)
  | tup {a : Addr} {xs : List V} {ds : List PyData} (at_ : Rd H a (.tup xs)) (no : PyData.hasDictAll ds = false) (all : DrAll K H xs ds) : Dr K H (.ref a) (.tuple ds)
  | dic {a : Addr} (at_ : H a = some (.dK [])) : Dr K H (.ref a) (.dict [])
inductive DrAll (K : PySem.W.Frag) (H : Hp) : List V → List PyData → Prop
  | nil : DrAll K H [] []
  | cons {v : V} {vs : List V} {d : PyData} {ds : List PyData} (one : Dr K H v d) (more : DrAll K H vs ds) : DrAll K H (v :: vs) (d :: ds)
end
section
variable {X : Cx} {pins : List (Addr × Obj)} {σ : L2.St} {H : Hp} {s : Shared}
mutual
theorem Dr.reads (I : Inv X pins σ H s) : ∀ (d : PyData) (v : V) (u : Value), Dr X.K H v d → RelV v u → ∃ as, Reads s.heap u d as ∧ (d.hasDict = true → sysModules ∉ as)
  | .none, _, _, h, r => by
    cases h
    cases r
    exact ⟨_, Reads.none, fun _ => by simp⟩
  | .bool b, _, _, h, r => by
    cases h
    cases r
    exact ⟨_, Reads.bool b, fun _ => by simp⟩
  | .int i, _, _, h, r => by
    cases h
    obtain ⟨t, rfl⟩ := r
    exact ⟨_, Reads.int i t, fun _ => by simp⟩
  | .str x, _, _, h, r => by
    cases h
    obtain ⟨t, rfl⟩ := r
    exact ⟨_, Reads.str x t, fun _ => by simp⟩
  | .list ds, _, _, h, r => by
    cases h with
    | lst hs no ha =>
      cases r
      obtain ⟨its, rv, ⟨o, n, ho, hc, _, hd⟩, _⟩ := I.list (.inl hs)
      obtain ⟨as, hr⟩ := DrAll.reads I ds _ its ha rv
      exact ⟨_, Reads.list ho hc hd hr, fun z => by
        have z2 : PyData.hasDictAll ds = true := by simpa only [PyData.hasDict] using z
        rw [no] at z2
        cases z2⟩
  | .tuple ds, _, _, h, r => by
    cases h with
    | tup hs no ha =>
      cases r
      obtain ⟨its, rv, ⟨o, ho, hc, n, hd⟩, _⟩ := I.tuple (.inl hs)
      obtain ⟨as, hr⟩ := DrAll.reads I ds _ its ha rv
      exact ⟨_, Reads.tuple ho hc hd hr, fun z => by
        have z2 : PyData.hasDictAll ds = true := by simpa only [PyData.hasDict] using z
        rw [no] at z2
        cases z2⟩
  | .dict kvs, _, _, h, r => by
    cases h with
    | @dic a hd =>
      cases r
      obtain ⟨_, ns, vs, kv, o, es, ep, h1, h2, h3, h4⟩ := (show ObjOk X.prog X.w H s.heap a (.dK []) from I.hok a _ hd)
      cases kv
      have emp : es = #[] := by
        have q := h4.2.1
        cases es with
        | mk l =>
          cases l with
          | nil => rfl
          | cons a b => cases q
      subst emp
      exact ⟨_, Reads.dict (as := []) (bs := []) h1 h2.1 h3 ReadsAll.nil ReadsAll.nil, fun _ => by
        intro z
        have e : sysModules = a := by simpa using z
        rw [← e] at ns
        simp at ns⟩
theorem DrAll.reads (I : Inv X pins σ H s) : ∀ (ds : List PyData) (vs : List V) (us : List Value), DrAll X.K H vs ds → Vals vs us → ∃ as, ReadsAll s.heap us ds as
  | [], _, _, h, r => by
    cases h
    cases r
    exact ⟨_, ReadsAll.nil⟩
  | d :: ds, _, _, h, r => by
    cases h with
    | cons h1 h2 =>
      cases r with
      | cons r1 r2 =>
        obtain ⟨as, q1, _⟩ := Dr.reads I d _ _ h1 r1
        obtain ⟨bs, q2⟩ := DrAll.reads I ds _ _ h2 r2
        exact ⟨_, ReadsAll.cons q1 q2⟩
end
end
/-- repr(x) of data -/
def rRepr (K : PySem.W.Frag) : List V → Hp → VK → Prop := fun xs H Q => ∃ x d, xs = [x] ∧ Dr K H x d ∧ d.showable = true ∧ d.shown.length ≤ sizeLine ∧ d.depth ≤ 60 ∧ Q (.str d.shown) H
theorem call_repr {X : Cx} (gd : X.A.guards = some []) (hu : X.A.units + 64 < cLine) : CallR X (.builtin "repr") (rRepr X.K) := by
  intro pins s σ H xs us Q I r h
  obtain ⟨x, d, rfl, hd, sh, sz, dp, q⟩ := h
  obtain ⟨u, rfl, ru⟩ := vals1 r
  have fin : ∀ {t : Nat} {tk : Tok}, EP X pins σ Q (.str d.shown tk) { s with toks := t } := fun {t tk} => ⟨.str d.shown, H, I.tok t, ⟨_, rfl⟩, q⟩
  cases hd with
  | non => cases ru; exact P.repr_of_none fin
  | bl b => cases ru; exact P.repr_of_bool fin
  | int i =>
    obtain ⟨t, rfl⟩ := ru
    exact P.repr_of_int (by simpa [PyData.showable] using sh) fin
  | str y =>
    obtain ⟨t, rfl⟩ := ru
    exact P.repr_of_str fin sz
  | @lst a ys ds at_ no all =>
    obtain ⟨as, rd, hm⟩ := Dr.reads I (.list ds) _ _ (.lst at_ no all) ru
    cases ru
    exact repr_of_reads' (h₀ := s.heap) rd sh hm gd (by omega) (fun _ _ z => z) (fun h2 u tk kept => ⟨.str _, H, I.kept kept, ⟨_, rfl⟩, q⟩) sz
  | @tup a ys ds at_ no all =>
    obtain ⟨as, rd, hm⟩ := Dr.reads I (.tuple ds) _ _ (.tup at_ no all) ru
    cases ru
    exact repr_of_reads' (h₀ := s.heap) rd sh hm gd (by omega) (fun _ _ z => z) (fun h2 u tk kept => ⟨.str _, H, I.kept kept, ⟨_, rfl⟩, q⟩) sz
  | @dic a at_ =>
    obtain ⟨as, rd, hm⟩ := Dr.reads I (.dict []) _ _ (.dic at_) ru
    cases ru
    exact repr_of_reads' (h₀ := s.heap) rd sh hm gd (by omega) (fun _ _ z => z) (fun h2 u tk kept => ⟨.str _, H, I.kept kept, ⟨_, rfl⟩, q⟩) sz

/-! ### data stays where what is tracked stays (exceptions may turn) -/
def isExt : HO → Bool
  | .ext _ => true
  | _ => false
def SameD (H H2 : Hp) : Prop := ∀ b o, H b = some o → isExt o = false → H2 b = some o
theorem SameD.of {H H2 : Hp} (e : Same H H2) : SameD H H2 := fun b o z _ => e b o z
theorem SameD.rd {H H2 : Hp} {a : Addr} {u : HO} (e : SameD H H2) (h : Rd H a u) (hu : isExt u = false) : Rd H2 a u := by
  rcases h with h | ⟨o, h⟩
  · exact .inl (e _ _ h hu)
  · exact .inr ⟨o, e _ _ h rfl⟩
mutual
theorem Dr.keep {K : PySem.W.Frag} {H H2 : Hp} (e : SameD H H2) : ∀ {d : PyData} {v : V}, Dr K H v d → Dr K H2 v d
  | .none, _, h => by
    cases h
    exact .non
  | .bool _, _, h => by
    cases h
    exact .bl _
  | .int _, _, h => by
    cases h
    exact .int _
  | .str _, _, h => by
    cases h
    exact .str _
  | .list ds, _, h => by
    cases h with
    | lst at_ no all => exact .lst (e.rd at_ rfl) no (DrAll.keep e all)
  | .tuple ds, _, h => by
    cases h with
    | tup at_ no all => exact .tup (e.rd at_ rfl) no (DrAll.keep e all)
  | .dict _, _, h => by
    cases h with
    | dic at_ => exact .dic (e _ _ at_ rfl)
theorem DrAll.keep {K : PySem.W.Frag} {H H2 : Hp} (e : SameD H H2) : ∀ {ds : List PyData} {vs : List V}, DrAll K H vs ds → DrAll K H2 vs ds
  | [], _, h => by
    cases h
    exact .nil
  | _ :: _, _, h => by
    cases h with
    | cons one more => exact .cons (Dr.keep e one) (DrAll.keep e more)
end
theorem Dr.same {K : PySem.W.Frag} {H H2 : Hp} (e : Same H H2) {d : PyData} {v : V} (h : Dr K H v d) : Dr K H2 v d := Dr.keep (.of e) h
theorem DrAll.same {K : PySem.W.Frag} {H H2 : Hp} (e : Same H H2) {ds : List PyData} {vs : List V} (h : DrAll K H vs ds) : DrAll K H2 vs ds := DrAll.keep (.of e) h
/-- the type's name -/
def tyN : PyData → String
  | .none => "NoneType"
  | .bool _ => "bool"
  | .int _ => "int"
  | .str _ => "str"
  | .list _ => "list"
  | .tuple _ => "tuple"
  | .dict _ => "dict"
theorem Dr.ty {K : PySem.W.Frag} {H : Hp} {x : V} {d : PyData} (h : Dr K H x d) : TyX K H x (.type (tyN d)) := by
  cases h with
  | non => exact .base .non
  | bl b => exact .base (.bl b)
  | int i => exact .base (.int i)
  | str y => exact .base (.str y)
  | lst at_ no all =>
    rcases at_ with z | ⟨o, z⟩
    · exact .base (.lst z)
    · exact .base (.frz z)
  | tup at_ no all =>
    rcases at_ with z | ⟨o, z⟩
    · exact .base (.tup z)
    · exact .fTuple z
  | dic z => exact .base (.dK z)
def isLst : PyData → Bool
  | .list _ => true
  | _ => false
def isDic : PyData → Bool
  | .dict _ => true
  | _ => false
theorem kit_lst {K : PySem.W.Frag} (d : PyData) : PySem.W.kitOne K (.type (tyN d)) (.type "list") = some (isLst d) := by
  refine kit_ty ?_
  cases d with
  | none =>
    show kitB "NoneType" "list" = some false
    decide +kernel
  | bool _ =>
    show kitB "bool" "list" = some false
    decide +kernel
  | int _ =>
    show kitB "int" "list" = some false
    decide +kernel
  | str _ =>
    show kitB "str" "list" = some false
    decide +kernel
  | list _ =>
    show kitB "list" "list" = some true
    decide +kernel
  | tuple _ =>
    show kitB "tuple" "list" = some false
    decide +kernel
  | dict _ =>
    show kitB "dict" "list" = some false
    decide +kernel
theorem kit_dic {K : PySem.W.Frag} (d : PyData) : PySem.W.kitOne K (.type (tyN d)) (.type "dict") = some (isDic d) := by
  refine kit_ty ?_
  cases d with
  | none =>
    show kitB "NoneType" "dict" = some false
    decide +kernel
  | bool _ =>
    show kitB "bool" "dict" = some false
    decide +kernel
  | int _ =>
    show kitB "int" "dict" = some false
    decide +kernel
  | str _ =>
    show kitB "str" "dict" = some false
    decide +kernel
  | list _ =>
    show kitB "list" "dict" = some false
    decide +kernel
  | tuple _ =>
    show kitB "tuple" "dict" = some false
    decide +kernel
  | dict _ =>
    show kitB "dict" "dict" = some true
    decide +kernel
/-- what an error keeps of a value: the same data -/
def spPass (K : PySem.W.Frag) : Sp := fun vs H Q _ => ∃ x d, vs = [x] ∧ Dr K H x d ∧ ∀ (H2 : Hp) (y : V), Same H H2 → Dr K H2 y d → Q y H2
/-! ### an object that is no data may be turned -/
mutual
theorem Dr.skip {K : PySem.W.Frag} {H : Hp} {F : Addr} {o : HO} (hF : ∀ d, ¬ Dr K H (.ref F) d) : ∀ {d : PyData} {v : V}, Dr K H v d → Dr K (upd H F o) v d
  | .none, _, h => by
    cases h
    exact .non
  | .bool _, _, h => by
    cases h
    exact .bl _
  | .int _, _, h => by
    cases h
    exact .int _
  | .str _, _, h => by
    cases h
    exact .str _
  | .list ds, _, h => by
    cases h with
    | @lst a xs _ at_ no all =>
      have ne : a ≠ F := fun z => by
        rw [z] at at_
        exact hF _ (.lst at_ no all)
      exact .lst (by
        rcases at_ with z | ⟨q, z⟩
        · exact .inl ((upd_ne ne).trans z)
        · exact .inr ⟨q, (upd_ne ne).trans z⟩) no (DrAll.skip hF all)
  | .tuple ds, _, h => by
    cases h with
    | @tup a xs _ at_ no all =>
      have ne : a ≠ F := fun z => by
        rw [z] at at_
        exact hF _ (.tup at_ no all)
      exact .tup (by
        rcases at_ with z | ⟨q, z⟩
        · exact .inl ((upd_ne ne).trans z)
        · exact .inr ⟨q, (upd_ne ne).trans z⟩) no (DrAll.skip hF all)
  | .dict _, _, h => by
    cases h with
    | @dic a at_ =>
      have ne : a ≠ F := fun z => by
        rw [z] at at_
        exact hF _ (.dic at_)
      exact .dic ((upd_ne ne).trans at_)
theorem DrAll.skip {K : PySem.W.Frag} {H : Hp} {F : Addr} {o : HO} (hF : ∀ d, ¬ Dr K H (.ref F) d) : ∀ {ds : List PyData} {vs : List V}, DrAll K H vs ds → DrAll K (upd H F o) vs ds
  | [], _, h => by
    cases h
    exact .nil
  | _ :: _, _, h => by
    cases h with
    | cons one more => exact .cons (Dr.skip hF one) (DrAll.skip hF more)
end
theorem no_ext {K : PySem.W.Frag} {H : Hp} {a : Addr} {o : HO} (h : H a = some o) (e : isExt o = true) : ∀ d, ¬ Dr K H (.ref a) d := fun d z => by
  have key : ∀ u : HO, isExt u = false → ¬ Rd H a u := fun u hu r => by
    rcases r with r | ⟨q, r⟩
    · rw [h] at r
      cases r
      rw [e] at hu
      cases hu
    · rw [h] at r
      cases r
      exact absurd e Bool.false_ne_true
  cases z with
  | lst at_ no all => exact key _ rfl at_
  | tup at_ no all => exact key _ rfl at_
  | dic at_ => exact key _ rfl (.inl at_)
/-- a list that begins with what is no data is none -/
theorem no_list {K : PySem.W.Frag} {H : Hp} {a : Addr} {v : V} {xs : List V} (h : H a = some (.lst (v :: xs))) (hv : ∀ d, ¬ Dr K H v d) : ∀ d, ¬ Dr K H (.ref a) d := fun d z => by
  cases z with
  | lst at_ no all =>
    rcases at_ with r | ⟨q, r⟩
    · rw [h] at r
      cases r
      cases all with
      | cons one _ => exact hv _ one
    · rw [h] at r
      cases r
  | tup at_ no all =>
    rcases at_ with r | ⟨q, r⟩
    · rw [h] at r
      cases r
    · rw [h] at r
      cases r
  | dic at_ =>
    rw [h] at at_
    cases at_
end Lots

/-! The state of the draws as the laws keep it: a dict of all cells, what is left of great ones, and a counter. G: all else. -/
namespace Lots
open PySem PySem.Spec PyProof.Rows L2

/-! ### heaps -/
theorem same_upd {H : Hp} {a : Addr} {o : HO} (h : H a = none) : Same H (upd H a o) := fun b u z => by
  rw [upd_ne (ne_of_none z h)]
  exact z
theorem same_new {G H : Hp} {a : Addr} {o : HO} (s : Same G H) (h : H a = none) : Same G (upd H a o) := s.trans (same_upd h)
theorem same_off {G H : Hp} {a : Addr} {o : HO} (s : Same G H) (g : G a = none) : Same G (upd H a o) := fun b u z => by
  rw [upd_ne (ne_of_none z g)]
  exact s b u z
/-- both sides turned alike -/
theorem same_both {G H : Hp} {a : Addr} {o : HO} (s : Same G H) : Same (upd G a o) (upd H a o) := fun b u z => by
  by_cases h : b = a
  · rw [h, upd_same] at z
    rw [h, upd_same]
    exact z
  · rw [upd_ne h] at z
    rw [upd_ne h]
    exact s b u z

abbrev kCells : Key := .inr "cells"
abbrev kLeft : Key := .inr "left"
abbrev kAt : Key := .inr "at"
theorem cl_ne : ¬ kCells = kLeft := by decide +kernel
theorem ca_ne : ¬ kCells = kAt := by decide +kernel
theorem la_ne : ¬ kLeft = kAt := by decide +kernel
def mD (c l : Addr) (k : Int) : List (Key × V) := [(kCells, .ref c), (kLeft, .ref l), (kAt, .int k)]
theorem mD_cells (c l : Addr) (k : Int) : valV (mD c l k) kCells = some (.ref c) := valV_pos rfl
theorem mD_left (c l : Addr) (k : Int) : valV (mD c l k) kLeft = some (.ref l) := (valV_neg (p := (kCells, V.ref c)) cl_ne).trans (valV_pos rfl)
theorem mD_at (c l : Addr) (k : Int) : valV (mD c l k) kAt = some (.int k) := (valV_neg (p := (kCells, V.ref c)) ca_ne).trans ((valV_neg (p := (kLeft, V.ref l)) la_ne).trans (valV_pos rfl))
theorem mD_putLeft (c l q : Addr) (k : Int) : putK (mD c l k) kLeft (.ref q) = mD c q k := by
  have h1 : decide (kCells = kLeft) = false := decide_eq_false cl_ne
  have h2 : decide (kAt = kLeft) = false := decide_eq_false (Ne.symm la_ne)
  unfold putK mD
  simp only [List.any_cons, List.any_nil, List.map_cons, List.map_nil, h1, h2, decide_true, Bool.false_or, Bool.true_or, if_true, if_neg cl_ne, if_neg (Ne.symm la_ne)]
theorem mD_putAt (c l : Addr) (k j : Int) : putK (mD c l k) kAt (.int j) = mD c l j := by
  have h1 : decide (kCells = kAt) = false := decide_eq_false ca_ne
  have h2 : decide (kLeft = kAt) = false := decide_eq_false la_ne
  unfold putK mD
  simp only [List.any_cons, List.any_nil, List.map_cons, List.map_nil, h1, h2, decide_true, Bool.false_or, Bool.true_or, if_true, if_neg ca_ne, if_neg la_ne]

/-- the draws' state at p, behind G; B: the counter is no greater -/
structure MAt (G H : Hp) (p : Addr) (B : Int) (c l : Addr) (cs ls : List Int) (k : Int) : Prop where
  hp : H p = some (.dK (mD c l k))
  hl : H l = some (.lst (ls.map V.int))
  hc : H c = some (.lst (cs.map V.int))
  gp : G p = none
  gl : G l = none
  lc : l ≠ c
  same : Same G H
  k0 : 0 ≤ k
  kB : k ≤ B
  ln : ls.length ≤ 1000
  cn : cs.length ≤ 1000
def MOk (G H : Hp) (p : Addr) (B : Int) : Prop := ∃ c l cs ls k, MAt G H p B c l cs ls k
section
variable {G H : Hp} {p c l q : Addr} {B k : Int} {cs ls : List Int} {o : HO}
theorem MAt.pl (m : MAt G H p B c l cs ls k) : p ≠ l := ne_of m.hp m.hl (by intro z; cases z)
theorem MAt.pc (m : MAt G H p B c l cs ls k) : p ≠ c := ne_of m.hp m.hc (by intro z; cases z)
theorem MAt.garbage (m : MAt G H p B c l cs ls k) (hq : H q = none) : MAt G (upd H q o) p B c l cs ls k :=
  ⟨by rw [upd_ne (ne_of_none m.hp hq)]; exact m.hp, by rw [upd_ne (ne_of_none m.hl hq)]; exact m.hl, by rw [upd_ne (ne_of_none m.hc hq)]; exact m.hc, m.gp, m.gl, m.lc, same_new m.same hq, m.k0, m.kB, m.ln, m.cn⟩
/-- a new object of all else -/
theorem MAt.new (m : MAt G H p B c l cs ls k) (hq : H q = none) : MAt (upd G q o) (upd H q o) p B c l cs ls k :=
  ⟨by rw [upd_ne (ne_of_none m.hp hq)]; exact m.hp, by rw [upd_ne (ne_of_none m.hl hq)]; exact m.hl, by rw [upd_ne (ne_of_none m.hc hq)]; exact m.hc, by rw [upd_ne (ne_of_none m.hp hq)]; exact m.gp, by rw [upd_ne (ne_of_none m.hl hq)]; exact m.gl, m.lc, same_both m.same, m.k0, m.kB, m.ln, m.cn⟩
theorem MAt.leftNew {zs : List Int} (m : MAt G H p B c l cs ls k) (hq : H q = none) (hz : zs.length ≤ 1000) : MAt G (upd (upd H q (.lst (zs.map V.int))) p (.dK (putK (mD c l k) kLeft (.ref q)))) p B c q cs zs k := by
  have qp : q ≠ p := (ne_of_none m.hp hq).symm
  have gq : G q = none := m.same.free hq
  refine ⟨by rw [upd_same, mD_putLeft], by rw [upd_ne qp, upd_same], by rw [upd_ne m.pc.symm, upd_ne (ne_of_none m.hc hq)]; exact m.hc, m.gp, gq, (ne_of_none m.hc hq).symm, same_off (same_new m.same hq) m.gp, m.k0, m.kB, hz, m.cn⟩
theorem MAt.leftSet {zs : List Int} (m : MAt G H p B c l cs ls k) (hz : zs.length ≤ 1000) : MAt G (upd H l (.lst (zs.map V.int))) p B c l cs zs k :=
  ⟨by rw [upd_ne m.pl]; exact m.hp, upd_same, by rw [upd_ne m.lc.symm]; exact m.hc, m.gp, m.gl, m.lc, same_off m.same m.gl, m.k0, m.kB, hz, m.cn⟩
theorem MAt.atSet {B2 j : Int} (m : MAt G H p B c l cs ls k) (h0 : 0 ≤ j) (h1 : j ≤ B2) : MAt G (upd H p (.dK (putK (mD c l k) kAt (.int j)))) p B2 c l cs ls j :=
  ⟨by rw [upd_same, mD_putAt], by rw [upd_ne m.pl.symm]; exact m.hl, by rw [upd_ne m.pc.symm]; exact m.hc, m.gp, m.gl, m.lc, same_off m.same m.gp, h0, h1, m.ln, m.cn⟩
theorem MAt.more {B2 : Int} (m : MAt G H p B c l cs ls k) (h : B ≤ B2) : MAt G H p B2 c l cs ls k := ⟨m.hp, m.hl, m.hc, m.gp, m.gl, m.lc, m.same, m.k0, Int.le_trans m.kB h, m.ln, m.cn⟩
theorem MAt.less {G2 : Hp} (m : MAt G H p B c l cs ls k) (s : Same G2 G) : MAt G2 H p B c l cs ls k := ⟨m.hp, m.hl, m.hc, s.free m.gp, s.free m.gl, m.lc, s.trans m.same, m.k0, m.kB, m.ln, m.cn⟩
theorem MAt.getLeft (m : MAt G H p B c l cs ls k) : DGet H p (.str "left") (some (.ref l)) := by
  have z := DGet.k (k := kLeft) m.hp
  rw [mD_left] at z
  exact z
theorem MAt.getCells (m : MAt G H p B c l cs ls k) : DGet H p (.str "cells") (some (.ref c)) := by
  have z := DGet.k (k := kCells) m.hp
  rw [mD_cells] at z
  exact z
theorem MAt.getAt (m : MAt G H p B c l cs ls k) : DGet H p (.str "at") (some (.int k)) := by
  have z := DGet.k (k := kAt) m.hp
  rw [mD_at] at z
  exact z
end
theorem MOk.garbage {G H : Hp} {p q : Addr} {B : Int} {o : HO} (m : MOk G H p B) (hq : H q = none) : MOk G (upd H q o) p B := let ⟨c, l, cs, ls, k, m⟩ := m; ⟨c, l, cs, ls, k, m.garbage hq⟩
theorem MOk.new {G H : Hp} {p q : Addr} {B : Int} {o : HO} (m : MOk G H p B) (hq : H q = none) : MOk (upd G q o) (upd H q o) p B := let ⟨c, l, cs, ls, k, m⟩ := m; ⟨c, l, cs, ls, k, m.new hq⟩
theorem MOk.same {G H : Hp} {p : Addr} {B : Int} (m : MOk G H p B) : Same G H := let ⟨_, _, _, _, _, m⟩ := m; m.same
theorem MOk.more {G H : Hp} {p : Addr} {B B2 : Int} (m : MOk G H p B) (h : B ≤ B2) : MOk G H p B2 := let ⟨c, l, cs, ls, k, m⟩ := m; ⟨c, l, cs, ls, k, m.more h⟩
theorem MOk.less {G G2 H : Hp} {p : Addr} {B : Int} (m : MOk G H p B) (s : Same G2 G) : MOk G2 H p B := let ⟨c, l, cs, ls, k, m⟩ := m; ⟨c, l, cs, ls, k, m.less s⟩

/-! ### lists of ints as data -/
theorem dpAll_ints (K : PySem.W.Frag) (H : Hp) : ∀ ns : List Int, DpAll K H (ns.map V.int) (ns.map PyData.int)
  | [] => .nil
  | n :: ns => .cons (.int n) (dpAll_ints K H ns)
theorem canLay_ints : ∀ ns : List Int, PyData.canLayAll0 (ns.map PyData.int) = true
  | [] => by simp [PyData.canLayAll0]
  | n :: ns => by simp [PyData.canLayAll0, PyData.canLay0, canLay_ints ns]
theorem depth_ints : ∀ ns : List Int, PyData.depthAll (ns.map PyData.int) = 0
  | [] => by simp [PyData.depthAll]
  | n :: ns => by simp [PyData.depthAll, PyData.depth, depth_ints ns]
theorem shaped_ints (ns : List Int) : SeqAt.shaped (.list (ns.map PyData.int)) = true := by
  unfold SeqAt.shaped
  simp [PyData.canLay0, canLay_ints, PyData.depth, depth_ints]
theorem shaped_nil : SeqAt.shaped (.list []) = true := shaped_ints []
theorem eqv_nil (ns : List Int) : PyData.eqv (.list (ns.map PyData.int)) (.list []) = ns.isEmpty := by
  cases ns <;> simp [PyData.eqv, PyData.eqvAll]
theorem cut_one (n : Int) (ns : List Int) : cutV ((n :: ns).map V.int) (some 1) none = ns.map V.int := by
  unfold cutV
  simp [HT.sIx]
  exact List.take_of_length_le (by simp)
theorem eqv_ne {K : PySem.W.Frag} {H : Hp} {l q : Addr} {ls : List Int} {Q : VK} (hl : H l = some (.lst (ls.map V.int))) (hq : H q = some (.lst [])) (h : Q (.bl (!ls.isEmpty)) H) : rNeD K (.ref l) (.ref q) H Q :=
  ⟨_, _, .lst (SqL.of hl) (dpAll_ints K H ls), .lst (SqL.of hq) .nil, shaped_ints ls, shaped_nil, by rw [eqv_nil]; exact h⟩
/-- the promise of a draw: below many, whatever it is -/
def spNext : Sp := fun vs H Q _ => ∃ (G : Hp) (p : Addr) (many B : Int), vs = [.ref p, .int many] ∧ MOk G H p B ∧ 0 < many ∧ many < 1000000 ∧ B < 1000000000 ∧
  ∀ (H2 : Hp) (r : Int), MOk G H2 p (B + 1) → 0 ≤ r → r < many → Q (.int r) H2
/-- the promise of the start -/
def spBegun (K : PySem.W.Frag) : Sp := fun vs H Q _ => ∃ (a : Addr) (ns : List Int), vs = [.ref a] ∧ SqL K H a (ns.map V.int) ∧ ns.length ≤ 63 ∧ ∀ (H2 : Hp) (p : Addr), MOk H H2 p 0 → Q (.ref p) H2
end Lots

/-! What an own __init__ leaves: the field holds the same data. -/
namespace Lots
open PySem PySem.Spec PyProof.Rows L2
/-- a made exception of the class at C at a; its field holds the data d -/
def MadeX (K : PySem.W.Frag) (H : Hp) (a C : Addr) (fld : Str) (d : PyData) : Prop := ∃ (dx : Addr) (y : V), H a = some (exo a C (some dx)) ∧ H dx = some (exd dx [(fld, y)]) ∧ Dr K H y d
theorem MadeX.same {K : PySem.W.Frag} {H H2 : Hp} {a C : Addr} {fld : Str} {d : PyData} (e : Same H H2) (m : MadeX K H a C fld d) : MadeX K H2 a C fld d :=
  let ⟨dx, y, h1, h2, h3⟩ := m
  ⟨dx, y, e _ _ h1, e _ _ h2, h3.same e⟩
/-- the promise of an own __init__ -/
def spInit (K : PySem.W.Frag) (C : Addr) (fld : Str) : Sp := fun vs H Q _ => ∃ (G : Hp) (a : Addr) (x : V) (d : PyData), vs = [.ref a, x] ∧ G a = none ∧ H = upd G a (exo a C none) ∧ Dr K G x d ∧
  ∀ H2 : Hp, Same G H2 → MadeX K H2 a C fld d → Q .non H2
theorem exo_ext {a C : Addr} {d : Option Addr} : isExt (exo a C d) = true := rfl
/-- the end of such a def: the field is stored -/
theorem made_end {K : PySem.W.Frag} {G H2 : Hp} {a C dx : Addr} {fld : Str} {y : V} {d : PyData} (ga : G a = none) (s : Same (upd G a (exo a C none)) H2) (hy : Dr K H2 y d) (hd : H2 dx = none) (ne : dx ≠ a) :
    Same G (upd (upd H2 a (exo a C (some dx))) dx (exd dx [(fld, y)])) ∧ MadeX K (upd (upd H2 a (exo a C (some dx))) dx (exd dx [(fld, y)])) a C fld d := by
  have ha : H2 a = some (exo a C none) := s _ _ upd_same
  have s0 : Same G H2 := (same_upd ga).trans s
  refine ⟨fun b o z => ?_, dx, y, by rw [upd_ne ne.symm, upd_same], upd_same, hy.keep fun b o z nx => ?_⟩
  · have z2 := s0 b o z
    rw [upd_ne (ne_of_none z2 hd), upd_ne (ne_of_none z ga)]
    exact z2
  · have nb : b ≠ a := fun q => by
      rw [q, ha] at z
      have z3 := Option.some.inj z
      subst z3
      rw [exo_ext] at nx
      cases nx
    rw [upd_ne (ne_of_none z hd), upd_ne nb]
    exact z
/-- what the text says of the class whose __init__ the others call -/
structure BaseT (K : PySem.W.Frag) (mg : Str → Option Value) (D : Addr) : Prop where
  g : mg "StandError" = some (.ref D)
  sp : PySem.W.specialIn K (.ref D) "__getattribute__" = some (some (.builtin "type.__getattribute__"))
  rd : PySem.W.readsIn K D (.type "type") = true
  fc : PySem.W.findCls K (.ref D) (.type "type") "__init__" = some (.val (.builtin "ValueError.__init__"))
abbrev bmVE : List Value := [.type "ValueError", .type "Exception", .type "BaseException", .type "object"]
abbrev bmLE : List Value := [.type "LookupError", .type "Exception", .type "BaseException", .type "object"]
abbrev bmOE : List Value := [.type "OverflowError", .type "ArithmeticError", .type "Exception", .type "BaseException", .type "object"]
theorem ty_LE : typeOf (.type "LookupError") = pure (.type "type") := by kernel_rfl
theorem ty_OE : typeOf (.type "OverflowError") = pure (.type "type") := by kernel_rfl
end Lots

namespace Lots
open PySem PySem.Spec PyProof.Rows L2
def top (i : Nat) : Stmt := PySem.Challenge.pw_standlots_k70_errors.main.body.getD i (.Pass ⟨0, 0, 0, 0⟩)
abbrev sPass : Stmt := top 1
abbrev sBegun : Stmt := top 15
abbrev sNext : Stmt := top 16
abbrev sValue : Stmt := top 17
abbrev sKinds : Stmt := top 18
abbrev sField : Stmt := top 19
abbrev sLaw : Stmt := top 20
/-- the built-in names that the texts use -/
structure Blt (mg : Str → Option Value) : Prop where
  len : mg "len" = none
  int : mg "int" = none
  list : mg "list" = none
  dict : mg "dict" = none
  isinstance : mg "isinstance" = none
  repr : mg "repr" = none
  range : mg "range" = none
  min : mg "min" = none
  enumerate : mg "enumerate" = none
  ve : mg "ValueError" = none
  le : mg "LookupError" = none
  oe : mg "OverflowError" = none
  ke : mg "KeyError" = none
  ie : mg "IndexError" = none
/-- the eleven classes: cs j the j-th one, its field's name by j -/
def fl (j : Nat) : Str := match j with
  | 0 => "value" | 1 => "value" | 2 => "place" | 3 => "place" | 4 => "value" | 5 => "value" | 6 => "number" | 7 => "place" | 8 => "line" | 9 => "tree" | _ => "most"
structure Errs (K : PySem.W.Frag) (mg : Str → Option Value) (D : Addr) (cs : Nat → Addr) : Prop where
  e : ∀ j, j < 11 → ∃ (B newId initId : String) (bmB : List Value), ErrC K (cs j) B newId initId bmB ∧ PySem.W.findIn K (.ref (cs j)) (fl j) = some none
  ask : ∀ i j, i < 11 → j < 11 → PySem.W.kitOne K (.ref (cs j)) (.ref (cs i)) = some (decide (i = j))
  askD : ∀ j, j < 11 → PySem.W.kitOne K (.ref (cs j)) (.ref D) = some (decide (j < 9))
  askV : ∀ j, j < 11 → PySem.W.kitOne K (.ref (cs j)) (.type "ValueError") = some (decide (j < 9))
  askL : ∀ j, j < 11 → PySem.W.kitOne K (.ref (cs j)) (.type "LookupError") = some (decide (j = 9))
  askO : ∀ j, j < 11 → PySem.W.kitOne K (.ref (cs j)) (.type "OverflowError") = some (decide (j = 10))
  askN : ∀ j, j < 11 → PySem.W.kitAny K (.ref (cs j)) [.type "KeyError", .type "IndexError"] = some false
  g0 : mg "BadThings" = some (.ref (cs 0))
  g1 : mg "BadLot" = some (.ref (cs 1))
  g2 : mg "BadCounts" = some (.ref (cs 2))
  g3 : mg "BadMaker" = some (.ref (cs 3))
  g4 : mg "BadNumber" = some (.ref (cs 4))
  g5 : mg "BadClaim" = some (.ref (cs 5))
  g6 : mg "BadFacts" = some (.ref (cs 6))
  g7 : mg "BadPaper" = some (.ref (cs 7))
  g8 : mg "BadText" = some (.ref (cs 8))
  g9 : mg "Quarrel" = some (.ref (cs 9))
  g10 : mg "TooMany" = some (.ref (cs 10))
  gD : mg "StandError" = some (.ref D)
  S : ClsAsk K
section
variable {P : Program} {w : World} {K : PySem.W.Frag} {mg : Str → Option Value} {base : Heap}
theorem scPass : FnScope ["value", "key"] ["value"] (defScope sPass) := ⟨rfl, rfl, rfl, by decide +kernel, rfl, by decide +kernel, by decide +kernel⟩
theorem ok_pass {f : Addr} {fd : FuncData} (F : Fun K "_as_passed" "_as_passed" sPass f fd) (T : Blt mg) : FnOk P w K mg base CX0 1 f fd ["value"] (spPass K) := by
  refine F.ok scPass (fun vs H Q E h => ?_) (fun cdv A outer s H vs Q E hr h => ?_)
  · obtain ⟨x, d, rfl, _⟩ := h
    rfl
  obtain ⟨x, d, rfl, hx, go⟩ := h
  refine ⟨_, pss_cons (ps_if (pt_val (pe_callB call_isi (by rfl) T.isinstance (by decide +kernel) (pa_cons (pv 0) (pa_cons (pe_bltn (v := .ty "list") (by rfl) T.list (by decide +kernel) rfl) pa_nil))))
      (pss_one (ps_ret (pe_callTy call_list_of (by rfl) T.list (by decide +kernel) (pa_cons (pv 0) pa_nil)))) pss_nil)
    (pss_cons (ps_if (pt_val (pe_callB call_isi (by rfl) T.isinstance (by decide +kernel) (pa_cons (pv 0) (pa_cons (pe_bltn (v := .ty "dict") (by rfl) T.dict (by decide +kernel) rfl) pa_nil))))
      (pss_one (ps_ret (pe_lock (pe_dc (own := [("key", 1)]) (g := gName 1) (by rfl) scPass.nd (pi_keys (pv 0)) (blkOk_by (own := [("key", 1)]) (N := ["value", "key"]) (sc := defScope sPass) (by decide +kernel))
        (fun _ _ _ _ _ => pg_name (i := 1) scPass.nd rfl (Or.inl rfl)) (fun _ _ _ _ _ => pts_nil) (fun _ _ _ _ _ => pv 1) (fun _ _ _ _ _ => pe_dget (hu_of hr) (pv 0) (pv 1) (fun _ _ => rfl)))))) pss_nil)
    (pss_one (ps_ret (pv 0)))), ?_⟩
  refine ⟨_, rfl, x, _, _, _, isLst d, rfl, .ty "list", hx.ty, kit_lst d, _, rfl, ?_⟩
  cases hx with
  | lst at_ no all =>
    refine iteT ?_
    refine ⟨_, rfl, _, _, rfl, .inl (.inl at_), fun l hl => ?_⟩
    exact go _ _ (same_upd hl) (.lst (Rd.of upd_same) no (DrAll.same (same_upd hl) all))
  | dic at_ =>
    refine iteF ?_
    refine ⟨_, rfl, _, _, _, _, true, rfl, .ty "dict", (Dr.dic at_).ty, kit_dic _, _, rfl, iteT ?_⟩
    rename_i a
    refine ⟨a, _, at_, True.intro, fun od => ?_⟩
    refine ⟨_, rfl, a, od, rfl, .inl ⟨[], upd_same, fun D hD => ?_⟩⟩
    have aD : a ≠ D := ne_of_none upd_same hD
    have hD0 : H D = none := by
      rw [upd_ne aD.symm] at hD
      exact hD
    refine ⟨fun _ _ H2 => H2 = upd (upd H a (.frz od (.dK []))) D (.dK []), ⟨0, rfl⟩, ?_⟩
    rintro i m H2 rfl
    have lock : upd (upd H a (.frz od (.dK []))) D (.dK []) a = some (.frz od (.dK [])) := by
      rw [upd_ne aD, upd_same]
    refine .inl ⟨⟨lock, Nat.zero_le _⟩, lock, ?_⟩
    refine go _ _ (fun b o z => ?_) (.dic (by rw [upd_ne aD.symm, upd_same]))
    by_cases hb : b = a
    · rw [hb, upd_same, ← at_, hb.symm]
      exact z
    · rw [upd_ne hb, upd_ne (ne_of_none z hD0), upd_ne hb]
      exact z
  | non => exact iteF ⟨_, rfl, _, _, _, _, false, rfl, .ty "dict", Dr.non.ty, kit_dic _, _, rfl, iteF ⟨_, rfl, go _ _ (Same.refl _) .non⟩⟩
  | bl b => exact iteF ⟨_, rfl, _, _, _, _, false, rfl, .ty "dict", (Dr.bl b).ty, kit_dic _, _, rfl, iteF ⟨_, rfl, go _ _ (Same.refl _) (.bl b)⟩⟩
  | int i => exact iteF ⟨_, rfl, _, _, _, _, false, rfl, .ty "dict", (Dr.int i).ty, kit_dic _, _, rfl, iteF ⟨_, rfl, go _ _ (Same.refl _) (.int i)⟩⟩
  | str y => exact iteF ⟨_, rfl, _, _, _, _, false, rfl, .ty "dict", (Dr.str y).ty, kit_dic _, _, rfl, iteF ⟨_, rfl, go _ _ (Same.refl _) (.str y)⟩⟩
  | tup at_ no all => exact iteF ⟨_, rfl, _, _, _, _, false, rfl, .ty "dict", (Dr.tup at_ no all).ty, kit_dic _, _, rfl, iteF ⟨_, rfl, go _ _ (Same.refl _) (.tup at_ no all)⟩⟩
abbrev sI_BadThings : Stmt := inClass (top 3) 0
theorem scI_BadThings : FnScope ["self", "value"] ["self", "value"] (defScope sI_BadThings) := ⟨rfl, rfl, rfl, by decide +kernel, rfl, by decide +kernel, by decide +kernel⟩
theorem okI_BadThings {f fP C D : Addr} {fd fdP : FuncData} (F : Fun K "__init__" "BadThings.__init__" sI_BadThings f fd) (S : BaseT K mg D) (E1 : ErrC K C "ValueError" "ValueError.__new__" "ValueError.__init__" bmVE) (no : PySem.W.findIn K (.ref C) "value" = some none)
    (FP : FnOk P w K mg base CX0 1 fP fdP ["value"] (spPass K)) (gP : mg "_as_passed" = some (.ref fP)) (kP : PySem.W.keepIn K (.ref fP) = true) (bP : Binds K fdP ["value"] []) : FnOk P w K mg base CX0 2 f fd ["self", "value"] (spInit K C "value") := by
  refine F.ok scI_BadThings (fun vs H Q E h => ?_) (fun cdv A outer s H vs Q E hr h => ?_)
  · obtain ⟨G, a, x, d, rfl, _⟩ := h
    rfl
  obtain ⟨G, a, x, d, rfl, ga, rfl, hx, go⟩ := h
  refine ⟨_, pss_cons (ps_expr (pe_ownbase (B := "ValueError") (newId := "ValueError.__new__") (initId := "ValueError.__init__") (bmB := bmVE) (by rfl) S.g S.sp S.rd S.fc (by decide +kernel) (pa_cons (pv 0) (pa_cons pe_str pa_nil))))
    (pss_one (ps_put (pv 0) (pe_call FP hr (by rfl) gP kP bP .nil pass0 (pa_cons (pv 1) pa_nil)))), ?_⟩
  refine ⟨_, rfl, a, C, _, rfl, (by show 1 ≤ 1000; decide), E1, upd_same, ?_⟩
  refine ⟨_, rfl, x, d, rfl, hx.same (same_upd ga), fun H2 y s2 hy => ?_⟩
  refine ⟨_, rfl, a, C, _, _, _, _, rfl, E1, no, s2 _ _ upd_same, fun dx hd ne => ?_⟩
  obtain ⟨h1, h2⟩ := made_end (fld := "value") ga s2 hy hd ne
  exact go _ h1 h2
abbrev sI_BadLot : Stmt := inClass (top 4) 0
theorem scI_BadLot : FnScope ["self", "value"] ["self", "value"] (defScope sI_BadLot) := ⟨rfl, rfl, rfl, by decide +kernel, rfl, by decide +kernel, by decide +kernel⟩
theorem okI_BadLot {f fP C D : Addr} {fd fdP : FuncData} (F : Fun K "__init__" "BadLot.__init__" sI_BadLot f fd) (S : BaseT K mg D) (E1 : ErrC K C "ValueError" "ValueError.__new__" "ValueError.__init__" bmVE) (no : PySem.W.findIn K (.ref C) "value" = some none)
    (FP : FnOk P w K mg base CX0 1 fP fdP ["value"] (spPass K)) (gP : mg "_as_passed" = some (.ref fP)) (kP : PySem.W.keepIn K (.ref fP) = true) (bP : Binds K fdP ["value"] []) : FnOk P w K mg base CX0 2 f fd ["self", "value"] (spInit K C "value") := by
  refine F.ok scI_BadLot (fun vs H Q E h => ?_) (fun cdv A outer s H vs Q E hr h => ?_)
  · obtain ⟨G, a, x, d, rfl, _⟩ := h
    rfl
  obtain ⟨G, a, x, d, rfl, ga, rfl, hx, go⟩ := h
  refine ⟨_, pss_cons (ps_expr (pe_ownbase (B := "ValueError") (newId := "ValueError.__new__") (initId := "ValueError.__init__") (bmB := bmVE) (by rfl) S.g S.sp S.rd S.fc (by decide +kernel) (pa_cons (pv 0) (pa_cons pe_str pa_nil))))
    (pss_one (ps_put (pv 0) (pe_call FP hr (by rfl) gP kP bP .nil pass0 (pa_cons (pv 1) pa_nil)))), ?_⟩
  refine ⟨_, rfl, a, C, _, rfl, (by show 1 ≤ 1000; decide), E1, upd_same, ?_⟩
  refine ⟨_, rfl, x, d, rfl, hx.same (same_upd ga), fun H2 y s2 hy => ?_⟩
  refine ⟨_, rfl, a, C, _, _, _, _, rfl, E1, no, s2 _ _ upd_same, fun dx hd ne => ?_⟩
  obtain ⟨h1, h2⟩ := made_end (fld := "value") ga s2 hy hd ne
  exact go _ h1 h2
abbrev sI_BadCounts : Stmt := inClass (top 5) 0
theorem scI_BadCounts : FnScope ["self", "place"] ["self", "place"] (defScope sI_BadCounts) := ⟨rfl, rfl, rfl, by decide +kernel, rfl, by decide +kernel, by decide +kernel⟩
theorem okI_BadCounts {f fP C D : Addr} {fd fdP : FuncData} (F : Fun K "__init__" "BadCounts.__init__" sI_BadCounts f fd) (S : BaseT K mg D) (E1 : ErrC K C "ValueError" "ValueError.__new__" "ValueError.__init__" bmVE) (no : PySem.W.findIn K (.ref C) "place" = some none)
    (FP : FnOk P w K mg base CX0 1 fP fdP ["value"] (spPass K)) (gP : mg "_as_passed" = some (.ref fP)) (kP : PySem.W.keepIn K (.ref fP) = true) (bP : Binds K fdP ["value"] []) : FnOk P w K mg base CX0 2 f fd ["self", "place"] (spInit K C "place") := by
  refine F.ok scI_BadCounts (fun vs H Q E h => ?_) (fun cdv A outer s H vs Q E hr h => ?_)
  · obtain ⟨G, a, x, d, rfl, _⟩ := h
    rfl
  obtain ⟨G, a, x, d, rfl, ga, rfl, hx, go⟩ := h
  refine ⟨_, pss_cons (ps_expr (pe_ownbase (B := "ValueError") (newId := "ValueError.__new__") (initId := "ValueError.__init__") (bmB := bmVE) (by rfl) S.g S.sp S.rd S.fc (by decide +kernel) (pa_cons (pv 0) (pa_cons pe_str pa_nil))))
    (pss_one (ps_put (pv 0) (pe_call FP hr (by rfl) gP kP bP .nil pass0 (pa_cons (pv 1) pa_nil)))), ?_⟩
  refine ⟨_, rfl, a, C, _, rfl, (by show 1 ≤ 1000; decide), E1, upd_same, ?_⟩
  refine ⟨_, rfl, x, d, rfl, hx.same (same_upd ga), fun H2 y s2 hy => ?_⟩
  refine ⟨_, rfl, a, C, _, _, _, _, rfl, E1, no, s2 _ _ upd_same, fun dx hd ne => ?_⟩
  obtain ⟨h1, h2⟩ := made_end (fld := "place") ga s2 hy hd ne
  exact go _ h1 h2
abbrev sI_BadMaker : Stmt := inClass (top 6) 0
theorem scI_BadMaker : FnScope ["self", "place"] ["self", "place"] (defScope sI_BadMaker) := ⟨rfl, rfl, rfl, by decide +kernel, rfl, by decide +kernel, by decide +kernel⟩
theorem okI_BadMaker {f fP C D : Addr} {fd fdP : FuncData} (F : Fun K "__init__" "BadMaker.__init__" sI_BadMaker f fd) (S : BaseT K mg D) (E1 : ErrC K C "ValueError" "ValueError.__new__" "ValueError.__init__" bmVE) (no : PySem.W.findIn K (.ref C) "place" = some none)
    (FP : FnOk P w K mg base CX0 1 fP fdP ["value"] (spPass K)) (gP : mg "_as_passed" = some (.ref fP)) (kP : PySem.W.keepIn K (.ref fP) = true) (bP : Binds K fdP ["value"] []) : FnOk P w K mg base CX0 2 f fd ["self", "place"] (spInit K C "place") := by
  refine F.ok scI_BadMaker (fun vs H Q E h => ?_) (fun cdv A outer s H vs Q E hr h => ?_)
  · obtain ⟨G, a, x, d, rfl, _⟩ := h
    rfl
  obtain ⟨G, a, x, d, rfl, ga, rfl, hx, go⟩ := h
  refine ⟨_, pss_cons (ps_expr (pe_ownbase (B := "ValueError") (newId := "ValueError.__new__") (initId := "ValueError.__init__") (bmB := bmVE) (by rfl) S.g S.sp S.rd S.fc (by decide +kernel) (pa_cons (pv 0) (pa_cons pe_str pa_nil))))
    (pss_one (ps_put (pv 0) (pe_call FP hr (by rfl) gP kP bP .nil pass0 (pa_cons (pv 1) pa_nil)))), ?_⟩
  refine ⟨_, rfl, a, C, _, rfl, (by show 1 ≤ 1000; decide), E1, upd_same, ?_⟩
  refine ⟨_, rfl, x, d, rfl, hx.same (same_upd ga), fun H2 y s2 hy => ?_⟩
  refine ⟨_, rfl, a, C, _, _, _, _, rfl, E1, no, s2 _ _ upd_same, fun dx hd ne => ?_⟩
  obtain ⟨h1, h2⟩ := made_end (fld := "place") ga s2 hy hd ne
  exact go _ h1 h2
abbrev sI_BadNumber : Stmt := inClass (top 7) 0
theorem scI_BadNumber : FnScope ["self", "value"] ["self", "value"] (defScope sI_BadNumber) := ⟨rfl, rfl, rfl, by decide +kernel, rfl, by decide +kernel, by decide +kernel⟩
theorem okI_BadNumber {f fP C D : Addr} {fd fdP : FuncData} (F : Fun K "__init__" "BadNumber.__init__" sI_BadNumber f fd) (S : BaseT K mg D) (E1 : ErrC K C "ValueError" "ValueError.__new__" "ValueError.__init__" bmVE) (no : PySem.W.findIn K (.ref C) "value" = some none)
    (FP : FnOk P w K mg base CX0 1 fP fdP ["value"] (spPass K)) (gP : mg "_as_passed" = some (.ref fP)) (kP : PySem.W.keepIn K (.ref fP) = true) (bP : Binds K fdP ["value"] []) : FnOk P w K mg base CX0 2 f fd ["self", "value"] (spInit K C "value") := by
  refine F.ok scI_BadNumber (fun vs H Q E h => ?_) (fun cdv A outer s H vs Q E hr h => ?_)
  · obtain ⟨G, a, x, d, rfl, _⟩ := h
    rfl
  obtain ⟨G, a, x, d, rfl, ga, rfl, hx, go⟩ := h
  refine ⟨_, pss_cons (ps_expr (pe_ownbase (B := "ValueError") (newId := "ValueError.__new__") (initId := "ValueError.__init__") (bmB := bmVE) (by rfl) S.g S.sp S.rd S.fc (by decide +kernel) (pa_cons (pv 0) (pa_cons pe_str pa_nil))))
    (pss_one (ps_put (pv 0) (pe_call FP hr (by rfl) gP kP bP .nil pass0 (pa_cons (pv 1) pa_nil)))), ?_⟩
  refine ⟨_, rfl, a, C, _, rfl, (by show 1 ≤ 1000; decide), E1, upd_same, ?_⟩
  refine ⟨_, rfl, x, d, rfl, hx.same (same_upd ga), fun H2 y s2 hy => ?_⟩
  refine ⟨_, rfl, a, C, _, _, _, _, rfl, E1, no, s2 _ _ upd_same, fun dx hd ne => ?_⟩
  obtain ⟨h1, h2⟩ := made_end (fld := "value") ga s2 hy hd ne
  exact go _ h1 h2
abbrev sI_BadClaim : Stmt := inClass (top 8) 0
theorem scI_BadClaim : FnScope ["self", "value"] ["self", "value"] (defScope sI_BadClaim) := ⟨rfl, rfl, rfl, by decide +kernel, rfl, by decide +kernel, by decide +kernel⟩
theorem okI_BadClaim {f fP C D : Addr} {fd fdP : FuncData} (F : Fun K "__init__" "BadClaim.__init__" sI_BadClaim f fd) (S : BaseT K mg D) (E1 : ErrC K C "ValueError" "ValueError.__new__" "ValueError.__init__" bmVE) (no : PySem.W.findIn K (.ref C) "value" = some none)
    (FP : FnOk P w K mg base CX0 1 fP fdP ["value"] (spPass K)) (gP : mg "_as_passed" = some (.ref fP)) (kP : PySem.W.keepIn K (.ref fP) = true) (bP : Binds K fdP ["value"] []) : FnOk P w K mg base CX0 2 f fd ["self", "value"] (spInit K C "value") := by
  refine F.ok scI_BadClaim (fun vs H Q E h => ?_) (fun cdv A outer s H vs Q E hr h => ?_)
  · obtain ⟨G, a, x, d, rfl, _⟩ := h
    rfl
  obtain ⟨G, a, x, d, rfl, ga, rfl, hx, go⟩ := h
  refine ⟨_, pss_cons (ps_expr (pe_ownbase (B := "ValueError") (newId := "ValueError.__new__") (initId := "ValueError.__init__") (bmB := bmVE) (by rfl) S.g S.sp S.rd S.fc (by decide +kernel) (pa_cons (pv 0) (pa_cons pe_str pa_nil))))
    (pss_one (ps_put (pv 0) (pe_call FP hr (by rfl) gP kP bP .nil pass0 (pa_cons (pv 1) pa_nil)))), ?_⟩
  refine ⟨_, rfl, a, C, _, rfl, (by show 1 ≤ 1000; decide), E1, upd_same, ?_⟩
  refine ⟨_, rfl, x, d, rfl, hx.same (same_upd ga), fun H2 y s2 hy => ?_⟩
  refine ⟨_, rfl, a, C, _, _, _, _, rfl, E1, no, s2 _ _ upd_same, fun dx hd ne => ?_⟩
  obtain ⟨h1, h2⟩ := made_end (fld := "value") ga s2 hy hd ne
  exact go _ h1 h2
abbrev sI_BadFacts : Stmt := inClass (top 9) 0
theorem scI_BadFacts : FnScope ["self", "number"] ["self", "number"] (defScope sI_BadFacts) := ⟨rfl, rfl, rfl, by decide +kernel, rfl, by decide +kernel, by decide +kernel⟩
theorem okI_BadFacts {f fP C D : Addr} {fd fdP : FuncData} (F : Fun K "__init__" "BadFacts.__init__" sI_BadFacts f fd) (S : BaseT K mg D) (E1 : ErrC K C "ValueError" "ValueError.__new__" "ValueError.__init__" bmVE) (no : PySem.W.findIn K (.ref C) "number" = some none)
    (FP : FnOk P w K mg base CX0 1 fP fdP ["value"] (spPass K)) (gP : mg "_as_passed" = some (.ref fP)) (kP : PySem.W.keepIn K (.ref fP) = true) (bP : Binds K fdP ["value"] []) : FnOk P w K mg base CX0 2 f fd ["self", "number"] (spInit K C "number") := by
  refine F.ok scI_BadFacts (fun vs H Q E h => ?_) (fun cdv A outer s H vs Q E hr h => ?_)
  · obtain ⟨G, a, x, d, rfl, _⟩ := h
    rfl
  obtain ⟨G, a, x, d, rfl, ga, rfl, hx, go⟩ := h
  refine ⟨_, pss_cons (ps_expr (pe_ownbase (B := "ValueError") (newId := "ValueError.__new__") (initId := "ValueError.__init__") (bmB := bmVE) (by rfl) S.g S.sp S.rd S.fc (by decide +kernel) (pa_cons (pv 0) (pa_cons pe_str pa_nil))))
    (pss_one (ps_put (pv 0) (pe_call FP hr (by rfl) gP kP bP .nil pass0 (pa_cons (pv 1) pa_nil)))), ?_⟩
  refine ⟨_, rfl, a, C, _, rfl, (by show 1 ≤ 1000; decide), E1, upd_same, ?_⟩
  refine ⟨_, rfl, x, d, rfl, hx.same (same_upd ga), fun H2 y s2 hy => ?_⟩
  refine ⟨_, rfl, a, C, _, _, _, _, rfl, E1, no, s2 _ _ upd_same, fun dx hd ne => ?_⟩
  obtain ⟨h1, h2⟩ := made_end (fld := "number") ga s2 hy hd ne
  exact go _ h1 h2
abbrev sI_BadPaper : Stmt := inClass (top 10) 0
theorem scI_BadPaper : FnScope ["self", "place"] ["self", "place"] (defScope sI_BadPaper) := ⟨rfl, rfl, rfl, by decide +kernel, rfl, by decide +kernel, by decide +kernel⟩
theorem okI_BadPaper {f fP C D : Addr} {fd fdP : FuncData} (F : Fun K "__init__" "BadPaper.__init__" sI_BadPaper f fd) (S : BaseT K mg D) (E1 : ErrC K C "ValueError" "ValueError.__new__" "ValueError.__init__" bmVE) (no : PySem.W.findIn K (.ref C) "place" = some none)
    (FP : FnOk P w K mg base CX0 1 fP fdP ["value"] (spPass K)) (gP : mg "_as_passed" = some (.ref fP)) (kP : PySem.W.keepIn K (.ref fP) = true) (bP : Binds K fdP ["value"] []) : FnOk P w K mg base CX0 2 f fd ["self", "place"] (spInit K C "place") := by
  refine F.ok scI_BadPaper (fun vs H Q E h => ?_) (fun cdv A outer s H vs Q E hr h => ?_)
  · obtain ⟨G, a, x, d, rfl, _⟩ := h
    rfl
  obtain ⟨G, a, x, d, rfl, ga, rfl, hx, go⟩ := h
  refine ⟨_, pss_cons (ps_expr (pe_ownbase (B := "ValueError") (newId := "ValueError.__new__") (initId := "ValueError.__init__") (bmB := bmVE) (by rfl) S.g S.sp S.rd S.fc (by decide +kernel) (pa_cons (pv 0) (pa_cons pe_str pa_nil))))
    (pss_one (ps_put (pv 0) (pe_call FP hr (by rfl) gP kP bP .nil pass0 (pa_cons (pv 1) pa_nil)))), ?_⟩
  refine ⟨_, rfl, a, C, _, rfl, (by show 1 ≤ 1000; decide), E1, upd_same, ?_⟩
  refine ⟨_, rfl, x, d, rfl, hx.same (same_upd ga), fun H2 y s2 hy => ?_⟩
  refine ⟨_, rfl, a, C, _, _, _, _, rfl, E1, no, s2 _ _ upd_same, fun dx hd ne => ?_⟩
  obtain ⟨h1, h2⟩ := made_end (fld := "place") ga s2 hy hd ne
  exact go _ h1 h2
abbrev sI_BadText : Stmt := inClass (top 11) 0
theorem scI_BadText : FnScope ["self", "line"] ["self", "line"] (defScope sI_BadText) := ⟨rfl, rfl, rfl, by decide +kernel, rfl, by decide +kernel, by decide +kernel⟩
theorem okI_BadText {f fP C D : Addr} {fd fdP : FuncData} (F : Fun K "__init__" "BadText.__init__" sI_BadText f fd) (S : BaseT K mg D) (E1 : ErrC K C "ValueError" "ValueError.__new__" "ValueError.__init__" bmVE) (no : PySem.W.findIn K (.ref C) "line" = some none)
    (FP : FnOk P w K mg base CX0 1 fP fdP ["value"] (spPass K)) (gP : mg "_as_passed" = some (.ref fP)) (kP : PySem.W.keepIn K (.ref fP) = true) (bP : Binds K fdP ["value"] []) : FnOk P w K mg base CX0 2 f fd ["self", "line"] (spInit K C "line") := by
  refine F.ok scI_BadText (fun vs H Q E h => ?_) (fun cdv A outer s H vs Q E hr h => ?_)
  · obtain ⟨G, a, x, d, rfl, _⟩ := h
    rfl
  obtain ⟨G, a, x, d, rfl, ga, rfl, hx, go⟩ := h
  refine ⟨_, pss_cons (ps_expr (pe_ownbase (B := "ValueError") (newId := "ValueError.__new__") (initId := "ValueError.__init__") (bmB := bmVE) (by rfl) S.g S.sp S.rd S.fc (by decide +kernel) (pa_cons (pv 0) (pa_cons pe_str pa_nil))))
    (pss_one (ps_put (pv 0) (pe_call FP hr (by rfl) gP kP bP .nil pass0 (pa_cons (pv 1) pa_nil)))), ?_⟩
  refine ⟨_, rfl, a, C, _, rfl, (by show 1 ≤ 1000; decide), E1, upd_same, ?_⟩
  refine ⟨_, rfl, x, d, rfl, hx.same (same_upd ga), fun H2 y s2 hy => ?_⟩
  refine ⟨_, rfl, a, C, _, _, _, _, rfl, E1, no, s2 _ _ upd_same, fun dx hd ne => ?_⟩
  obtain ⟨h1, h2⟩ := made_end (fld := "line") ga s2 hy hd ne
  exact go _ h1 h2
abbrev sI_Quarrel : Stmt := inClass (top 12) 0
theorem scI_Quarrel : FnScope ["self", "tree"] ["self", "tree"] (defScope sI_Quarrel) := ⟨rfl, rfl, rfl, by decide +kernel, rfl, by decide +kernel, by decide +kernel⟩
theorem okI_Quarrel {f fP C D : Addr} {fd fdP : FuncData} (F : Fun K "__init__" "Quarrel.__init__" sI_Quarrel f fd) (bn : mg "LookupError" = none) (fc : PySem.W.findCls K (.type "LookupError") (.type "type") "__init__" = some (.val (.builtin "LookupError.__init__"))) (E1 : ErrC K C "LookupError" "LookupError.__new__" "LookupError.__init__" bmLE) (no : PySem.W.findIn K (.ref C) "tree" = some none)
    (FP : FnOk P w K mg base CX0 1 fP fdP ["value"] (spPass K)) (gP : mg "_as_passed" = some (.ref fP)) (kP : PySem.W.keepIn K (.ref fP) = true) (bP : Binds K fdP ["value"] []) : FnOk P w K mg base CX0 2 f fd ["self", "tree"] (spInit K C "tree") := by
  refine F.ok scI_Quarrel (fun vs H Q E h => ?_) (fun cdv A outer s H vs Q E hr h => ?_)
  · obtain ⟨G, a, x, d, rfl, _⟩ := h
    rfl
  obtain ⟨G, a, x, d, rfl, ga, rfl, hx, go⟩ := h
  refine ⟨_, pss_cons (ps_expr (pe_bltbase (B := "LookupError") (newId := "LookupError.__new__") (initId := "LookupError.__init__") (bmB := bmLE) (by rfl) bn (by decide +kernel) ty_LE (by decide +kernel) fc (by decide +kernel) (pa_cons (pv 0) (pa_cons pe_str pa_nil))))
    (pss_one (ps_put (pv 0) (pe_call FP hr (by rfl) gP kP bP .nil pass0 (pa_cons (pv 1) pa_nil)))), ?_⟩
  refine ⟨_, rfl, a, C, _, rfl, (by show 1 ≤ 1000; decide), E1, upd_same, ?_⟩
  refine ⟨_, rfl, x, d, rfl, hx.same (same_upd ga), fun H2 y s2 hy => ?_⟩
  refine ⟨_, rfl, a, C, _, _, _, _, rfl, E1, no, s2 _ _ upd_same, fun dx hd ne => ?_⟩
  obtain ⟨h1, h2⟩ := made_end (fld := "tree") ga s2 hy hd ne
  exact go _ h1 h2
abbrev sI_TooMany : Stmt := inClass (top 13) 0
theorem scI_TooMany : FnScope ["self", "most"] ["self", "most"] (defScope sI_TooMany) := ⟨rfl, rfl, rfl, by decide +kernel, rfl, by decide +kernel, by decide +kernel⟩
theorem okI_TooMany {f fP C D : Addr} {fd fdP : FuncData} (F : Fun K "__init__" "TooMany.__init__" sI_TooMany f fd) (bn : mg "OverflowError" = none) (fc : PySem.W.findCls K (.type "OverflowError") (.type "type") "__init__" = some (.val (.builtin "OverflowError.__init__"))) (E1 : ErrC K C "OverflowError" "OverflowError.__new__" "OverflowError.__init__" bmOE) (no : PySem.W.findIn K (.ref C) "most" = some none)
    (FP : FnOk P w K mg base CX0 1 fP fdP ["value"] (spPass K)) (gP : mg "_as_passed" = some (.ref fP)) (kP : PySem.W.keepIn K (.ref fP) = true) (bP : Binds K fdP ["value"] []) : FnOk P w K mg base CX0 2 f fd ["self", "most"] (spInit K C "most") := by
  refine F.ok scI_TooMany (fun vs H Q E h => ?_) (fun cdv A outer s H vs Q E hr h => ?_)
  · obtain ⟨G, a, x, d, rfl, _⟩ := h
    rfl
  obtain ⟨G, a, x, d, rfl, ga, rfl, hx, go⟩ := h
  refine ⟨_, pss_cons (ps_expr (pe_bltbase (B := "OverflowError") (newId := "OverflowError.__new__") (initId := "OverflowError.__init__") (bmB := bmOE) (by rfl) bn (by decide +kernel) ty_OE (by decide +kernel) fc (by decide +kernel) (pa_cons (pv 0) (pa_cons pe_str pa_nil))))
    (pss_one (ps_put (pv 0) (pe_call FP hr (by rfl) gP kP bP .nil pass0 (pa_cons (pv 1) pa_nil)))), ?_⟩
  refine ⟨_, rfl, a, C, _, rfl, (by show 1 ≤ 1000; decide), E1, upd_same, ?_⟩
  refine ⟨_, rfl, x, d, rfl, hx.same (same_upd ga), fun H2 y s2 hy => ?_⟩
  refine ⟨_, rfl, a, C, _, _, _, _, rfl, E1, no, s2 _ _ upd_same, fun dx hd ne => ?_⟩
  obtain ⟨h1, h2⟩ := made_end (fld := "most") ga s2 hy hd ne
  exact go _ h1 h2
theorem scNext : FnScope ["m", "many", "rest", "at", "bits", "cell", "blend"] ["m", "many"] (defScope sNext) := ⟨rfl, rfl, rfl, by decide +kernel, rfl, by decide +kernel, by decide +kernel⟩
theorem ok_next {f : Addr} {fd : FuncData} (F : Fun K "_law_next" "_law_next" sNext f fd) (T : Blt mg) : FnOk P w K mg base CX0 1 f fd ["m", "many"] spNext := by
  refine F.ok scNext (fun vs H Q E h => ?_) (fun cdv A outer s H vs Q E hr h => ?_)
  · obtain ⟨G, p, many, B, rfl, _⟩ := h
    rfl
  obtain ⟨G, p, many, B, rfl, ⟨c, l, cs, ls, k, M⟩, m0, m1, b1, go⟩ := h
  have m2 : many < 1073741824 := by omega
  -- the last two rows, whatever the cell is
  obtain ⟨t2, d2, fin⟩ : ∃ t, PSs (cxOf CX0 P w K mg base ["m", "many", "rest", "at", "bits", "cell", "blend"] "_law_next" (defScope sNext) f cdv A outer s H E).nox ((defBody sNext).drop 5) t ∧
      ∀ (H1 : Hp) (j x : Int) (v : Option V) (c : Addr), MOk G H1 p (B + 1) → 0 ≤ j → j ≤ B + 1 → t { nx := fun _ H' => Q .non H', rt := Q } [some (.ref p), some (.int many), none, some (.int j), some (.ref c), some (.int x), v] H1 := by
    refine ⟨_, (pss_cons (ps_set (i := 6) scNext.nd rfl (Or.inl rfl) (pe_op op_mod (pe_callTy call_int1 (by rfl) T.int (by decide +kernel) (pa_cons (pe_op op_add (pe_op op_add (pe_op op_mul (pv 5) pe_int) (pe_op op_mul (pv 3) pe_int)) (pe_op op_mul (pe_op op_mul pe_int (pv 3)) (pv 3))) pa_nil)) pe_int))
      (pss_one (ps_ret (pe_op op_mod (pe_callTy call_int1 (by rfl) T.int (by decide +kernel) (pa_cons (pe_op op_fdiv (pe_op op_mod (pe_callTy call_int1 (by rfl) T.int (by decide +kernel) (pa_cons (pe_op op_add (pe_op op_mul (pv 6) pe_int) (pe_op op_mul pe_int (pv 3))) pa_nil)) pe_int) pe_int) pa_nil)) (pv 1))))), fun H1 j x v c M h0 h1 => ?_⟩
    refine ⟨_, rfl, _, _, rfl, rfl, .inr (by constructor <;> decide), _, rfl, _, _, rfl, rfl, .inr (by constructor <;> decide), _, _, rfl, rfl, _, rfl, _, _, rfl, rfl, .inl (by constructor <;> decide), _, rfl, _, _, rfl, rfl, .inr (by constructor <;> omega), _, _, rfl, rfl, .inl ⟨_, rfl, ?_⟩⟩
    refine ⟨_, _, rfl, rfl, (by show (0 : Int) < 2147483399; decide), ?_⟩
    refine ⟨_, rfl, _, _, rfl, rfl, .inr (by constructor <;> decide), _, rfl, _, _, rfl, rfl, .inl (by constructor <;> decide), _, _, rfl, rfl, .inl ⟨_, rfl, ?_⟩⟩
    refine ⟨_, _, rfl, rfl, (by show (0 : Int) < 2147483647; decide), _, _, rfl, rfl, (by constructor <;> decide), .inl ⟨_, rfl, ?_⟩⟩
    refine ⟨_, rfl, _, _, rfl, rfl, m0, ?_⟩
    exact go _ _ M (Int.emod_nonneg _ (by omega)) (Int.emod_lt_of_pos _ m0)
  -- behind the loop
  obtain ⟨t1, d1, rest⟩ : ∃ t, PSs (cxOf CX0 P w K mg base ["m", "many", "rest", "at", "bits", "cell", "blend"] "_law_next" (defScope sNext) f cdv A outer s H E).nox ((defBody sNext).drop 1) t ∧
      ∀ H1 : Hp, MOk G H1 p B → t { nx := fun _ H' => Q .non H', rt := Q } [some (.ref p), some (.int many), none, none, none, none, none] H1 := by
    refine ⟨_, (pss_cons (ps_if (pt_cmpR (op_neD hr.units) (pe_dget (hu_of hr) (pv 0) pe_str (fun _ _ => rfl)) (pe_lst pa_nil) (nomark _)) (pss_cons (ps_set (i := 2) scNext.nd rfl (Or.inl rfl) (pe_ix ix_list (pe_dget (hu_of hr) (pv 0) pe_str (fun _ _ => rfl)) pe_int (fun _ _ => rfl)))
      (pss_cons (ps_asg (pe_op op_fdiv (pv 2) (pv 1)) (pg_sub (pe_dget (hu_of hr) (pv 0) pe_str (fun _ _ => rfl)) pe_int set_list))
      (pss_one (ps_ret (pe_op op_mod (pe_callTy call_int1 (by rfl) T.int (by decide +kernel) (pa_cons (pv 2) pa_nil)) (pv 1)))))) pss_nil)
      (pss_cons (ps_par (i := 3) (j := 4) (by rfl) scNext.nd rfl rfl (by decide) rfl rfl (pa_cons (pe_op op_add (pe_dget (hu_of hr) (pv 0) pe_str (fun _ _ => rfl)) pe_int) (pa_cons (pe_dget (hu_of hr) (pv 0) pe_str (fun _ _ => rfl)) pa_nil)) (by rfl))
      (pss_cons (ps_dput (hu_of hr) (pv 0) pe_str (pv 3) rfl)
      (pss_cons (ps_set (i := 5) scNext.nd rfl (Or.inl rfl) (pe_ifExp (pt_cmpR (op_neD hr.units) (pv 4) (pe_lst pa_nil) (nomark _)) (pe_callTy call_int1 (by rfl) T.int (by decide +kernel) (pa_cons (pe_ix ix_list (pv 4) (pe_op op_mod (pe_callTy call_int1 (by rfl) T.int (by decide +kernel) (pa_cons (pe_op op_add (pe_op op_mul (pv 3) (pv 3)) (pe_op op_fdiv (pv 3) pe_int)) pa_nil)) (pe_callB call_len_seq (by rfl) T.len PySem.boot_len (pa_cons (pv 4) pa_nil))) (fun _ _ => rfl)) pa_nil)) pe_int))
      d2)))), fun H1 ⟨c, l, cs, ls, k, M⟩ => ?_⟩
    refine ⟨_, rfl, p, _, rfl, M.getLeft, Nat.zero_le _, fun q hq => ?_⟩
    have M2 := M.garbage (o := .lst []) hq
    refine eqv_ne M2.hl upd_same ⟨_, rfl, ?_⟩
    cases ls with
    | cons n r =>
      refine iteT ?_
      refine ⟨_, rfl, p, _, rfl, M2.getLeft, l, _, 0, _, rfl, rfl, SqL.of M2.hl, atI_nat (j := 0) rfl, ?_⟩
      refine ⟨_, rfl, _, rfl, _, _, rfl, rfl, ⟨m0, m2⟩, ?_⟩
      refine ⟨_, rfl, p, _, rfl, M2.getLeft, l, _, 0, 0, rfl, rfl, M2.hl, (by simp [ixN]), ?_⟩
      have M3 := M2.leftSet (zs := (n / many) :: r) M2.ln
      refine ⟨_, rfl, .inl ⟨_, rfl, ?_⟩⟩
      refine ⟨_, rfl, _, _, rfl, rfl, m0, ?_⟩
      exact go _ _ ⟨_, _, _, _, _, M3.more (by omega)⟩ (Int.emod_nonneg _ (by omega)) (Int.emod_lt_of_pos _ m0)
    | nil =>
      refine iteF ?_
      have hk := M2.k0
      have hb := M2.kB
      refine ⟨_, rfl, p, _, rfl, M2.getAt, _, _, rfl, rfl, _, rfl, p, _, rfl, M2.getCells, _, _, rfl, ?_⟩
      refine ⟨_, rfl, _, rfl, p, _, rfl, DPut.k (k := kAt) M2.hp (by show 3 < sizeLine; decide), ?_⟩
      have M3 := M2.atSet (B2 := B + 1) (j := k + 1) (by omega) (by omega)
      refine ⟨_, rfl, Nat.zero_le _, fun q3 hq3 => ?_⟩
      have M4 := M3.garbage (o := .lst []) hq3
      refine eqv_ne M4.hc upd_same ⟨_, rfl, ?_⟩
      cases cs with
      | nil => exact iteF (fin _ _ _ _ _ ⟨_, _, _, _, _, M4⟩ (by omega) (by omega))
      | cons z zs =>
        refine iteT ?_
        have hlen : (0 : Int) < (((z :: zs).map V.int).length : Int) := by
          simp only [List.length_map, List.length_cons]
          omega
        refine ⟨_, rfl, _, rfl, _, rfl, _, _, rfl, rfl, .inl (by constructor <;> omega), _, rfl, _, _, rfl, rfl, (by constructor <;> decide), _, _, rfl, rfl, .inl ⟨_, rfl, ?_⟩⟩
        refine ⟨_, rfl, c, _, rfl, .inl (SqL.of M4.hc), _, _, rfl, rfl, hlen, ?_⟩
        obtain ⟨x, hx⟩ : ∃ x : Int, atI ((z :: zs).map V.int) (((k + 1) * (k + 1) + (k + 1) / 2) % (((z :: zs).map V.int).length : Int)) = some (.int x) := by
          have h0 := Int.emod_nonneg ((k + 1) * (k + 1) + (k + 1) / 2) (show (((z :: zs).map V.int).length : Int) ≠ 0 by omega)
          have h1 := Int.emod_lt_of_pos ((k + 1) * (k + 1) + (k + 1) / 2) hlen
          generalize ((k + 1) * (k + 1) + (k + 1) / 2) % (((z :: zs).map V.int).length : Int) = i at h0 h1
          obtain ⟨j, rfl⟩ := Int.eq_ofNat_of_zero_le h0
          have hj : j < (z :: zs).length := by
            rw [List.length_map] at h1
            omega
          exact ⟨(z :: zs)[j], atI_nat (by rw [List.getElem?_map, List.getElem?_eq_getElem hj]; rfl)⟩
        refine ⟨c, _, _, _, rfl, rfl, SqL.of M4.hc, hx, .inl ⟨_, rfl, ?_⟩⟩
        exact fin _ _ _ _ _ ⟨_, _, _, _, _, M4⟩ (by omega) (by omega)
  refine ⟨_, pss_cons (ps_while PassesOwn.never (PW.pt (pw_and (pt_cmpR (op_neD hr.units) (pe_dget (hu_of hr) (pv 0) pe_str (fun _ _ => rfl)) (pe_lst pa_nil) (nomark _)) (pw_and1 (pt_cmpR op_eq (pe_ix ix_list (pe_dget (hu_of hr) (pv 0) pe_str (fun _ _ => rfl)) pe_int (fun _ _ => rfl)) pe_int (nomark _))))) (pss_one (ps_dput (hu_of hr) (pv 0) pe_str (pe_slice sl_list (pe_dget (hu_of hr) (pv 0) pe_str (fun _ _ => rfl)) (po_some pe_int) po_none) rfl))) d1, ?_⟩
  refine ⟨fun m σ H1 => σ = [some (.ref p), some (.int many), none, none, none, none, none] ∧ ∃ c l cs ls k, MAt G H1 p B c l cs ls k ∧ m = ls.length, ⟨_, rfl, c, l, cs, ls, k, M, rfl⟩, ?_⟩
  clear M c l cs ls k
  rintro m σ H1 ⟨rfl, c, l, cs, ls, k, M, rfl⟩
  refine ⟨_, rfl, p, _, rfl, M.getLeft, Nat.zero_le _, fun q hq => ?_⟩
  have M2 := M.garbage (o := .lst []) hq
  refine eqv_ne M2.hl upd_same ⟨_, rfl, ?_⟩
  cases ls with
  | nil =>
    refine iteF ?_
    exact rest _ ⟨_, _, _, _, _, M2⟩
  | cons n r =>
    refine iteT ?_
    refine ⟨_, rfl, p, _, rfl, M2.getLeft, l, _, 0, _, rfl, rfl, SqL.of M2.hl, atI_nat (j := 0) rfl, rfl, _, rfl, ?_⟩
    refine ite2 (fun _ => ?_) (fun _ => rest _ ⟨_, _, _, _, _, M2⟩)
    refine ⟨fun σ H1 => σ = [some (.ref p), some (.int many), none, none, none, none, none] ∧ ∃ c l cs k, MAt G H1 p B c l cs r k, fun σ H1 ⟨e, c, l, cs, k, M⟩ => ⟨_, by simp, e, c, l, cs, r, k, M, rfl⟩, ?_⟩
    refine ⟨_, rfl, p, _, rfl, M2.getLeft, 1, rfl, l, _, rfl, SqL.of M2.hl, fun q3 hq3 => ?_⟩
    rw [cut_one]
    have hl1 := M2.ln
    rw [List.length_cons] at hl1
    exact ⟨_, rfl, p, _, rfl, DPut.k (k := kLeft) (M2.garbage hq3).hp (by show 3 < sizeLine; decide), rfl, c, q3, cs, k, M2.leftNew hq3 (by omega)⟩
theorem scBegun : FnScope ["script", "cell"] ["script"] (defScope sBegun) := ⟨rfl, rfl, rfl, by decide +kernel, rfl, by decide +kernel, by decide +kernel⟩
theorem ok_begun {f : Addr} {fd : FuncData} (F : Fun K "_law_begun" "_law_begun" sBegun f fd) (T : Blt mg) : FnOk P w K mg base CX0 1 f fd ["script"] (spBegun K) := by
  refine F.ok scBegun (fun vs H Q E h => ?_) (fun cdv A outer s H vs Q E hr h => ?_)
  · obtain ⟨a, ns, rfl, _⟩ := h
    rfl
  obtain ⟨a, ns, rfl, hS, hl, go⟩ := h
  refine ⟨_, pss_one (ps_ret (pe_disp (pps_cons pe_str (pe_callTy call_list_of (by rfl) T.list (by decide +kernel) (pa_cons (pv 0) pa_nil))
    (pps_cons pe_str (pe_lc (own := [("cell", 1)]) (g := gName 1) (by rfl) scBegun.nd (pi_list (pv 0)) (blkOk_by (own := [("cell", 1)]) (N := ["script", "cell"]) (sc := defScope sBegun) (by decide +kernel)) (fun _ _ _ _ _ => pg_name (i := 1) scBegun.nd rfl (Or.inl rfl))
        (fun _ _ _ _ _ => pts_one (pt_cmpR op_ge (pv 1) (pe_op op_pow pe_int pe_int) (nomark _))) (fun _ _ _ _ _ => pv 1))
    (pps_cons pe_str pe_int pps_nil))) (by rfl) (by rfl) (fun z => by cases z) (by decide))), ?_⟩
  intro p hp
  have S0 : Same H (upd H p (.dK [])) := same_upd hp
  refine ⟨_, rfl, a, _, rfl, .inl (S0.seq hS), fun c hc => ?_⟩
  have S1 : Same H (upd (upd H p (.dK [])) c (.lst (ns.map V.int))) := same_new S0 hc
  refine ⟨_, rfl, a, rfl, ⟨_, S1.seq hS⟩, fun D hD => ?_⟩
  have S2 : ∀ o, Same H (upd (upd (upd H p (.dK [])) c (.lst (ns.map V.int))) D o) := fun o => same_new S1 hD
  refine lc_list (K := K) (a := a) (xs := ns.map V.int) (fun i H2 => ∃ ls : List Int, H2 = upd (upd (upd H p (.dK [])) c (.lst (ns.map V.int))) D (.lst (ls.map V.int)) ∧ ls.length ≤ i) ⟨[], rfl, Nat.zero_le _⟩ (fun i H2 _ ⟨ls, e, _⟩ => ?_) ?_ ?_
  · rw [e]
    exact (S2 _).seq hS
  · rintro i x H2 hx ⟨ls, rfl, hls⟩
    have hi : i < ns.length := by
      have q := (List.getElem?_eq_some_iff.mp hx).1
      rw [List.length_map] at q
      exact q
    obtain ⟨n, rfl⟩ : ∃ n, x = V.int n := by
      rw [List.getElem?_map] at hx
      cases e : ns[i]? with
      | none =>
        rw [e] at hx
        cases hx
      | some n =>
        rw [e] at hx
        exact ⟨n, (Option.some.inj hx).symm⟩
    refine ⟨rfl, _, rfl, _, _, rfl, rfl, ⟨by decide, by decide, by decide⟩, _, _, rfl, rfl, _, rfl, ?_⟩
    refine ite2 (fun _ => ?_) (fun _ => ⟨ls, rfl, by omega⟩)
    refine ⟨_, rfl, ls.map V.int, upd_same, ?_, ls ++ [n], ?_, ?_⟩
    · rw [List.length_map]
      exact small1000 (by omega)
    · rw [upd_upd, List.map_append]
      rfl
    · rw [List.length_append, List.length_singleton]
      omega
  · rintro H2 ⟨ls, rfl, hls⟩
    rw [List.length_map] at hls
    have pc : p ≠ c := ne_of_none upd_same hc
    have pD : p ≠ D := ne_of_none (H := upd (upd H p (.dK [])) c (.lst (ns.map V.int))) (by rw [upd_ne pc]; exact upd_same) hD
    have cD : c ≠ D := ne_of_none upd_same hD
    have h1 : upd (upd (upd H p (.dK [])) c (.lst (ns.map V.int))) D (.lst (ls.map V.int)) p = some (.dK []) := by
      rw [upd_ne pD, upd_ne pc, upd_same]
    refine ⟨h1, [(kCells, .ref c), (kLeft, .ref D), (kAt, .int 0)], rfl, (by show 3 ≤ 15; decide), ?_⟩
    have mk : mergeK [] [(kCells, V.ref c), (kLeft, V.ref D), (kAt, V.int 0)] = mD c D 0 := by
      have n1 : valV [(kCells, V.ref c)] kLeft = none := (valV_neg (p := (kCells, V.ref c)) cl_ne).trans rfl
      have n2 : valV [(kCells, V.ref c), (kLeft, V.ref D)] kAt = none := (valV_neg (p := (kCells, V.ref c)) ca_ne).trans ((valV_neg (p := (kLeft, V.ref D)) la_ne).trans rfl)
      show putK (putK (putK [] kCells (V.ref c)) kLeft (V.ref D)) kAt (V.int 0) = mD c D 0
      rw [show putK [] kCells (V.ref c) = [(kCells, V.ref c)] from rfl, putK_new _ n1]
      show putK [(kCells, V.ref c), (kLeft, V.ref D)] kAt (V.int 0) = mD c D 0
      rw [putK_new _ n2]
      rfl
    rw [mk]
    refine go _ p ⟨c, D, ns, ls, 0, ?_⟩
    have Dn : H D = none := S1.free hD
    have pn : p ≠ c := pc
    exact { hp := upd_same
            hl := by rw [upd_ne pD.symm, upd_same]
            hc := by rw [upd_ne pc.symm, upd_ne cD, upd_same]
            gp := hp
            gl := Dn
            lc := cD.symm
            same := same_off (S2 _) hp
            k0 := Int.le_refl _
            kB := Int.le_refl _
            ln := by omega
            cn := by omega }
def goodD (d : PyData) : Prop := d.showable = true ∧ d.shown.length ≤ 1000 ∧ d.depth ≤ 5
theorem good_non : goodD .none := ⟨by simp [PyData.showable], by simp only [PyData.shown]; decide +kernel, by simp [PyData.depth]⟩
theorem good_tr : goodD (.bool true) := ⟨by simp [PyData.showable], by simp only [PyData.shown]; decide +kernel, by simp [PyData.depth]⟩
theorem good_0 : goodD (.int 0) := ⟨by simp only [PyData.showable]; decide +kernel, by simp only [PyData.shown]; decide +kernel, by simp [PyData.depth]⟩
theorem good_5 : goodD (.int 5) := ⟨by simp only [PyData.showable]; decide +kernel, by simp only [PyData.shown]; decide +kernel, by simp [PyData.depth]⟩
theorem good_m : goodD (.int (-1)) := ⟨by simp only [PyData.showable]; decide +kernel, by simp only [PyData.shown]; decide +kernel, by simp [PyData.depth]⟩
theorem good_g : goodD (.int (10 ^ 30)) := ⟨by simp only [PyData.showable]; decide +kernel, by simp only [PyData.shown]; decide +kernel, by simp [PyData.depth]⟩
theorem good_a : goodD (.str "a") := ⟨by simp only [PyData.showable], by simp only [PyData.shown]; decide +kernel, by simp [PyData.depth]⟩
theorem good_e : goodD (.str "") := ⟨by simp only [PyData.showable], by simp only [PyData.shown]; decide +kernel, by simp [PyData.depth]⟩
theorem good_t0 : goodD (.tuple []) := ⟨by simp only [PyData.showable, PyData.showableAll], by simp only [PyData.shown, PyData.shownAll]; decide +kernel, by simp [PyData.depth, PyData.depthAll]⟩
theorem good_t2 : goodD (.tuple [.int 1, .int 2]) := ⟨by simp only [PyData.showable, PyData.showableAll]; decide +kernel, by simp only [PyData.shown, PyData.shownAll]; decide +kernel, by simp [PyData.depth, PyData.depthAll]⟩
theorem good_l : goodD (.list []) := ⟨by simp only [PyData.showable, PyData.showableAll], by simp only [PyData.shown, PyData.shownAll]; decide +kernel, by simp [PyData.depth, PyData.depthAll]⟩
theorem good_d : goodD (.dict []) := ⟨by simp only [PyData.showable, PyData.showableKv], by simp only [PyData.shown, PyData.shownKv]; decide +kernel, by simp [PyData.depth, PyData.depthKv]⟩
/-- a drawn value: some data, new objects -/
def spValue (K : PySem.W.Frag) : Sp := fun vs H Q _ => ∃ (G : Hp) (p : Addr) (B : Int), vs = [.ref p] ∧ MOk G H p B ∧ B < 1000000000 ∧
  ∀ (G2 H2 : Hp) (x : V) (d : PyData), MOk G2 H2 p (B + 1) → Same G G2 → Dr K G2 x d → goodD d → Q x H2
theorem scValue : FnScope ["m"] ["m"] (defScope sValue) := ⟨rfl, rfl, rfl, by decide +kernel, rfl, by decide +kernel, by decide +kernel⟩
theorem ok_value {f fN : Addr} {fd fdN : FuncData} (F : Fun K "_law_value" "_law_value" sValue f fd)
    (FN : FnOk P w K mg base CX0 1 fN fdN ["m", "many"] spNext) (gN : mg "_law_next" = some (.ref fN)) (kN : PySem.W.keepIn K (.ref fN) = true) (bN : Binds K fdN ["m", "many"] []) : FnOk P w K mg base CX0 2 f fd ["m"] (spValue K) := by
  refine F.ok scValue (fun vs H Q E h => ?_) (fun cdv A outer s H vs Q E hr h => ?_)
  · obtain ⟨G, p, B, rfl, _⟩ := h
    rfl
  obtain ⟨G, p, B, rfl, M, hB, go⟩ := h
  refine ⟨_, pss_one (ps_ret (pe_ix ix_list (pe_lst (pa_cons pe_non (pa_cons pe_int (pa_cons pe_int (pa_cons (pe_un un_neg pe_int) (pa_cons pe_str (pa_cons pe_str (pa_cons (pe_tup pa_nil) (pa_cons (pe_tup (pa_cons pe_int (pa_cons pe_int pa_nil)))
      (pa_cons (pe_lst pa_nil) (pa_cons pe_dnewK (pa_cons pe_bl (pa_cons (pe_op op_pow pe_int pe_int) pa_nil)))))))))))))
    (pe_call FN hr (by rfl) gN kN bN .nil pass0 (pa_cons (pv 0) (pa_cons pe_int pa_nil))) (fun _ _ => rfl))), ?_⟩
  refine ⟨_, rfl, Nat.zero_le _, fun t0 h0 => ?_⟩
  have M0 := M.new (o := .tup []) h0
  refine ⟨(by show 2 ≤ sizeLine; decide), fun t1 h1 => ?_⟩
  have M1 := M0.new (o := .tup [.int 1, .int 2]) h1
  refine ⟨Nat.zero_le _, fun l hl => ?_⟩
  have M2 := M1.new (o := .lst []) hl
  intro dd hd
  have M3 := M2.new (o := .dK []) hd
  refine ⟨_, _, rfl, rfl, ⟨by decide, by decide, by decide⟩, (by show 12 ≤ sizeLine; decide), fun L hL => ?_⟩
  have M4 := M3.new (o := .lst [.non, .int 0, .int 5, .int (-1), .str "a", .str "", .ref t0, .ref t1, .ref l, .ref dd, .bl true, .int (10 ^ 30)]) hL
  have s0 : Same G (upd G t0 (.tup [])) := same_upd (M.same.free h0)
  have s1 := same_upd (o := .tup [.int 1, .int 2]) (M0.same.free h1)
  have s2 := same_upd (o := .lst []) (M1.same.free hl)
  have s3 := same_upd (o := .dK []) (M2.same.free hd)
  have s4 := same_upd (o := .lst [.non, .int 0, .int 5, .int (-1), .str "a", .str "", .ref t0, .ref t1, .ref l, .ref dd, .bl true, .int (10 ^ 30)]) (M3.same.free hL)
  obtain ⟨G5, M5, s5, at5, all⟩ : ∃ G5, MOk G5 _ p B ∧ Same G G5 ∧ G5 L = some (.lst [.non, .int 0, .int 5, .int (-1), .str "a", .str "", .ref t0, .ref t1, .ref l, .ref dd, .bl true, .int (10 ^ 30)]) ∧ ∀ v ∈ ([.non, .int 0, .int 5, .int (-1), .str "a", .str "", .ref t0, .ref t1, .ref l, .ref dd, .bl true, .int (10 ^ 30)] : List V), ∃ d, Dr K G5 v d ∧ goodD d := by
    refine ⟨_, M4, (((s0.trans s1).trans s2).trans s3).trans s4, upd_same, ?_⟩
    have e0 := s4 _ _ (s3 _ _ (s2 _ _ (s1 _ _ (upd_same (H := G) (a := t0) (o := .tup [])))))
    have e1 := s4 _ _ (s3 _ _ (s2 _ _ (upd_same (H := upd G t0 (.tup [])) (a := t1) (o := .tup [.int 1, .int 2]))))
    have e2 := s4 _ _ (s3 _ _ (upd_same (H := upd (upd G t0 (.tup [])) t1 (.tup [.int 1, .int 2])) (a := l) (o := .lst [])))
    have e3 := s4 _ _ (upd_same (H := upd (upd (upd G t0 (.tup [])) t1 (.tup [.int 1, .int 2])) l (.lst [])) (a := dd) (o := .dK []))
    intro v hv
    simp only [List.mem_cons, List.not_mem_nil, or_false] at hv
    rcases hv with rfl | rfl | rfl | rfl | rfl | rfl | rfl | rfl | rfl | rfl | rfl | rfl
    · exact ⟨_, .non, good_non⟩
    · exact ⟨_, .int _, good_0⟩
    · exact ⟨_, .int _, good_5⟩
    · exact ⟨_, .int _, good_m⟩
    · exact ⟨_, .str _, good_a⟩
    · exact ⟨_, .str _, good_e⟩
    · exact ⟨_, .tup (.inl e0) (by simp [PyData.hasDictAll]) .nil, good_t0⟩
    · exact ⟨_, .tup (.inl e1) (by simp [PyData.hasDictAll, PyData.hasDict]) (.cons (.int _) (.cons (.int _) .nil)), good_t2⟩
    · exact ⟨_, .lst (.inl e2) (by simp [PyData.hasDictAll]) .nil, good_l⟩
    · exact ⟨_, .dic e3, good_d⟩
    · exact ⟨_, .bl _, good_tr⟩
    · exact ⟨_, .int _, good_g⟩
  refine ⟨_, rfl, G5, p, 12, B, rfl, M5, by decide, by decide, hB, fun H2 r N r0 r1 => ?_⟩
  obtain ⟨j, rfl⟩ := Int.eq_ofNat_of_zero_le r0
  have hj : j < 12 := by omega
  obtain ⟨v, hv, hm⟩ : ∃ v, ([.non, .int 0, .int 5, .int (-1), .str "a", .str "", .ref t0, .ref t1, .ref l, .ref dd, .bl true, .int (10 ^ 30)] : List V)[j]? = some v ∧ v ∈ ([.non, .int 0, .int 5, .int (-1), .str "a", .str "", .ref t0, .ref t1, .ref l, .ref dd, .bl true, .int (10 ^ 30)] : List V) := by
    have z : j < ([.non, .int 0, .int 5, .int (-1), .str "a", .str "", .ref t0, .ref t1, .ref l, .ref dd, .bl true, .int (10 ^ 30)] : List V).length := hj
    exact ⟨_, List.getElem?_eq_getElem z, List.getElem_mem z⟩
  obtain ⟨d, hd1, hd2⟩ := all v hm
  refine ⟨L, _, _, v, rfl, rfl, SqL.of (N.same _ _ at5), atI_nat hv, ?_⟩
  exact go _ _ _ d N s5 hd1 hd2
def spKinds (K : PySem.W.Frag) (cs : Nat → Addr) : Sp := fun vs H Q _ => ∃ (a : Addr) (j : Nat) (d : PyData), vs = [.ref a] ∧ j < 11 ∧ MadeX K H a (cs j) (fl j) d ∧
  ∀ (H2 : Hp) (p : Addr), Same H H2 → H2 p = some (.lst ((List.range 11).map fun i => V.bl (decide (i = j)))) → Q (.ref p) H2
theorem scKinds : FnScope ["one", "found"] ["one"] (defScope sKinds) := ⟨rfl, rfl, rfl, by decide +kernel, rfl, by decide +kernel, by decide +kernel⟩
theorem ok_kinds {f D : Addr} {cs : Nat → Addr} {fd : FuncData} (F : Fun K "_law_kinds" "_law_kinds" sKinds f fd) (T : Blt mg) (T2 : Errs K mg D cs) : FnOk P w K mg base CX0 1 f fd ["one"] (spKinds K cs) := by
  refine F.ok scKinds (fun vs H Q E h => ?_) (fun cdv A outer s H vs Q E hr h => ?_)
  · obtain ⟨a, j, d, rfl, _⟩ := h
    rfl
  obtain ⟨a, j, d, rfl, hj, ⟨dx, y, h1, h2, hy⟩, go⟩ := h
  obtain ⟨B, newId, initId, bmB, ec, _⟩ := T2.e j hj
  refine ⟨_, pss_cons (ps_set (i := 1) scKinds.nd rfl (Or.inl rfl) (pe_lst (pa_cons (pe_callB (call_isX T2.S) (by rfl) T.isinstance (by decide +kernel) (pa_cons (pv 0) (pa_cons (pe_glob (v := .ref (cs 0)) (by rfl) T2.g0 rfl) pa_nil))) (pa_cons (pe_callB (call_isX T2.S) (by rfl) T.isinstance (by decide +kernel) (pa_cons (pv 0) (pa_cons (pe_glob (v := .ref (cs 1)) (by rfl) T2.g1 rfl) pa_nil))) (pa_cons (pe_callB (call_isX T2.S) (by rfl) T.isinstance (by decide +kernel) (pa_cons (pv 0) (pa_cons (pe_glob (v := .ref (cs 2)) (by rfl) T2.g2 rfl) pa_nil))) (pa_cons (pe_callB (call_isX T2.S) (by rfl) T.isinstance (by decide +kernel) (pa_cons (pv 0) (pa_cons (pe_glob (v := .ref (cs 3)) (by rfl) T2.g3 rfl) pa_nil))) pa_nil))))))
    (pss_cons (ps_set (i := 1) scKinds.nd rfl (Or.inl rfl) (pe_op op_cat (pv 1) (pe_lst (pa_cons (pe_callB (call_isX T2.S) (by rfl) T.isinstance (by decide +kernel) (pa_cons (pv 0) (pa_cons (pe_glob (v := .ref (cs 4)) (by rfl) T2.g4 rfl) pa_nil))) (pa_cons (pe_callB (call_isX T2.S) (by rfl) T.isinstance (by decide +kernel) (pa_cons (pv 0) (pa_cons (pe_glob (v := .ref (cs 5)) (by rfl) T2.g5 rfl) pa_nil))) (pa_cons (pe_callB (call_isX T2.S) (by rfl) T.isinstance (by decide +kernel) (pa_cons (pv 0) (pa_cons (pe_glob (v := .ref (cs 6)) (by rfl) T2.g6 rfl) pa_nil))) pa_nil))))))
    (pss_cons (ps_set (i := 1) scKinds.nd rfl (Or.inl rfl) (pe_op op_cat (pv 1) (pe_lst (pa_cons (pe_callB (call_isX T2.S) (by rfl) T.isinstance (by decide +kernel) (pa_cons (pv 0) (pa_cons (pe_glob (v := .ref (cs 7)) (by rfl) T2.g7 rfl) pa_nil))) (pa_cons (pe_callB (call_isX T2.S) (by rfl) T.isinstance (by decide +kernel) (pa_cons (pv 0) (pa_cons (pe_glob (v := .ref (cs 8)) (by rfl) T2.g8 rfl) pa_nil))) pa_nil)))))
    (pss_one (ps_ret (pe_op op_cat (pv 1) (pe_lst (pa_cons (pe_callB (call_isX T2.S) (by rfl) T.isinstance (by decide +kernel) (pa_cons (pv 0) (pa_cons (pe_glob (v := .ref (cs 9)) (by rfl) T2.g9 rfl) pa_nil))) (pa_cons (pe_callB (call_isX T2.S) (by rfl) T.isinstance (by decide +kernel) (pa_cons (pv 0) (pa_cons (pe_glob (v := .ref (cs 10)) (by rfl) T2.g10 rfl) pa_nil))) pa_nil)))))))), ?_⟩
  refine ⟨_, rfl, a, _, dx, _, _, _, _, _, _, _, rfl, ec, h1, ⟨_, h2⟩, .own _, T2.ask 0 j (by decide) hj, _, rfl, a, _, dx, _, _, _, _, _, _, _, rfl, ec, h1, ⟨_, h2⟩, .own _, T2.ask 1 j (by decide) hj, _, rfl, a, _, dx, _, _, _, _, _, _, _, rfl, ec, h1, ⟨_, h2⟩, .own _, T2.ask 2 j (by decide) hj, _, rfl, a, _, dx, _, _, _, _, _, _, _, rfl, ec, h1, ⟨_, h2⟩, .own _, T2.ask 3 j (by decide) hj, (by show 4 ≤ sizeLine; decide), fun p1 hp1 => ?_⟩
  obtain ⟨H1, e1⟩ : ∃ H1, H1 = upd H p1 (.lst [V.bl (decide (0 = j)), V.bl (decide (1 = j)), V.bl (decide (2 = j)), V.bl (decide (3 = j))]) := ⟨_, rfl⟩
  have s1 : Same H H1 := by rw [e1]; exact same_upd hp1
  have at1 : H1 p1 = some (.lst [V.bl (decide (0 = j)), V.bl (decide (1 = j)), V.bl (decide (2 = j)), V.bl (decide (3 = j))]) := by rw [e1]; exact upd_same
  rw [← e1]
  clear e1
  refine ⟨_, rfl, _, rfl, a, _, dx, _, _, _, _, _, _, _, rfl, ec, s1 _ _ h1, ⟨_, s1 _ _ h2⟩, .own _, T2.ask 4 j (by decide) hj, _, rfl, a, _, dx, _, _, _, _, _, _, _, rfl, ec, s1 _ _ h1, ⟨_, s1 _ _ h2⟩, .own _, T2.ask 5 j (by decide) hj, _, rfl, a, _, dx, _, _, _, _, _, _, _, rfl, ec, s1 _ _ h1, ⟨_, s1 _ _ h2⟩, .own _, T2.ask 6 j (by decide) hj, (by show 3 ≤ sizeLine; decide), fun q2 hq2 => ?_⟩
  have s2 := s1.trans (same_upd (o := .lst [V.bl (decide (4 = j)), V.bl (decide (5 = j)), V.bl (decide (6 = j))]) hq2)
  refine ⟨p1, q2, _, _, rfl, rfl, same_upd hq2 _ _ at1, upd_same, (by show 7 ≤ sizeLine; decide), fun p2 hp2 => ?_⟩
  have s3 := s2.trans (same_upd (o := .lst [V.bl (decide (0 = j)), V.bl (decide (1 = j)), V.bl (decide (2 = j)), V.bl (decide (3 = j)), V.bl (decide (4 = j)), V.bl (decide (5 = j)), V.bl (decide (6 = j))]) hp2)
  refine ⟨_, rfl, _, rfl, a, _, dx, _, _, _, _, _, _, _, rfl, ec, s3 _ _ h1, ⟨_, s3 _ _ h2⟩, .own _, T2.ask 7 j (by decide) hj, _, rfl, a, _, dx, _, _, _, _, _, _, _, rfl, ec, s3 _ _ h1, ⟨_, s3 _ _ h2⟩, .own _, T2.ask 8 j (by decide) hj, (by show 2 ≤ sizeLine; decide), fun q3 hq3 => ?_⟩
  have s4 := s3.trans (same_upd (o := .lst [V.bl (decide (7 = j)), V.bl (decide (8 = j))]) hq3)
  refine ⟨p2, q3, _, _, rfl, rfl, same_upd hq3 _ _ upd_same, upd_same, (by show 9 ≤ sizeLine; decide), fun p3 hp3 => ?_⟩
  have s5 := s4.trans (same_upd (o := .lst [V.bl (decide (0 = j)), V.bl (decide (1 = j)), V.bl (decide (2 = j)), V.bl (decide (3 = j)), V.bl (decide (4 = j)), V.bl (decide (5 = j)), V.bl (decide (6 = j)), V.bl (decide (7 = j)), V.bl (decide (8 = j))]) hp3)
  refine ⟨_, rfl, _, rfl, a, _, dx, _, _, _, _, _, _, _, rfl, ec, s5 _ _ h1, ⟨_, s5 _ _ h2⟩, .own _, T2.ask 9 j (by decide) hj, _, rfl, a, _, dx, _, _, _, _, _, _, _, rfl, ec, s5 _ _ h1, ⟨_, s5 _ _ h2⟩, .own _, T2.ask 10 j (by decide) hj, (by show 2 ≤ sizeLine; decide), fun q4 hq4 => ?_⟩
  have s6 := s5.trans (same_upd (o := .lst [V.bl (decide (9 = j)), V.bl (decide (10 = j))]) hq4)
  refine ⟨p3, q4, _, _, rfl, rfl, same_upd hq4 _ _ upd_same, upd_same, (by show 11 ≤ sizeLine; decide), fun p4 hp4 => ?_⟩
  exact go _ p4 (s6.trans (same_upd hp4)) upd_same
theorem any3 {D : Addr} {cs : Nat → Addr} (T2 : Errs K mg D cs) {j : Nat} (hj : j < 11) : PySem.W.kitAny K (.ref (cs j)) [.ref (cs 2), .ref (cs 3), .ref (cs 7)] = some (decide (j = 2 ∨ j = 3 ∨ j = 7)) := by
  unfold PySem.W.kitAny PySem.W.kitAny PySem.W.kitAny PySem.W.kitAny
  rw [T2.ask 2 j (by decide) hj, T2.ask 3 j (by decide) hj, T2.ask 7 j (by decide) hj]
  rcases j with _ | _ | _ | _ | _ | _ | _ | _ | _ | _ | _ | j <;> first | rfl | omega
theorem any4 {D : Addr} {cs : Nat → Addr} (T2 : Errs K mg D cs) {j : Nat} (hj : j < 11) : PySem.W.kitAny K (.ref (cs j)) [.ref (cs 0), .ref (cs 1), .ref (cs 4), .ref (cs 5)] = some (decide (j = 0 ∨ j = 1 ∨ j = 4 ∨ j = 5)) := by
  unfold PySem.W.kitAny PySem.W.kitAny PySem.W.kitAny PySem.W.kitAny PySem.W.kitAny
  rw [T2.ask 0 j (by decide) hj, T2.ask 1 j (by decide) hj, T2.ask 4 j (by decide) hj, T2.ask 5 j (by decide) hj]
  rcases j with _ | _ | _ | _ | _ | _ | _ | _ | _ | _ | _ | j <;> first | rfl | omega
theorem get_ok {C a dx : Addr} {B newId initId : String} {bmB : List Value} {fld f : Str} {y : V} {H : Hp} {σ : L2.St} {Q : VK} (ec : ErrC K C B newId initId bmB) (no : PySem.W.findIn K (.ref C) fld = some none) (h1 : H a = some (exo a C (some dx))) (h2 : H dx = some (exd dx [(fld, y)]))
    (hf : fld = f) (q : Q y H) : tGet K f (tVar 0) (some (.ref a) :: σ) H Q := by
  subst hf
  exact ⟨_, rfl, a, C, dx, _, _, _, _, _, y, rfl, ec, no, h1, h2, by simp [List.lookup], q⟩
def spField (K : PySem.W.Frag) (cs : Nat → Addr) : Sp := fun vs H Q _ => ∃ (a : Addr) (j : Nat) (d : PyData), vs = [.ref a] ∧ j < 11 ∧ MadeX K H a (cs j) (fl j) d ∧ ∀ (H2 : Hp) (y : V), Same H H2 → Dr K H2 y d → Q y H2
theorem scField : FnScope ["one"] ["one"] (defScope sField) := ⟨rfl, rfl, rfl, by decide +kernel, rfl, by decide +kernel, by decide +kernel⟩
theorem ok_field {f D : Addr} {cs : Nat → Addr} {fd : FuncData} (F : Fun K "_law_field" "_law_field" sField f fd) (T : Blt mg) (T2 : Errs K mg D cs) : FnOk P w K mg base CX0 1 f fd ["one"] (spField K cs) := by
  refine F.ok scField (fun vs H Q E h => ?_) (fun cdv A outer s H vs Q E hr h => ?_)
  · obtain ⟨a, j, d, rfl, _⟩ := h
    rfl
  obtain ⟨a, j, d, rfl, hj, ⟨dx, y, h1, h2, hy⟩, go⟩ := h
  obtain ⟨B, newId, initId, bmB, ec, no⟩ := T2.e j hj
  refine ⟨_, pss_cons (ps_if (pt_val (pe_callB (call_isXT T2.S) (by rfl) T.isinstance (by decide +kernel) (pa_cons (pv 0) (pa_cons (pe_tup (pa_cons (pe_glob (v := .ref (cs 2)) (by rfl) T2.g2 rfl) (pa_cons (pe_glob (v := .ref (cs 3)) (by rfl) T2.g3 rfl) (pa_cons (pe_glob (v := .ref (cs 7)) (by rfl) T2.g7 rfl) pa_nil)))) pa_nil)))) (pss_one (ps_ret (pe_get (pv 0)))) pss_nil)
    (pss_cons (ps_if (pt_val (pe_callB (call_isXT T2.S) (by rfl) T.isinstance (by decide +kernel) (pa_cons (pv 0) (pa_cons (pe_tup (pa_cons (pe_glob (v := .ref (cs 0)) (by rfl) T2.g0 rfl) (pa_cons (pe_glob (v := .ref (cs 1)) (by rfl) T2.g1 rfl) (pa_cons (pe_glob (v := .ref (cs 4)) (by rfl) T2.g4 rfl) (pa_cons (pe_glob (v := .ref (cs 5)) (by rfl) T2.g5 rfl) pa_nil))))) pa_nil)))) (pss_one (ps_ret (pe_get (pv 0)))) pss_nil)
    (pss_cons (ps_if (pt_val (pe_callB (call_isX T2.S) (by rfl) T.isinstance (by decide +kernel) (pa_cons (pv 0) (pa_cons (pe_glob (v := .ref (cs 6)) (by rfl) T2.g6 rfl) pa_nil)))) (pss_one (ps_ret (pe_get (pv 0)))) pss_nil)
    (pss_cons (ps_if (pt_val (pe_callB (call_isX T2.S) (by rfl) T.isinstance (by decide +kernel) (pa_cons (pv 0) (pa_cons (pe_glob (v := .ref (cs 8)) (by rfl) T2.g8 rfl) pa_nil)))) (pss_one (ps_ret (pe_get (pv 0)))) pss_nil)
    (pss_one (ps_ret (pe_ifExp (pt_val (pe_callB (call_isX T2.S) (by rfl) T.isinstance (by decide +kernel) (pa_cons (pv 0) (pa_cons (pe_glob (v := .ref (cs 9)) (by rfl) T2.g9 rfl) pa_nil)))) (pe_get (pv 0)) (pe_get (pv 0)))))))), ?_⟩
  refine ⟨_, rfl, (by show 3 ≤ sizeLine; decide), fun t1 ht1 => ?_⟩
  have s1 : Same H (upd H t1 (.tup [.ref (cs 2), .ref (cs 3), .ref (cs 7)])) := same_upd ht1
  refine ⟨a, _, dx, t1, _, _, _, _, _, _, _, rfl, ec, s1 _ _ h1, ⟨_, s1 _ _ h2⟩, upd_same, (.cons (.own _) (.cons (.own _) (.cons (.own _) .nil))), any3 T2 hj, _, rfl, ?_⟩
  by_cases c1 : j = 2 ∨ j = 3 ∨ j = 7
  · rw [decide_eq_true c1]
    refine iteT (get_ok ec no (s1 _ _ h1) (s1 _ _ h2) ?_ (go _ _ s1 (hy.same s1)))
    rcases c1 with rfl | rfl | rfl <;> rfl
  rw [decide_eq_false c1]
  refine iteF ?_
  refine ⟨_, rfl, (by show 4 ≤ sizeLine; decide), fun t2 ht2 => ?_⟩
  have s2 := s1.trans (same_upd (o := .tup [.ref (cs 0), .ref (cs 1), .ref (cs 4), .ref (cs 5)]) ht2)
  refine ⟨a, _, dx, t2, _, _, _, _, _, _, _, rfl, ec, s2 _ _ h1, ⟨_, s2 _ _ h2⟩, upd_same, (.cons (.own _) (.cons (.own _) (.cons (.own _) (.cons (.own _) .nil)))), any4 T2 hj, _, rfl, ?_⟩
  by_cases c2 : j = 0 ∨ j = 1 ∨ j = 4 ∨ j = 5
  · rw [decide_eq_true c2]
    refine iteT (get_ok ec no (s2 _ _ h1) (s2 _ _ h2) ?_ (go _ _ s2 (hy.same s2)))
    rcases c2 with rfl | rfl | rfl | rfl <;> rfl
  rw [decide_eq_false c2]
  refine iteF ?_
  refine ⟨_, rfl, a, _, dx, _, _, _, _, _, _, _, rfl, ec, s2 _ _ h1, ⟨_, s2 _ _ h2⟩, .own _, T2.ask 6 j (by decide) hj, _, rfl, ?_⟩
  by_cases c3 : 6 = j
  · rw [decide_eq_true c3]
    exact iteT (get_ok ec no (s2 _ _ h1) (s2 _ _ h2) (by rw [← c3]; rfl) (go _ _ s2 (hy.same s2)))
  rw [decide_eq_false c3]
  refine iteF ?_
  refine ⟨_, rfl, a, _, dx, _, _, _, _, _, _, _, rfl, ec, s2 _ _ h1, ⟨_, s2 _ _ h2⟩, .own _, T2.ask 8 j (by decide) hj, _, rfl, ?_⟩
  by_cases c4 : 8 = j
  · rw [decide_eq_true c4]
    exact iteT (get_ok ec no (s2 _ _ h1) (s2 _ _ h2) (by rw [← c4]; rfl) (go _ _ s2 (hy.same s2)))
  rw [decide_eq_false c4]
  refine iteF ?_
  refine ⟨_, rfl, a, _, dx, _, _, _, _, _, _, _, rfl, ec, s2 _ _ h1, ⟨_, s2 _ _ h2⟩, .own _, T2.ask 9 j (by decide) hj, _, rfl, ?_⟩
  by_cases c5 : 9 = j
  · rw [decide_eq_true c5]
    exact iteT (get_ok ec no (s2 _ _ h1) (s2 _ _ h2) (by rw [← c5]; rfl) (go _ _ s2 (hy.same s2)))
  rw [decide_eq_false c5]
  refine iteF (get_ok ec no (s2 _ _ h1) (s2 _ _ h2) ?_ (go _ _ s2 (hy.same s2)))
  have e : j = 10 := by omega
  rw [e]
  rfl
def forBody (s : Stmt) : List Stmt := match s with
  | .For _ _ b _ _ => b
  | _ => []
abbrev NL : List Str := ["script", "m", "turn", "q", "some", "far", "at", "one", "told", "k"]
theorem scLaw : FnScope NL ["script"] (defScope sLaw) := ⟨rfl, rfl, rfl, by decide +kernel, rfl, by decide +kernel, by decide +kernel⟩
abbrev sTurns : Stmt := (defBody sLaw).getD 1 (.Pass ⟨0, 0, 0, 0⟩)
abbrev sPairs : Stmt := (forBody sTurns).getD 6 (.Pass ⟨0, 0, 0, 0⟩)
theorem ite_no {v : V} {A B : Prop} (h : B) : if (!decide (v = v)) = true then A else B := by
  rw [decide_eq_true rfl]
  exact iteF h
theorem dec_nat {k i : Nat} : decide (V.int (0 + (k : Nat)) = V.int (i : Nat)) = decide (k = i) := by
  rw [decide_eq_decide]
  constructor
  · intro z
    have q := V.int.inj z
    omega
  · rintro rfl
    rw [Int.zero_add]
theorem dec_lt {i k : Nat} : decide (((i : Nat) : Int) < ((k : Nat) : Int)) = decide (i < k) := by
  rw [decide_eq_decide]
  omega
theorem dec_eq {i k : Nat} : decide (V.int (i : Nat) = V.int (k : Nat)) = decide (i = k) := by
  rw [decide_eq_decide]
  constructor
  · intro z
    have q := V.int.inj z
    omega
  · rintro rfl
    rfl
theorem dpAll_bls (H : Hp) : ∀ bs : List Bool, DpAll K H (bs.map V.bl) (bs.map PyData.bool)
  | [] => .nil
  | b :: bs => .cons (.bl b) (dpAll_bls H bs)
theorem lay_bls : ∀ bs : List Bool, PyData.canLayAll0 (bs.map PyData.bool) = true
  | [] => by simp [PyData.canLayAll0]
  | b :: bs => by simp [PyData.canLayAll0, PyData.canLay0, lay_bls bs]
theorem dep_bls : ∀ bs : List Bool, PyData.depthAll (bs.map PyData.bool) = 0
  | [] => by simp [PyData.depthAll]
  | b :: bs => by simp [PyData.depthAll, PyData.depth, dep_bls bs]
theorem eqv_bls : ∀ bs : List Bool, PyData.eqvAll (bs.map PyData.bool) (bs.map PyData.bool) = true
  | [] => by simp [PyData.eqvAll]
  | b :: bs => by simp [PyData.eqvAll, PyData.eqv, eqv_bls bs]
theorem eq_bls {H : Hp} {l r : Addr} {xs ys : List V} {bs : List Bool} {Q : VK} (hl : H l = some (.lst xs)) (hr : H r = some (.lst ys)) (ex : xs = bs.map V.bl) (ey : ys = bs.map V.bl) (h : Q (.bl false) H) : rNeD K (.ref l) (.ref r) H Q := by
  subst ex ey
  have sh : SeqAt.shaped (.list (bs.map PyData.bool)) = true := by
    unfold SeqAt.shaped
    simp [PyData.canLay0, lay_bls, PyData.depth, dep_bls]
  refine ⟨_, _, .lst (SqL.of hl) (dpAll_bls H bs), .lst (SqL.of hr) (dpAll_bls H bs), sh, sh, ?_⟩
  have e : PyData.eqv (.list (bs.map PyData.bool)) (.list (bs.map PyData.bool)) = true := by
    simp [PyData.eqv, eqv_bls]
  rw [e]
  exact h
/-- the inner loop, from a heap with both rows of eleven errors -/
theorem inner_ok {D : Addr} {cs : Nat → Addr} {fF fK f : Addr} {fdF fdK : FuncData} {cdv : Value} {A : Around} {outer : List Env} {s : Shared} {H : Hp} {E : XK} (T : Blt mg) (T2 : Errs K mg D cs)
    (FF : FnOk P w K mg base CX0 1 fF fdF ["one"] (spField K cs)) (gF : mg "_law_field" = some (.ref fF)) (kF : PySem.W.keepIn K (.ref fF) = true) (bF : Binds K fdF ["one"] [])
    (FK : FnOk P w K mg base CX0 1 fK fdK ["one"] (spKinds K cs)) (gK : mg "_law_kinds" = some (.ref fK)) (kK : PySem.W.keepIn K (.ref fK) = true) (bK : Binds K fdK ["one"] [])
    (hr : Room 3 (A.deeper (envOfC "law" (defScope sLaw) s.heap.objs.size f cdv))) (gd : (A.deeper (envOfC "law" (defScope sLaw) s.heap.objs.size f cdv)).guards = some []) :
    ∃ t, PS (cxOf CX0 P w K mg base NL "law" (defScope sLaw) f cdv A outer s H E).nox sPairs t ∧
      ∀ (En : Ends) (Hc : Hp) (a0 p S F : Addr) (as bs : List Addr) (x : V) (d : PyData) (tn v6 v7 v8 v9 : Option V), as.length = 11 → bs.length = 11 → Hc S = some (.lst (as.map V.ref)) → Hc F = some (.lst (bs.map V.ref)) →
        (∀ j a, as[j]? = some a → MadeX K Hc a (cs j) (fl j) d) → (∀ j a, bs[j]? = some a → MadeX K Hc a (cs j) (fl j) d) → Dr K Hc x d → goodD d →
        (∀ H2 w6 w7 w8 w9, Same Hc H2 → En.nx [some (.ref a0), some (.ref p), tn, some x, some (.ref S), some (.ref F), w6, w7, w8, w9] H2) → t En [some (.ref a0), some (.ref p), tn, some x, some (.ref S), some (.ref F), v6, v7, v8, v9] Hc := by
  have hr1 : Room 1 _ := hr.mono (by decide)
  refine ⟨_, (ps_for PassesOwn.never rfl (pi_enum (by rfl) T.enumerate (pa_cons (pv 4) pa_nil)) (pg_tup rfl (pgs_cons (pg_name (i := 6) scLaw.nd rfl (Or.inr rfl)) (pgs_cons (pg_name (i := 7) scLaw.nd rfl (Or.inl rfl)) pgs_nil)))
      (pss_cons (ps_if (PW.pt (pw_or (pt_cmpR op_ne (pe_callB (call_repr gd hr.units) (by rfl) T.repr (by decide +kernel) (pa_cons (pe_call FF hr1 (by rfl) gF kF bF .nil pass0 (pa_cons (pv 7) pa_nil)) pa_nil)) (pe_callB (call_repr gd hr.units) (by rfl) T.repr (by decide +kernel) (pa_cons (pv 3) pa_nil)) (nomark _)) (pw_or1 (pt_cmpR op_ne (pe_callB (call_repr gd hr.units) (by rfl) T.repr (by decide +kernel) (pa_cons (pe_call FF hr1 (by rfl) gF kF bF .nil pass0 (pa_cons (pe_ix ix_list (pv 5) (pv 6) (fun _ _ => rfl)) pa_nil)) pa_nil)) (pe_callB (call_repr gd hr.units) (by rfl) T.repr (by decide +kernel) (pa_cons (pv 3) pa_nil)) (nomark _))))) (pss_one (ps_ret pe_bl)) pss_nil)
      (pss_cons (ps_if (PW.pt (pw_or (pt_cmpR (op_neD hr.units) (pe_call FK hr1 (by rfl) gK kK bK .nil pass0 (pa_cons (pv 7) pa_nil)) (pe_lc (own := [("k", 9)]) (g := gName 9) (tt := tYes) (by rfl) scLaw.nd (pi_range1 (by rfl) T.range (pa_cons pe_int pa_nil)) (blkOk_by (own := [("k", 9)]) (N := NL) (sc := defScope sLaw) (by decide +kernel)) (fun _ _ _ _ _ => pg_name (i := 9) scLaw.nd rfl (Or.inl rfl)) (fun _ _ _ _ _ => pts_nil) (fun _ _ _ _ _ => pe_cmpR op_eq (pv 9) (pv 6) (nomark _))) (nomark _)) (pw_or1 (pt_cmpR (op_neD hr.units) (pe_call FK hr1 (by rfl) gK kK bK .nil pass0 (pa_cons (pe_ix ix_list (pv 5) (pv 6) (fun _ _ => rfl)) pa_nil)) (pe_call FK hr1 (by rfl) gK kK bK .nil pass0 (pa_cons (pv 7) pa_nil)) (nomark _))))) (pss_one (ps_ret pe_bl)) pss_nil)
      (pss_cons (ps_set (i := 8) scLaw.nd rfl (Or.inl rfl) (pe_lst (pa_cons (pe_callB (call_isX T2.S) (by rfl) T.isinstance (by decide +kernel) (pa_cons (pv 7) (pa_cons (pe_glob (v := .ref D) (by rfl) T2.gD rfl) pa_nil))) (pa_cons (pe_callB (call_isX T2.S) (by rfl) T.isinstance (by decide +kernel) (pa_cons (pv 7) (pa_cons (pe_bltn (v := .ty "ValueError") (by rfl) T.ve (by decide +kernel) rfl) pa_nil))) (pa_cons (pe_callB (call_isX T2.S) (by rfl) T.isinstance (by decide +kernel) (pa_cons (pv 7) (pa_cons (pe_bltn (v := .ty "LookupError") (by rfl) T.le (by decide +kernel) rfl) pa_nil))) pa_nil)))))
      (pss_cons (ps_set (i := 8) scLaw.nd rfl (Or.inl rfl) (pe_op op_cat (pv 8) (pe_lst (pa_cons (pe_callB (call_isX T2.S) (by rfl) T.isinstance (by decide +kernel) (pa_cons (pv 7) (pa_cons (pe_bltn (v := .ty "OverflowError") (by rfl) T.oe (by decide +kernel) rfl) pa_nil))) (pa_cons (pe_callB (call_isXT T2.S) (by rfl) T.isinstance (by decide +kernel) (pa_cons (pv 7) (pa_cons (pe_tup (pa_cons (pe_bltn (v := .ty "KeyError") (by rfl) T.ke (by decide +kernel) rfl) (pa_cons (pe_bltn (v := .ty "IndexError") (by rfl) T.ie (by decide +kernel) rfl) pa_nil))) pa_nil))) pa_nil)))))
      (pss_one (ps_if (pt_cmpR (op_neD hr.units) (pv 8) (pe_lst (pa_cons (pe_cmpR op_lt (pv 6) pe_int (nomark _)) (pa_cons (pe_cmpR op_lt (pv 6) pe_int (nomark _)) (pa_cons (pe_cmpR op_eq (pv 6) pe_int (nomark _)) (pa_cons (pe_cmpR op_eq (pv 6) pe_int (nomark _)) (pa_cons pe_bl pa_nil)))))) (nomark _)) (pss_one (ps_ret pe_bl)) pss_nil))))))), ?_⟩
  intro En Hc a0 p S F as bs x d tn v6 v7 v8 v9 la lb hS hF ma mb hx gx fin
  refine ⟨_, rfl, S, _, rfl, SqL.of hS, ?_⟩
  refine for_it walk_enum (fun i σ H2 => Same Hc H2 ∧ ∃ w6 w7 w8 w9, σ = [some (.ref a0), some (.ref p), tn, some x, some (.ref S), some (.ref F), w6, w7, w8, w9]) ⟨Same.refl _, _, _, _, _, rfl⟩
    (fun i σ H2 _ ⟨s, _⟩ => SqL.of (s _ _ hS)) ?_ (fun σ H2 ⟨s, w6, w7, w8, w9, e⟩ => by rw [e]; exact fin _ _ _ _ _ s)
  rintro i y σ H1 H2 hi ⟨s1, w6, w7, w8, w9, rfl⟩ ⟨Tp, y1, y2, rfl, hT, rfl, e1, e2⟩
  rw [List.length_map, la] at hi
  obtain ⟨a, ha⟩ : ∃ a, as[i]? = some a := ⟨_, List.getElem?_eq_getElem (by omega)⟩
  obtain ⟨b, hb⟩ : ∃ b, bs[i]? = some b := ⟨_, List.getElem?_eq_getElem (by omega)⟩
  cases e1
  obtain rfl : y2 = .ref a := by
    have e3 : (as.map V.ref)[i]? = some y2 := e2
    rw [List.getElem?_map, ha] at e3
    exact (Option.some.inj e3).symm
  have s2 : Same Hc (upd H1 Tp (.tup [.int (i : Nat), .ref a])) := s1.trans (same_upd hT)
  refine ⟨Tp, _, rfl, .inl (.inl upd_same), rfl, _, _, rfl, _, _, rfl, rfl, ?_⟩
  clear hT
  generalize upd H1 Tp (.tup [.int (i : Nat), .ref a]) = H2 at s2
  have gz : d.shown.length ≤ sizeLine := Nat.le_trans gx.2.1 (by decide)
  have gp : d.depth ≤ 60 := Nat.le_trans gx.2.2 (by decide)
  have hbm : (bs.map V.ref)[i]? = some (.ref b) := by
    rw [List.getElem?_map, hb]
    rfl
  -- the fields
  refine ⟨_, rfl, a, i, d, rfl, hi, (ma i a ha).same s2, fun H3 y s3 hy => ?_⟩
  have S3 := s2.trans s3
  refine ⟨y, d, rfl, hy, gx.1, gz, gp, _, rfl, x, d, rfl, hx.same S3, gx.1, gz, gp, rfl, _, rfl, ite_no ?_⟩
  refine ⟨_, rfl, _, rfl, F, _, _, _, rfl, rfl, SqL.of (S3 _ _ hF), atI_nat hbm, b, i, d, rfl, hi, (mb i b hb).same S3, fun H4 y4 s4 hy4 => ?_⟩
  have S4 := S3.trans s4
  refine ⟨y4, d, rfl, hy4, gx.1, gz, gp, _, rfl, x, d, rfl, hx.same S4, gx.1, gz, gp, rfl, _, rfl, ite_no ?_⟩
  -- the kinds
  refine ⟨_, rfl, a, i, d, rfl, hi, (ma i a ha).same S4, fun H5 p5 s5 at5 => ?_⟩
  have S5 := S4.trans s5
  refine ⟨11, rfl, by decide, by decide, fun Dl hD => ?_⟩
  refine lc_range (lo := 0) (n := 11) (fun k H' => H' = upd H5 Dl (.lst ((List.range k).map fun k' => V.bl (decide (k' = i))))) rfl ?_ ?_
  · rintro k H' hk rfl
    refine ⟨rfl, _, rfl, _, rfl, rfl, _, upd_same, ?_, ?_⟩
    · rw [List.length_map, List.length_range]
      exact small1000 (by omega)
    · rw [upd_upd, List.range_succ, List.map_append, dec_nat]
      rfl
  rintro H' rfl
  refine eq_bls (bs := (List.range 11).map fun k' => decide (k' = i)) (same_upd hD _ _ at5) upd_same (by simp) (by simp) ⟨_, rfl, iteF ?_⟩
  have S6 := S5.trans (same_upd (o := .lst ((List.range 11).map fun k' => V.bl (decide (k' = i)))) hD)
  refine ⟨_, rfl, _, rfl, F, _, _, _, rfl, rfl, SqL.of (S6 _ _ hF), atI_nat hbm, b, i, d, rfl, hi, (mb i b hb).same S6, fun H7 p7 s7 at7 => ?_⟩
  have S7 := S6.trans s7
  refine ⟨_, rfl, a, i, d, rfl, hi, (ma i a ha).same S7, fun H8 p8 s8 at8 => ?_⟩
  have S8 := S7.trans s8
  refine eq_bls (bs := (List.range 11).map fun k' => decide (k' = i)) (s8 _ _ at7) at8 (by simp) (by simp) ⟨_, rfl, iteF ?_⟩
  -- the bases
  obtain ⟨dx, ya, h1, h2, hya⟩ := (ma i a ha).same S8
  obtain ⟨B, newId, initId, bmB, ec, _⟩ := T2.e i hi
  refine ⟨_, rfl, a, _, dx, _, _, _, _, _, _, _, rfl, ec, h1, ⟨_, h2⟩, .own _, T2.askD i hi, ?_⟩
  refine ⟨_, rfl, a, _, dx, _, _, _, _, _, _, _, rfl, ec, h1, ⟨_, h2⟩, .ty _, T2.askV i hi, ?_⟩
  refine ⟨_, rfl, a, _, dx, _, _, _, _, _, _, _, rfl, ec, h1, ⟨_, h2⟩, .ty _, T2.askL i hi, (by show 3 ≤ sizeLine; decide), fun l1 hl1 => ?_⟩
  have n1 := same_upd (o := .lst [V.bl (decide (i < 9)), V.bl (decide (i < 9)), V.bl (decide (i = 9))]) hl1
  refine ⟨_, rfl, _, rfl, a, _, dx, _, _, _, _, _, _, _, rfl, ec, n1 _ _ h1, ⟨_, n1 _ _ h2⟩, .ty _, T2.askO i hi, ?_⟩
  refine ⟨_, rfl, (by show 2 ≤ sizeLine; decide), fun t ht => ?_⟩
  have n2 := n1.trans (same_upd (o := .tup [.ty "KeyError", .ty "IndexError"]) ht)
  refine ⟨a, _, dx, t, _, _, _, _, _, _, _, rfl, ec, n2 _ _ h1, ⟨_, n2 _ _ h2⟩, upd_same, .cons (.ty _) (.cons (.ty _) .nil), T2.askN i hi, (by show 2 ≤ sizeLine; decide), fun l2 hl2 => ?_⟩
  have n3 := same_upd (o := .lst [V.bl (decide (i = 10)), V.bl false]) hl2
  refine ⟨l1, l2, _, _, rfl, rfl, n3 _ _ (same_upd ht _ _ upd_same), upd_same, (by show 5 ≤ sizeLine; decide), fun l3 hl3 => ?_⟩
  have n4 := (n2.trans n3).trans (same_upd (o := .lst [V.bl (decide (i < 9)), V.bl (decide (i < 9)), V.bl (decide (i = 9)), V.bl (decide (i = 10)), V.bl false]) hl3)
  refine ⟨_, rfl, _, rfl, _, _, rfl, rfl, _, rfl, _, _, rfl, rfl, _, rfl, rfl, _, rfl, rfl, (by show 5 ≤ sizeLine; decide), fun l4 hl4 => ?_⟩
  refine eq_bls (bs := [decide (i < 9), decide (i < 9), decide (i = 9), decide (i = 10), false]) (same_upd hl4 _ _ upd_same) upd_same rfl ?_ ⟨_, rfl, iteF ?_⟩
  · show [V.bl (decide (((i : Nat) : Int) < ((9 : Nat) : Int))), V.bl (decide (((i : Nat) : Int) < ((9 : Nat) : Int))), V.bl (decide (V.int (i : Nat) = V.int ((9 : Nat) : Int))), V.bl (decide (V.int (i : Nat) = V.int ((10 : Nat) : Int))), V.bl false] = _
    rw [dec_lt, dec_eq, dec_eq]
    rfl
  · exact ⟨(S8.trans n4).trans (same_upd hl4), _, _, _, _, rfl⟩
/-! ### the makers -/
structure Mks (P : Program) (w : World) (K : PySem.W.Frag) (mg : Str → Option Value) (base : Heap) (cs fi : Nat → Addr) (fdi : Nat → FuncData) : Prop where
  j : ∀ j, j < 11 → ErrI K (cs j) (fi j)
  f : ∀ j, j < 11 → FnOk P w K mg base CX0 2 (fi j) (fdi j) ["self", fl j] (spInit K (cs j) (fl j))
  b : ∀ j, j < 11 → Binds K (fdi j) ["self", fl j] []
  kb : ∀ j, j < 11 → ∀ me wv : Value, bindArgs (fdi j) ⟨[me], [(fl j, wv)]⟩ = pure ((["self", fl j] : List Str).zip [me, wv])
def One (K : PySem.W.Frag) (cs : Nat → Addr) (t : TE) (j : Nat) : Prop := ∀ (σ : L2.St) (H : Hp) (x : V) (d : PyData) (Q : VK), σ[3]? = some (some x) → Dr K H x d → (∀ (a : Addr) (H2 : Hp), Same H H2 → MadeX K H2 a (cs j) (fl j) d → Q (.ref a) H2) → t σ H Q
def tE (K : PySem.W.Frag) (cs : Nat → Addr) (j : Nat) : TE := tErr (cs j) (spInit K (cs j) (fl j)) (tCons (tVar 3) tNil)
def tK (K : PySem.W.Frag) (cs : Nat → Addr) (j : Nat) : TE := tErrK (cs j) (spInit K (cs j) (fl j)) (tCons (tVar 3) tNil)
theorem one_E (cs : Nat → Addr) (j : Nat) : One K cs (tE K cs j) j := fun σ H x d Q hs hx go => ⟨x, hs, (by show 1 ≤ 1000; decide), fun a ha => ⟨H, a, x, d, rfl, ha, rfl, hx, fun H2 s2 m2 => ⟨rfl, go a H2 s2 m2⟩⟩⟩
theorem one_K (cs : Nat → Addr) (j : Nat) : One K cs (tK K cs j) j := fun σ H x d Q hs hx go => ⟨x, hs, rfl, fun a ha => ⟨H, a, x, d, rfl, ha, rfl, hx, fun H2 s2 m2 => ⟨rfl, go a H2 s2 m2⟩⟩⟩
def tRow (mk : Nat → TE) : List Nat → TA
  | [] => tNil
  | j :: l => tCons (mk j) (tRow mk l)
/-- a mark in a reading: what follows it stands as it was written -/
def tMark (t : TA) : TA := fun σ H Q => ∃ _ : Unit, t σ H Q
theorem pa_x {X : Cx} {es : List Expr} {t : TA} (h : PA X es t) : PA X es (tMark t) := ⟨fun pos pins s σ H Q I z => let ⟨_, q⟩ := z; h.run pos pins s σ H Q I q⟩
/-- a row of makers -/
theorem row_rd {cs : Nat → Addr} {mk : Nat → TE} (hm : ∀ j, One K cs (mk j) j) {σ : L2.St} {x : V} {d : PyData} (hs : σ[3]? = some (some x)) : ∀ (l : List Nat) (H : Hp) (Q : List V → Hp → Prop), Dr K H x d →
    (∀ (as : List Addr) (H2 : Hp), Same H H2 → as.length = l.length → (∀ (i j : Nat) (a : Addr), l[i]? = some j → as[i]? = some a → MadeX K H2 a (cs j) (fl j) d) → Q (as.map V.ref) H2) → tRow mk l σ H Q := by
  intro l
  induction l with
  | nil =>
    intro H Q _ go
    exact go [] H (Same.refl _) rfl (fun i j a z => by simp at z)
  | cons j l ih =>
    intro H Q hx go
    refine hm j σ H x d _ hs hx fun a H2 s2 m2 => ?_
    refine ih H2 _ (hx.same s2) fun as H3 s3 ln ms => ?_
    refine go (a :: as) H3 (s2.trans s3) (by simp [ln]) fun i k b hk hb => ?_
    cases i with
    | zero =>
      simp at hk hb
      subst hk hb
      exact m2.same s3
    | succ i => exact ms i k b (by simpa using hk) (by simpa using hb)
theorem MOk.up {G H H2 : Hp} {p : Addr} {B : Int} (m : MOk G H p B) (s : Same H H2) : MOk G H2 p B := by
  obtain ⟨c, l, cs, ls, k, m⟩ := m
  exact ⟨c, l, cs, ls, k, s _ _ m.hp, s _ _ m.hl, s _ _ m.hc, m.gp, m.gl, m.lc, m.same.trans s, m.k0, m.kB, m.ln, m.cn⟩
/-- two rows, one behind the other -/
theorem row_two {cs : Nat → Addr} {H : Hp} {d : PyData} {as bs : List Addr} {ks js : List Nat} (la : as.length = ks.length) (lb : bs.length = js.length) (ma : ∀ (i j : Nat) (a : Addr), ks[i]? = some j → as[i]? = some a → MadeX K H a (cs j) (fl j) d)
    (mb : ∀ (i j : Nat) (a : Addr), js[i]? = some j → bs[i]? = some a → MadeX K H a (cs j) (fl j) d) (hk : ks ++ js = List.range (ks.length + js.length)) {j : Nat} {a : Addr} (h : (as ++ bs)[j]? = some a) : MadeX K H a (cs j) (fl j) d := by
  have hl := (List.getElem?_eq_some_iff.mp h).1
  rw [List.length_append, la, lb] at hl
  have hj : (ks ++ js)[j]? = some j := by
    rw [hk, List.getElem?_range hl]
  by_cases c : j < as.length
  · rw [List.getElem?_append_left c] at h
    rw [List.getElem?_append_left (by omega)] at hj
    exact ma j j a hj h
  · rw [List.getElem?_append_right (by omega)] at h
    rw [List.getElem?_append_right (by omega)] at hj
    rw [la] at h
    exact mb _ j a hj h
def spLaw (K : PySem.W.Frag) : Sp := fun vs H Q _ => ∃ (a : Addr) (ns : List Int), vs = [.ref a] ∧ SqL K H a (ns.map V.int) ∧ ns.length ≤ 63 ∧ ∀ H', Q (.bl true) H'
theorem ok_law {D : Addr} {cs fi : Nat → Addr} {fdi : Nat → FuncData} {fF fK fV fB f : Addr} {fdF fdK fdV fdB fd : FuncData} (F : Fun K "law" "law" sLaw f fd) (T : Blt mg) (T2 : Errs K mg D cs) (J : Mks P w K mg base cs fi fdi)
    (FF : FnOk P w K mg base CX0 1 fF fdF ["one"] (spField K cs)) (gF : mg "_law_field" = some (.ref fF)) (kF : PySem.W.keepIn K (.ref fF) = true) (bF : Binds K fdF ["one"] [])
    (FK : FnOk P w K mg base CX0 1 fK fdK ["one"] (spKinds K cs)) (gK : mg "_law_kinds" = some (.ref fK)) (kK : PySem.W.keepIn K (.ref fK) = true) (bK : Binds K fdK ["one"] [])
    (FV : FnOk P w K mg base CX0 2 fV fdV ["m"] (spValue K)) (gV : mg "_law_value" = some (.ref fV)) (kV : PySem.W.keepIn K (.ref fV) = true) (bV : Binds K fdV ["m"] [])
    (FB : FnOk P w K mg base CX0 1 fB fdB ["script"] (spBegun K)) (gB : mg "_law_begun" = some (.ref fB)) (kB : PySem.W.keepIn K (.ref fB) = true) (bB : Binds K fdB ["script"] []) :
    FnG P w K mg base CX0 4 f fd ["script"] (spLaw K) := by
  refine okG F scLaw (fun vs H Q E h => ?_) (fun cdv A outer s H vs Q E hr gd h => ?_)
  · obtain ⟨a, ns, rfl, _⟩ := h
    rfl
  obtain ⟨a0, ns, rfl, hS0, hl, go⟩ := h
  obtain ⟨tI, dI, inn⟩ := inner_ok (P := P) (w := w) (base := base) (f := f) (cdv := cdv) (A := A) (outer := outer) (s := s) (H := H) (E := E) T T2 FF gF kF bF FK gK kK bK hr gd
  obtain ⟨B0, n0, i0, bm0, ec0, _⟩ := T2.e 0 (by decide)
  obtain ⟨B1, n1, i1, bm1, ec1, _⟩ := T2.e 1 (by decide)
  obtain ⟨B2, n2, i2, bm2, ec2, _⟩ := T2.e 2 (by decide)
  obtain ⟨B3, n3, i3, bm3, ec3, _⟩ := T2.e 3 (by decide)
  obtain ⟨B4, n4, i4, bm4, ec4, _⟩ := T2.e 4 (by decide)
  obtain ⟨B5, n5, i5, bm5, ec5, _⟩ := T2.e 5 (by decide)
  obtain ⟨B6, n6, i6, bm6, ec6, _⟩ := T2.e 6 (by decide)
  obtain ⟨B7, n7, i7, bm7, ec7, _⟩ := T2.e 7 (by decide)
  obtain ⟨B8, n8, i8, bm8, ec8, _⟩ := T2.e 8 (by decide)
  obtain ⟨B9, n9, i9, bm9, ec9, _⟩ := T2.e 9 (by decide)
  obtain ⟨B10, n10, i10, bm10, ec10, _⟩ := T2.e 10 (by decide)
  refine ⟨_, (pss_cons (ps_set (i := 1) scLaw.nd rfl (Or.inl rfl) (pe_call FB (hr.mono (by decide)) (by rfl) gB kB bB .nil pass0 (pa_cons (pv 0) pa_nil)))
      (pss_cons (ps_for PassesOwn.never rfl (pi_range1 (by rfl) T.range (pa_cons (pe_op op_add pe_int (pe_callB (call_min2 rfl) (by rfl) T.min (by decide +kernel) (pa_cons (pe_callB call_len_seq (by rfl) T.len PySem.boot_len (pa_cons (pv 0) pa_nil)) (pa_cons pe_int pa_nil)))) pa_nil)) (pg_name (i := 2) scLaw.nd rfl (Or.inl rfl))
      (pss_cons (ps_set (i := 3) scLaw.nd rfl (Or.inl rfl) (pe_call FV (hr.mono (by decide)) (by rfl) gV kV bV .nil pass0 (pa_cons (pv 1) pa_nil)))
      (pss_cons (ps_set (i := 4) scLaw.nd rfl (Or.inl rfl) (pe_lst (pa_x (t := tRow (tE K cs) [0, 1, 2, 3, 4, 5, 6, 7]) (pa_cons (pe_err ec0 (J.j 0 (by decide)) (J.f 0 (by decide)) hr (J.b 0 (by decide)) (by rfl) T2.g0 (pa_cons (pv 3) pa_nil)) (pa_cons (pe_err ec1 (J.j 1 (by decide)) (J.f 1 (by decide)) hr (J.b 1 (by decide)) (by rfl) T2.g1 (pa_cons (pv 3) pa_nil)) (pa_cons (pe_err ec2 (J.j 2 (by decide)) (J.f 2 (by decide)) hr (J.b 2 (by decide)) (by rfl) T2.g2 (pa_cons (pv 3) pa_nil)) (pa_cons (pe_err ec3 (J.j 3 (by decide)) (J.f 3 (by decide)) hr (J.b 3 (by decide)) (by rfl) T2.g3 (pa_cons (pv 3) pa_nil)) (pa_cons (pe_err ec4 (J.j 4 (by decide)) (J.f 4 (by decide)) hr (J.b 4 (by decide)) (by rfl) T2.g4 (pa_cons (pv 3) pa_nil)) (pa_cons (pe_err ec5 (J.j 5 (by decide)) (J.f 5 (by decide)) hr (J.b 5 (by decide)) (by rfl) T2.g5 (pa_cons (pv 3) pa_nil)) (pa_cons (pe_err ec6 (J.j 6 (by decide)) (J.f 6 (by decide)) hr (J.b 6 (by decide)) (by rfl) T2.g6 (pa_cons (pv 3) pa_nil)) (pa_cons (pe_err ec7 (J.j 7 (by decide)) (J.f 7 (by decide)) hr (J.b 7 (by decide)) (by rfl) T2.g7 (pa_cons (pv 3) pa_nil)) pa_nil)))))))))))
      (pss_cons (ps_set (i := 4) scLaw.nd rfl (Or.inl rfl) (pe_op op_cat (pv 4) (pe_lst (pa_x (t := tRow (tE K cs) [8, 9, 10]) (pa_cons (pe_err ec8 (J.j 8 (by decide)) (J.f 8 (by decide)) hr (J.b 8 (by decide)) (by rfl) T2.g8 (pa_cons (pv 3) pa_nil)) (pa_cons (pe_err ec9 (J.j 9 (by decide)) (J.f 9 (by decide)) hr (J.b 9 (by decide)) (by rfl) T2.g9 (pa_cons (pv 3) pa_nil)) (pa_cons (pe_err ec10 (J.j 10 (by decide)) (J.f 10 (by decide)) hr (J.b 10 (by decide)) (by rfl) T2.g10 (pa_cons (pv 3) pa_nil)) pa_nil)))))))
      (pss_cons (ps_set (i := 5) scLaw.nd rfl (Or.inl rfl) (pe_lst (pa_x (t := tRow (tK K cs) [0, 1, 2, 3, 4]) (pa_cons (pe_errK (fld := fl 0) ec0 (J.j 0 (by decide)) (J.f 0 (by decide)) hr (J.kb 0 (by decide)) (by rfl) T2.g0 (pk_cons (pv 3) pk_nil)) (pa_cons (pe_errK (fld := fl 1) ec1 (J.j 1 (by decide)) (J.f 1 (by decide)) hr (J.kb 1 (by decide)) (by rfl) T2.g1 (pk_cons (pv 3) pk_nil)) (pa_cons (pe_errK (fld := fl 2) ec2 (J.j 2 (by decide)) (J.f 2 (by decide)) hr (J.kb 2 (by decide)) (by rfl) T2.g2 (pk_cons (pv 3) pk_nil)) (pa_cons (pe_errK (fld := fl 3) ec3 (J.j 3 (by decide)) (J.f 3 (by decide)) hr (J.kb 3 (by decide)) (by rfl) T2.g3 (pk_cons (pv 3) pk_nil)) (pa_cons (pe_errK (fld := fl 4) ec4 (J.j 4 (by decide)) (J.f 4 (by decide)) hr (J.kb 4 (by decide)) (by rfl) T2.g4 (pk_cons (pv 3) pk_nil)) pa_nil))))))))
      (pss_cons (ps_set (i := 5) scLaw.nd rfl (Or.inl rfl) (pe_op op_cat (pv 5) (pe_lst (pa_x (t := tRow (tK K cs) [5, 6, 7, 8, 9]) (pa_cons (pe_errK (fld := fl 5) ec5 (J.j 5 (by decide)) (J.f 5 (by decide)) hr (J.kb 5 (by decide)) (by rfl) T2.g5 (pk_cons (pv 3) pk_nil)) (pa_cons (pe_errK (fld := fl 6) ec6 (J.j 6 (by decide)) (J.f 6 (by decide)) hr (J.kb 6 (by decide)) (by rfl) T2.g6 (pk_cons (pv 3) pk_nil)) (pa_cons (pe_errK (fld := fl 7) ec7 (J.j 7 (by decide)) (J.f 7 (by decide)) hr (J.kb 7 (by decide)) (by rfl) T2.g7 (pk_cons (pv 3) pk_nil)) (pa_cons (pe_errK (fld := fl 8) ec8 (J.j 8 (by decide)) (J.f 8 (by decide)) hr (J.kb 8 (by decide)) (by rfl) T2.g8 (pk_cons (pv 3) pk_nil)) (pa_cons (pe_errK (fld := fl 9) ec9 (J.j 9 (by decide)) (J.f 9 (by decide)) hr (J.kb 9 (by decide)) (by rfl) T2.g9 (pk_cons (pv 3) pk_nil)) pa_nil)))))))))
      (pss_cons (ps_expr (pe_bm PySem.F.plainAttrs_list PySem.F.slot_list_append PySem.F.type_list_append mt_append (pv 5) (pa_cons (pe_errK (fld := fl 10) ec10 (J.j 10 (by decide)) (J.f 10 (by decide)) hr (J.kb 10 (by decide)) (by rfl) T2.g10 (pk_cons (pv 3) pk_nil)) pa_nil)))
      (pss_one dI))))))))
      (pss_one (ps_ret pe_bl)))), ?_⟩
  refine ⟨_, rfl, a0, ns, rfl, hS0, hl, fun H1 p M => ?_⟩
  have S1 := M.same
  refine ⟨_, rfl, a0, _, rfl, .inl (S1.seq hS0), _, _, rfl, ?_⟩
  have hn : ((ns.map V.int).length : Int) ≤ 63 := by
    rw [List.length_map]
    omega
  refine ⟨_, _, rfl, rfl, _, rfl, by split <;> omega, by split <;> omega, ?_⟩
  refine for_range (lo := 0) (n := _) (fun i σ H' => ∃ G, MOk G H' p (i : Nat) ∧ ∃ w2 w3 w4 w5 w6 w7 w8 w9, σ = [some (.ref a0), some (.ref p), w2, w3, w4, w5, w6, w7, w8, w9]) ⟨H, M, _, _, _, _, _, _, _, _, rfl⟩ ?_ ?_
  · rintro i σ H2 hi ⟨G, M, w2, w3, w4, w5, w6, w7, w8, w9, rfl⟩
    have hi8 : i < 9 := by
      revert hi
      split <;> omega
    refine ⟨_, rfl, G, p, (i : Nat), rfl, M, by omega, fun G2 H3 x d M2 sG hx gx => ?_⟩
    have hx3 := hx.same M2.same
    -- some
    refine ⟨(), row_rd (one_E cs) (x := x) (d := d) (by rfl) _ H3 _ hx3 (fun as1 H4 s4 l1 m1 => ?_)⟩
    have z1 : (as1.map V.ref).length = 8 := by rw [List.length_map, l1]; rfl
    refine ⟨by rw [z1]; decide, fun L1 hL1 => ?_⟩
    have s5 := s4.trans (same_upd (o := .lst (as1.map V.ref)) hL1)
    have at1 : (upd H4 L1 (.lst (as1.map V.ref))) L1 = some (.lst (as1.map V.ref)) := upd_same
    have m1' : ∀ (i j : Nat) (a : Addr), ([0, 1, 2, 3, 4, 5, 6, 7] : List Nat)[i]? = some j → as1[i]? = some a → MadeX K (upd H4 L1 (.lst (as1.map V.ref))) a (cs j) (fl j) d := fun i j a h1 h2 => (m1 i j a h1 h2).same (same_upd hL1)
    generalize upd H4 L1 (.lst (as1.map V.ref)) = H5 at s5 at1 m1'
    clear m1 s4 hL1
    refine ⟨_, rfl, (), row_rd (one_E cs) (x := x) (d := d) (by rfl) _ H5 _ (hx3.same s5) (fun as2 H6 s6 l2 m2 => ?_)⟩
    have z2 : (as2.map V.ref).length = 3 := by rw [List.length_map, l2]; rfl
    refine ⟨by rw [z2]; decide, fun L2 hL2 => ?_⟩
    refine ⟨L1, L2, _, _, rfl, rfl, same_upd hL2 _ _ (s6 _ _ at1), upd_same, by rw [z1, z2]; decide, fun S hS => ?_⟩
    have s7 : Same H6 (upd (upd H6 L2 (.lst (as2.map V.ref))) S (.lst (as1.map V.ref ++ as2.map V.ref))) := (same_upd hL2).trans (same_upd hS)
    have atS : (upd (upd H6 L2 (.lst (as2.map V.ref))) S (.lst (as1.map V.ref ++ as2.map V.ref))) S = some (.lst ((as1 ++ as2).map V.ref)) := by rw [upd_same, List.map_append]
    have mA : ∀ (j : Nat) (a : Addr), (as1 ++ as2)[j]? = some a → MadeX K (upd (upd H6 L2 (.lst (as2.map V.ref))) S (.lst (as1.map V.ref ++ as2.map V.ref))) a (cs j) (fl j) d := fun j a h => row_two (ks := [0, 1, 2, 3, 4, 5, 6, 7]) (js := [8, 9, 10]) l1 l2 (fun i j a h1 h2 => (m1' i j a h1 h2).same (s6.trans s7)) (fun i j a h1 h2 => (m2 i j a h1 h2).same s7) (by decide) h
    have lA : (as1 ++ as2).length = 11 := by rw [List.length_append, l1, l2]; rfl
    have s8 := (s5.trans s6).trans s7
    generalize upd (upd H6 L2 (.lst (as2.map V.ref))) S (.lst (as1.map V.ref ++ as2.map V.ref)) = H8 at s8 atS mA
    generalize as1 ++ as2 = as at atS mA lA
    clear m1' m2 s7 s6 s5 z1 z2 l1 l2 at1 hL2 hS
    -- far
    refine ⟨(), row_rd (one_K cs) (x := x) (d := d) (by rfl) _ H8 _ (hx3.same s8) (fun bs1 H9 s9 l3 m3 => ?_)⟩
    have z3 : (bs1.map V.ref).length = 5 := by rw [List.length_map, l3]; rfl
    refine ⟨by rw [z3]; decide, fun L3 hL3 => ?_⟩
    have s10 := s9.trans (same_upd (o := .lst (bs1.map V.ref)) hL3)
    have at3 : (upd H9 L3 (.lst (bs1.map V.ref))) L3 = some (.lst (bs1.map V.ref)) := upd_same
    have m3' : ∀ (i j : Nat) (a : Addr), ([0, 1, 2, 3, 4] : List Nat)[i]? = some j → bs1[i]? = some a → MadeX K (upd H9 L3 (.lst (bs1.map V.ref))) a (cs j) (fl j) d := fun i j a h1 h2 => (m3 i j a h1 h2).same (same_upd hL3)
    generalize upd H9 L3 (.lst (bs1.map V.ref)) = H10 at s10 at3 m3'
    clear m3 s9 hL3
    refine ⟨_, rfl, (), row_rd (one_K cs) (x := x) (d := d) (by rfl) _ H10 _ (hx3.same (s8.trans s10)) (fun bs2 H11 s11 l4 m4 => ?_)⟩
    have z4 : (bs2.map V.ref).length = 5 := by rw [List.length_map, l4]; rfl
    refine ⟨by rw [z4]; decide, fun L4 hL4 => ?_⟩
    have s12 := s11.trans (same_upd (o := .lst (bs2.map V.ref)) hL4)
    have mB : ∀ (j : Nat) (a : Addr), (bs1 ++ bs2)[j]? = some a → MadeX K (upd H11 L4 (.lst (bs2.map V.ref))) a (cs j) (fl j) d := fun j a h => row_two (ks := [0, 1, 2, 3, 4]) (js := [5, 6, 7, 8, 9]) l3 l4 (fun i j a h1 h2 => (m3' i j a h1 h2).same s12) (fun i j a h1 h2 => (m4 i j a h1 h2).same (same_upd hL4)) (by decide) h
    have lB : (bs1 ++ bs2).length = 10 := by rw [List.length_append, l3, l4]; rfl
    have z34 : (bs1.map V.ref).length + (bs2.map V.ref).length ≤ sizeLine := by rw [z3, z4]; decide
    refine ⟨L3, L4, _, _, rfl, rfl, s12 _ _ at3, upd_same, z34, fun F hF => ?_⟩
    have s13 := s10.trans s12
    rw [← List.map_append]
    generalize upd H11 L4 (.lst (bs2.map V.ref)) = H12 at s13 mB hF
    generalize bs1 ++ bs2 = bs at mB lB
    clear m3' m4 s12 s11 s10 z3 z4 l3 l4 at3 hL4 z34
    have atF : (upd H12 F (.lst (bs.map V.ref))) F = some (.lst (bs.map V.ref)) := upd_same
    have s14 : Same H12 (upd H12 F (.lst (bs.map V.ref))) := same_upd hF
    generalize upd H12 F (.lst (bs.map V.ref)) = H13 at atF s14
    have s15 := (s8.trans s13).trans s14
    refine ⟨_, rfl, .inl ⟨rfl, _, SqL.of atF⟩, ?_⟩
    refine one_K cs 10 _ H13 x d _ (by rfl) (hx3.same s15) fun b H14 s16 mb => ?_
    have atF2 := s16 _ _ atF
    refine ⟨F, _, _, rfl, rfl, atF2, by rw [List.length_map, lB]; decide, ?_⟩
    -- all stands behind the append
    have keep : Same H12 (upd H14 F (.lst (bs.map V.ref ++ [.ref b]))) := fun c o z => by
      rw [upd_ne (ne_of_none z hF)]
      exact s16 _ _ (s14 _ _ z)
    obtain ⟨b0, hb0⟩ : ∃ b0, bs[0]? = some b0 := ⟨_, List.getElem?_eq_getElem (by omega)⟩
    have notData : ∀ d, ¬ Dr K H14 (.ref F) d := by
      obtain ⟨r, hr0⟩ : ∃ r, bs = b0 :: r := by
        cases bs with
        | nil => cases hb0
        | cons c r =>
          cases hb0
          exact ⟨r, rfl⟩
      obtain ⟨dx, y, h1, _⟩ := (mB 0 b0 hb0).same (s14.trans s16)
      rw [hr0] at atF2
      exact no_list atF2 (no_ext h1 exo_ext)
    have mb2 : MadeX K (upd H14 F (.lst (bs.map V.ref ++ [.ref b]))) b (cs 10) (fl 10) d := by
      obtain ⟨dx, y, h1, h2, h3⟩ := mb
      have n1 : b ≠ F := fun z => by
        rw [z, atF2] at h1
        cases h1
      have n2 : dx ≠ F := fun z => by
        rw [z, atF2] at h2
        cases h2
      exact ⟨dx, y, (upd_ne n1).trans h1, (upd_ne n2).trans h2, h3.skip notData⟩
    have lB2 : (bs ++ [b]).length = 11 := by rw [List.length_append, lB]; rfl
    have atF3 : (upd H14 F (.lst (bs.map V.ref ++ [.ref b]))) F = some (.lst ((bs ++ [b]).map V.ref)) := by rw [upd_same, List.map_append]; rfl
    have mB2 : ∀ (j : Nat) (a : Addr), (bs ++ [b])[j]? = some a → MadeX K (upd H14 F (.lst (bs.map V.ref ++ [.ref b]))) a (cs j) (fl j) d := fun j a h => by
      by_cases hj : j < bs.length
      · rw [List.getElem?_append_left hj] at h
        exact (mB j a h).same keep
      · have hj2 := (List.getElem?_eq_some_iff.mp h).1
        rw [lB2] at hj2
        rw [lB] at hj
        obtain rfl : j = 10 := by omega
        rw [List.getElem?_append_right (by omega), lB] at h
        obtain rfl : b = a := by simpa using h
        exact mb2
    have sAll := (s8.trans s13).trans keep
    refine inn _ _ a0 p S F as (bs ++ [b]) x d _ _ _ _ _ lA lB2 ((s13.trans keep) _ _ atS) atF3 (fun j a h => (mA j a h).same (s13.trans keep)) mB2 (hx3.same sAll) gx ?_
    intro H15 w6 w7 w8 w9 s17
    exact ⟨G2, (M2.up (sAll.trans s17)), _, _, _, _, _, _, _, _, rfl⟩
  · rintro σ H2 ⟨G, M, w2, w3, w4, w5, w6, w7, w8, w9, rfl⟩
    exact go _
/-! ### what the top has written -/
section
variable {C D X : Addr} {cn cq : Str} {N : Addr} {cb bm : List Value} {csn : List Str} {csub : List Value} {cab : Bool} {ccol : Option Bool} {cdd : Option Addr} {k0 k1 k2 k3 k5 : Option Value} {newId initId B : String} {bmB : List Value}
theorem cls_is (x : K.lookup C = some (excClassObj cn cq C N cb bm true csn csub cab ccol cdd k0 k1 k2 k3 k5 newId)) : PySem.W.clsIn K C = some { name := cn, bases := cb, mro := .ref C :: bm, ns := N, qualname := cq, hasDict := true, slotNames := csn, subclasses := csub, abstract := cab, collection := ccol, hasDel := false } := by
  unfold PySem.W.clsIn
  rw [x] <;> rfl
theorem sub_is (x : K.lookup C = some (excClassObj cn cq C N cb bm true csn csub cab ccol cdd k0 k1 k2 k3 k5 newId)) (v : Value) : PySem.W.subIn K (.ref C) v = some ((Value.ref C :: bm).contains v) := by
  show PySem.W.mroIn K C v = _
  unfold PySem.W.mroIn
  rw [cls_is x, Option.bind_some]
  rfl
theorem type_is (x : K.lookup C = some (excClassObj cn cq C N cb bm true csn csub cab ccol cdd k0 k1 k2 k3 k5 newId)) : PySem.W.typeIn K (.ref C) = some (.type "type") := by
  show (K.lookup C).map (·.cls) = _
  rw [x] <;> rfl
theorem errC_of (fb : ExcBaseFacts B newId initId bmB) (sf : StoreFacts B bmB "object.__setattr__" "object") (x : K.lookup C = some (excClassObj cn cq C N cb bm true csn csub cab ccol cdd k0 k1 k2 k3 k5 newId)) (ht : PySem.W.excTail bmB bm = true)
    (sa : PySem.W.findIn K (.ref C) "__setattr__" = some (some (.builtin "object.__setattr__"))) (ga : PySem.W.findIn K (.ref C) "__getattribute__" = some (some (.builtin "BaseException.__getattribute__"))) (gg : PySem.W.findIn K (.ref C) "__getattr__" = some none)
    (kp : PySem.W.keepIn K (.ref C) = true) (cc : PySem.W.findIn K (.ref C) "__class__" = some (some (.builtin "object.__class__"))) : ErrC K C B newId initId bmB := by
  have c1 : ∀ T : String, (Value.ref C :: bm).contains (.type T) = bmB.contains (.type T) := fun T => by
    rw [List.contains_cons, PySem.W.excTail_contains T bm ht]
    rfl
  refine { fb := fb, sf := sf, obj := ⟨_, _, _, _, _, _, _, _, _, _, _, _, _, _, _, x, ht⟩, ov := ?_, sa := sa, ga := ga, gg := gg, eb := ?_, tc := type_is x, kp := kp, hd := ?_, cc := cc, mo := ?_ }
  · unfold PySem.W.excOver
    rw [cls_is x]
    show ((C == C) && PySem.W.excTail bmB bm) = true
    rw [ht, beq_self_eq_true]
    rfl
  · rw [sub_is x, c1, fb.hasBase]
  · unfold PySem.W.hasDictIn
    rw [cls_is x]
    rfl
  · have z := sub_is x (.type "object")
    rw [c1, sf.hasOwner] at z
    exact z
theorem kit_ref (x : K.lookup C = some (excClassObj cn cq C N cb bm true csn csub cab ccol cdd k0 k1 k2 k3 k5 newId)) (hX : (PySem.W.clsIn K X).isSome = true) (tX : PySem.W.typeIn K (.ref X) = some (.type "type")) : PySem.W.kitOne K (.ref C) (.ref X) = some ((Value.ref C :: bm).contains (.ref X)) := by
  unfold PySem.W.kitOne
  by_cases h : C = X
  · subst h
    rw [if_pos (beq_self_eq_true _), List.contains_cons, beq_self_eq_true]
    rfl
  · rw [if_neg (by simpa using h)]
    show (if ((PySem.W.clsIn K X).isSome && PySem.W.typeIn K (.ref X) == some (.type "type")) = true then PySem.W.subIn K (.ref C) (.ref X) else none) = _
    rw [hX, tX, if_pos (by simp), sub_is x]
theorem kit_typ {T : String} (x : K.lookup C = some (excClassObj cn cq C N cb bm true csn csub cab ccol cdd k0 k1 k2 k3 k5 newId)) (hT : PySem.W.kitMeta T = true) : PySem.W.kitOne K (.ref C) (.type T) = some ((Value.ref C :: bm).contains (.type T)) := by
  unfold PySem.W.kitOne
  rw [if_neg (by simp)]
  show (if PySem.W.kitMeta T = true then PySem.W.subIn K (.ref C) (.type T) else none) = _
  rw [if_pos hT, sub_is x]
end
/-- the class at C, as the top left it -/
def ObjX (K : PySem.W.Frag) (C : Addr) (bm : List Value) (newId : String) : Prop := ∃ cn cq N cb csn csub cab ccol cdd k0 k1 k2 k3 k5, K.lookup C = some (excClassObj cn cq C N cb bm true csn csub cab ccol cdd k0 k1 k2 k3 k5 newId)
def bmO (D : Addr) (j : Nat) : List Value := if j < 9 then .ref D :: bmVE else if j = 9 then bmLE else bmOE
theorem has_ref {D X : Addr} {j : Nat} {C : Addr} : (Value.ref C :: bmO D j).contains (.ref X) = (decide (X = C) || (decide (j < 9) && decide (X = D))) := by
  unfold bmO
  by_cases h : j < 9
  · rw [if_pos h]
    simp [h, List.contains_cons]
  · rw [if_neg h]
    by_cases h2 : j = 9
    · rw [if_pos h2]
      simp [h, List.contains_cons]
    · rw [if_neg h2]
      simp [h, List.contains_cons]
/-- the eleven classes' questions -/
theorem asks {L : List Addr} {D : Addr} (hl : L.length = 11) (nd : (L ++ [D]).Nodup) (xD : ObjX K D bmVE "ValueError.__new__") (xs : ∀ (j : Nat) (C : Addr), L[j]? = some C → ∃ newId, ObjX K C (bmO D j) newId) :
    (∀ i j, i < 11 → j < 11 → PySem.W.kitOne K (.ref (L.getD j 0)) (.ref (L.getD i 0)) = some (decide (i = j))) ∧ (∀ j, j < 11 → PySem.W.kitOne K (.ref (L.getD j 0)) (.ref D) = some (decide (j < 9))) ∧
    (∀ j, j < 11 → PySem.W.kitOne K (.ref (L.getD j 0)) (.type "ValueError") = some (decide (j < 9))) ∧ (∀ j, j < 11 → PySem.W.kitOne K (.ref (L.getD j 0)) (.type "LookupError") = some (decide (j = 9))) ∧
    (∀ j, j < 11 → PySem.W.kitOne K (.ref (L.getD j 0)) (.type "OverflowError") = some (decide (j = 10))) ∧ (∀ j, j < 11 → PySem.W.kitAny K (.ref (L.getD j 0)) [.type "KeyError", .type "IndexError"] = some false) := by
  have get : ∀ j, j < 11 → L[j]? = some (L.getD j 0) := fun j hj => by
    rw [List.getD_eq_getElem?_getD, List.getElem?_eq_getElem (by omega)]
    rfl
  have x : ∀ j, j < 11 → ∃ newId, ObjX K (L.getD j 0) (bmO D j) newId := fun j hj => xs j _ (get j hj)
  have nl : L.Nodup := nd.sublist (List.sublist_append_left _ _)
  have nD : ∀ j, j < 11 → D ≠ L.getD j 0 := fun j hj z => by
    have m := List.mem_of_getElem? (get j hj)
    exact (List.nodup_append.mp nd).2.2 _ m D (by simp) z.symm
  have ne : ∀ i j, i < 11 → j < 11 → (L.getD i 0 = L.getD j 0 ↔ i = j) := fun i j hi hj => by
    constructor
    · intro z
      have a := get i hi
      rw [z, ← get j hj] at a
      exact (List.getElem?_inj (by omega) nl).mp a
    · rintro rfl
      rfl
  refine ⟨fun i j hi hj => ?_, fun j hj => ?_, fun j hj => ?_, fun j hj => ?_, fun j hj => ?_, fun j hj => ?_⟩
  · obtain ⟨n1, _, _, _, _, _, _, _, _, _, _, _, _, _, _, hx⟩ := x j hj
    obtain ⟨n2, _, _, _, _, _, _, _, _, _, _, _, _, _, _, hy⟩ := x i hi
    rw [kit_ref hx (by rw [cls_is hy]; rfl) (type_is hy), has_ref]
    have e : decide (L.getD i 0 = D) = false := decide_eq_false fun z => nD i hi z.symm
    rw [e, Bool.and_false, Bool.or_false]
    congr 1
    rw [decide_eq_decide]
    exact ne i j hi hj
  · obtain ⟨n1, _, _, _, _, _, _, _, _, _, _, _, _, _, _, hx⟩ := x j hj
    obtain ⟨_, _, _, _, _, _, _, _, _, _, _, _, _, _, hy⟩ := xD
    rw [kit_ref hx (by rw [cls_is hy]; rfl) (type_is hy), has_ref, decide_eq_false (nD j hj), decide_eq_true rfl]
    simp
  · obtain ⟨n1, _, _, _, _, _, _, _, _, _, _, _, _, _, _, hx⟩ := x j hj
    rw [kit_typ hx (by decide +kernel), List.contains_cons]
    rcases j with _ | _ | _ | _ | _ | _ | _ | _ | _ | _ | _ | j <;> first | (simp [bmO, List.contains_cons]; done) | omega
  · obtain ⟨n1, _, _, _, _, _, _, _, _, _, _, _, _, _, _, hx⟩ := x j hj
    rw [kit_typ hx (by decide +kernel), List.contains_cons]
    rcases j with _ | _ | _ | _ | _ | _ | _ | _ | _ | _ | _ | j <;> first | (simp [bmO, List.contains_cons]; done) | omega
  · obtain ⟨n1, _, _, _, _, _, _, _, _, _, _, _, _, _, _, hx⟩ := x j hj
    rw [kit_typ hx (by decide +kernel), List.contains_cons]
    rcases j with _ | _ | _ | _ | _ | _ | _ | _ | _ | _ | _ | j <;> first | (simp [bmO, List.contains_cons]; done) | omega
  · obtain ⟨n1, _, _, _, _, _, _, _, _, _, _, _, _, _, _, hx⟩ := x j hj
    have q1 : PySem.W.kitOne K (.ref (L.getD j 0)) (.type "KeyError") = some false := by
      rw [kit_typ hx (by decide +kernel), List.contains_cons]
      rcases j with _ | _ | _ | _ | _ | _ | _ | _ | _ | _ | _ | j <;> first | (simp [bmO, List.contains_cons]; done) | omega
    have q2 : PySem.W.kitOne K (.ref (L.getD j 0)) (.type "IndexError") = some false := by
      rw [kit_typ hx (by decide +kernel), List.contains_cons]
      rcases j with _ | _ | _ | _ | _ | _ | _ | _ | _ | _ | _ | j <;> first | (simp [bmO, List.contains_cons]; done) | omega
    exact kitAny_cons q1 (fun _ => kitAny_cons q2 (fun _ => kitAny_nil) (fun z => by cases z)) (fun z => by cases z)
def fdOf (l : List FuncData) (j : Nat) : FuncData := l.getD j default
theorem all_mk {w : World} {K : PySem.W.Frag} {h : Heap} {mg : Str → Option Value} {fa : Addr} (X : K.In h) (G : h.Ns mainGlobals mg) (hfa : mg "law" = some (.ref fa))
    {D : Addr} {nD qD : Str} {ND : Addr} {bD : List Value} {sD : List Str} {uD : List Value} {abD : Bool} {oD : Option Bool} {eD : Option Addr} {mD0 mD1 mD2 mD3 mD5 : Option Value}
    {C0 f0 : Addr} {nx0 qx0 : Str} {Nx0 : Addr} {bx0 : List Value} {sx0 : List Str} {ux0 : List Value} {abx0 : Bool} {ox0 : Option Bool} {ex0 : Option Addr} {mx00 mx01 mx02 mx03 mx05 : Option Value}
    {odx0 anx0 : Option Addr} {slx0 : Array (Option Value)} {kVx0 dcx0 pmx0 cdx0 ctx0 ocx0 : Value}
    {C1 f1 : Addr} {nx1 qx1 : Str} {Nx1 : Addr} {bx1 : List Value} {sx1 : List Str} {ux1 : List Value} {abx1 : Bool} {ox1 : Option Bool} {ex1 : Option Addr} {mx10 mx11 mx12 mx13 mx15 : Option Value}
    {odx1 anx1 : Option Addr} {slx1 : Array (Option Value)} {kVx1 dcx1 pmx1 cdx1 ctx1 ocx1 : Value}
    {C2 f2 : Addr} {nx2 qx2 : Str} {Nx2 : Addr} {bx2 : List Value} {sx2 : List Str} {ux2 : List Value} {abx2 : Bool} {ox2 : Option Bool} {ex2 : Option Addr} {mx20 mx21 mx22 mx23 mx25 : Option Value}
    {odx2 anx2 : Option Addr} {slx2 : Array (Option Value)} {kVx2 dcx2 pmx2 cdx2 ctx2 ocx2 : Value}
    {C3 f3 : Addr} {nx3 qx3 : Str} {Nx3 : Addr} {bx3 : List Value} {sx3 : List Str} {ux3 : List Value} {abx3 : Bool} {ox3 : Option Bool} {ex3 : Option Addr} {mx30 mx31 mx32 mx33 mx35 : Option Value}
    {odx3 anx3 : Option Addr} {slx3 : Array (Option Value)} {kVx3 dcx3 pmx3 cdx3 ctx3 ocx3 : Value}
    {C4 f4 : Addr} {nx4 qx4 : Str} {Nx4 : Addr} {bx4 : List Value} {sx4 : List Str} {ux4 : List Value} {abx4 : Bool} {ox4 : Option Bool} {ex4 : Option Addr} {mx40 mx41 mx42 mx43 mx45 : Option Value}
    {odx4 anx4 : Option Addr} {slx4 : Array (Option Value)} {kVx4 dcx4 pmx4 cdx4 ctx4 ocx4 : Value}
    {C5 f5 : Addr} {nx5 qx5 : Str} {Nx5 : Addr} {bx5 : List Value} {sx5 : List Str} {ux5 : List Value} {abx5 : Bool} {ox5 : Option Bool} {ex5 : Option Addr} {mx50 mx51 mx52 mx53 mx55 : Option Value}
    {odx5 anx5 : Option Addr} {slx5 : Array (Option Value)} {kVx5 dcx5 pmx5 cdx5 ctx5 ocx5 : Value}
    {C6 f6 : Addr} {nx6 qx6 : Str} {Nx6 : Addr} {bx6 : List Value} {sx6 : List Str} {ux6 : List Value} {abx6 : Bool} {ox6 : Option Bool} {ex6 : Option Addr} {mx60 mx61 mx62 mx63 mx65 : Option Value}
    {odx6 anx6 : Option Addr} {slx6 : Array (Option Value)} {kVx6 dcx6 pmx6 cdx6 ctx6 ocx6 : Value}
    {C7 f7 : Addr} {nx7 qx7 : Str} {Nx7 : Addr} {bx7 : List Value} {sx7 : List Str} {ux7 : List Value} {abx7 : Bool} {ox7 : Option Bool} {ex7 : Option Addr} {mx70 mx71 mx72 mx73 mx75 : Option Value}
    {odx7 anx7 : Option Addr} {slx7 : Array (Option Value)} {kVx7 dcx7 pmx7 cdx7 ctx7 ocx7 : Value}
    {C8 f8 : Addr} {nx8 qx8 : Str} {Nx8 : Addr} {bx8 : List Value} {sx8 : List Str} {ux8 : List Value} {abx8 : Bool} {ox8 : Option Bool} {ex8 : Option Addr} {mx80 mx81 mx82 mx83 mx85 : Option Value}
    {odx8 anx8 : Option Addr} {slx8 : Array (Option Value)} {kVx8 dcx8 pmx8 cdx8 ctx8 ocx8 : Value}
    {C9 f9 : Addr} {nx9 qx9 : Str} {Nx9 : Addr} {bx9 : List Value} {sx9 : List Str} {ux9 : List Value} {abx9 : Bool} {ox9 : Option Bool} {ex9 : Option Addr} {mx90 mx91 mx92 mx93 mx95 : Option Value}
    {odx9 anx9 : Option Addr} {slx9 : Array (Option Value)} {kVx9 dcx9 pmx9 cdx9 ctx9 ocx9 : Value}
    {C10 f10 : Addr} {nx10 qx10 : Str} {Nx10 : Addr} {bx10 : List Value} {sx10 : List Str} {ux10 : List Value} {abx10 : Bool} {ox10 : Option Bool} {ex10 : Option Addr} {mx100 mx101 mx102 mx103 mx105 : Option Value}
    {odx10 anx10 : Option Addr} {slx10 : Array (Option Value)} {kVx10 dcx10 pmx10 cdx10 ctx10 ocx10 : Value}
    {fnP : Addr}
    {odP anP : Option Addr} {slP : Array (Option Value)} {kVP dcP pmP cdP ctP ocP : Value}
    {fnB : Addr}
    {odB anB : Option Addr} {slB : Array (Option Value)} {kVB dcB pmB cdB ctB ocB : Value}
    {fnN : Addr}
    {odN anN : Option Addr} {slN : Array (Option Value)} {kVN dcN pmN cdN ctN ocN : Value}
    {fnV : Addr}
    {odV anV : Option Addr} {slV : Array (Option Value)} {kVV dcV pmV cdV ctV ocV : Value}
    {fnK : Addr}
    {odK anK : Option Addr} {slK : Array (Option Value)} {kVK dcK pmK cdK ctK ocK : Value}
    {fnF : Addr}
    {odF anF : Option Addr} {slF : Array (Option Value)} {kVF dcF pmF cdF ctF ocF : Value}
    {fnL : Addr}
    {odL anL : Option Addr} {slL : Array (Option Value)} {kVL dcL pmL cdL ctL ocL : Value}
    (aD : PySem.W.nsIn K mainGlobals "StandError" = some (some (.ref D)))
    (xD : K.lookup D = some (excClassObj nD qD D ND bD bmVE true sD uD abD oD eD mD0 mD1 mD2 mD3 mD5 "ValueError.__new__"))
    (spD : PySem.W.specialIn K (.ref D) "__getattribute__" = some (some (.builtin "type.__getattribute__")))
    (rdD : PySem.W.readsIn K D (.type "type") = true)
    (fcD : PySem.W.findCls K (.ref D) (.type "type") "__init__" = some (.val (.builtin "ValueError.__init__")))
    (fcL : PySem.W.findCls K (.type "LookupError") (.type "type") "__init__" = some (.val (.builtin "LookupError.__init__")))
    (fcO : PySem.W.findCls K (.type "OverflowError") (.type "type") "__init__" = some (.val (.builtin "OverflowError.__init__")))
    (dn : PySem.W.specialIn K (.builtin "object.__class__") "__get__" = some (some (.builtin "getset_descriptor.__get__")))
    (dt : PySem.W.takesIn K (.builtin "object.__class__") = some true)
    (ax0 : PySem.W.nsIn K mainGlobals "BadThings" = some (some (.ref C0)))
    (xx0 : K.lookup C0 = some (excClassObj nx0 qx0 C0 Nx0 bx0 (.ref D :: bmVE) true sx0 ux0 abx0 ox0 ex0 mx00 mx01 mx02 mx03 mx05 "ValueError.__new__"))
    (sax0 : PySem.W.findIn K (.ref C0) "__setattr__" = some (some (.builtin "object.__setattr__")))
    (gax0 : PySem.W.findIn K (.ref C0) "__getattribute__" = some (some (.builtin "BaseException.__getattribute__")))
    (ggx0 : PySem.W.findIn K (.ref C0) "__getattr__" = some none)
    (ccx0 : PySem.W.findIn K (.ref C0) "__class__" = some (some (.builtin "object.__class__")))
    (kkx0 : PySem.W.keepIn K (.ref C0) = true)
    (nox0 : PySem.W.findIn K (.ref C0) "value" = some none)
    (atx0 : PySem.W.findIn K (.ref C0) "__init__" = some (some (.ref f0)))
    (tyx0 : PySem.W.typeIn K (.ref f0) = some (.type "function"))
    (lx0 : K.lookup f0 = some ⟨ocx0, odx0, .func (PySem.W.fnOf "__init__" "BadThings.__init__" (defArgs sI_BadThings) (defBody sI_BadThings) (defScope sI_BadThings) .none kVx0 dcx0 pmx0 anx0 cdx0 ctx0), slx0⟩)
    (cx0 : PySem.W.codeIn K cdx0 "BadThings.__init__" = true)
    (kx0 : PySem.W.keepIn K (.ref f0) = true)
    (ax1 : PySem.W.nsIn K mainGlobals "BadLot" = some (some (.ref C1)))
    (xx1 : K.lookup C1 = some (excClassObj nx1 qx1 C1 Nx1 bx1 (.ref D :: bmVE) true sx1 ux1 abx1 ox1 ex1 mx10 mx11 mx12 mx13 mx15 "ValueError.__new__"))
    (sax1 : PySem.W.findIn K (.ref C1) "__setattr__" = some (some (.builtin "object.__setattr__")))
    (gax1 : PySem.W.findIn K (.ref C1) "__getattribute__" = some (some (.builtin "BaseException.__getattribute__")))
    (ggx1 : PySem.W.findIn K (.ref C1) "__getattr__" = some none)
    (ccx1 : PySem.W.findIn K (.ref C1) "__class__" = some (some (.builtin "object.__class__")))
    (kkx1 : PySem.W.keepIn K (.ref C1) = true)
    (nox1 : PySem.W.findIn K (.ref C1) "value" = some none)
    (atx1 : PySem.W.findIn K (.ref C1) "__init__" = some (some (.ref f1)))
    (tyx1 : PySem.W.typeIn K (.ref f1) = some (.type "function"))
    (lx1 : K.lookup f1 = some ⟨ocx1, odx1, .func (PySem.W.fnOf "__init__" "BadLot.__init__" (defArgs sI_BadLot) (defBody sI_BadLot) (defScope sI_BadLot) .none kVx1 dcx1 pmx1 anx1 cdx1 ctx1), slx1⟩)
    (cx1 : PySem.W.codeIn K cdx1 "BadLot.__init__" = true)
    (kx1 : PySem.W.keepIn K (.ref f1) = true)
    (ax2 : PySem.W.nsIn K mainGlobals "BadCounts" = some (some (.ref C2)))
    (xx2 : K.lookup C2 = some (excClassObj nx2 qx2 C2 Nx2 bx2 (.ref D :: bmVE) true sx2 ux2 abx2 ox2 ex2 mx20 mx21 mx22 mx23 mx25 "ValueError.__new__"))
    (sax2 : PySem.W.findIn K (.ref C2) "__setattr__" = some (some (.builtin "object.__setattr__")))
    (gax2 : PySem.W.findIn K (.ref C2) "__getattribute__" = some (some (.builtin "BaseException.__getattribute__")))
    (ggx2 : PySem.W.findIn K (.ref C2) "__getattr__" = some none)
    (ccx2 : PySem.W.findIn K (.ref C2) "__class__" = some (some (.builtin "object.__class__")))
    (kkx2 : PySem.W.keepIn K (.ref C2) = true)
    (nox2 : PySem.W.findIn K (.ref C2) "place" = some none)
    (atx2 : PySem.W.findIn K (.ref C2) "__init__" = some (some (.ref f2)))
    (tyx2 : PySem.W.typeIn K (.ref f2) = some (.type "function"))
    (lx2 : K.lookup f2 = some ⟨ocx2, odx2, .func (PySem.W.fnOf "__init__" "BadCounts.__init__" (defArgs sI_BadCounts) (defBody sI_BadCounts) (defScope sI_BadCounts) .none kVx2 dcx2 pmx2 anx2 cdx2 ctx2), slx2⟩)
    (cx2 : PySem.W.codeIn K cdx2 "BadCounts.__init__" = true)
    (kx2 : PySem.W.keepIn K (.ref f2) = true)
    (ax3 : PySem.W.nsIn K mainGlobals "BadMaker" = some (some (.ref C3)))
    (xx3 : K.lookup C3 = some (excClassObj nx3 qx3 C3 Nx3 bx3 (.ref D :: bmVE) true sx3 ux3 abx3 ox3 ex3 mx30 mx31 mx32 mx33 mx35 "ValueError.__new__"))
    (sax3 : PySem.W.findIn K (.ref C3) "__setattr__" = some (some (.builtin "object.__setattr__")))
    (gax3 : PySem.W.findIn K (.ref C3) "__getattribute__" = some (some (.builtin "BaseException.__getattribute__")))
    (ggx3 : PySem.W.findIn K (.ref C3) "__getattr__" = some none)
    (ccx3 : PySem.W.findIn K (.ref C3) "__class__" = some (some (.builtin "object.__class__")))
    (kkx3 : PySem.W.keepIn K (.ref C3) = true)
    (nox3 : PySem.W.findIn K (.ref C3) "place" = some none)
    (atx3 : PySem.W.findIn K (.ref C3) "__init__" = some (some (.ref f3)))
    (tyx3 : PySem.W.typeIn K (.ref f3) = some (.type "function"))
    (lx3 : K.lookup f3 = some ⟨ocx3, odx3, .func (PySem.W.fnOf "__init__" "BadMaker.__init__" (defArgs sI_BadMaker) (defBody sI_BadMaker) (defScope sI_BadMaker) .none kVx3 dcx3 pmx3 anx3 cdx3 ctx3), slx3⟩)
    (cx3 : PySem.W.codeIn K cdx3 "BadMaker.__init__" = true)
    (kx3 : PySem.W.keepIn K (.ref f3) = true)
    (ax4 : PySem.W.nsIn K mainGlobals "BadNumber" = some (some (.ref C4)))
    (xx4 : K.lookup C4 = some (excClassObj nx4 qx4 C4 Nx4 bx4 (.ref D :: bmVE) true sx4 ux4 abx4 ox4 ex4 mx40 mx41 mx42 mx43 mx45 "ValueError.__new__"))
    (sax4 : PySem.W.findIn K (.ref C4) "__setattr__" = some (some (.builtin "object.__setattr__")))
    (gax4 : PySem.W.findIn K (.ref C4) "__getattribute__" = some (some (.builtin "BaseException.__getattribute__")))
    (ggx4 : PySem.W.findIn K (.ref C4) "__getattr__" = some none)
    (ccx4 : PySem.W.findIn K (.ref C4) "__class__" = some (some (.builtin "object.__class__")))
    (kkx4 : PySem.W.keepIn K (.ref C4) = true)
    (nox4 : PySem.W.findIn K (.ref C4) "value" = some none)
    (atx4 : PySem.W.findIn K (.ref C4) "__init__" = some (some (.ref f4)))
    (tyx4 : PySem.W.typeIn K (.ref f4) = some (.type "function"))
    (lx4 : K.lookup f4 = some ⟨ocx4, odx4, .func (PySem.W.fnOf "__init__" "BadNumber.__init__" (defArgs sI_BadNumber) (defBody sI_BadNumber) (defScope sI_BadNumber) .none kVx4 dcx4 pmx4 anx4 cdx4 ctx4), slx4⟩)
    (cx4 : PySem.W.codeIn K cdx4 "BadNumber.__init__" = true)
    (kx4 : PySem.W.keepIn K (.ref f4) = true)
    (ax5 : PySem.W.nsIn K mainGlobals "BadClaim" = some (some (.ref C5)))
    (xx5 : K.lookup C5 = some (excClassObj nx5 qx5 C5 Nx5 bx5 (.ref D :: bmVE) true sx5 ux5 abx5 ox5 ex5 mx50 mx51 mx52 mx53 mx55 "ValueError.__new__"))
    (sax5 : PySem.W.findIn K (.ref C5) "__setattr__" = some (some (.builtin "object.__setattr__")))
    (gax5 : PySem.W.findIn K (.ref C5) "__getattribute__" = some (some (.builtin "BaseException.__getattribute__")))
    (ggx5 : PySem.W.findIn K (.ref C5) "__getattr__" = some none)
    (ccx5 : PySem.W.findIn K (.ref C5) "__class__" = some (some (.builtin "object.__class__")))
    (kkx5 : PySem.W.keepIn K (.ref C5) = true)
    (nox5 : PySem.W.findIn K (.ref C5) "value" = some none)
    (atx5 : PySem.W.findIn K (.ref C5) "__init__" = some (some (.ref f5)))
    (tyx5 : PySem.W.typeIn K (.ref f5) = some (.type "function"))
    (lx5 : K.lookup f5 = some ⟨ocx5, odx5, .func (PySem.W.fnOf "__init__" "BadClaim.__init__" (defArgs sI_BadClaim) (defBody sI_BadClaim) (defScope sI_BadClaim) .none kVx5 dcx5 pmx5 anx5 cdx5 ctx5), slx5⟩)
    (cx5 : PySem.W.codeIn K cdx5 "BadClaim.__init__" = true)
    (kx5 : PySem.W.keepIn K (.ref f5) = true)
    (ax6 : PySem.W.nsIn K mainGlobals "BadFacts" = some (some (.ref C6)))
    (xx6 : K.lookup C6 = some (excClassObj nx6 qx6 C6 Nx6 bx6 (.ref D :: bmVE) true sx6 ux6 abx6 ox6 ex6 mx60 mx61 mx62 mx63 mx65 "ValueError.__new__"))
    (sax6 : PySem.W.findIn K (.ref C6) "__setattr__" = some (some (.builtin "object.__setattr__")))
    (gax6 : PySem.W.findIn K (.ref C6) "__getattribute__" = some (some (.builtin "BaseException.__getattribute__")))
    (ggx6 : PySem.W.findIn K (.ref C6) "__getattr__" = some none)
    (ccx6 : PySem.W.findIn K (.ref C6) "__class__" = some (some (.builtin "object.__class__")))
    (kkx6 : PySem.W.keepIn K (.ref C6) = true)
    (nox6 : PySem.W.findIn K (.ref C6) "number" = some none)
    (atx6 : PySem.W.findIn K (.ref C6) "__init__" = some (some (.ref f6)))
    (tyx6 : PySem.W.typeIn K (.ref f6) = some (.type "function"))
    (lx6 : K.lookup f6 = some ⟨ocx6, odx6, .func (PySem.W.fnOf "__init__" "BadFacts.__init__" (defArgs sI_BadFacts) (defBody sI_BadFacts) (defScope sI_BadFacts) .none kVx6 dcx6 pmx6 anx6 cdx6 ctx6), slx6⟩)
    (cx6 : PySem.W.codeIn K cdx6 "BadFacts.__init__" = true)
    (kx6 : PySem.W.keepIn K (.ref f6) = true)
    (ax7 : PySem.W.nsIn K mainGlobals "BadPaper" = some (some (.ref C7)))
    (xx7 : K.lookup C7 = some (excClassObj nx7 qx7 C7 Nx7 bx7 (.ref D :: bmVE) true sx7 ux7 abx7 ox7 ex7 mx70 mx71 mx72 mx73 mx75 "ValueError.__new__"))
    (sax7 : PySem.W.findIn K (.ref C7) "__setattr__" = some (some (.builtin "object.__setattr__")))
    (gax7 : PySem.W.findIn K (.ref C7) "__getattribute__" = some (some (.builtin "BaseException.__getattribute__")))
    (ggx7 : PySem.W.findIn K (.ref C7) "__getattr__" = some none)
    (ccx7 : PySem.W.findIn K (.ref C7) "__class__" = some (some (.builtin "object.__class__")))
    (kkx7 : PySem.W.keepIn K (.ref C7) = true)
    (nox7 : PySem.W.findIn K (.ref C7) "place" = some none)
    (atx7 : PySem.W.findIn K (.ref C7) "__init__" = some (some (.ref f7)))
    (tyx7 : PySem.W.typeIn K (.ref f7) = some (.type "function"))
    (lx7 : K.lookup f7 = some ⟨ocx7, odx7, .func (PySem.W.fnOf "__init__" "BadPaper.__init__" (defArgs sI_BadPaper) (defBody sI_BadPaper) (defScope sI_BadPaper) .none kVx7 dcx7 pmx7 anx7 cdx7 ctx7), slx7⟩)
    (cx7 : PySem.W.codeIn K cdx7 "BadPaper.__init__" = true)
    (kx7 : PySem.W.keepIn K (.ref f7) = true)
    (ax8 : PySem.W.nsIn K mainGlobals "BadText" = some (some (.ref C8)))
    (xx8 : K.lookup C8 = some (excClassObj nx8 qx8 C8 Nx8 bx8 (.ref D :: bmVE) true sx8 ux8 abx8 ox8 ex8 mx80 mx81 mx82 mx83 mx85 "ValueError.__new__"))
    (sax8 : PySem.W.findIn K (.ref C8) "__setattr__" = some (some (.builtin "object.__setattr__")))
    (gax8 : PySem.W.findIn K (.ref C8) "__getattribute__" = some (some (.builtin "BaseException.__getattribute__")))
    (ggx8 : PySem.W.findIn K (.ref C8) "__getattr__" = some none)
    (ccx8 : PySem.W.findIn K (.ref C8) "__class__" = some (some (.builtin "object.__class__")))
    (kkx8 : PySem.W.keepIn K (.ref C8) = true)
    (nox8 : PySem.W.findIn K (.ref C8) "line" = some none)
    (atx8 : PySem.W.findIn K (.ref C8) "__init__" = some (some (.ref f8)))
    (tyx8 : PySem.W.typeIn K (.ref f8) = some (.type "function"))
    (lx8 : K.lookup f8 = some ⟨ocx8, odx8, .func (PySem.W.fnOf "__init__" "BadText.__init__" (defArgs sI_BadText) (defBody sI_BadText) (defScope sI_BadText) .none kVx8 dcx8 pmx8 anx8 cdx8 ctx8), slx8⟩)
    (cx8 : PySem.W.codeIn K cdx8 "BadText.__init__" = true)
    (kx8 : PySem.W.keepIn K (.ref f8) = true)
    (ax9 : PySem.W.nsIn K mainGlobals "Quarrel" = some (some (.ref C9)))
    (xx9 : K.lookup C9 = some (excClassObj nx9 qx9 C9 Nx9 bx9 bmLE true sx9 ux9 abx9 ox9 ex9 mx90 mx91 mx92 mx93 mx95 "LookupError.__new__"))
    (sax9 : PySem.W.findIn K (.ref C9) "__setattr__" = some (some (.builtin "object.__setattr__")))
    (gax9 : PySem.W.findIn K (.ref C9) "__getattribute__" = some (some (.builtin "BaseException.__getattribute__")))
    (ggx9 : PySem.W.findIn K (.ref C9) "__getattr__" = some none)
    (ccx9 : PySem.W.findIn K (.ref C9) "__class__" = some (some (.builtin "object.__class__")))
    (kkx9 : PySem.W.keepIn K (.ref C9) = true)
    (nox9 : PySem.W.findIn K (.ref C9) "tree" = some none)
    (atx9 : PySem.W.findIn K (.ref C9) "__init__" = some (some (.ref f9)))
    (tyx9 : PySem.W.typeIn K (.ref f9) = some (.type "function"))
    (lx9 : K.lookup f9 = some ⟨ocx9, odx9, .func (PySem.W.fnOf "__init__" "Quarrel.__init__" (defArgs sI_Quarrel) (defBody sI_Quarrel) (defScope sI_Quarrel) .none kVx9 dcx9 pmx9 anx9 cdx9 ctx9), slx9⟩)
    (cx9 : PySem.W.codeIn K cdx9 "Quarrel.__init__" = true)
    (kx9 : PySem.W.keepIn K (.ref f9) = true)
    (ax10 : PySem.W.nsIn K mainGlobals "TooMany" = some (some (.ref C10)))
    (xx10 : K.lookup C10 = some (excClassObj nx10 qx10 C10 Nx10 bx10 bmOE true sx10 ux10 abx10 ox10 ex10 mx100 mx101 mx102 mx103 mx105 "OverflowError.__new__"))
    (sax10 : PySem.W.findIn K (.ref C10) "__setattr__" = some (some (.builtin "object.__setattr__")))
    (gax10 : PySem.W.findIn K (.ref C10) "__getattribute__" = some (some (.builtin "BaseException.__getattribute__")))
    (ggx10 : PySem.W.findIn K (.ref C10) "__getattr__" = some none)
    (ccx10 : PySem.W.findIn K (.ref C10) "__class__" = some (some (.builtin "object.__class__")))
    (kkx10 : PySem.W.keepIn K (.ref C10) = true)
    (nox10 : PySem.W.findIn K (.ref C10) "most" = some none)
    (atx10 : PySem.W.findIn K (.ref C10) "__init__" = some (some (.ref f10)))
    (tyx10 : PySem.W.typeIn K (.ref f10) = some (.type "function"))
    (lx10 : K.lookup f10 = some ⟨ocx10, odx10, .func (PySem.W.fnOf "__init__" "TooMany.__init__" (defArgs sI_TooMany) (defBody sI_TooMany) (defScope sI_TooMany) .none kVx10 dcx10 pmx10 anx10 cdx10 ctx10), slx10⟩)
    (cx10 : PySem.W.codeIn K cdx10 "TooMany.__init__" = true)
    (kx10 : PySem.W.keepIn K (.ref f10) = true)
    (aP : PySem.W.nsIn K mainGlobals "_as_passed" = some (some (.ref fnP)))
    (lP : K.lookup fnP = some ⟨ocP, odP, .func (PySem.W.fnOf "_as_passed" "_as_passed" (defArgs sPass) (defBody sPass) (defScope sPass) .none kVP dcP pmP anP cdP ctP), slP⟩)
    (cP : PySem.W.codeIn K cdP "_as_passed" = true)
    (kP : PySem.W.keepIn K (.ref fnP) = true)
    (aB : PySem.W.nsIn K mainGlobals "_law_begun" = some (some (.ref fnB)))
    (lB : K.lookup fnB = some ⟨ocB, odB, .func (PySem.W.fnOf "_law_begun" "_law_begun" (defArgs sBegun) (defBody sBegun) (defScope sBegun) .none kVB dcB pmB anB cdB ctB), slB⟩)
    (cB : PySem.W.codeIn K cdB "_law_begun" = true)
    (kB : PySem.W.keepIn K (.ref fnB) = true)
    (aN : PySem.W.nsIn K mainGlobals "_law_next" = some (some (.ref fnN)))
    (lN : K.lookup fnN = some ⟨ocN, odN, .func (PySem.W.fnOf "_law_next" "_law_next" (defArgs sNext) (defBody sNext) (defScope sNext) .none kVN dcN pmN anN cdN ctN), slN⟩)
    (cN : PySem.W.codeIn K cdN "_law_next" = true)
    (kN : PySem.W.keepIn K (.ref fnN) = true)
    (aV : PySem.W.nsIn K mainGlobals "_law_value" = some (some (.ref fnV)))
    (lV : K.lookup fnV = some ⟨ocV, odV, .func (PySem.W.fnOf "_law_value" "_law_value" (defArgs sValue) (defBody sValue) (defScope sValue) .none kVV dcV pmV anV cdV ctV), slV⟩)
    (cV : PySem.W.codeIn K cdV "_law_value" = true)
    (kV : PySem.W.keepIn K (.ref fnV) = true)
    (aK : PySem.W.nsIn K mainGlobals "_law_kinds" = some (some (.ref fnK)))
    (lK : K.lookup fnK = some ⟨ocK, odK, .func (PySem.W.fnOf "_law_kinds" "_law_kinds" (defArgs sKinds) (defBody sKinds) (defScope sKinds) .none kVK dcK pmK anK cdK ctK), slK⟩)
    (cK : PySem.W.codeIn K cdK "_law_kinds" = true)
    (kK : PySem.W.keepIn K (.ref fnK) = true)
    (aF : PySem.W.nsIn K mainGlobals "_law_field" = some (some (.ref fnF)))
    (lF : K.lookup fnF = some ⟨ocF, odF, .func (PySem.W.fnOf "_law_field" "_law_field" (defArgs sField) (defBody sField) (defScope sField) .none kVF dcF pmF anF cdF ctF), slF⟩)
    (cF : PySem.W.codeIn K cdF "_law_field" = true)
    (kF : PySem.W.keepIn K (.ref fnF) = true)
    (aL : PySem.W.nsIn K mainGlobals "law" = some (some (.ref fnL)))
    (lL : K.lookup fnL = some ⟨ocL, odL, .func (PySem.W.fnOf "law" "law" (defArgs sLaw) (defBody sLaw) (defScope sLaw) .none kVL dcL pmL anL cdL ctL), slL⟩)
    (cL : PySem.W.codeIn K cdL "law" = true)
    (kL : PySem.W.keepIn K (.ref fnL) = true)
    (zlen : PySem.W.nsIn K mainGlobals "len" = some none)
    (zint : PySem.W.nsIn K mainGlobals "int" = some none)
    (zlist : PySem.W.nsIn K mainGlobals "list" = some none)
    (zdict : PySem.W.nsIn K mainGlobals "dict" = some none)
    (zisinstance : PySem.W.nsIn K mainGlobals "isinstance" = some none)
    (zrepr : PySem.W.nsIn K mainGlobals "repr" = some none)
    (zrange : PySem.W.nsIn K mainGlobals "range" = some none)
    (zmin : PySem.W.nsIn K mainGlobals "min" = some none)
    (zenumerate : PySem.W.nsIn K mainGlobals "enumerate" = some none)
    (zve : PySem.W.nsIn K mainGlobals "ValueError" = some none)
    (zle : PySem.W.nsIn K mainGlobals "LookupError" = some none)
    (zoe : PySem.W.nsIn K mainGlobals "OverflowError" = some none)
    (zke : PySem.W.nsIn K mainGlobals "KeyError" = some none)
    (zie : PySem.W.nsIn K mainGlobals "IndexError" = some none)
    (nd : ([C0, C1, C2, C3, C4, C5, C6, C7, C8, C9, C10] ++ [D] : List Addr).Nodup) :
    ∃ fd : FuncData, (∀ (s : Shared) (v : Value), BindsTo s fd ⟨[v], []⟩ [("script", v)]) ∧ ∀ base : Heap, K.In base → base.Ns mainGlobals mg → FnG PySem.Challenge.rw_standlots_k70_errors.prog w K mg base CX0 4 fa fd ["script"] (spLaw K) := by
  have e := hfa.symm.trans (PySem.W.mg_of X G aL)
  cases e
  have T : Blt mg := ⟨PySem.W.mg_none_of X G zlen, PySem.W.mg_none_of X G zint, PySem.W.mg_none_of X G zlist, PySem.W.mg_none_of X G zdict, PySem.W.mg_none_of X G zisinstance, PySem.W.mg_none_of X G zrepr, PySem.W.mg_none_of X G zrange, PySem.W.mg_none_of X G zmin, PySem.W.mg_none_of X G zenumerate, PySem.W.mg_none_of X G zve, PySem.W.mg_none_of X G zle, PySem.W.mg_none_of X G zoe, PySem.W.mg_none_of X G zke, PySem.W.mg_none_of X G zie⟩
  have E0 : ErrC K C0 "ValueError" "ValueError.__new__" "ValueError.__init__" bmVE := errC_of PySem.F.excBase_ValueError PySem.F.store_ValueError xx0 (by first | rfl | decide +kernel) sax0 gax0 ggx0 kkx0 ccx0
  have E1 : ErrC K C1 "ValueError" "ValueError.__new__" "ValueError.__init__" bmVE := errC_of PySem.F.excBase_ValueError PySem.F.store_ValueError xx1 (by first | rfl | decide +kernel) sax1 gax1 ggx1 kkx1 ccx1
  have E2 : ErrC K C2 "ValueError" "ValueError.__new__" "ValueError.__init__" bmVE := errC_of PySem.F.excBase_ValueError PySem.F.store_ValueError xx2 (by first | rfl | decide +kernel) sax2 gax2 ggx2 kkx2 ccx2
  have E3 : ErrC K C3 "ValueError" "ValueError.__new__" "ValueError.__init__" bmVE := errC_of PySem.F.excBase_ValueError PySem.F.store_ValueError xx3 (by first | rfl | decide +kernel) sax3 gax3 ggx3 kkx3 ccx3
  have E4 : ErrC K C4 "ValueError" "ValueError.__new__" "ValueError.__init__" bmVE := errC_of PySem.F.excBase_ValueError PySem.F.store_ValueError xx4 (by first | rfl | decide +kernel) sax4 gax4 ggx4 kkx4 ccx4
  have E5 : ErrC K C5 "ValueError" "ValueError.__new__" "ValueError.__init__" bmVE := errC_of PySem.F.excBase_ValueError PySem.F.store_ValueError xx5 (by first | rfl | decide +kernel) sax5 gax5 ggx5 kkx5 ccx5
  have E6 : ErrC K C6 "ValueError" "ValueError.__new__" "ValueError.__init__" bmVE := errC_of PySem.F.excBase_ValueError PySem.F.store_ValueError xx6 (by first | rfl | decide +kernel) sax6 gax6 ggx6 kkx6 ccx6
  have E7 : ErrC K C7 "ValueError" "ValueError.__new__" "ValueError.__init__" bmVE := errC_of PySem.F.excBase_ValueError PySem.F.store_ValueError xx7 (by first | rfl | decide +kernel) sax7 gax7 ggx7 kkx7 ccx7
  have E8 : ErrC K C8 "ValueError" "ValueError.__new__" "ValueError.__init__" bmVE := errC_of PySem.F.excBase_ValueError PySem.F.store_ValueError xx8 (by first | rfl | decide +kernel) sax8 gax8 ggx8 kkx8 ccx8
  have E9 : ErrC K C9 "LookupError" "LookupError.__new__" "LookupError.__init__" bmLE := errC_of PySem.F.excBase_LookupError PySem.F.store_LookupError xx9 (by first | rfl | decide +kernel) sax9 gax9 ggx9 kkx9 ccx9
  have E10 : ErrC K C10 "OverflowError" "OverflowError.__new__" "OverflowError.__init__" bmOE := errC_of PySem.F.excBase_OverflowError PySem.F.store_OverflowError xx10 (by first | rfl | decide +kernel) sax10 gax10 ggx10 kkx10 ccx10
  have S : BaseT K mg D := ⟨PySem.W.mg_of X G aD, spD, rdD, fcD⟩
  have xs : ∀ (j : Nat) (C : Addr), ([C0, C1, C2, C3, C4, C5, C6, C7, C8, C9, C10] : List Addr)[j]? = some C → ∃ newId, ObjX K C (bmO D j) newId := fun j C hj => by
    rcases j with _ | _ | _ | _ | _ | _ | _ | _ | _ | _ | _ | j
    · cases hj
      exact ⟨_, _, _, _, _, _, _, _, _, _, _, _, _, _, _, xx0⟩
    · cases hj
      exact ⟨_, _, _, _, _, _, _, _, _, _, _, _, _, _, _, xx1⟩
    · cases hj
      exact ⟨_, _, _, _, _, _, _, _, _, _, _, _, _, _, _, xx2⟩
    · cases hj
      exact ⟨_, _, _, _, _, _, _, _, _, _, _, _, _, _, _, xx3⟩
    · cases hj
      exact ⟨_, _, _, _, _, _, _, _, _, _, _, _, _, _, _, xx4⟩
    · cases hj
      exact ⟨_, _, _, _, _, _, _, _, _, _, _, _, _, _, _, xx5⟩
    · cases hj
      exact ⟨_, _, _, _, _, _, _, _, _, _, _, _, _, _, _, xx6⟩
    · cases hj
      exact ⟨_, _, _, _, _, _, _, _, _, _, _, _, _, _, _, xx7⟩
    · cases hj
      exact ⟨_, _, _, _, _, _, _, _, _, _, _, _, _, _, _, xx8⟩
    · cases hj
      exact ⟨_, _, _, _, _, _, _, _, _, _, _, _, _, _, _, xx9⟩
    · cases hj
      exact ⟨_, _, _, _, _, _, _, _, _, _, _, _, _, _, _, xx10⟩
    · simp at hj
  obtain ⟨q1, q2, q3, q4, q5, q6⟩ := asks (L := [C0, C1, C2, C3, C4, C5, C6, C7, C8, C9, C10]) (D := D) rfl nd ⟨_, _, _, _, _, _, _, _, _, _, _, _, _, _, xD⟩ xs
  have T2 : Errs K mg D (fun j => ([C0, C1, C2, C3, C4, C5, C6, C7, C8, C9, C10] : List Addr).getD j 0) := {
    e := fun j hj => by
      rcases j with _ | _ | _ | _ | _ | _ | _ | _ | _ | _ | _ | j
      · exact ⟨_, _, _, _, E0, nox0⟩
      · exact ⟨_, _, _, _, E1, nox1⟩
      · exact ⟨_, _, _, _, E2, nox2⟩
      · exact ⟨_, _, _, _, E3, nox3⟩
      · exact ⟨_, _, _, _, E4, nox4⟩
      · exact ⟨_, _, _, _, E5, nox5⟩
      · exact ⟨_, _, _, _, E6, nox6⟩
      · exact ⟨_, _, _, _, E7, nox7⟩
      · exact ⟨_, _, _, _, E8, nox8⟩
      · exact ⟨_, _, _, _, E9, nox9⟩
      · exact ⟨_, _, _, _, E10, nox10⟩
      · omega
    ask := q1
    askD := q2
    askV := q3
    askL := q4
    askO := q5
    askN := q6
    g0 := PySem.W.mg_of X G ax0
    g1 := PySem.W.mg_of X G ax1
    g2 := PySem.W.mg_of X G ax2
    g3 := PySem.W.mg_of X G ax3
    g4 := PySem.W.mg_of X G ax4
    g5 := PySem.W.mg_of X G ax5
    g6 := PySem.W.mg_of X G ax6
    g7 := PySem.W.mg_of X G ax7
    g8 := PySem.W.mg_of X G ax8
    g9 := PySem.W.mg_of X G ax9
    g10 := PySem.W.mg_of X G ax10
    gD := PySem.W.mg_of X G aD
    S := ⟨dn, dt⟩ }
  have FP := fun_mk (st := sPass) lP cP kP
  have FB := fun_mk (st := sBegun) lB cB kB
  have FN := fun_mk (st := sNext) lN cN kN
  have FV := fun_mk (st := sValue) lV cV kV
  have FK := fun_mk (st := sKinds) lK cK kK
  have FF := fun_mk (st := sField) lF cF kF
  have FL := fun_mk (st := sLaw) lL cL kL
  have Fx0 := fun_mk (st := sI_BadThings) lx0 cx0 kx0
  have Fx1 := fun_mk (st := sI_BadLot) lx1 cx1 kx1
  have Fx2 := fun_mk (st := sI_BadCounts) lx2 cx2 kx2
  have Fx3 := fun_mk (st := sI_BadMaker) lx3 cx3 kx3
  have Fx4 := fun_mk (st := sI_BadNumber) lx4 cx4 kx4
  have Fx5 := fun_mk (st := sI_BadClaim) lx5 cx5 kx5
  have Fx6 := fun_mk (st := sI_BadFacts) lx6 cx6 kx6
  have Fx7 := fun_mk (st := sI_BadPaper) lx7 cx7 kx7
  have Fx8 := fun_mk (st := sI_BadText) lx8 cx8 kx8
  have Fx9 := fun_mk (st := sI_Quarrel) lx9 cx9 kx9
  have Fx10 := fun_mk (st := sI_TooMany) lx10 cx10 kx10
  have bP := FP.binds (ps := ["value"]) fun _ _ _ _ _ _ us hl => match us, hl with | [_], _ => rfl
  have bB := FB.binds (ps := ["script"]) fun _ _ _ _ _ _ us hl => match us, hl with | [_], _ => rfl
  have bN := FN.binds (ps := ["m", "many"]) fun _ _ _ _ _ _ us hl => match us, hl with | [_, _], _ => rfl
  have bV := FV.binds (ps := ["m"]) fun _ _ _ _ _ _ us hl => match us, hl with | [_], _ => rfl
  have bK := FK.binds (ps := ["one"]) fun _ _ _ _ _ _ us hl => match us, hl with | [_], _ => rfl
  have bF := FF.binds (ps := ["one"]) fun _ _ _ _ _ _ us hl => match us, hl with | [_], _ => rfl
  have bx0 := Fx0.binds (ps := ["self", "value"]) fun _ _ _ _ _ _ us hl => match us, hl with | [_, _], _ => rfl
  have bx1 := Fx1.binds (ps := ["self", "value"]) fun _ _ _ _ _ _ us hl => match us, hl with | [_, _], _ => rfl
  have bx2 := Fx2.binds (ps := ["self", "place"]) fun _ _ _ _ _ _ us hl => match us, hl with | [_, _], _ => rfl
  have bx3 := Fx3.binds (ps := ["self", "place"]) fun _ _ _ _ _ _ us hl => match us, hl with | [_, _], _ => rfl
  have bx4 := Fx4.binds (ps := ["self", "value"]) fun _ _ _ _ _ _ us hl => match us, hl with | [_, _], _ => rfl
  have bx5 := Fx5.binds (ps := ["self", "value"]) fun _ _ _ _ _ _ us hl => match us, hl with | [_, _], _ => rfl
  have bx6 := Fx6.binds (ps := ["self", "number"]) fun _ _ _ _ _ _ us hl => match us, hl with | [_, _], _ => rfl
  have bx7 := Fx7.binds (ps := ["self", "place"]) fun _ _ _ _ _ _ us hl => match us, hl with | [_, _], _ => rfl
  have bx8 := Fx8.binds (ps := ["self", "line"]) fun _ _ _ _ _ _ us hl => match us, hl with | [_, _], _ => rfl
  have bx9 := Fx9.binds (ps := ["self", "tree"]) fun _ _ _ _ _ _ us hl => match us, hl with | [_, _], _ => rfl
  have bx10 := Fx10.binds (ps := ["self", "most"]) fun _ _ _ _ _ _ us hl => match us, hl with | [_, _], _ => rfl
  refine ⟨PySem.W.fnOf "law" "law" (defArgs sLaw) (defBody sLaw) (defScope sLaw) .none kVL dcL pmL anL cdL ctL, fun s v => .of_eq rfl, fun base _ _ => ?_⟩
  · have GP := ok_pass (P := PySem.Challenge.rw_standlots_k70_errors.prog) (w := w) (base := base) FP T
    have GN := ok_next (P := PySem.Challenge.rw_standlots_k70_errors.prog) (w := w) (base := base) FN T
    have gP := PySem.W.mg_of X G aP
    have J : Mks PySem.Challenge.rw_standlots_k70_errors.prog w K mg base (fun j => ([C0, C1, C2, C3, C4, C5, C6, C7, C8, C9, C10] : List Addr).getD j 0) (fun j => ([f0, f1, f2, f3, f4, f5, f6, f7, f8, f9, f10] : List Addr).getD j 0) (fdOf [PySem.W.fnOf "__init__" "BadThings.__init__" (defArgs sI_BadThings) (defBody sI_BadThings) (defScope sI_BadThings) .none kVx0 dcx0 pmx0 anx0 cdx0 ctx0, PySem.W.fnOf "__init__" "BadLot.__init__" (defArgs sI_BadLot) (defBody sI_BadLot) (defScope sI_BadLot) .none kVx1 dcx1 pmx1 anx1 cdx1 ctx1, PySem.W.fnOf "__init__" "BadCounts.__init__" (defArgs sI_BadCounts) (defBody sI_BadCounts) (defScope sI_BadCounts) .none kVx2 dcx2 pmx2 anx2 cdx2 ctx2, PySem.W.fnOf "__init__" "BadMaker.__init__" (defArgs sI_BadMaker) (defBody sI_BadMaker) (defScope sI_BadMaker) .none kVx3 dcx3 pmx3 anx3 cdx3 ctx3, PySem.W.fnOf "__init__" "BadNumber.__init__" (defArgs sI_BadNumber) (defBody sI_BadNumber) (defScope sI_BadNumber) .none kVx4 dcx4 pmx4 anx4 cdx4 ctx4, PySem.W.fnOf "__init__" "BadClaim.__init__" (defArgs sI_BadClaim) (defBody sI_BadClaim) (defScope sI_BadClaim) .none kVx5 dcx5 pmx5 anx5 cdx5 ctx5, PySem.W.fnOf "__init__" "BadFacts.__init__" (defArgs sI_BadFacts) (defBody sI_BadFacts) (defScope sI_BadFacts) .none kVx6 dcx6 pmx6 anx6 cdx6 ctx6, PySem.W.fnOf "__init__" "BadPaper.__init__" (defArgs sI_BadPaper) (defBody sI_BadPaper) (defScope sI_BadPaper) .none kVx7 dcx7 pmx7 anx7 cdx7 ctx7, PySem.W.fnOf "__init__" "BadText.__init__" (defArgs sI_BadText) (defBody sI_BadText) (defScope sI_BadText) .none kVx8 dcx8 pmx8 anx8 cdx8 ctx8, PySem.W.fnOf "__init__" "Quarrel.__init__" (defArgs sI_Quarrel) (defBody sI_Quarrel) (defScope sI_Quarrel) .none kVx9 dcx9 pmx9 anx9 cdx9 ctx9, PySem.W.fnOf "__init__" "TooMany.__init__" (defArgs sI_TooMany) (defBody sI_TooMany) (defScope sI_TooMany) .none kVx10 dcx10 pmx10 anx10 cdx10 ctx10]) := {
      j := fun j hj => by
        rcases j with _ | _ | _ | _ | _ | _ | _ | _ | _ | _ | _ | j
        · exact ⟨atx0, tyx0⟩
        · exact ⟨atx1, tyx1⟩
        · exact ⟨atx2, tyx2⟩
        · exact ⟨atx3, tyx3⟩
        · exact ⟨atx4, tyx4⟩
        · exact ⟨atx5, tyx5⟩
        · exact ⟨atx6, tyx6⟩
        · exact ⟨atx7, tyx7⟩
        · exact ⟨atx8, tyx8⟩
        · exact ⟨atx9, tyx9⟩
        · exact ⟨atx10, tyx10⟩
        · omega
      f := fun j hj => by
        rcases j with _ | _ | _ | _ | _ | _ | _ | _ | _ | _ | _ | j
        · exact okI_BadThings  Fx0 S E0 nox0 GP gP kP bP
        · exact okI_BadLot  Fx1 S E1 nox1 GP gP kP bP
        · exact okI_BadCounts  Fx2 S E2 nox2 GP gP kP bP
        · exact okI_BadMaker  Fx3 S E3 nox3 GP gP kP bP
        · exact okI_BadNumber  Fx4 S E4 nox4 GP gP kP bP
        · exact okI_BadClaim  Fx5 S E5 nox5 GP gP kP bP
        · exact okI_BadFacts  Fx6 S E6 nox6 GP gP kP bP
        · exact okI_BadPaper  Fx7 S E7 nox7 GP gP kP bP
        · exact okI_BadText  Fx8 S E8 nox8 GP gP kP bP
        · exact okI_Quarrel (D := D) Fx9 T.le fcL E9 nox9 GP gP kP bP
        · exact okI_TooMany (D := D) Fx10 T.oe fcO E10 nox10 GP gP kP bP
        · omega
      b := fun j hj => by
        rcases j with _ | _ | _ | _ | _ | _ | _ | _ | _ | _ | _ | j
        · exact bx0
        · exact bx1
        · exact bx2
        · exact bx3
        · exact bx4
        · exact bx5
        · exact bx6
        · exact bx7
        · exact bx8
        · exact bx9
        · exact bx10
        · omega
      kb := fun j hj => by
        rcases j with _ | _ | _ | _ | _ | _ | _ | _ | _ | _ | _ | j
        · exact fun _ _ => rfl
        · exact fun _ _ => rfl
        · exact fun _ _ => rfl
        · exact fun _ _ => rfl
        · exact fun _ _ => rfl
        · exact fun _ _ => rfl
        · exact fun _ _ => rfl
        · exact fun _ _ => rfl
        · exact fun _ _ => rfl
        · exact fun _ _ => rfl
        · exact fun _ _ => rfl
        · omega }
    exact ok_law FL T T2 J (ok_field FF T T2) (PySem.W.mg_of X G aF) kF bF (ok_kinds FK T T2) (PySem.W.mg_of X G aK) kK bK (ok_value FV GN (PySem.W.mg_of X G aN) kN bN) (PySem.W.mg_of X G aV) kV bV (ok_begun FB T) (PySem.W.mg_of X G aB) kB bB
end
end Lots

open PySem PySem.W PyProof.Rows in
set_option maxRecDepth 100000 in
set_option maxHeartbeats 0 in
theorem PySem.Challenge.cw_standlots_k70_errors_holds : PySem.Challenge.rw_standlots_k70_errors.Holds := by
  w_on; o_law; k_head; (case hw => w_witness2)
  k_fill
  refine Lots.walk_guarded (l := PySem.Challenge.rw_standlots_k70_errors) (n := 63) (k := 4) (x := "script") (sp := Lots.spLaw) rfl (by decide) rfl ⟨rfl, by decide, by decide⟩ (fun w h Y => PySem.W.kIn_of Y) ?F ?W
  case W => exact fun K H a ns hl _ hS => ⟨a, ns, rfl, hS, hl, fun _ => rfl⟩
  case F =>
    intro w mg fa h KX G hmg
    refine' Lots.all_mk KX G hmg ?aD ?xD ?spD ?rdD ?fcD ?fcL ?fcO ?dn ?dt ?ax0 ?xx0 ?sax0 ?gax0 ?ggx0 ?ccx0 ?kkx0 ?nox0 ?atx0 ?tyx0 ?lx0 ?cx0 ?kx0 ?ax1 ?xx1 ?sax1 ?gax1 ?ggx1 ?ccx1 ?kkx1 ?nox1 ?atx1 ?tyx1 ?lx1 ?cx1 ?kx1 ?ax2 ?xx2 ?sax2 ?gax2 ?ggx2 ?ccx2 ?kkx2 ?nox2 ?atx2 ?tyx2 ?lx2 ?cx2 ?kx2 ?ax3 ?xx3 ?sax3 ?gax3 ?ggx3 ?ccx3 ?kkx3 ?nox3 ?atx3 ?tyx3 ?lx3 ?cx3 ?kx3 ?ax4 ?xx4 ?sax4 ?gax4 ?ggx4 ?ccx4 ?kkx4 ?nox4 ?atx4 ?tyx4 ?lx4 ?cx4 ?kx4 ?ax5 ?xx5 ?sax5 ?gax5 ?ggx5 ?ccx5 ?kkx5 ?nox5 ?atx5 ?tyx5 ?lx5 ?cx5 ?kx5 ?ax6 ?xx6 ?sax6 ?gax6 ?ggx6 ?ccx6 ?kkx6 ?nox6 ?atx6 ?tyx6 ?lx6 ?cx6 ?kx6 ?ax7 ?xx7 ?sax7 ?gax7 ?ggx7 ?ccx7 ?kkx7 ?nox7 ?atx7 ?tyx7 ?lx7 ?cx7 ?kx7 ?ax8 ?xx8 ?sax8 ?gax8 ?ggx8 ?ccx8 ?kkx8 ?nox8 ?atx8 ?tyx8 ?lx8 ?cx8 ?kx8 ?ax9 ?xx9 ?sax9 ?gax9 ?ggx9 ?ccx9 ?kkx9 ?nox9 ?atx9 ?tyx9 ?lx9 ?cx9 ?kx9 ?ax10 ?xx10 ?sax10 ?gax10 ?ggx10 ?ccx10 ?kkx10 ?nox10 ?atx10 ?tyx10 ?lx10 ?cx10 ?kx10 ?aP ?lP ?cP ?kP ?aB ?lB ?cB ?kB ?aN ?lN ?cN ?kN ?aV ?lV ?cV ?kV ?aK ?lK ?cK ?kK ?aF ?lF ?cF ?kF ?aL ?lL ?cL ?kL ?zlen ?zint ?zlist ?zdict ?zisinstance ?zrepr ?zrange ?zmin ?zenumerate ?zve ?zle ?zoe ?zke ?zie ?nd
    (case aD => k_is)
    (case xD => k_is)
    (case spD => k_is)
    (case rdD => k_is)
    (case fcD => k_is)
    (case fcL => k_is)
    (case fcO => k_is)
    (case dn => k_is)
    (case dt => k_is)
    (case ax0 => k_is)
    (case xx0 => k_is)
    (case sax0 => k_is)
    (case gax0 => k_is)
    (case ggx0 => k_is)
    (case ccx0 => k_is)
    (case kkx0 => k_is)
    (case nox0 => k_is)
    (case atx0 => k_is)
    (case tyx0 => k_is)
    (case lx0 => k_is)
    (case cx0 => k_is)
    (case kx0 => k_is)
    (case ax1 => k_is)
    (case xx1 => k_is)
    (case sax1 => k_is)
    (case gax1 => k_is)
    (case ggx1 => k_is)
    (case ccx1 => k_is)
    (case kkx1 => k_is)
    (case nox1 => k_is)
    (case atx1 => k_is)
    (case tyx1 => k_is)
    (case lx1 => k_is)
    (case cx1 => k_is)
    (case kx1 => k_is)
    (case ax2 => k_is)
    (case xx2 => k_is)
    (case sax2 => k_is)
    (case gax2 => k_is)
    (case ggx2 => k_is)
    (case ccx2 => k_is)
    (case kkx2 => k_is)
    (case nox2 => k_is)
    (case atx2 => k_is)
    (case tyx2 => k_is)
    (case lx2 => k_is)
    (case cx2 => k_is)
    (case kx2 => k_is)
    (case ax3 => k_is)
    (case xx3 => k_is)
    (case sax3 => k_is)
    (case gax3 => k_is)
    (case ggx3 => k_is)
    (case ccx3 => k_is)
    (case kkx3 => k_is)
    (case nox3 => k_is)
    (case atx3 => k_is)
    (case tyx3 => k_is)
    (case lx3 => k_is)
    (case cx3 => k_is)
    (case kx3 => k_is)
    (case ax4 => k_is)
    (case xx4 => k_is)
    (case sax4 => k_is)
    (case gax4 => k_is)
    (case ggx4 => k_is)
    (case ccx4 => k_is)
    (case kkx4 => k_is)
    (case nox4 => k_is)
    (case atx4 => k_is)
    (case tyx4 => k_is)
    (case lx4 => k_is)
    (case cx4 => k_is)
    (case kx4 => k_is)
    (case ax5 => k_is)
    (case xx5 => k_is)
    (case sax5 => k_is)
    (case gax5 => k_is)
    (case ggx5 => k_is)
    (case ccx5 => k_is)
    (case kkx5 => k_is)
    (case nox5 => k_is)
    (case atx5 => k_is)
    (case tyx5 => k_is)
    (case lx5 => k_is)
    (case cx5 => k_is)
    (case kx5 => k_is)
    (case ax6 => k_is)
    (case xx6 => k_is)
    (case sax6 => k_is)
    (case gax6 => k_is)
    (case ggx6 => k_is)
    (case ccx6 => k_is)
    (case kkx6 => k_is)
    (case nox6 => k_is)
    (case atx6 => k_is)
    (case tyx6 => k_is)
    (case lx6 => k_is)
    (case cx6 => k_is)
    (case kx6 => k_is)
    (case ax7 => k_is)
    (case xx7 => k_is)
    (case sax7 => k_is)
    (case gax7 => k_is)
    (case ggx7 => k_is)
    (case ccx7 => k_is)
    (case kkx7 => k_is)
    (case nox7 => k_is)
    (case atx7 => k_is)
    (case tyx7 => k_is)
    (case lx7 => k_is)
    (case cx7 => k_is)
    (case kx7 => k_is)
    (case ax8 => k_is)
    (case xx8 => k_is)
    (case sax8 => k_is)
    (case gax8 => k_is)
    (case ggx8 => k_is)
    (case ccx8 => k_is)
    (case kkx8 => k_is)
    (case nox8 => k_is)
    (case atx8 => k_is)
    (case tyx8 => k_is)
    (case lx8 => k_is)
    (case cx8 => k_is)
    (case kx8 => k_is)
    (case ax9 => k_is)
    (case xx9 => k_is)
    (case sax9 => k_is)
    (case gax9 => k_is)
    (case ggx9 => k_is)
    (case ccx9 => k_is)
    (case kkx9 => k_is)
    (case nox9 => k_is)
    (case atx9 => k_is)
    (case tyx9 => k_is)
    (case lx9 => k_is)
    (case cx9 => k_is)
    (case kx9 => k_is)
    (case ax10 => k_is)
    (case xx10 => k_is)
    (case sax10 => k_is)
    (case gax10 => k_is)
    (case ggx10 => k_is)
    (case ccx10 => k_is)
    (case kkx10 => k_is)
    (case nox10 => k_is)
    (case atx10 => k_is)
    (case tyx10 => k_is)
    (case lx10 => k_is)
    (case cx10 => k_is)
    (case kx10 => k_is)
    (case aP => k_is)
    (case lP => k_is)
    (case cP => k_is)
    (case kP => k_is)
    (case aB => k_is)
    (case lB => k_is)
    (case cB => k_is)
    (case kB => k_is)
    (case aN => k_is)
    (case lN => k_is)
    (case cN => k_is)
    (case kN => k_is)
    (case aV => k_is)
    (case lV => k_is)
    (case cV => k_is)
    (case kV => k_is)
    (case aK => k_is)
    (case lK => k_is)
    (case cK => k_is)
    (case kK => k_is)
    (case aF => k_is)
    (case lF => k_is)
    (case cF => k_is)
    (case kF => k_is)
    (case aL => k_is)
    (case lL => k_is)
    (case cL => k_is)
    (case kL => k_is)
    (case zlen => k_is)
    (case zint => k_is)
    (case zlist => k_is)
    (case zdict => k_is)
    (case zisinstance => k_is)
    (case zrepr => k_is)
    (case zrange => k_is)
    (case zmin => k_is)
    (case zenumerate => k_is)
    (case zve => k_is)
    (case zle => k_is)
    (case zoe => k_is)
    (case zke => k_is)
    (case zie => k_is)
    (case nd => decide)
