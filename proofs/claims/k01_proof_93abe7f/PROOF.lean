import PyProof.Rows.All
import Wide.All
import OpenK.AllK
import Wide.FinOn
import KE.KExcIs
import KE.KExcInit
import HandS.ForMost
import HandS.Exc
import HandS.ExcInit
import HandS.IsInst
import HandS.ExcValue
import HandS.Defaults
import HandS.ClsMeth
import PyProof.ReprRoads
import PyProof.CallFns
import HandS.TryOnly
import HandS.ExcField
import HandS.CallSlots
import PyProof.StrBlock2
import HandS.TupSets
import HandS.SetFor
import HandS.Keys
import HandS.SortOrd
import HandS.SortRule
import HandS.TupLe
import HandS.List
import KE.KSortTup
import PyProof.EqAt
import PyProof.NeKinds
import HandS.Walk
import HandS.TupAny
import KE.GoesMore
import KE.GoesEnum
import PyProof.Draws
import HandS.Style
import HandS.Strs
import HandS.DictComp
import HandS.Zip
import HandS.StrMore
import HandS.Text
import PyProof.ReprLen
import HandS.TupMul
import PyProof.EqKinds
import HandS.ForExc
import PySem.Challenge.RW_standlots_k01_whole_things_and_lots
set_option Elab.async false
set_option linter.all false
set_option maxRecDepth 100000
set_option maxHeartbeats 4000000
/-! Own exception classes over any built-in base (ValueError, LookupError, OverflowError): what the class must be, its object made, its one field stored and read, asked by isinstance. -/
namespace Lots
open PySem PySem.Spec PySem.W PyProof.Rows
section
open Builtin Builtin.ObjectAttr
variable {prog : Program} {w : World} {A : Around} {R : Result → Shared → Prop} {hp : Heap} {ge : Array GenState} {dr : Drawn} {tk0 : Nat} {oss : OsState}
/-- the first field of an exception that has no dict yet, whatever built-in class its own class rests on -/
theorem first_field {K : Frag} {fld : Str} {tk : Tok} {v : Value} {x C : Addr} {fv : Array Value} {cd : ClassData} {B : String} {bmB : List Value} (SF : StoreFacts B bmB "object.__setattr__" "object")
    (kin : K.In hp) (at_ : hp.get? x = some { cls := .ref C, data := .fields fv }) (over : excOver K C bmB = true) (isC : clsIn K C = some cd) (dic : cd.hasDict = true) (ntk : takerIn K C fld = some none)
    (next : ∀ h2 tk2 dx, (∀ b o, b ≠ x → hp.get? b = some o → h2.get? b = some o) → hp.objs.size ≤ dx → dx ≠ x → h2.get? x = some { cls := .ref C, dict := some dx, data := .fields fv } →
      h2.Ns1 dx (fun y => if y = fld then some v else none) → R (.ok (.ret .none)) ⟨h2, ge, dr, tk2, oss⟩) :
    codeAny (model prog w) A (.call (.builtin "object.__setattr__") ⟨[.ref x, .str fld tk, v], []⟩) R ⟨hp, ge, dr, tk0, oss⟩ := by
  have apart : x ≠ hp.objs.size := Nat.ne_of_lt (Heap.lt_size at_)
  have Lc : Looks (model prog w) hp (classData C) cd := looks_clsIn kin isC
  refine osa_openX (s := ⟨hp, ge, dr, tk0, oss⟩) (r := none) SF kin (ox := { cls := .ref C, data := .fields fv }) (od := none) ⟨at_, rfl, rfl, trivial⟩ over ntk fun b => ?_
  obtain ⟨cn, cb, cm, cns, cq, chd, csn, csub, cab, ccol, cdel⟩ := cd
  dsimp only at dic
  subst dic
  show wpAny _ _ (storeInOwnDict (.ref x) (.ref C) (.str fld tk) fld v b) _ _ _
  unfold storeInOwnDict ownDictForStores
  repeat (first | with_reducible refine HandSPX.store_in_new ?_ ?_ | with_reducible refine wpAny_loadPart_at at_ ?_ | with_reducible refine Lc.at ?_ | wp_step)
  · exact ⟨_, #[], _, (Heap.get?_update_ne _ _ _ _ apart.symm).trans (Heap.get?_push_at rfl rfl), rfl, fun e z => absurd z (by simp), fun _ => rfl⟩
  · intro h2 tk2 hns same
    have xk : (hp.push { cls := .type "dict", data := .dict #[] }).get? x = some { cls := .ref C, data := .fields fv } := Heap.get?_push_of_some _ at_
    refine next h2 tk2 hp.objs.size (fun b o hb ho => ?_) (Nat.le_refl _) apart.symm ?_ hns
    · have away := same.2 b (Nat.ne_of_lt (Heap.lt_size ho))
      exact away.trans ((Heap.get?_update_ne _ _ _ _ hb).trans (Heap.get?_push_of_some _ ho))
    · exact (same.2 x apart).trans (Heap.get?_update_self _ xk rfl)
end
end Lots

/-! C(name = value, ..) of an own exception class: BaseException.__new__ takes any keywords, the own __init__ gets them. -/
namespace Lots
open PySem PySem.Spec PySem.HandSPX
section
variable {M : Model} {A : Around} {E : Value → Shared → Prop} {h : Heap} {ge : Array GenState} {dr : Drawn} {tk0 : Nat} {oss : OsState}
variable {cn cq : Str} {C N : Addr} {cb cm cmB : List Value} {hdc : Bool} {csn : List Str} {csub : List Value} {cab : Bool} {ccol : Option Bool} {cdd : Option Addr} {z0 z1 z2 z3 z5 : Option Value} {B newId initId : String} {kws : List (Str × Value)}
theorem new_asked (FB : ExcBaseFacts B newId initId cmB) (hT : ∀ T : String, cm.contains (.type T) = cmB.contains (.type T)) {args : List Value} {Q : Unit → Shared → Prop}
    (hC : h.get? C = some (excClassObj cn cq C N cb cm hdc csn csub cab ccol cdd z0 z1 z2 z3 z5 newId)) (hq : Q () ⟨h, ge, dr, tk0, oss⟩) :
    wpAny M A (checkBuiltinCall newId ⟨.ref C :: args, kws⟩) Q E ⟨h, ge, dr, tk0, oss⟩ := by
  have inB : (Value.ref C :: cm).contains (.type B) = true := by
    rw [List.contains_cons, hT, FB.hasB, Bool.or_true]
  have ns := FB.noStar
  simp only [checkBuiltinCall, FB.newKind, FB.newSplit, FB.newRow]
  repeat (first | refine wpAny_loadPart_at hC ?_ | (refine wpAny_isSubtype_exc hC ?_; rw [inB]) | refine wpAny_staticBase_exc hC ?_ | refine wpAny_madeBy_exc hC ?_ | simp only [bne_self_eq_false, Bool.false_eq_true, if_false, Bind.check] | wp_step)
  all_goals first | exact hq | skip
end
section
variable {prog : Program} {w : World} {A : Around} {E : Value → Shared → Prop} {R : Result → Shared → Prop} {h : Heap} {ge : Array GenState} {dr : Drawn} {tk0 : Nat} {oss : OsState}
variable {cn cq : Str} {C N : Addr} {cb cm cmB : List Value} {hdc : Bool} {csn : List Str} {csub : List Value} {cab : Bool} {ccol : Option Bool} {cdd : Option Addr} {z0 z1 z2 z3 z5 : Option Value} {B newId initId : String} {kws : List (Str × Value)}
theorem new_made (FB : ExcBaseFacts B newId initId cmB) (hT : ∀ T : String, cm.contains (.type T) = cmB.contains (.type T)) {args : List Value}
    (hC : h.get? C = some (excClassObj cn cq C N cb cm hdc csn csub cab ccol cdd z0 z1 z2 z3 z5 newId)) (hz : args.length ≤ sizeLine)
    (hq : R (.ok (.ret (.ref (h.objs.size + 1)))) ⟨(h.push (W.kdv_tup args)).push (excO C h.objs.size), ge, dr, tk0, oss⟩) :
    codeAny (model prog w) A (.builtin newId ⟨.ref C :: args, kws⟩) R ⟨h, ge, dr, tk0, oss⟩ := by
  have tail := FB.ends
  have inB : (Value.ref C :: cm).contains (.type B) = true := by
    rw [List.contains_cons, hT, FB.hasB, Bool.or_true]
  have noA : (Value.ref C :: cm).contains (.type "AttributeError") = false := by
    rw [List.contains_cons, hT, FB.noAttr]
    rfl
  have noN : (Value.ref C :: cm).contains (.type "NameError") = false := by
    rw [List.contains_cons, hT, FB.noName]
    rfl
  refine codeAny_builtinAt FB.entry ?_
  unfold Builtin.«BaseException.__new__»
  refine wpAt_bind ?_
  show wpAt _ _ _ (stack >>= _) _ _ _
  refine wpAt_bind (wpAt_stack fun p below => wpAt_of_wpAny ?_)
  wp_walk
  refine wpAt_of_wpAny ?_
  rw [FB.owner]
  repeat (first | with_reducible refine wpAny_madeHere_exc FB.canon hC ?_ | with_reducible refine wpAny_loadPart_at hC ?_ | (with_reducible refine wpAny_isSubtype_exc hC ?_; first | rw [inB] | rw [noA] | rw [noN]) | wp_step)
  show R _ _
  rw [Heap.size_push]
  exact hq

theorem class_asked {M : Model} {E2 : Value → Shared → Prop} {args : List Value} {Q : Unit → Shared → Prop} (hC : h.get? C = some (excClassObj cn cq C N cb cm hdc csn csub cab ccol cdd z0 z1 z2 z3 z5 newId))
    (hq : Q () ⟨h, ge, dr, tk0, oss⟩) : wpAny M A (checkBuiltinCall "type.__call__" ⟨.ref C :: args, kws⟩) Q E2 ⟨h, ge, dr, tk0, oss⟩ := by
  have sb := tc_sub
  have isT : (⟨h, ge, dr, tk0, oss⟩ : Shared).TypeIs (.ref C) "type" := ⟨_, hC, rfl⟩
  simp only [checkBuiltinCall, tc_kind, tc_split]
  repeat (any_goals (first | assumption | with_reducible refine wpAny_loadPart_at hC ?_ | with_reducible refine wpAny_onRaise ?_ | with_reducible refine wpAny_map ?_ | wp_step))
theorem class_called (FB : ExcBaseFacts B newId initId cmB) (hT : ∀ T : String, cm.contains (.type T) = cmB.contains (.type T)) {args : List Value} {fI : Addr} {Q : Fin → Shared → Prop}
    (hC : h.get? C = some (excClassObj cn cq C N cb cm hdc csn csub cab ccol cdd z0 z1 z2 z3 z5 newId))
    (look : W.Looks (model prog w) h (typeLookup (.ref C) "__init__") (some (.ref fI))) (bnd : ∀ me, W.Looks (model prog w) h (bindSpecial (.ref fI) me) (.ref fI, [me])) (hz : args.length ≤ sizeLine)
    (next : codeAny (model prog w) A (.call (.ref fI) ⟨.ref (h.objs.size + 1) :: args, kws⟩)
      (fun r s' => match r with | .ok (.ret v) => v = .none ∧ Q (.done (.ret (.ref (h.objs.size + 1)))) s' | .ok _ => False | .error e => E e s')
      ⟨(h.push (W.kdv_tup args)).push (excO C h.objs.size), ge, dr, tk0, oss⟩) :
    wpAny (model prog w) A (Builtin.«type.__call__» ⟨.ref C :: args, kws⟩) Q E ⟨h, ge, dr, tk0, oss⟩ := by
  repeat (first | with_reducible refine wpAny_loadPart_at hC ?_ | with_reducible refine wpAny_madeBy_exc hC ?_ | wp_step)
  refine codeAny_call_builtin_code (Code.quiet_builtin _ FB.quiet) (new_asked FB hT hC ?_)
  refine new_made FB hT hC hz ?_
  show wpAny _ _ _ _ _ _
  have kept : ∀ b o, h.get? b = some o → ((h.push (W.kdv_tup args)).push (excO C h.objs.size)).get? b = some o := fun b o z => Heap.get?_push_of_some _ (Heap.get?_push_of_some _ z)
  have hC2 := kept _ _ hC
  have made : ((h.push (W.kdv_tup args)).push (excO C h.objs.size)).get? (h.objs.size + 1) = some (excO C h.objs.size) := by heap_get
  have isIn : (Value.ref C :: cm).contains (.ref C) = true := by simp
  have look2 := look.keeps kept
  have bnd2 := (bnd (.ref (h.objs.size + 1))).keeps kept
  unfold isInstance
  repeat (first | with_reducible refine wpAny_loadPart_at made ?_ | (with_reducible refine wpAny_isSubtype_exc hC2 ?_; rw [isIn]) | wp_step)
  show wpAny _ _ (typeLookup (.ref C) _) _ _ _
  refine look2.at ?_
  refine wpAny_holding (wpAny_bind (bnd2.at ?_))
  refine wpAny_bind (wpAny_call (codeAny_mono next fun r s' z => ?_))
  rcases r with e | (v | _ | _ | _) <;> first | exact z | exact z.elim | skip
  obtain ⟨rfl, z⟩ := z
  first
    | exact wpAny_pure (wpAny_pure z)
    | (wp_walk; exact z)
/-- C(.., name = value, ..): the exception is made, then its own __init__ runs -/
theorem call_kw (FB : ExcBaseFacts B newId initId cmB) (hT : ∀ T : String, cm.contains (.type T) = cmB.contains (.type T)) {args : List Value} {fI : Addr}
    (hC : h.get? C = some (excClassObj cn cq C N cb cm hdc csn csub cab ccol cdd z0 z1 z2 z3 z5 newId))
    (look : W.Looks (model prog w) h (typeLookup (.ref C) "__init__") (some (.ref fI))) (bnd : ∀ me, W.Looks (model prog w) h (bindSpecial (.ref fI) me) (.ref fI, [me])) (hz : args.length ≤ sizeLine)
    (next : codeAny (model prog w) (A.under (.builtin "type.__call__" ⟨.ref C :: args, kws⟩)) (.call (.ref fI) ⟨.ref (h.objs.size + 1) :: args, kws⟩) (W.InitBack (h.objs.size + 1) R)
      ⟨(h.push (W.kdv_tup args)).push (excO C h.objs.size), ge, dr, tk0, oss⟩) :
    codeAny (model prog w) A (.call (.ref C) ⟨args, kws⟩) R ⟨h, ge, dr, tk0, oss⟩ := by
  have g1 := tc_lookup
  have g2 := tc_bind (.ref C)
  have isT : (⟨h, ge, dr, tk0, oss⟩ : Shared).TypeIs (.ref C) "type" := ⟨_, hC, rfl⟩
  refine codeAny_of_tree ?_
  show wpAny _ _ (callAny (.ref C) _) _ _ _
  repeat (any_goals (first | assumption | with_reducible refine wpAny_loadPart_at hC ?_ | wp_step))
  refine ⟨rfl, ?_⟩
  refine codeAny_call_builtin_at (Code.quiet_builtin _ (by decide +kernel)) entry_typeCall (class_asked hC (class_called FB hT hC look bnd hz ?_))
  refine codeAny_mono next fun r s' z => ?_
  rcases r with e | (v | _ | _ | _) <;> exact z
end
end Lots

/-! The same over the abstract heap: rules for defs. -/
namespace Lots
open PySem PySem.Spec PyProof.Rows L2

/-- what the written part says of the own exception class at C, which rests on the built-in B -/
structure ErrC (K : PySem.W.Frag) (C : Addr) (B newId initId : String) (bmB : List Value) : Prop where
  fb : ExcBaseFacts B newId initId bmB
  sf : StoreFacts B bmB "object.__setattr__" "object"
  obj : ∃ cn cq N cb bm csn csub cab ccol cdd k0 k1 k2 k3 k5, K.lookup C = some (excClassObj cn cq C N cb bm true csn csub cab ccol cdd k0 k1 k2 k3 k5 newId) ∧ PySem.W.excTail bmB bm = true
  ov : PySem.W.excOver K C bmB = true
  sa : PySem.W.findIn K (.ref C) "__setattr__" = some (some (.builtin "object.__setattr__"))
  ga : PySem.W.findIn K (.ref C) "__getattribute__" = some (some (.builtin "BaseException.__getattribute__"))
  gg : PySem.W.findIn K (.ref C) "__getattr__" = some none
  eb : PySem.W.subIn K (.ref C) (.type "BaseException") = some true
  tc : PySem.W.typeIn K (.ref C) = some (.type "type")
  kp : PySem.W.keepIn K (.ref C) = true
  hd : PySem.W.hasDictIn K C = true
  cc : PySem.W.findIn K (.ref C) "__class__" = some (some (.builtin "object.__class__"))
  mo : PySem.W.mroIn K C (.type "object") = some true

section
variable {X : Cx} {pins : List (Addr × Obj)} {σ : L2.St} {H : Hp} {s : Shared} {a C dx : Addr} {f : Str} {y : V} {u : Value} {B newId initId : String} {bmB : List Value}
/-- an object of ours turned, another one laid beside it -/
theorem turn_lay {h2 : Heap} {oa od : HO} {t2 : Nat} (I : Inv X pins σ H s) (mu : Mut (H a)) (kp : ∀ b v, b ≠ a → s.heap.get? b = some v → h2.get? b = some v) (new : s.heap.objs.size ≤ dx) (ne : dx ≠ a)
    (okA : ∀ G : Heap, G.get? a = h2.get? a → ObjOk X.prog X.w (upd H a oa) G a oa) (th : ∃ v, h2.get? a = some v) (okD : ObjOk X.prog X.w (upd (upd H a oa) dx od) h2 dx od) :
    Inv X pins σ (upd (upd H a oa) dx od) { s with heap := h2, toks := t2 } := by
  obtain ⟨G, g1, g2⟩ := restrict h2 fun b => decide (b ≠ dx)
  have same : ∀ b, b ≠ dx → G.get? b = h2.get? b := fun b hb => g1 b (decide_eq_true hb)
  have gone : G.get? dx = none := g2 dx (by simp)
  have ga : G.get? a = h2.get? a := same a ne.symm
  have J : Inv X pins σ (upd H a oa) { s with heap := G, toks := t2 } := I.write (x := a) (e := a) (o := oa) mu (.inl rfl)
    (fun b v hb z => (same b (Nat.ne_of_lt (Nat.lt_of_lt_of_le (Heap.lt_size z) new))).trans (kp b v hb z)) (by rw [ga]; exact th) (okA G ga)
  have free : upd H a oa dx = none := by
    rw [upd_ne ne]
    exact I.hok.fresh new
  refine J.laidN (fun b v z => ?_) gone free okD
  by_cases hb : b = dx
  · rw [hb] at z
    rw [show G.get? dx = none from gone] at z
    cases z
  · rw [← same b hb]
    exact z
theorem cls_of (T : ErrC X.K C B newId initId bmB) : ∃ cd, PySem.W.clsIn X.K C = some cd ∧ cd.hasDict = true := by
  obtain ⟨cn, cq, N, cb, bm, csn, csub, cab, ccol, cdd, k0, k1, k2, k3, k5, hC, _⟩ := T.obj
  exact ⟨{ name := cn, bases := cb, mro := .ref C :: bm, ns := N, qualname := cq, hasDict := true, slotNames := csn, subclasses := csub, abstract := cab, collection := ccol, hasDel := false }, by unfold PySem.W.clsIn; rw [hC] <;> rfl, rfl⟩
/-- self.f = y in an own __init__ -/
theorem field_put {A : Around} {E : Value → Shared → Prop} {Q : Unit → Shared → Prop} (T : ErrC X.K C B newId initId bmB) (I : Inv X pins σ H s) (e : H a = some (exo a C none)) (no : PySem.W.findIn X.K (.ref C) f = some none) (ry : RelV y u)
    (next : ∀ d s', H d = none → d ≠ a → Inv X pins σ (upd (upd H a (exo a C (some d))) d (exd d [(f, y)])) s' → Q () s') : wpAny (model X.prog X.w) A (setAttr (.ref a) f u) Q E s := by
  obtain ⟨cd, isC, dic⟩ := cls_of T
  obtain ⟨t1, ho⟩ := exo_at I.hok e
  obtain ⟨hp, ge, dr, tk, oss⟩ := s
  refine PySem.W.set_plain I.kIn (ox := { cls := .ref C, dict := none, data := .fields #[.ref t1, .none, .none, .none, .bool false, .none] }) (od := none) ⟨ho, rfl, rfl, trivial⟩ T.sa ?_
  refine first_field T.sf I.kIn ho T.ov isC dic (by unfold PySem.W.takerIn; rw [no]; rfl) (fun h2 t2 d kept big ne hx hns => ?_)
  refine next d _ (I.hok.fresh big) ne (turn_lay (t2 := t2) I (by rw [e]; exact True.intro) kept big ne (fun G z => exo_ok (z.trans hx)) ⟨_, hx⟩ (exd_ok hns (relO_put (fs := []) ry fun g => True.intro)))
/-- B.__init__(self, ..) -/
theorem base_init {A : Around} {E : Value → Shared → Prop} {us : List Value} {Q : Value → Shared → Prop} (T : ErrC X.K C B newId initId bmB) (I : Inv X pins σ H s) (e : H a = some (exo a C none)) (hl : us.length ≤ sizeLine) (next : ∀ s', Inv X pins σ H s' → Q .none s') :
    wpAny (model X.prog X.w) A (call (.builtin initId) (.ref a :: us)) Q E s := by
  obtain ⟨cn, cq, N, cb, bm, csn, csub, cab, ccol, cdd, k0, k1, k2, k3, k5, hC, hbm⟩ := T.obj
  obtain ⟨t1, ho⟩ := exo_at I.hok e
  obtain ⟨hp, ge, dr, tk, oss⟩ := s
  refine wpAny_call (PySem.HandSPX.init_base T.fb (fun Y => PySem.W.excTail_contains Y bm hbm) (I.kIn _ _ hC) ho hl fun h2 t2 kept hx => ?_)
  have J := I.write (t' := tk) (x := a) (e := a) (o := exo a C none) (by rw [e]; exact True.intro) (.inl rfl) kept ⟨_, hx⟩ (exo_ok hx)
  have back : upd H a (exo a C none) = H := by
    funext b
    by_cases hb : b = a
    · rw [hb, upd_same, e]
    · rw [upd_ne hb]
  rw [back] at J
  exact next _ J
end

/-! ### readings -/
/-- Base.__init__(self, ..) -/
def tBaseI (K : PySem.W.Frag) (B newId initId : String) (bmB : List Value) (ta : TA) : TE := fun σ H Q => ta σ H fun vs H1 => ∃ (a C : Addr) (ws : List V), vs = .ref a :: ws ∧ ws.length ≤ 1000 ∧ ErrC K C B newId initId bmB ∧ H1 a = some (exo a C none) ∧ Q .non H1
/-- self.f = e -/
def tPut (K : PySem.W.Frag) (f : Str) (to te : TE) : TS := fun D σ H => te σ H fun y H1 => to σ H1 fun x H2 => ∃ (a C : Addr) (B newId initId : String) (bmB : List Value), x = .ref a ∧ ErrC K C B newId initId bmB ∧ PySem.W.findIn K (.ref C) f = some none ∧ H2 a = some (exo a C none) ∧
  ∀ d, H2 d = none → d ≠ a → D.nx σ (upd (upd H2 a (exo a C (some d))) d (exd d [(f, y)]))
/-- C(e, ..) -/
def tErr (C : Addr) (sp : Sp) (ta : TA) : TE := fun σ H Q => ta σ H fun vs H1 => vs.length ≤ 1000 ∧ ∀ a, H1 a = none → sp (.ref a :: vs) (upd H1 a (exo a C none)) (fun v H2 => v = .non ∧ Q (.ref a) H2) E0
/-- C(k = e) -/
def tErrK (C : Addr) (sp : Sp) (tk : TA) : TE := fun σ H Q => tk σ H fun zs H1 => zs.length = 1 ∧ ∀ a, H1 a = none → sp (.ref a :: zs) (upd H1 a (exo a C none)) (fun v H2 => v = .non ∧ Q (.ref a) H2) E0
/-- e.f of a made exception -/
def tGet (K : PySem.W.Frag) (f : Str) (te : TE) : TE := fun σ H Q => te σ H fun x H1 => ∃ (a C d : Addr) (B newId initId : String) (bmB : List Value) (fs : List (Str × V)) (v : V), x = .ref a ∧ ErrC K C B newId initId bmB ∧ PySem.W.findIn K (.ref C) f = some none ∧
  H1 a = some (exo a C (some d)) ∧ H1 d = some (exd d fs) ∧ fs.lookup f = some v ∧ Q v H1
section
variable {X : Cx} {CX : CXT} {k : Nat} {fI D C : Addr} {fd : FuncData} {ps ks : List Str} {sp : Sp} {o e : Expr} {es : List Expr} {kws : List Keyword} {to te : TE} {ta tk : TA} {f x : Str} {p p' p1 p2 pos : Pos} {B newId initId : String} {bmB : List Value}
/-- Base.__init__(self, ..), Base an own class -/
theorem pe_ownbase {pl : Sem Bool} (hg : Gl X x) (hm : X.mg x = some (.ref D)) (hs : PySem.W.specialIn X.K (.ref D) "__getattribute__" = some (some (.builtin "type.__getattribute__"))) (hr : PySem.W.readsIn X.K D (.type "type") = true)
    (hf : PySem.W.findCls X.K (.ref D) (.type "type") "__init__" = some (.val (.builtin initId))) (hh : PySem.W.handedIn (.builtin initId) = true) (ha : PA X (e :: es) ta)
    (hc : eval (.Call (.Attribute (.Name x p1) "__init__" p2) (e :: es) [] pos) X.env = (do
      let ov ← eval (.Name x p1) X.env
      standAt p2.atName
      let (g, first) ← holding [ov] (getMethod ov "__init__" pl)
      callWith pos g first (backTo pos (starEach (e :: es) X.env)) (backToKw pos (keywordEach [] X.env))) := by rfl)
    (he : starEach (e :: es) X.env = (false, eval e X.env) :: starEach es X.env := by rfl) (hpl : (backTo pos (starEach es X.env)).any (·.1) = false := by rfl) (hdb : (x == ("__debug__" : Str)) = false := by decide) :
    PE X (.Call (.Attribute (.Name x p1) "__init__" p2) (e :: es) [] pos) (tBaseI X.K B newId initId bmB ta) := by
  refine ⟨fun pins s σ H Q I h => ?_⟩
  refine PySem.W.methodCall_KW (ld_glob I hg hm ?_ hdb) hc
  refine PySem.W.method_cls I.kIn hs ?_
  refine PySem.W.cls_value I.kIn hr hf hh ?_
  show wpAny _ _ (callWith pos (Value.builtin initId) [] (backTo pos (starEach (e :: es) X.env)) []) _ _ _
  refine PyProof.Rows.callWith_method1 (thn (ha.run pos pins _ σ H _ (I.tok _) h) fun us s1 ⟨vs, H1, I1, r1, a, C, ws, ev, hl, T, ea, q⟩ => ?_) he hpl
  subst ev
  cases r1 with
  | @cons _ u0 _ ur ra rw' =>
    obtain rfl : u0 = Value.ref a := ra
    have short : ur.length ≤ sizeLine := by
      rw [← Paired.length rw', sizeLine_eq]
      omega
    exact base_init T I1 ea short fun s' J => ⟨.non, H1, J, rfl, q⟩
/-- B.__init__(self, ..), B a built-in class -/
theorem pe_bltbase {pl : Sem Bool} (hg : Gl X x) (hm : X.mg x = none) (hv : bootBuiltins x = some (.type B)) (tB : typeOf (.type B) = pure (.type "type")) (stb : Manifest.isStub B = false) (hf : PySem.W.findCls X.K (.type B) (.type "type") "__init__" = some (.val (.builtin initId))) (hh : PySem.W.handedIn (.builtin initId) = true) (ha : PA X (e :: es) ta)
    (hn : x ≠ "__name__" := by decide)
    (hc : eval (.Call (.Attribute (.Name x p1) "__init__" p2) (e :: es) [] pos) X.env = (do
      let ov ← eval (.Name x p1) X.env
      standAt p2.atName
      let (g, first) ← holding [ov] (getMethod ov "__init__" pl)
      callWith pos g first (backTo pos (starEach (e :: es) X.env)) (backToKw pos (keywordEach [] X.env))) := by rfl)
    (he : starEach (e :: es) X.env = (false, eval e X.env) :: starEach es X.env := by rfl) (hpl : (backTo pos (starEach es X.env)).any (·.1) = false := by rfl) (hdb : (x == ("__debug__" : Str)) = false := by decide) :
    PE X (.Call (.Attribute (.Name x p1) "__init__" p2) (e :: es) [] pos) (tBaseI X.K B newId initId bmB ta) := by
  refine ⟨fun pins s σ H Q I h => ?_⟩
  refine PySem.W.methodCall_KW (ld_blt I hg hm hv ?_ hn hdb) hc
  obtain ⟨m, fr⟩ := I.fr
  refine PySem.W.method_type fr I.ok.mod.kin tB stb hf hh ?_
  show wpAny _ _ (callWith pos (Value.builtin initId) [] (backTo pos (starEach (e :: es) X.env)) []) _ _ _
  refine PyProof.Rows.callWith_method1 (thn (ha.run pos pins _ σ H _ (I.tok _) h) fun us s1 ⟨vs, H1, I1, r1, a, C, ws, ev, hl, T, ea, q⟩ => ?_) he hpl
  subst ev
  cases r1 with
  | @cons _ u0 _ ur ra rw' =>
    obtain rfl : u0 = Value.ref a := ra
    have short : ur.length ≤ sizeLine := by
      rw [← Paired.length rw', sizeLine_eq]
      omega
    exact base_init T I1 ea short fun s' J => ⟨.non, H1, J, rfl, q⟩
theorem ps_put (ho : PE X o to) (he : PE X e te) (hs : swapsWith e (some (.Attribute o f p')) pos.line X.env = pure false := by rfl) : PS X (.Assign [.Attribute o f p'] e pos) (tPut X.K f to te) := by
  refine ⟨fun pins s σ H D I h => ?_⟩
  refine plainObj_wpAny_Assign_Attribute (thn (he.run pins s σ H _ I h) fun v s1 ⟨y, H1, I1, r1, q1⟩ => thn (ho.run pins s1 σ H1 _ I1 q1) fun u s2 ⟨x, H2, I2, r2, a, C, B, newId, initId, bmB, ex, T, hno, ea, q⟩ => ?_) hs
  subst ex
  obtain rfl : u = Value.ref a := r2
  exact field_put T I2 ea hno r1 fun d s' n ne J => ⟨σ, _, J, q d n ne⟩
/-- what C's own __init__ at fI must be -/
structure ErrI (K : PySem.W.Frag) (C fI : Addr) : Prop where
  at_ : PySem.W.findIn K (.ref C) "__init__" = some (some (.ref fI))
  ty : PySem.W.typeIn K (.ref fI) = some (.type "function")
/-- the exception object, laid -/
theorem exc_laid0 {pins : List (Addr × Obj)} {σ : L2.St} {H : Hp} {hp : Heap} {ge : Array GenState} {dr : Drawn} {tk : Nat} {oss : OsState} (us : List Value) (I : Inv X pins σ H ⟨hp, ge, dr, tk, oss⟩) :
    Inv X pins σ (upd H (hp.objs.size + 1) (exo (hp.objs.size + 1) C none)) ⟨(hp.push (PySem.W.kdv_tup us)).push (PySem.HandSPX.excO C hp.objs.size), ge, dr, tk, oss⟩ := by
  have kept : ∀ b o, hp.get? b = some o → ((hp.push (PySem.W.kdv_tup us)).push (PySem.HandSPX.excO C hp.objs.size)).get? b = some o := fun b o z => Heap.get?_push_of_some _ (Heap.get?_push_of_some _ z)
  have made : ((hp.push (PySem.W.kdv_tup us)).push (PySem.HandSPX.excO C hp.objs.size)).get? (hp.objs.size + 1) = some (PySem.HandSPX.excO C hp.objs.size) := by heap_get
  exact I.laid (t' := tk) (a := hp.objs.size + 1) (o := exo (hp.objs.size + 1) C none) (h' := (hp.push (PySem.W.kdv_tup us)).push (PySem.HandSPX.excO C hp.objs.size)) kept (Nat.le_succ _) (exo_ok made)
theorem run_err {pins : List (Addr × Obj)} {σ : L2.St} {H : Hp} {s : Shared} {Q : VK} {us : List Value} {vs : List V} (T : ErrC X.K C B newId initId bmB) (J : ErrI X.K C fI) (F1 : FnOk X.prog X.w X.K X.mg X.base CX0 k fI fd ps sp) (hr : Room (k + 1) X.A) (hb : Binds X.K fd ps [])
    (I : Inv X pins σ H s) (r : Vals vs us) (hz : vs.length ≤ 1000) (h : ∀ a, H a = none → sp (.ref a :: vs) (upd H a (exo a C none)) (fun v H2 => v = .non ∧ Q (.ref a) H2) E0) :
    wpAny (model X.prog X.w) X.A (call (.ref C) us) (EP X pins σ Q) X.xe s := by
  obtain ⟨cn, cq, N, cb, bm, csn, csub, cab, ccol, cdd, k0, k1, k2, k3, k5, hC, hbm⟩ := T.obj
  obtain ⟨hp, ge, dr, tk, oss⟩ := s
  have free : H (hp.objs.size + 1) = none := I.hok.fresh (Nat.le_succ _)
  have want := h (hp.objs.size + 1) free
  have I2 := exc_laid0 (C := C) us I
  have r2 : Vals (V.ref (hp.objs.size + 1) :: vs) (Value.ref (hp.objs.size + 1) :: us) := .cons rfl r
  have hl : ((Value.ref (hp.objs.size + 1) :: us) ++ []).length = ps.length := by
    rw [List.append_nil, ← r2.length]
    exact F1.len _ _ _ _ want
  have hus : us.length ≤ sizeLine := by
    rw [← Paired.length r, sizeLine_eq]
    omega
  have bt := hb ⟨(hp.push (PySem.W.kdv_tup us)).push (PySem.HandSPX.excO C hp.objs.size), ge, dr, tk, oss⟩ (Value.ref (hp.objs.size + 1) :: us) I2.kIn hl
  rw [List.append_nil] at bt
  refine wpAny_call (PySem.HandSPX.call_own T.fb (fun Y => PySem.W.excTail_contains Y bm hbm) (I.kIn _ _ hC) (PySem.W.looks_findIn I.kIn J.at_) (fun me => PySem.W.bind_fn I.kIn me J.ty) hus ?_)
  refine codeAny_mono (F1.run _ X.stack _ _ ⟨Value.ref (hp.objs.size + 1) :: us, []⟩ (Value.ref (hp.objs.size + 1) :: us) _ _ E0 (hr.make C us []) (I2.env0.make C us []) bt r2 want) fun r s' back => ?_
  cases r with
  | error er => exact back.elim
  | ok fl =>
    cases fl with
    | ret u =>
      obtain ⟨v, H', I3, rv, ev, q3⟩ := I2.after back
      subst ev
      exact ⟨rv, ⟨V.ref (hp.objs.size + 1), H', I3, rfl, q3⟩⟩
    | next => exact False.elim back
    | brk => exact False.elim back
    | cont => exact False.elim back
/-- C(e, ..) as a value -/
theorem pe_err (T : ErrC X.K C B newId initId bmB) (J : ErrI X.K C fI) (F1 : FnOk X.prog X.w X.K X.mg X.base CX0 k fI fd ps sp) (hr : Room (k + 1) X.A) (hb : Binds X.K fd ps []) (hg : Gl X x) (hm : X.mg x = some (.ref C)) (ha : PA X (e :: es) ta)
    (hdb : (x == ("__debug__" : Str)) = false := by decide) (he : starEach (e :: es) X.env = (false, eval e X.env) :: starEach es X.env := by rfl) (hpl : (backTo pos (starEach es X.env)).any (·.1) = false := by rfl) :
    PE X (.Call (.Name x p) (e :: es) [] pos) (tErr C sp ta) := by
  refine ⟨fun pins s σ H Q I h => ?_⟩
  refine wpAny_Call_Name_kw (ld_glob I hg hm ?_ hdb)
  refine PySem.W.callWith_K (h₀ := X.base) I.ok.mod.kin T.kp (thn (ha.run pos pins s σ H _ I h) fun us s1 ⟨vs, H1, I1, r, hz, q⟩ => ⟨I1.kIn, ?_⟩) he hpl
  exact run_err T J F1 hr hb I1 r hz q
theorem run_errK {pins : List (Addr × Obj)} {σ : L2.St} {H : Hp} {s : Shared} {Q : VK} {wv : Value} {z : V} {fld : Str} (T : ErrC X.K C B newId initId bmB) (J : ErrI X.K C fI) (F1 : FnOk X.prog X.w X.K X.mg X.base CX0 k fI fd ps sp) (hr : Room (k + 1) X.A)
    (hb : ∀ me wv : Value, bindArgs fd ⟨[me], [(fld, wv)]⟩ = pure (ps.zip [me, wv]))
    (I : Inv X pins σ H s) (r : RelV z wv) (h : ∀ a, H a = none → sp [.ref a, z] (upd H a (exo a C none)) (fun v H2 => v = .non ∧ Q (.ref a) H2) E0) :
    wpAny (model X.prog X.w) X.A (call (.ref C) [] [(fld, wv)]) (EP X pins σ Q) X.xe s := by
  obtain ⟨cn, cq, N, cb, bm, csn, csub, cab, ccol, cdd, k0, k1, k2, k3, k5, hC, hbm⟩ := T.obj
  obtain ⟨hp, ge, dr, tk, oss⟩ := s
  have free : H (hp.objs.size + 1) = none := I.hok.fresh (Nat.le_succ _)
  have want := h (hp.objs.size + 1) free
  have I2 := exc_laid0 (C := C) [] I
  have r2 : Vals [V.ref (hp.objs.size + 1), z] [Value.ref (hp.objs.size + 1), wv] := .cons rfl (.cons r .nil)
  refine wpAny_call (call_kw T.fb (fun Y => PySem.W.excTail_contains Y bm hbm) (I.kIn _ _ hC) (PySem.W.looks_findIn I.kIn J.at_) (fun me => PySem.W.bind_fn I.kIn me J.ty) (Nat.zero_le _) ?_)
  refine codeAny_mono (F1.run _ X.stack _ _ ⟨[Value.ref (hp.objs.size + 1)], [(fld, wv)]⟩ [Value.ref (hp.objs.size + 1), wv] _ _ E0 (hr.make C [] [(fld, wv)]) (I2.env0.make C [] [(fld, wv)]) (.of_eq (hb _ _)) r2 want) fun r s' back => ?_
  cases r with
  | error er => exact back.elim
  | ok fl =>
    cases fl with
    | ret u =>
      obtain ⟨v, H', I3, rv, ev, q3⟩ := I2.after back
      subst ev
      exact ⟨rv, ⟨V.ref (hp.objs.size + 1), H', I3, rfl, q3⟩⟩
    | next => exact False.elim back
    | brk => exact False.elim back
    | cont => exact False.elim back
/-- C(fld = e) as a value -/
theorem pe_errK {fld : Str} (T : ErrC X.K C B newId initId bmB) (J : ErrI X.K C fI) (F1 : FnOk X.prog X.w X.K X.mg X.base CX0 k fI fd ps sp) (hr : Room (k + 1) X.A) (hb : ∀ me wv : Value, bindArgs fd ⟨[me], [(fld, wv)]⟩ = pure (ps.zip [me, wv])) (hg : Gl X x) (hm : X.mg x = some (.ref C)) (hk : PK X kws tk)
    (hall : (backToKw pos (keywordEach kws X.env)).all (·.1.isSome) = true := by rfl) (hks : (backToKw pos (keywordEach kws X.env)).filterMap (·.1) = [fld] := by rfl)
    (hdb : (x == ("__debug__" : Str)) = false := by decide) (hpl : ((backTo pos (starEach [] X.env)).any (·.1) || (backToKw pos (keywordEach kws X.env)).any (·.1.isNone)) = false := by rfl) :
    PE X (.Call (.Name x p) [] kws pos) (tErrK C sp tk) := by
  refine ⟨fun pins s σ H Q I h => ?_⟩
  refine wpAny_Call_Name_kw (ld_glob I hg hm ?_ hdb)
  refine PySem.W.callWith_KW0 (h₀ := X.base) I.ok.mod.kin T.kp hall ?_ hpl
  refine thn (hk.run pos pins s σ H _ I h) fun ws s2 ⟨zs, H2, I2, rz, l2, q2⟩ => ⟨I2.kIn, ?_⟩
  rw [hks]
  obtain ⟨z, rfl⟩ : ∃ z, zs = [z] := by
    cases zs with
    | nil => cases l2
    | cons z r =>
      cases r with
      | nil => exact ⟨z, rfl⟩
      | cons _ _ => exact absurd l2 (by simp)
  obtain ⟨wv, rfl, rv⟩ := vals1 rz
  exact run_errK T J F1 hr hb I2 rv q2
/-- e.f of a made exception -/
theorem pe_get (he : PE X e te) (hb : attributeBase e f X.env (eval e X.env) = eval e X.env := by rfl) : PE X (.Attribute e f pos) (tGet X.K f te) := by
  refine ⟨fun pins s σ H Q I h => ?_⟩
  refine attr_of hb (thn (he.run pins s σ H _ I h) fun u s1 ⟨x, H1, I1, rx, a, C, d, B, newId, initId, bmB, fs, v, ex, T, no, ea, ed, l, q⟩ => ?_)
  subst ex
  obtain rfl : u = Value.ref a := rx
  obtain ⟨t1, ho⟩ := exo_at I1.hok ea
  obtain ⟨mA, hns, rel⟩ := exd_at I1.hok ed
  obtain ⟨od, hod, look⟩ := lookIn_ns hns
  obtain ⟨w, hw, rw'⟩ := RelO.some_of (v := v) (o := mA f) (by rw [← l]; exact rel f)
  have inst : PySem.W.InstAt s1.heap a { cls := .ref C, dict := some d, data := .fields #[.ref t1, .none, .none, .none, .bool false, .none] } C (some od) := ⟨ho, rfl, rfl, hod⟩
  exact HandSPX.exc_get I1.kIn inst T.ga T.gg T.eb (PySem.W.findObj_own T.hd no rfl (by rw [look, hw])) (handed_of rw') ⟨v, H1, I1.tok _, rw', q⟩

/-! ### isinstance of a made exception -/
/-- what the text says of __class__, once -/
structure ClsAsk (K : PySem.W.Frag) : Prop where
  dn : PySem.W.specialIn K (.builtin "object.__class__") "__get__" = some (some (.builtin "getset_descriptor.__get__"))
  dt : PySem.W.takesIn K (.builtin "object.__class__") = some true
theorem kit_exc {pins : List (Addr × Obj)} {σ : L2.St} {H : Hp} {s : Shared} {a d : Addr} (S : ClsAsk X.K) (T : ErrC X.K C B newId initId bmB) (I : Inv X pins σ H s) (ea : H a = some (exo a C (some d))) (ed : ∃ fs, H d = some (exd d fs)) :
    ∃ P : Heap → Prop, PySem.W.KitX X.K (.ref a) (.ref C) P ∧ P s.heap := by
  obtain ⟨t1, ho⟩ := exo_at I.hok ea
  obtain ⟨fs, ed⟩ := ed
  obtain ⟨mA, hns, _⟩ := exd_at I.hok ed
  obtain ⟨od, hod, _⟩ := lookIn_ns hns
  obtain ⟨cd, isC, _⟩ := cls_of T
  exact ⟨_, PySem.W.kitx_exc (ox := { cls := .ref C, dict := some d, data := .fields #[.ref t1, .none, .none, .none, .bool false, .none] }) (od := some od) (by rw [isC]; rfl) T.ga T.gg T.eb T.cc S.dn S.dt T.mo, ⟨ho, rfl, rfl, hod⟩⟩
/-- isinstance(x, c), x a made exception of the class at C -/
def rIsX (K : PySem.W.Frag) : List V → Hp → VK → Prop := fun xs H Q => ∃ (a C d : Addr) (B newId initId : String) (bmB : List Value) (c : V) (u : Value) (b : Bool), xs = [.ref a, c] ∧ ErrC K C B newId initId bmB ∧ H a = some (exo a C (some d)) ∧ (∃ fs, H d = some (exd d fs)) ∧
  ClsV c u ∧ PySem.W.kitOne K (.ref C) u = some b ∧ Q (.bl b) H
/-- isinstance(x, (c1, c2, ..)) -/
def rIsXT (K : PySem.W.Frag) : List V → Hp → VK → Prop := fun xs H Q => ∃ (a C d tp : Addr) (B newId initId : String) (bmB : List Value) (cs : List V) (us : List Value) (b : Bool), xs = [.ref a, .ref tp] ∧ ErrC K C B newId initId bmB ∧ H a = some (exo a C (some d)) ∧ (∃ fs, H d = some (exd d fs)) ∧
  H tp = some (.tup cs) ∧ Paired ClsV cs us ∧ PySem.W.kitAny K (.ref C) us = some b ∧ Q (.bl b) H
theorem call_isX (S : ClsAsk X.K) : CallR X (.builtin "isinstance") (rIsX X.K) := by
  intro pins s σ H xs us Q I r h
  obtain ⟨a, C, d, B, newId, initId, bmB, c, u, b, rfl, T, ea, ed, k, e, q⟩ := h
  obtain ⟨u1, u2, rfl, r1, r2⟩ := vals2 r
  have e2 := k.eq r2
  subst e2
  cases (show u1 = Value.ref a from r1)
  obtain ⟨P, Z, p⟩ := kit_exc S T I ea ed
  exact PySem.W.kia_one Z I.kIn p e (fun z => nomatch z) fun tk => ⟨.bl b, H, I.tok tk, rfl, q⟩
theorem call_isXT (S : ClsAsk X.K) : CallR X (.builtin "isinstance") (rIsXT X.K) := by
  intro pins s σ H xs us Q I r h
  obtain ⟨a, C, d, tp, B, newId, initId, bmB, cs, ws, b, rfl, T, ea, ed, hT, k, e, q⟩ := h
  obtain ⟨u1, u2, rfl, r1, r2⟩ := vals2 r
  cases (show u1 = Value.ref a from r1)
  cases (show u2 = Value.ref tp from r2)
  obtain ⟨P, Z, p⟩ := kit_exc S T I ea ed
  obtain ⟨_, its, rv, o, h1, h2, n, h3⟩ := (show ObjOk X.prog X.w H s.heap tp (.tup cs) from I.hok tp _ hT)
  have e3 := ClsV.all k rv
  subst e3
  obtain ⟨oc, od, dt, sl⟩ := o
  simp only at h2 h3
  subst h2 h3
  exact PySem.W.kia_tup Z I.kIn p h1 e (fun z => nomatch z) fun tk => ⟨.bl b, H, I.tok tk, rfl, q⟩
end
end Lots

/-! Promises that hold where no repr is running around (A.guards = some []): what repr of lists and tuples asks. The law itself is called so. -/
namespace Lots
open PySem PySem.Spec PyProof.Rows L2

/-- a promise where no repr runs around -/
structure FnG (P : Program) (w : World) (K : PySem.W.Frag) (mg : Str → Option Value) (base : Heap) (CX : CXT) (k : Nat) (f : Addr) (fd : FuncData) (ps : List Str) (sp : Sp) : Prop where
  len : ∀ vs H Q E, sp vs H Q E → vs.length = ps.length
  run : ∀ (A : Around) (outer : List Env) (s : Shared) (H : Hp) (args : Args) (us : List Value) (vs : List V) (Q : VK) (E : XK), Room k A → A.guards = some [] → Env0 P w K mg base A outer s H → BindsTo s fd args (ps.zip us) → Vals vs us → sp vs H Q E →
    codeAny (model P w) A (.call (.ref f) args) (CR CX outer P w H s Q E) s
section
variable {P : Program} {w : World} {K : PySem.W.Frag} {mg : Str → Option Value} {base : Heap} {CX : CXT}
theorem FnG.of {k : Nat} {f : Addr} {fd : FuncData} {ps : List Str} {sp : Sp} (F : FnOk P w K mg base CX k f fd ps sp) : FnG P w K mg base CX k f fd ps sp :=
  ⟨F.len, fun A outer s H args us vs Q E hr _ => F.run A outer s H args us vs Q E hr⟩
theorem FnG.mono {j k : Nat} {f : Addr} {fd : FuncData} {ps : List Str} {sp : Sp} (F : FnG P w K mg base CX j f fd ps sp) (h : j ≤ k) : FnG P w K mg base CX k f fd ps sp :=
  ⟨F.len, fun A outer s H args us vs Q E hr hg => F.run A outer s H args us vs Q E (hr.mono h) hg⟩
/-- a def by its body, as the library's rule, with the guards told to the body -/
theorem fn_guarded {k : Nat} {f : Addr} {name qual : Str} {params : Arguments} {body : List Stmt} {scope : Scope} {dV kV doc pm cdv ct oc : Value} {an od : Option Addr}
    {osl : Array (Option Value)} {N ps : List Str} {sp : Sp} (lk : K.lookup f = some ⟨oc, od, .func (PySem.W.fnOf name qual params body scope dV kV doc pm an cdv ct), osl⟩) (code : PySem.W.codeIn K cdv qual = true) (S : FnScope N ps scope)
    (len : ∀ vs H Q E, sp vs H Q E → vs.length = ps.length)
    (body_ok : ∀ (A : Around) (outer : List Env) (s : Shared) (H : Hp) (vs : List V) (Q : VK) (E : XK), Room k (A.deeper (envOfC qual scope s.heap.objs.size f cdv)) → (A.deeper (envOfC qual scope s.heap.objs.size f cdv)).guards = some [] → sp vs H Q E →
      ∃ t, PSs (cxOf CX P w K mg base N qual scope f cdv A outer s H E) body t ∧ t { nx := fun _ H' => Q .non H', rt := Q } (start N vs) H) :
    FnG P w K mg base CX (k + 1) f (PySem.W.fnOf name qual params body scope dV kV doc pm an cdv ct) ps sp := by
  refine ⟨len, fun A outer s H args us vs Q E room hg e0 bnd r want => ?_⟩
  have hl := len _ _ _ _ want
  have kin : K.In s.heap := e0.mod.kin.keeps fun b o z => (e0.bs b o z).1
  have lim : s.heap.NoLimit := e0.mod.nolimit.keeps fun b o z => (e0.bs b o z).1
  have kinds : ∀ y ∈ ps.zip us, scope.names.lookup y.1 = some .local ∨ (scope.names.lookup y.1 = some .cell ∧ ((cellsFrom (s.heap.objs.size + 1) scope.names []).lookup y.1).isSome = true) := fun ⟨n, v⟩ hy => by
    rcases S.par n (List.of_mem_zip hy).1 with q | q
    · exact .inl q
    · exact .inr ⟨q, PySem.W.cellsFrom_some _ _ _ (.inl q)⟩
  refine codeAny_call_function room.depth (kin _ _ lk) rfl S.co S.gen rfl (PySem.W.codeRec_of kin code) (bnd _ _ _ _ ?_)
  refine wpAny_newFunctionEnv_cells S.kind kinds fun env he s1 x => ?_
  subst he
  refine ⟨lim.keeps x.toInCall.keep, codeAny_func ?_⟩
  have gd : (A.deeper (envOfC qual scope s.heap.objs.size f cdv)).guards = some [] := by
    first | exact hg | (unfold Around.deeper; exact hg) | (simp [Around.deeper, hg])
  obtain ⟨t, ht, hq⟩ := body_ok A outer s H vs Q E (room.deeper _) gd want
  have I : Inv (cxOf CX P w K mg base N qual scope f cdv A outer s H E) [] (start N vs) H s1 := inv_start S room.hd e0 hl r x
  refine wpAny_mono (ht.run [] s1 (start N vs) H _ I hq) (fun fl s' hs => ?_) fun e s' hs => hs
  have fin : ∀ {σ2 : L2.St} {H2 : Hp} {v : V} {u : Value}, Inv (cxOf CX P w K mg base N qual scope f cdv A outer s H E) [] σ2 H2 s' → RelV v u → Q v H2 → CE outer P w H s Q u s' :=
    fun {σ2 H2 v u} J rv q => ⟨v, H2, J.os, J.bare, J.base, J.hok, rv, q⟩
  cases fl with
  | ret u =>
    obtain ⟨v, σ2, H2, J, rv, q⟩ := hs
    exact fin J rv q
  | next =>
    obtain ⟨σ2, H2, J, q⟩ := hs
    exact fin (v := V.non) (u := Value.none) J rfl q
  | brk =>
    obtain ⟨_, _, _, q⟩ := hs
    exact q.elim
  | cont =>
    obtain ⟨_, _, _, q⟩ := hs
    exact q.elim
theorem okG {x qual : Str} {st : Stmt} {f : Addr} {fd : FuncData} {N ps : List Str} {k : Nat} {sp : Sp} (F : Fun K x qual st f fd) (S : FnScope N ps (defScope st)) (len : ∀ vs H Q E, sp vs H Q E → vs.length = ps.length)
    (body_ok : ∀ (cdv : Value) (A : Around) (outer : List Env) (s : Shared) (H : Hp) (vs : List V) (Q : VK) (E : XK), Room k (A.deeper (envOfC qual (defScope st) s.heap.objs.size f cdv)) → (A.deeper (envOfC qual (defScope st) s.heap.objs.size f cdv)).guards = some [] → sp vs H Q E →
      ∃ t, PSs (cxOf CX0 P w K mg base N qual (defScope st) f cdv A outer s H E).nox (defBody st) t ∧ t { nx := fun _ H' => Q .non H', rt := Q } (start N vs) H) : FnG P w K mg base CX0 (k + 1) f fd ps sp := by
  obtain ⟨oc, od, kV, doc, pm, an, cdv, ct, osl, rfl, lk, code⟩ := F.ex
  refine fn_guarded lk code S len fun A outer s H vs Q E room gd want => ?_
  obtain ⟨t, h, q⟩ := body_ok cdv A outer s H vs Q E room gd want
  exact ⟨t, h.nox, q⟩
end
section
variable {X : Cx} {CX : CXT} {k : Nat} {f C : Addr} {fd : FuncData} {ps : List Str} {sp : Sp} {dvs : List V} {ds : List Value} {E : XK} {x : Str} {p pos : Pos} {e : Expr} {es : List Expr} {t : TA}
/-- f(e, ..), every parameter given -/
def tCall1 (sp : Sp) (E : XK) (t : TA) : TE := fun σ H Q => t σ H fun vs H1 => sp vs H1 Q E
theorem pe_callG (F : FnG X.prog X.w X.K X.mg X.base CX k f fd ps sp) (gd : X.A.guards = some []) (hr : Room k X.A) (hg : Gl X x) (hm : X.mg x = some (.ref f)) (hk : PySem.W.keepIn X.K (.ref f) = true) (hb : Binds X.K fd ps []) (hx : Passes CX X E)
    (ha : PA X (e :: es) t) (hdb : (x == ("__debug__" : Str)) = false := by decide) (he : starEach (e :: es) X.env = (false, eval e X.env) :: starEach es X.env := by rfl) (hpl : (backTo pos (starEach es X.env)).any (·.1) = false := by rfl) :
    PE X (.Call (.Name x p) (e :: es) [] pos) (tCall1 sp E t) := by
  refine ⟨fun pins s σ H Q I h => ?_⟩
  refine wpAny_Call_Name_kw (ld_glob I hg hm ?_ hdb)
  refine PySem.W.callWith_K (h₀ := X.base) I.ok.mod.kin hk (thn (ha.run pos pins s σ H _ I h) fun us s1 ⟨vs, H1, I1, r, want⟩ => ⟨I1.kIn, ?_⟩) he hpl
  have want : sp vs H1 Q E := want
  have hl : us.length = ps.length := r.length.symm.trans (F.len _ _ _ _ want)
  have bt := hb s1 us I1.kIn (by rw [List.append_nil]; exact hl)
  rw [List.append_nil] at bt
  refine wpAny_call (codeAny_mono (F.run X.A X.stack s1 H1 ⟨us, []⟩ us vs Q E hr gd I1.env0 bt r want) fun r s' hq => ?_)
  cases r with
  | error e => exact hx pins σ H1 s1 e s' I1 hq
  | ok fl =>
    cases fl with
    | ret u => exact I1.after hq
    | next => exact hq.elim
    | brk => exact hq.elim
    | cont => exact hq.elim
end

/-! ### the law called -/
theorem law_run {P : Program} {w : World} {K : PySem.W.Frag} {mg mb : Str → Option Value} {k : Nat} {fa a : Addr} {fd : FuncData} {x : Str} {sp : Sp} {s1 : Shared} {vs : List Value} {ns : List Int}
    (kin : K.In s1.heap) (gns : s1.heap.Ns mainGlobals mg) (bns : s1.heap.Ns builtinsNs mb) (boot : ∀ x : Str, x ≠ "__name__" → mb x = bootBuiltins x) (lim : s1.heap.NoLimit) (nog : s1.gens = #[])
    (ha : s1.heap.get? a = some { cls := .type "list", data := .seq vs.toArray }) (are : IntsAre vs ns) (hl : ns.length ≤ sizeLine) (room : Room k callerA)
    (F : ∀ base : Heap, K.In base → base.Ns mainGlobals mg → FnG P w K mg base CX0 k fa fd [x] sp) (bnd : ∀ (s : Shared) (u : Value), BindsTo s fd ⟨[u], []⟩ [(x, u)])
    (want : ∀ H : Hp, Only H → SqL K H a (ns.map V.int) → sp [.ref a] H (fun v _ => v = .bl true) fun _ _ _ => False) :
    codeAny (model P w) callerA (.call (.ref fa) ⟨[.ref a], []⟩) (fun r s' => r = .ok (.ret (.bool true)) ∧ OldK s1.heap s'.heap ∧ s'.os = s1.os ∧ AllBare s'.gens) s1 := by
  have rv := vals_ints are
  have lenV := are.length
  have core : ∀ H : Hp, Only H → SqL K H a (ns.map V.int) → HOk P w H s1.heap → (∀ b, H b ≠ none → b = a) → (H a ≠ none → K.lookup a = none) →
      codeAny (model P w) callerA (.call (.ref fa) ⟨[.ref a], []⟩) (fun r s' => r = .ok (.ret (.bool true)) ∧ OldK s1.heap s'.heap ∧ s'.os = s1.os ∧ AllBare s'.gens) s1 := by
    intro H only seq hok onlyA outK
    have hid : ∀ {b : Addr} {o : Obj}, s1.heap.get? b = some o → H b = none → (hidT s1.heap H).get? b = some o := fun z n => hidT_get z n
    have noDict : ∀ {b : Addr} {o : Obj} {es : Array DictEntry} {ep : Nat}, s1.heap.get? b = some o → o.data = .dict es ep → H b = none := fun {b o es ep} z d => by
      cases q : H b with
      | none => rfl
      | some u =>
        obtain rfl : b = a := onlyA b (by rw [q]; simp)
        rw [ha] at z
        cases z
        have d2 : Data.seq vs.toArray _ = Data.dict es ep := d
        cases d2
    have nsH : ∀ {b : Addr} {m : Str → Option Value}, s1.heap.Ns b m → (hidT s1.heap H).Ns b m := fun {b m} ⟨o, es, ep, z, d, r⟩ => ⟨o, es, ep, hid z (noDict z d), d, r⟩
    have kinH : K.In (hidT s1.heap H) := fun b o z => hid (kin b o z) (by
      cases q : H b with
      | none => rfl
      | some u =>
        obtain rfl : b = a := onlyA b (by rw [q]; simp)
        rw [outK (by rw [q]; simp)] at z
        cases z)
    have md : Mod K mg (hidT s1.heap H) := ⟨kinH, nsH gns, ⟨mb, nsH bns, boot⟩, let ⟨mc, h1, h2⟩ := lim; ⟨mc, nsH h1, h2⟩⟩
    have e0 : Env0 P w K mg (hidT s1.heap H) callerA [] s1 H := ⟨rfl, md, fun b o z => of_hidT z, Nat.le_of_eq (hidT_size _ _), trivial, fun b hb => absurd (show b ∈ ([] : List Addr) from hb) (by simp), hok, .of_eq nog⟩
    refine codeAny_mono ((F _ kinH (nsH gns)).run callerA [] s1 H ⟨[.ref a], []⟩ [.ref a] [.ref a] _ _ room rfl e0 (bnd s1 (.ref a)) (.cons rfl .nil) (want H only seq)) fun r s' z => ?_
    cases r with
    | error e => exact z.elim
    | ok fl =>
      cases fl with
      | next => exact z.elim
      | brk => exact z.elim
      | cont => exact z.elim
      | ret u =>
        obtain ⟨v, H2, os, bare, un, hok2, ru, q⟩ := z
        obtain rfl : v = .bl true := q
        obtain rfl : u = Value.bool true := ru
        refine ⟨rfl, OldK.of_keep fun b o old => ?_, os, bare⟩
        cases q : H b with
        | none => exact un.keep b o old q (fun z => absurd (show b ∈ ([] : List Addr) from z) (by simp)) (by simp)
        | some u =>
          rcases only b with z | ⟨ob, xs, z⟩
          · rw [q] at z
            cases z
          · obtain ⟨e1, _⟩ := hok b _ z
            obtain ⟨e2, _⟩ := hok2 b _ (un.frzs b ob _ z)
            rw [old] at e1
            cases e1
            exact e2
  cases hk : K.lookup a with
  | some o =>
    have z := kin a o hk
    rw [ha] at z
    cases z
    refine core (fun _ => none) (fun _ => .inl rfl) (.inr ⟨_, vs.toArray, _, hk, rfl, rfl, rfl, by rw [List.size_toArray, lenV]; exact hl, by simpa using rv⟩) (fun b u q => ?_) (fun b q => absurd rfl q) fun q => absurd rfl q
    have q2 : (none : Option HO) = some u := q
    cases q2
  | none =>
    refine core (fun b => if b = a then some (.frz { cls := .type "list", data := .seq vs.toArray } (.lst (ns.map V.int))) else none) (fun b => ?_) (.inl (.inr ⟨{ cls := .type "list", data := .seq vs.toArray }, if_pos rfl⟩)) (fun b u q => ?_) (fun b q => ?_) fun _ => hk
    · by_cases hb : b = a
      · exact .inr ⟨_, _, if_pos hb⟩
      · exact .inl (if_neg hb)
    · by_cases hb : b = a
      · have q2 := (if_pos hb).symm.trans q
        cases q2
        subst hb
        exact ⟨ha, by rw [List.length_map]; exact hl, vs, _, rv, ha⟩
      · have q2 := (if_neg hb).symm.trans q
        cases q2
    · by_cases hb : b = a
      · exact hb
      · exact absurd (if_neg hb) q
/-- the end of a law: its guarded promise gives the statement's walk -/
theorem walk_guarded {l : PySem.W.OpenLaw} {n k : Nat} {q : Program} {loose : List Str} {XP : (Str → Option Value) → Heap → Prop} {YP : World → Heap → Prop} {d : DefRec} {K : Params → PySem.W.Frag} {sp : PySem.W.Frag → Sp} {x : Str}
    (hn : l.most = some n) (hn2 : n ≤ sizeLine) (hdf : d.params.defaults = []) (room : Room k callerA) (hY : ∀ (w : World) (h : Heap), YP w h → (K w.params).In h)
    (F : ∀ (w : World) (mg : Str → Option Value) (fa : Addr) (h : Heap), (K w.params).In h → h.Ns mainGlobals mg → mg d.name = some (.ref fa) →
      ∃ fd : FuncData, (∀ (s : Shared) (u : Value), BindsTo s fd ⟨[u], []⟩ [(x, u)]) ∧ ∀ base : Heap, (K w.params).In base → base.Ns mainGlobals mg → FnG l.prog w (K w.params) mg base CX0 k fa fd [x] (sp (K w.params)))
    (want : ∀ (K : PySem.W.Frag) (H : Hp) (a : Addr) (ns : List Int), ns.length ≤ n → Only H → SqL K H a (ns.map V.int) → sp K [.ref a] H (fun v _ => v = .bl true) fun _ _ _ => False) :
    PySem.W.WalkO q loose XP YP l.row.toRowW d [] (fun f vs => PySem.call f vs) := by
  refine Att.attach_call hn hdf fun w s0 s1 mg mb fa o pm cd doc a vs ns G Y ho hd hcd hmg hobj are hlen nog => ?_
  have kin := hY w _ Y
  obtain ⟨fd, bnd, hF⟩ := F w mg fa _ kin G.T.g hmg
  exact law_run kin G.T.g G.T.b G.T.builtins G.T.nolimit nog hobj are (Nat.le_trans hlen hn2) room hF bnd fun H only seq => want _ H a ns hlen only seq
end Lots

/-! repr(x) of data: None, bools, ints, texts, lists, tuples at any depth, the empty dict. Asked where no repr runs around. -/
namespace Lots
open PySem PySem.Spec PyProof.Rows L2
mutual
inductive Dr (K : PySem.W.Frag) (H : Hp) : V → PyData → Prop
  | non : Dr K H .non .none
  | bl (b : Bool) : Dr K H (.bl b) (.bool b)
  | int (i : Int) : Dr K H (.int i) (.int i)
  | str (x : Str) : Dr K H (.str x) (.str x)
  | lst {a : Addr} {xs : List V} {ds : List PyData} (at_ : Rd H a (.lst xs)) (no : PyData.hasDictAll ds = PyData.hasDictAll ds) (all : DrAll K H xs ds) : Dr K H (.ref a) (.list ds)
  | tup {a : Addr} {xs : List V} {ds : List PyData} (at_ : Rd H a (.tup xs)) (no : PyData.hasDictAll ds = PyData.hasDictAll ds) (all : DrAll K H xs ds) : Dr K H (.ref a) (.tuple ds)
  | dic {a : Addr} (at_ : H a = some (.dK [])) : Dr K H (.ref a) (.dict [])
inductive DrAll (K : PySem.W.Frag) (H : Hp) : List V → List PyData → Prop
  | nil : DrAll K H [] []
  | cons {v : V} {vs : List V} {d : PyData} {ds : List PyData} (one : Dr K H v d) (more : DrAll K H vs ds) : DrAll K H (v :: vs) (d :: ds)
end
/-! What repr reads, with {} at any place: the library asks that the modules' dict is at no address that is read; here only that no dict is it. -/
mutual
inductive RdZ (h : Heap) : Value → PyData → List Addr → Prop
  | none : RdZ h .none .none []
  | bool (b : Bool) : RdZ h (.bool b) (.bool b) []
  | int (i : Int) (t : Tok) : RdZ h (.int i t) (.int i) []
  | str (x : Str) (t : Tok) : RdZ h (.str x t) (.str x) []
  | list {a : Addr} {o : Obj} {vs : Array Value} {n : Nat} {xs : List PyData} {as : List Addr} : h.get? a = some o → o.cls = .type "list" → o.data = .seq vs n → RdZs h vs.toList xs as → RdZ h (.ref a) (.list xs) (a :: as)
  | tuple {a : Addr} {o : Obj} {vs : Array Value} {n : Nat} {xs : List PyData} {as : List Addr} : h.get? a = some o → o.cls = .type "tuple" → o.data = .seq vs n → RdZs h vs.toList xs as → RdZ h (.ref a) (.tuple xs) as
  | dict {a : Addr} {o : Obj} {n : Nat} : h.get? a = some o → o.cls = .type "dict" → o.data = .dict #[] n → a ≠ sysModules → RdZ h (.ref a) (.dict []) [a]
inductive RdZs (h : Heap) : List Value → List PyData → List Addr → Prop
  | nil : RdZs h [] [] []
  | cons {v : Value} {vs : List Value} {d : PyData} {ds : List PyData} {as bs : List Addr} : RdZ h v d as → RdZs h vs ds bs → RdZs h (v :: vs) (d :: ds) (as ++ bs)
end
mutual
theorem RdZ.reads {h : Heap} : ∀ {v : Value} {d : PyData} {as : List Addr}, RdZ h v d as → Reads h v d as
  | _, _, _, .none => .none
  | _, _, _, .bool b => .bool b
  | _, _, _, .int i t => .int i t
  | _, _, _, .str x t => .str x t
  | _, _, _, .list h1 h2 h3 h4 => .list h1 h2 h3 (RdZs.reads h4)
  | _, _, _, .tuple h1 h2 h3 h4 => .tuple h1 h2 h3 (RdZs.reads h4)
  | _, _, _, .dict h1 h2 h3 _ => Reads.dict (as := []) (bs := []) h1 h2 h3 .nil .nil
theorem RdZs.reads {h : Heap} : ∀ {vs : List Value} {ds : List PyData} {as : List Addr}, RdZs h vs ds as → ReadsAll h vs ds as
  | _, _, _, .nil => .nil
  | _, _, _, .cons r rs => .cons (RdZ.reads r) (RdZs.reads rs)
end
section
variable {prog : Program} {w : World} {h₀ : Heap}
mutual
theorem reprZ : ∀ {v : Value} {d : PyData} {as : List Addr}, RdZ h₀ v d as → d.showable = true → d.shown.length ≤ sizeLine → ∃ bs, ReadAtMost h₀ d.depth bs ∧ ReprK prog w bs h₀ d.depth v d.shown
  | _, _, _, .none, hs, hz => ReprK.of_reads .none hs (fun h => by simp [PyData.hasDict] at h) hz
  | _, _, _, .bool b, hs, hz => ReprK.of_reads (.bool b) hs (fun h => by simp [PyData.hasDict] at h) hz
  | _, _, _, .int i t, hs, hz => ReprK.of_reads (.int i t) hs (fun h => by simp [PyData.hasDict] at h) hz
  | _, _, _, .str x t, hs, hz => ReprK.of_reads (.str x t) hs (fun h => by simp [PyData.hasDict] at h) hz
  | _, _, _, .dict (a := a) h1 h2 h3 h4, hs, hz => ReprK.of_reads (Reads.dict (as := []) (bs := []) h1 h2 h3 .nil .nil) hs (fun _ => by simpa using fun e => h4 e.symm) hz
  | _, _, _, .list (a := a) (vs := vs) (xs := xs) h1 h2 h3 h4, hs, hz => by
    have hz' : (listText (PyData.shownAll xs)).length ≤ sizeLine := by simpa only [PyData.shown] using hz
    obtain ⟨bs, hb, hk⟩ := reprZs h4 (by simpa [PyData.showable] using hs) (fun t ht => Nat.le_trans (listText_mem_le ht) hz')
    have r : Reads h₀ (.ref a) (.list xs) _ := .list h1 h2 h3 (RdZs.reads h4)
    have hna : a ∉ bs := not_mem_of_deeper r (by simp only [PyData.depth]; omega) hb
    refine ⟨a :: bs, ReadAtMost.cons r (by simp only [PyData.depth]; omega) hb, ?_⟩
    simp only [PyData.depth, PyData.shown]
    obtain ⟨l⟩ := vs
    cases l with
    | nil =>
      have h4' : RdZs h₀ [] xs _ := h4
      cases h4'
      simp only [PyData.shownAll, listText_nil]
      exact ReprK.listEmpty h1 h2 h3
    | cons x l => exact ReprK.list h1 h2 h3 hna (by simpa using hk.length_eq) (fun i y e => hk.item i y (by simpa using e))
  | _, _, _, .tuple (a := a) (xs := xs) h1 h2 h3 h4, hs, hz => by
    have hz' : (tupleText (PyData.shownAll xs)).length ≤ sizeLine := by simpa only [PyData.shown] using hz
    obtain ⟨bs, hb, hk⟩ := reprZs h4 (by simpa [PyData.showable] using hs) (fun t ht => Nat.le_trans (tupleText_mem_le ht) hz')
    have r : Reads h₀ (.ref a) (.tuple xs) _ := .tuple h1 h2 h3 (RdZs.reads h4)
    have hna : a ∉ bs := not_mem_of_deeper r (by simp only [PyData.depth]; omega) hb
    refine ⟨a :: bs, ReadAtMost.cons r (by simp only [PyData.depth]; omega) hb, ?_⟩
    simp only [PyData.depth, PyData.shown]
    exact ReprK.tuple h1 h2 h3 hna hk
theorem reprZs : ∀ {vs : List Value} {ds : List PyData} {as : List Addr}, RdZs h₀ vs ds as → PyData.showableAll ds = true → (∀ t ∈ PyData.shownAll ds, t.length ≤ sizeLine) →
    ∃ bs, ReadAtMost h₀ (PyData.depthAll ds) bs ∧ ReprAllK prog w bs h₀ (PyData.depthAll ds) vs (PyData.shownAll ds)
  | _, _, _, .nil, _, _ => ⟨[], (fun _ h => nomatch h), by simp only [PyData.shownAll]; exact .nil⟩
  | _, _, _, .cons (d := d) (ds := ds) r rs, hs, hz => by
    have hs' : d.showable = true ∧ PyData.showableAll ds = true := by simpa [PyData.showableAll] using hs
    obtain ⟨b1, hb1, k1⟩ := reprZ r hs'.1 (hz _ (by simp only [PyData.shownAll]; exact List.mem_cons_self ..))
    obtain ⟨b2, hb2, k2⟩ := reprZs rs hs'.2 (fun t ht => hz t (by simp only [PyData.shownAll]; exact List.mem_cons_of_mem _ ht))
    refine ⟨b1 ++ b2, ?_, ?_⟩
    · intro b hm
      simp only [PyData.depthAll]
      rcases List.mem_append.mp hm with hm | hm
      · obtain ⟨d', as', r', hd'⟩ := hb1 b hm
        exact ⟨d', as', r', Nat.le_trans hd' (Nat.le_max_left _ _)⟩
      · obtain ⟨d', as', r', hd'⟩ := hb2 b hm
        exact ⟨d', as', r', Nat.le_trans hd' (Nat.le_max_right _ _)⟩
    · simp only [PyData.depthAll, PyData.shownAll]
      exact .cons ((k1.more fun b hb => List.mem_append_left _ hb).level_le (Nat.le_max_left _ _)) (k2.more_le (fun b hb => List.mem_append_right _ hb) (Nat.le_max_right _ _))
end
theorem showsZ {a : Addr} {d : PyData} {as : List Addr} (r : RdZ h₀ (.ref a) d as) (hs : d.showable = true) (hsz : d.shown.length ≤ sizeLine) : ∃ T idr, ShowsBy prog w h₀ a d T idr := by
  cases r with
  | list h1 h2 h3 h4 =>
    rename_i o vs n xs bs₀
    have hz' : (listText (PyData.shownAll xs)).length ≤ sizeLine := by simpa only [PyData.shown] using hsz
    obtain ⟨bs, hb, hk⟩ := reprZs (prog := prog) (w := w) h4 (by simpa [PyData.showable] using hs) (fun t ht => Nat.le_trans (listText_mem_le ht) hz')
    have hna : a ∉ bs := not_mem_of_deeper (.list h1 h2 h3 (RdZs.reads h4)) (by simp only [PyData.depth]; omega) hb
    refine ⟨"list", "list.__repr__", F.slot_list_repr.toG, F.slot_list_str, F.slot_list_format, fun s hk0 => ⟨o, hk0 _ _ h1, h2⟩, fun A E s Q hg hu hk0 hQ => ?_⟩
    simp only [PyData.depth] at hu
    simp only [PyData.shown] at hQ
    obtain ⟨l⟩ := vs
    cases l with
    | nil =>
      have h4' : RdZs h₀ [] xs _ := h4
      cases h4'
      simp only [PyData.shownAll, listText_nil] at hQ
      exact call_list_repr_empty ⟨o, hk0 _ _ h1, h2⟩ (hk0 _ _ h1) h3 (hQ s.heap _ _ fun _ _ e => e)
    | cons x l =>
      exact call_list_reprK h1 h2 h3 hna (by simpa using hk.length_eq) (fun i y e => hk.item i y (by simpa using e)) hg (fun b _ => Clear.nil b) hu hk0 hQ hz'
  | tuple h1 h2 h3 h4 =>
    rename_i o vs n xs
    have hz' : (tupleText (PyData.shownAll xs)).length ≤ sizeLine := by simpa only [PyData.shown] using hsz
    obtain ⟨bs, hb, hk⟩ := reprZs (prog := prog) (w := w) h4 (by simpa [PyData.showable] using hs) (fun t ht => Nat.le_trans (tupleText_mem_le ht) hz')
    have hna : a ∉ bs := not_mem_of_deeper (.tuple h1 h2 h3 (RdZs.reads h4)) (by simp only [PyData.depth]; omega) hb
    refine ⟨"tuple", "tuple.__repr__", F.slot_tuple_repr, F.slot_tuple_str, F.slot_tuple_format, fun s hk0 => ⟨o, hk0 _ _ h1, h2⟩, fun A E s Q hg hu hk0 hQ => ?_⟩
    simp only [PyData.depth] at hu
    simp only [PyData.shown] at hQ
    exact call_tuple_reprK h1 h2 h3 hna hk hg (fun b _ => Clear.nil b) hu hk0 hQ hz'
  | dict h1 h2 h3 h4 => exact showsBy_of_reads (Reads.dict (as := []) (bs := []) h1 h2 h3 .nil .nil) hs (fun _ => by simpa using fun e => h4 e.symm) hsz
theorem repr_of_Z {a : Addr} {d : PyData} {as : List Addr} {A : Around} {E : Value → Shared → Prop} {s : Shared} {Q : Value → Shared → Prop} (r : RdZ h₀ (.ref a) d as) (hs : d.showable = true) (hg : A.guards = some []) (hu : A.units + (d.depth + 1) < cLine) (hk0 : ∀ b o, h₀.get? b = some o → s.heap.get? b = some o)
    (hQ : ∀ h' u tk, (∀ b o, s.heap.get? b = some o → h'.get? b = some o) → Q (.str d.shown u) { s with heap := h', toks := tk })
    (hsz : d.shown.length ≤ sizeLine) : wpAny (model prog w) A (call (.builtin "repr") [.ref a]) Q E s := by
  obtain ⟨T, idr, S⟩ := showsZ (prog := prog) (w := w) r hs hsz
  exact call_repr_slot (by omega) (S.typeIs s hk0) S.slotRepr (S.call A.in1 E s _ hg (by show A.units + 1 + d.depth < cLine; omega) hk0 fun h' u tk hk => ⟨_, _, rfl, hQ h' u tk hk⟩)
end
section
variable {X : Cx} {pins : List (Addr × Obj)} {σ : L2.St} {H : Hp} {s : Shared}
mutual
theorem Dr.reads (I : Inv X pins σ H s) : ∀ (d : PyData) (v : V) (u : Value), Dr X.K H v d → RelV v u → ∃ as, RdZ s.heap u d as
  | .none, _, _, h, r => by
    cases h
    cases r
    exact ⟨_, .none⟩
  | .bool b, _, _, h, r => by
    cases h
    cases r
    exact ⟨_, .bool b⟩
  | .int i, _, _, h, r => by
    cases h
    obtain ⟨t, rfl⟩ := r
    exact ⟨_, .int i t⟩
  | .str x, _, _, h, r => by
    cases h
    obtain ⟨t, rfl⟩ := r
    exact ⟨_, .str x t⟩
  | .list ds, _, _, h, r => by
    cases h with
    | lst hs no ha =>
      cases r
      obtain ⟨its, rv, ⟨o, n, ho, hc, _, hd⟩, _⟩ := I.list (.inl hs)
      obtain ⟨as, hr⟩ := DrAll.reads I ds _ its ha rv
      exact ⟨_, .list ho hc hd hr⟩
  | .tuple ds, _, _, h, r => by
    cases h with
    | tup hs no ha =>
      cases r
      obtain ⟨its, rv, ⟨o, ho, hc, n, hd⟩, _⟩ := I.tuple (.inl hs)
      obtain ⟨as, hr⟩ := DrAll.reads I ds _ its ha rv
      exact ⟨_, .tuple ho hc hd hr⟩
  | .dict kvs, _, _, h, r => by
    cases h with
    | @dic a hd =>
      cases r
      obtain ⟨_, ns, vs, kv, o, es, ep, h1, h2, h3, h4⟩ := (show ObjOk X.prog X.w H s.heap a (.dK []) from I.hok a _ hd)
      cases kv
      have emp : es = #[] := by
        have q := h4.2.1
        cases es with
        | mk l =>
          cases l with
          | nil => rfl
          | cons a b => cases q
      subst emp
      exact ⟨_, .dict h1 h2.1 h3 (by simpa using ns)⟩
theorem DrAll.reads (I : Inv X pins σ H s) : ∀ (ds : List PyData) (vs : List V) (us : List Value), DrAll X.K H vs ds → Vals vs us → ∃ as, RdZs s.heap us ds as
  | [], _, _, h, r => by
    cases h
    cases r
    exact ⟨_, .nil⟩
  | d :: ds, _, _, h, r => by
    cases h with
    | cons h1 h2 =>
      cases r with
      | cons r1 r2 =>
        obtain ⟨as, q1⟩ := Dr.reads I d _ _ h1 r1
        obtain ⟨bs, q2⟩ := DrAll.reads I ds _ _ h2 r2
        exact ⟨_, .cons q1 q2⟩
end
end
/-- nothing is asked of the heap itself -/
def Sys (_ : Hp) : Prop := True
theorem Sys.same {H H2 : Hp} (_ : Sys H) (_ : Same H H2) : Sys H2 := trivial
/-- repr(x) of data -/
def rRepr (K : PySem.W.Frag) : List V → Hp → VK → Prop := fun xs H Q => ∃ x d, xs = [x] ∧ Sys H ∧ Dr K H x d ∧ d.showable = true ∧ d.shown.length ≤ sizeLine ∧ d.depth ≤ 60 ∧ Q (.str d.shown) H
theorem call_repr {X : Cx} (gd : X.A.guards = some []) (hu : X.A.units + 64 < cLine) : CallR X (.builtin "repr") (rRepr X.K) := by
  intro pins s σ H xs us Q I r h
  obtain ⟨x, d, rfl, _, hd, sh, sz, dp, q⟩ := h
  obtain ⟨u, rfl, ru⟩ := vals1 r
  have fin : ∀ {t : Nat} {tk : Tok}, EP X pins σ Q (.str d.shown tk) { s with toks := t } := fun {t tk} => ⟨.str d.shown, H, I.tok t, ⟨_, rfl⟩, q⟩
  cases hd with
  | non => cases ru; exact P.repr_of_none fin
  | bl b => cases ru; exact P.repr_of_bool fin
  | int i =>
    obtain ⟨t, rfl⟩ := ru
    exact P.repr_of_int (by simpa [PyData.showable] using sh) fin
  | str y =>
    obtain ⟨t, rfl⟩ := ru
    exact P.repr_of_str fin sz
  | @lst a ys ds at_ no all =>
    obtain ⟨as, rd⟩ := Dr.reads I (.list ds) _ _ (.lst at_ no all) ru
    cases ru
    exact repr_of_Z (h₀ := s.heap) rd sh gd (by omega) (fun _ _ z => z) (fun h2 u tk kept => ⟨.str _, H, I.kept kept, ⟨_, rfl⟩, q⟩) sz
  | @tup a ys ds at_ no all =>
    obtain ⟨as, rd⟩ := Dr.reads I (.tuple ds) _ _ (.tup at_ no all) ru
    cases ru
    exact repr_of_Z (h₀ := s.heap) rd sh gd (by omega) (fun _ _ z => z) (fun h2 u tk kept => ⟨.str _, H, I.kept kept, ⟨_, rfl⟩, q⟩) sz
  | @dic a at_ =>
    obtain ⟨as, rd⟩ := Dr.reads I (.dict []) _ _ (.dic at_) ru
    cases ru
    exact repr_of_Z (h₀ := s.heap) rd sh gd (by omega) (fun _ _ z => z) (fun h2 u tk kept => ⟨.str _, H, I.kept kept, ⟨_, rfl⟩, q⟩) sz

/-! ### data stays where what is tracked stays (exceptions may turn) -/
def isExt : HO → Bool
  | .ext _ => true
  | _ => false
def SameD (H H2 : Hp) : Prop := ∀ b o, H b = some o → isExt o = false → H2 b = some o
theorem SameD.of {H H2 : Hp} (e : Same H H2) : SameD H H2 := fun b o z _ => e b o z
theorem SameD.rd {H H2 : Hp} {a : Addr} {u : HO} (e : SameD H H2) (h : Rd H a u) (hu : isExt u = false) : Rd H2 a u := by
  rcases h with h | ⟨o, h⟩
  · exact .inl (e _ _ h hu)
  · exact .inr ⟨o, e _ _ h rfl⟩
mutual
theorem Dr.keep {K : PySem.W.Frag} {H H2 : Hp} (e : SameD H H2) : ∀ {d : PyData} {v : V}, Dr K H v d → Dr K H2 v d
  | .none, _, h => by
    cases h
    exact .non
  | .bool _, _, h => by
    cases h
    exact .bl _
  | .int _, _, h => by
    cases h
    exact .int _
  | .str _, _, h => by
    cases h
    exact .str _
  | .list ds, _, h => by
    cases h with
    | lst at_ no all => exact .lst (e.rd at_ rfl) no (DrAll.keep e all)
  | .tuple ds, _, h => by
    cases h with
    | tup at_ no all => exact .tup (e.rd at_ rfl) no (DrAll.keep e all)
  | .dict _, _, h => by
    cases h with
    | dic at_ => exact .dic (e _ _ at_ rfl)
theorem DrAll.keep {K : PySem.W.Frag} {H H2 : Hp} (e : SameD H H2) : ∀ {ds : List PyData} {vs : List V}, DrAll K H vs ds → DrAll K H2 vs ds
  | [], _, h => by
    cases h
    exact .nil
  | _ :: _, _, h => by
    cases h with
    | cons one more => exact .cons (Dr.keep e one) (DrAll.keep e more)
end
theorem Dr.same {K : PySem.W.Frag} {H H2 : Hp} (e : Same H H2) {d : PyData} {v : V} (h : Dr K H v d) : Dr K H2 v d := Dr.keep (.of e) h
theorem DrAll.same {K : PySem.W.Frag} {H H2 : Hp} (e : Same H H2) {ds : List PyData} {vs : List V} (h : DrAll K H vs ds) : DrAll K H2 vs ds := DrAll.keep (.of e) h
/-- the type's name -/
def tyN : PyData → String
  | .none => "NoneType"
  | .bool _ => "bool"
  | .int _ => "int"
  | .str _ => "str"
  | .list _ => "list"
  | .tuple _ => "tuple"
  | .dict _ => "dict"
theorem Dr.ty {K : PySem.W.Frag} {H : Hp} {x : V} {d : PyData} (h : Dr K H x d) : TyX K H x (.type (tyN d)) := by
  cases h with
  | non => exact .base .non
  | bl b => exact .base (.bl b)
  | int i => exact .base (.int i)
  | str y => exact .base (.str y)
  | lst at_ no all =>
    rcases at_ with z | ⟨o, z⟩
    · exact .base (.lst z)
    · exact .base (.frz z)
  | tup at_ no all =>
    rcases at_ with z | ⟨o, z⟩
    · exact .base (.tup z)
    · exact .fTuple z
  | dic z => exact .base (.dK z)
def isLst : PyData → Bool
  | .list _ => true
  | _ => false
def isDic : PyData → Bool
  | .dict _ => true
  | _ => false
theorem kit_lst {K : PySem.W.Frag} (d : PyData) : PySem.W.kitOne K (.type (tyN d)) (.type "list") = some (isLst d) := by
  refine kit_ty ?_
  cases d with
  | none =>
    show kitB "NoneType" "list" = some false
    decide +kernel
  | bool _ =>
    show kitB "bool" "list" = some false
    decide +kernel
  | int _ =>
    show kitB "int" "list" = some false
    decide +kernel
  | str _ =>
    show kitB "str" "list" = some false
    decide +kernel
  | list _ =>
    show kitB "list" "list" = some true
    decide +kernel
  | tuple _ =>
    show kitB "tuple" "list" = some false
    decide +kernel
  | dict _ =>
    show kitB "dict" "list" = some false
    decide +kernel
theorem kit_dic {K : PySem.W.Frag} (d : PyData) : PySem.W.kitOne K (.type (tyN d)) (.type "dict") = some (isDic d) := by
  refine kit_ty ?_
  cases d with
  | none =>
    show kitB "NoneType" "dict" = some false
    decide +kernel
  | bool _ =>
    show kitB "bool" "dict" = some false
    decide +kernel
  | int _ =>
    show kitB "int" "dict" = some false
    decide +kernel
  | str _ =>
    show kitB "str" "dict" = some false
    decide +kernel
  | list _ =>
    show kitB "list" "dict" = some false
    decide +kernel
  | tuple _ =>
    show kitB "tuple" "dict" = some false
    decide +kernel
  | dict _ =>
    show kitB "dict" "dict" = some true
    decide +kernel
/-- what an error keeps of a value: the same data -/
def spPass (K : PySem.W.Frag) : Sp := fun vs H Q _ => ∃ x d, vs = [x] ∧ Dr K H x d ∧ ∀ (H2 : Hp) (y : V), Same H H2 → Dr K H2 y d → Q y H2
/-! ### an object that is no data may be turned -/
mutual
theorem Dr.skip {K : PySem.W.Frag} {H : Hp} {F : Addr} {o : HO} (hF : ∀ d, ¬ Dr K H (.ref F) d) : ∀ {d : PyData} {v : V}, Dr K H v d → Dr K (upd H F o) v d
  | .none, _, h => by
    cases h
    exact .non
  | .bool _, _, h => by
    cases h
    exact .bl _
  | .int _, _, h => by
    cases h
    exact .int _
  | .str _, _, h => by
    cases h
    exact .str _
  | .list ds, _, h => by
    cases h with
    | @lst a xs _ at_ no all =>
      have ne : a ≠ F := fun z => by
        rw [z] at at_
        exact hF _ (.lst at_ no all)
      exact .lst (by
        rcases at_ with z | ⟨q, z⟩
        · exact .inl ((upd_ne ne).trans z)
        · exact .inr ⟨q, (upd_ne ne).trans z⟩) no (DrAll.skip hF all)
  | .tuple ds, _, h => by
    cases h with
    | @tup a xs _ at_ no all =>
      have ne : a ≠ F := fun z => by
        rw [z] at at_
        exact hF _ (.tup at_ no all)
      exact .tup (by
        rcases at_ with z | ⟨q, z⟩
        · exact .inl ((upd_ne ne).trans z)
        · exact .inr ⟨q, (upd_ne ne).trans z⟩) no (DrAll.skip hF all)
  | .dict _, _, h => by
    cases h with
    | @dic a at_ =>
      have ne : a ≠ F := fun z => by
        rw [z] at at_
        exact hF _ (.dic at_)
      exact .dic ((upd_ne ne).trans at_)
theorem DrAll.skip {K : PySem.W.Frag} {H : Hp} {F : Addr} {o : HO} (hF : ∀ d, ¬ Dr K H (.ref F) d) : ∀ {ds : List PyData} {vs : List V}, DrAll K H vs ds → DrAll K (upd H F o) vs ds
  | [], _, h => by
    cases h
    exact .nil
  | _ :: _, _, h => by
    cases h with
    | cons one more => exact .cons (Dr.skip hF one) (DrAll.skip hF more)
end
theorem no_ext {K : PySem.W.Frag} {H : Hp} {a : Addr} {o : HO} (h : H a = some o) (e : isExt o = true) : ∀ d, ¬ Dr K H (.ref a) d := fun d z => by
  have key : ∀ u : HO, isExt u = false → ¬ Rd H a u := fun u hu r => by
    rcases r with r | ⟨q, r⟩
    · rw [h] at r
      cases r
      rw [e] at hu
      cases hu
    · rw [h] at r
      cases r
      exact absurd e Bool.false_ne_true
  cases z with
  | lst at_ no all => exact key _ rfl at_
  | tup at_ no all => exact key _ rfl at_
  | dic at_ => exact key _ rfl (.inl at_)
/-- a list that begins with what is no data is none -/
theorem no_list {K : PySem.W.Frag} {H : Hp} {a : Addr} {v : V} {xs : List V} (h : H a = some (.lst (v :: xs))) (hv : ∀ d, ¬ Dr K H v d) : ∀ d, ¬ Dr K H (.ref a) d := fun d z => by
  cases z with
  | lst at_ no all =>
    rcases at_ with r | ⟨q, r⟩
    · rw [h] at r
      cases r
      cases all with
      | cons one _ => exact hv _ one
    · rw [h] at r
      cases r
  | tup at_ no all =>
    rcases at_ with r | ⟨q, r⟩
    · rw [h] at r
      cases r
    · rw [h] at r
      cases r
  | dic at_ =>
    rw [h] at at_
    cases at_
end Lots

/-! The state of the draws as the laws keep it: a dict of all cells, what is left of great ones, and a counter. G: all else. -/
namespace Lots
open PySem PySem.Spec PyProof.Rows L2

/-! ### heaps -/
theorem same_upd {H : Hp} {a : Addr} {o : HO} (h : H a = none) : Same H (upd H a o) := fun b u z => by
  rw [upd_ne (ne_of_none z h)]
  exact z
theorem same_new {G H : Hp} {a : Addr} {o : HO} (s : Same G H) (h : H a = none) : Same G (upd H a o) := s.trans (same_upd h)
theorem same_off {G H : Hp} {a : Addr} {o : HO} (s : Same G H) (g : G a = none) : Same G (upd H a o) := fun b u z => by
  rw [upd_ne (ne_of_none z g)]
  exact s b u z
/-- both sides turned alike -/
theorem same_both {G H : Hp} {a : Addr} {o : HO} (s : Same G H) : Same (upd G a o) (upd H a o) := fun b u z => by
  by_cases h : b = a
  · rw [h, upd_same] at z
    rw [h, upd_same]
    exact z
  · rw [upd_ne h] at z
    rw [upd_ne h]
    exact s b u z

abbrev kCells : Key := .inr "cells"
abbrev kLeft : Key := .inr "left"
abbrev kAt : Key := .inr "at"
theorem cl_ne : ¬ kCells = kLeft := by decide +kernel
theorem ca_ne : ¬ kCells = kAt := by decide +kernel
theorem la_ne : ¬ kLeft = kAt := by decide +kernel
def mD (c l : Addr) (k : Int) : List (Key × V) := [(kCells, .ref c), (kLeft, .ref l), (kAt, .int k)]
theorem mD_cells (c l : Addr) (k : Int) : valV (mD c l k) kCells = some (.ref c) := valV_pos rfl
theorem mD_left (c l : Addr) (k : Int) : valV (mD c l k) kLeft = some (.ref l) := (valV_neg (p := (kCells, V.ref c)) cl_ne).trans (valV_pos rfl)
theorem mD_at (c l : Addr) (k : Int) : valV (mD c l k) kAt = some (.int k) := (valV_neg (p := (kCells, V.ref c)) ca_ne).trans ((valV_neg (p := (kLeft, V.ref l)) la_ne).trans (valV_pos rfl))
theorem mD_putLeft (c l q : Addr) (k : Int) : putK (mD c l k) kLeft (.ref q) = mD c q k := by
  have h1 : decide (kCells = kLeft) = false := decide_eq_false cl_ne
  have h2 : decide (kAt = kLeft) = false := decide_eq_false (Ne.symm la_ne)
  unfold putK mD
  simp only [List.any_cons, List.any_nil, List.map_cons, List.map_nil, h1, h2, decide_true, Bool.false_or, Bool.true_or, if_true, if_neg cl_ne, if_neg (Ne.symm la_ne)]
theorem mD_putAt (c l : Addr) (k j : Int) : putK (mD c l k) kAt (.int j) = mD c l j := by
  have h1 : decide (kCells = kAt) = false := decide_eq_false ca_ne
  have h2 : decide (kLeft = kAt) = false := decide_eq_false la_ne
  unfold putK mD
  simp only [List.any_cons, List.any_nil, List.map_cons, List.map_nil, h1, h2, decide_true, Bool.false_or, Bool.true_or, if_true, if_neg ca_ne, if_neg la_ne]

/-- the draws' state at p, behind G; B: the counter is no greater -/
structure MAt (G H : Hp) (p : Addr) (B : Int) (c l : Addr) (cs ls : List Int) (k : Int) : Prop where
  hp : H p = some (.dK (mD c l k))
  hl : H l = some (.lst (ls.map V.int))
  hc : H c = some (.lst (cs.map V.int))
  gp : G p = none
  gl : G l = none
  gc : G c = none
  lc : l ≠ c
  same : Same G H
  k0 : 0 ≤ k
  kB : k ≤ B
  ln : ls.length ≤ 1000
  cn : cs.length ≤ 1000
def MOk (G H : Hp) (p : Addr) (B : Int) : Prop := ∃ c l cs ls k, MAt G H p B c l cs ls k
section
variable {G H : Hp} {p c l q : Addr} {B k : Int} {cs ls : List Int} {o : HO}
theorem MAt.pl (m : MAt G H p B c l cs ls k) : p ≠ l := ne_of m.hp m.hl (by intro z; cases z)
theorem MAt.pc (m : MAt G H p B c l cs ls k) : p ≠ c := ne_of m.hp m.hc (by intro z; cases z)
theorem MAt.garbage (m : MAt G H p B c l cs ls k) (hq : H q = none) : MAt G (upd H q o) p B c l cs ls k :=
  ⟨by rw [upd_ne (ne_of_none m.hp hq)]; exact m.hp, by rw [upd_ne (ne_of_none m.hl hq)]; exact m.hl, by rw [upd_ne (ne_of_none m.hc hq)]; exact m.hc, m.gp, m.gl, m.gc, m.lc, same_new m.same hq, m.k0, m.kB, m.ln, m.cn⟩
/-- a new object of all else -/
theorem MAt.new (m : MAt G H p B c l cs ls k) (hq : H q = none) : MAt (upd G q o) (upd H q o) p B c l cs ls k :=
  ⟨by rw [upd_ne (ne_of_none m.hp hq)]; exact m.hp, by rw [upd_ne (ne_of_none m.hl hq)]; exact m.hl, by rw [upd_ne (ne_of_none m.hc hq)]; exact m.hc, by rw [upd_ne (ne_of_none m.hp hq)]; exact m.gp, by rw [upd_ne (ne_of_none m.hl hq)]; exact m.gl, by rw [upd_ne (ne_of_none m.hc hq)]; exact m.gc, m.lc, same_both m.same, m.k0, m.kB, m.ln, m.cn⟩
theorem MAt.leftNew {zs : List Int} (m : MAt G H p B c l cs ls k) (hq : H q = none) (hz : zs.length ≤ 1000) : MAt G (upd (upd H q (.lst (zs.map V.int))) p (.dK (putK (mD c l k) kLeft (.ref q)))) p B c q cs zs k := by
  have qp : q ≠ p := (ne_of_none m.hp hq).symm
  have gq : G q = none := m.same.free hq
  refine ⟨by rw [upd_same, mD_putLeft], by rw [upd_ne qp, upd_same], by rw [upd_ne m.pc.symm, upd_ne (ne_of_none m.hc hq)]; exact m.hc, m.gp, gq, m.gc, (ne_of_none m.hc hq).symm, same_off (same_new m.same hq) m.gp, m.k0, m.kB, hz, m.cn⟩
theorem MAt.leftSet {zs : List Int} (m : MAt G H p B c l cs ls k) (hz : zs.length ≤ 1000) : MAt G (upd H l (.lst (zs.map V.int))) p B c l cs zs k :=
  ⟨by rw [upd_ne m.pl]; exact m.hp, upd_same, by rw [upd_ne m.lc.symm]; exact m.hc, m.gp, m.gl, m.gc, m.lc, same_off m.same m.gl, m.k0, m.kB, hz, m.cn⟩
theorem MAt.atSet {B2 j : Int} (m : MAt G H p B c l cs ls k) (h0 : 0 ≤ j) (h1 : j ≤ B2) : MAt G (upd H p (.dK (putK (mD c l k) kAt (.int j)))) p B2 c l cs ls j :=
  ⟨by rw [upd_same, mD_putAt], by rw [upd_ne m.pl.symm]; exact m.hl, by rw [upd_ne m.pc.symm]; exact m.hc, m.gp, m.gl, m.gc, m.lc, same_off m.same m.gp, h0, h1, m.ln, m.cn⟩
theorem MAt.more {B2 : Int} (m : MAt G H p B c l cs ls k) (h : B ≤ B2) : MAt G H p B2 c l cs ls k := ⟨m.hp, m.hl, m.hc, m.gp, m.gl, m.gc, m.lc, m.same, m.k0, Int.le_trans m.kB h, m.ln, m.cn⟩
theorem MAt.less {G2 : Hp} (m : MAt G H p B c l cs ls k) (s : Same G2 G) : MAt G2 H p B c l cs ls k := ⟨m.hp, m.hl, m.hc, s.free m.gp, s.free m.gl, s.free m.gc, m.lc, s.trans m.same, m.k0, m.kB, m.ln, m.cn⟩
theorem MAt.getLeft (m : MAt G H p B c l cs ls k) : DGet H p (.str "left") (some (.ref l)) := by
  have z := DGet.k (k := kLeft) m.hp
  rw [mD_left] at z
  exact z
theorem MAt.getCells (m : MAt G H p B c l cs ls k) : DGet H p (.str "cells") (some (.ref c)) := by
  have z := DGet.k (k := kCells) m.hp
  rw [mD_cells] at z
  exact z
theorem MAt.getAt (m : MAt G H p B c l cs ls k) : DGet H p (.str "at") (some (.int k)) := by
  have z := DGet.k (k := kAt) m.hp
  rw [mD_at] at z
  exact z
end
theorem MOk.garbage {G H : Hp} {p q : Addr} {B : Int} {o : HO} (m : MOk G H p B) (hq : H q = none) : MOk G (upd H q o) p B := let ⟨c, l, cs, ls, k, m⟩ := m; ⟨c, l, cs, ls, k, m.garbage hq⟩
theorem MOk.new {G H : Hp} {p q : Addr} {B : Int} {o : HO} (m : MOk G H p B) (hq : H q = none) : MOk (upd G q o) (upd H q o) p B := let ⟨c, l, cs, ls, k, m⟩ := m; ⟨c, l, cs, ls, k, m.new hq⟩
theorem MOk.same {G H : Hp} {p : Addr} {B : Int} (m : MOk G H p B) : Same G H := let ⟨_, _, _, _, _, m⟩ := m; m.same
theorem MOk.more {G H : Hp} {p : Addr} {B B2 : Int} (m : MOk G H p B) (h : B ≤ B2) : MOk G H p B2 := let ⟨c, l, cs, ls, k, m⟩ := m; ⟨c, l, cs, ls, k, m.more h⟩
theorem MOk.less {G G2 H : Hp} {p : Addr} {B : Int} (m : MOk G H p B) (s : Same G2 G) : MOk G2 H p B := let ⟨c, l, cs, ls, k, m⟩ := m; ⟨c, l, cs, ls, k, m.less s⟩
/-- a thing of all else, changed -/
theorem MOk.put {G H : Hp} {p D : Addr} {B : Int} {o o2 : HO} (m : MOk G H p B) (hD : G D = some o) : MOk (upd G D o2) (upd H D o2) p B := by
  obtain ⟨c, l, cs, ls, k, m⟩ := m
  have np : p ≠ D := fun e => by rw [← e, m.gp] at hD; cases hD
  have nl : l ≠ D := fun e => by rw [← e, m.gl] at hD; cases hD
  have nc : c ≠ D := fun e => by rw [← e, m.gc] at hD; cases hD
  exact ⟨c, l, cs, ls, k, by rw [upd_ne np]; exact m.hp, by rw [upd_ne nl]; exact m.hl, by rw [upd_ne nc]; exact m.hc, by rw [upd_ne np]; exact m.gp, by rw [upd_ne nl]; exact m.gl, by rw [upd_ne nc]; exact m.gc, m.lc, same_both m.same, m.k0, m.kB, m.ln, m.cn⟩

/-! ### lists of ints as data -/
theorem dpAll_ints (K : PySem.W.Frag) (H : Hp) : ∀ ns : List Int, DpAll K H (ns.map V.int) (ns.map PyData.int)
  | [] => .nil
  | n :: ns => .cons (.int n) (dpAll_ints K H ns)
theorem canLay_ints : ∀ ns : List Int, PyData.canLayAll0 (ns.map PyData.int) = true
  | [] => by simp [PyData.canLayAll0]
  | n :: ns => by simp [PyData.canLayAll0, PyData.canLay0, canLay_ints ns]
theorem depth_ints : ∀ ns : List Int, PyData.depthAll (ns.map PyData.int) = 0
  | [] => by simp [PyData.depthAll]
  | n :: ns => by simp [PyData.depthAll, PyData.depth, depth_ints ns]
theorem shaped_ints (ns : List Int) : SeqAt.shaped (.list (ns.map PyData.int)) = true := by
  unfold SeqAt.shaped
  simp [PyData.canLay0, canLay_ints, PyData.depth, depth_ints]
theorem shaped_nil : SeqAt.shaped (.list []) = true := shaped_ints []
theorem eqv_nil (ns : List Int) : PyData.eqv (.list (ns.map PyData.int)) (.list []) = ns.isEmpty := by
  cases ns <;> simp [PyData.eqv, PyData.eqvAll]
theorem cut_one (n : Int) (ns : List Int) : cutV ((n :: ns).map V.int) (some 1) none = ns.map V.int := by
  unfold cutV
  simp [HT.sIx]
  exact List.take_of_length_le (by simp)
theorem eqv_ne {K : PySem.W.Frag} {H : Hp} {l q : Addr} {ls : List Int} {Q : VK} (hl : H l = some (.lst (ls.map V.int))) (hq : H q = some (.lst [])) (h : Q (.bl (!ls.isEmpty)) H) : rNeD K (.ref l) (.ref q) H Q :=
  ⟨_, _, .lst (SqL.of hl) (dpAll_ints K H ls), .lst (SqL.of hq) .nil, shaped_ints ls, shaped_nil, by rw [eqv_nil]; exact h⟩
/-- the promise of a draw: below many, whatever it is -/
def spNext : Sp := fun vs H Q _ => ∃ (G : Hp) (p : Addr) (many B : Int), vs = [.ref p, .int many] ∧ MOk G H p B ∧ 0 < many ∧ many < 1000000 ∧ B < 1000000000 ∧
  ∀ (H2 : Hp) (r : Int), MOk G H2 p (B + 1) → 0 ≤ r → r < many → Q (.int r) H2
/-- the promise of the start -/
def spBegun (K : PySem.W.Frag) : Sp := fun vs H Q _ => ∃ (a : Addr) (ns : List Int), vs = [.ref a] ∧ SqL K H a (ns.map V.int) ∧ ns.length ≤ 63 ∧ ∀ (H2 : Hp) (p : Addr), MOk H H2 p 0 → Q (.ref p) H2
end Lots

/-! What an own __init__ leaves: the field holds the same data. -/
namespace Lots
open PySem PySem.Spec PyProof.Rows L2
/-- a made exception of the class at C at a; its field holds the data d -/
def MadeX (K : PySem.W.Frag) (H : Hp) (a C : Addr) (fld : Str) (d : PyData) : Prop := ∃ (dx : Addr) (y : V), H a = some (exo a C (some dx)) ∧ H dx = some (exd dx [(fld, y)]) ∧ Dr K H y d
theorem MadeX.same {K : PySem.W.Frag} {H H2 : Hp} {a C : Addr} {fld : Str} {d : PyData} (e : Same H H2) (m : MadeX K H a C fld d) : MadeX K H2 a C fld d :=
  let ⟨dx, y, h1, h2, h3⟩ := m
  ⟨dx, y, e _ _ h1, e _ _ h2, h3.same e⟩
/-- the promise of an own __init__ -/
def spInit (K : PySem.W.Frag) (C : Addr) (fld : Str) : Sp := fun vs H Q _ => ∃ (G : Hp) (a : Addr) (x : V) (d : PyData), vs = [.ref a, x] ∧ G a = none ∧ H = upd G a (exo a C none) ∧ Dr K G x d ∧
  ∀ H2 : Hp, Same G H2 → MadeX K H2 a C fld d → Q .non H2
theorem exo_ext {a C : Addr} {d : Option Addr} : isExt (exo a C d) = true := rfl
/-- the end of such a def: the field is stored -/
theorem made_end {K : PySem.W.Frag} {G H2 : Hp} {a C dx : Addr} {fld : Str} {y : V} {d : PyData} (ga : G a = none) (s : Same (upd G a (exo a C none)) H2) (hy : Dr K H2 y d) (hd : H2 dx = none) (ne : dx ≠ a) :
    Same G (upd (upd H2 a (exo a C (some dx))) dx (exd dx [(fld, y)])) ∧ MadeX K (upd (upd H2 a (exo a C (some dx))) dx (exd dx [(fld, y)])) a C fld d := by
  have ha : H2 a = some (exo a C none) := s _ _ upd_same
  have s0 : Same G H2 := (same_upd ga).trans s
  refine ⟨fun b o z => ?_, dx, y, by rw [upd_ne ne.symm, upd_same], upd_same, hy.keep fun b o z nx => ?_⟩
  · have z2 := s0 b o z
    rw [upd_ne (ne_of_none z2 hd), upd_ne (ne_of_none z ga)]
    exact z2
  · have nb : b ≠ a := fun q => by
      rw [q, ha] at z
      have z3 := Option.some.inj z
      subst z3
      rw [exo_ext] at nx
      cases nx
    rw [upd_ne (ne_of_none z hd), upd_ne nb]
    exact z
/-- what the text says of the class whose __init__ the others call -/
structure BaseT (K : PySem.W.Frag) (mg : Str → Option Value) (D : Addr) : Prop where
  g : mg "StandError" = some (.ref D)
  sp : PySem.W.specialIn K (.ref D) "__getattribute__" = some (some (.builtin "type.__getattribute__"))
  rd : PySem.W.readsIn K D (.type "type") = true
  fc : PySem.W.findCls K (.ref D) (.type "type") "__init__" = some (.val (.builtin "ValueError.__init__"))
abbrev bmVE : List Value := [.type "ValueError", .type "Exception", .type "BaseException", .type "object"]
abbrev bmLE : List Value := [.type "LookupError", .type "Exception", .type "BaseException", .type "object"]
abbrev bmOE : List Value := [.type "OverflowError", .type "ArithmeticError", .type "Exception", .type "BaseException", .type "object"]
theorem ty_LE : typeOf (.type "LookupError") = pure (.type "type") := by kernel_rfl
theorem ty_OE : typeOf (.type "OverflowError") = pure (.type "type") := by kernel_rfl
end Lots

/-! raise C(e, ..) of an own exception class over any built-in base, whose own __init__ keeps a promise. -/
namespace Lots
open PySem PySem.Spec PyProof.Rows L2
/-- C(e, ..), raised: its dict's address and fields behind its __init__ -/
def tMkE (C : Addr) (sp : Sp) (ta : TA) : L2.St → Hp → XK → Prop := fun σ H Q => ta σ H fun vs H1 => vs.length ≤ 1000 ∧ ∀ a, H1 a = none → sp (.ref a :: vs) (upd H1 a (exo a C none))
  (fun v H2 => v = .non ∧ ∃ (d : Addr) (fs : List (Str × V)), H2 a = some (exo a C (some d)) ∧ H2 d = some (exd d fs) ∧ H1 d = none ∧ Q (.ref C) (some d) (upd (del H2 a) d (.xd fs))) E0
section
variable {X : Cx} {k : Nat} {fI C : Addr} {fd : FuncData} {ps : List Str} {sp : Sp} {e : Expr} {es : List Expr} {ta : TA} {x : Str} {p pos : Pos} {B newId initId : String} {bmB : List Value}
theorem pmk_err (T : ErrC X.K C B newId initId bmB) (J : ErrI X.K C fI) (F1 : FnOk X.prog X.w X.K X.mg X.base CX0 k fI fd ps sp) (hr : Room (k + 1) X.A) (hb : Binds X.K fd ps []) (hg : Gl X x) (hm : X.mg x = some (.ref C)) (ha : PA X (e :: es) ta)
    (hdb : (x == ("__debug__" : Str)) = false := by decide) (he : starEach (e :: es) X.env = (false, eval e X.env) :: starEach es X.env := by rfl) (hpl : (backTo pos (starEach es X.env)).any (·.1) = false := by rfl) :
    PMk X (.Call (.Name x p) (e :: es) [] pos) (tMkE C sp ta) := by
  intro pins s σ H Q I h
  obtain ⟨cn, cq, N, cb, bm, csn, csub, cab, ccol, cdd, k0, k1, k2, k3, k5, hC, hbm⟩ := T.obj
  refine wpAny_Call_Name_kw (ld_glob I hg hm ?_ hdb)
  refine PySem.W.callWith_K (h₀ := X.base) I.ok.mod.kin T.kp (thn (ha.run pos pins s σ H _ I h) fun us s1 ⟨vs, H1, I1, r1, hz, want⟩ => ⟨I1.kIn, ?_⟩) he hpl
  show wpAny _ _ (call (.ref C) us) _ _ _
  obtain ⟨hp, ge, dr, tk, oss⟩ := s1
  have big : hp.objs.size ≤ hp.objs.size + 1 := Nat.le_succ _
  have hq := want (hp.objs.size + 1) (I1.hok.fresh big)
  have kept : ∀ b o, hp.get? b = some o → ((hp.push (PySem.W.kdv_tup us)).push (PySem.HandSPX.excO C hp.objs.size)).get? b = some o := fun b o z => Heap.get?_push_of_some _ (Heap.get?_push_of_some _ z)
  have I2 := exc_laid0 (C := C) us I1
  have r2 : Vals (V.ref (hp.objs.size + 1) :: vs) (Value.ref (hp.objs.size + 1) :: us) := .cons rfl r1
  have hl : ((Value.ref (hp.objs.size + 1) :: us) ++ []).length = ps.length := by
    rw [List.append_nil, ← r2.length]
    exact F1.len _ _ _ _ hq
  have hus : us.length ≤ sizeLine := by
    rw [← Paired.length r1, sizeLine_eq]
    omega
  have bt := hb ⟨(hp.push (PySem.W.kdv_tup us)).push (PySem.HandSPX.excO C hp.objs.size), ge, dr, tk, oss⟩ (Value.ref (hp.objs.size + 1) :: us) I2.kIn hl
  rw [List.append_nil] at bt
  refine wpAny_call (PySem.HandSPX.call_own T.fb (fun Y => PySem.W.excTail_contains Y bm hbm) (I1.kIn _ _ hC) (PySem.W.looks_findIn I1.kIn J.at_) (fun me => PySem.W.bind_fn I1.kIn me J.ty) hus ?_)
  refine codeAny_mono (F1.run _ X.stack _ _ ⟨Value.ref (hp.objs.size + 1) :: us, []⟩ (Value.ref (hp.objs.size + 1) :: us) _ _ E0 (hr.make C us []) (I2.env0.make C us []) bt r2 hq) fun r s' back => ?_
  cases r with
  | error er => exact back.elim
  | ok fl =>
    cases fl with
    | ret u =>
      obtain ⟨v, H2, os2, bare2, un2, hok2, rv, ev, d, fs, ea, ed, hd1, q2⟩ := back
      subst ev
      obtain ⟨h2, g2, d2, t2, os'⟩ := s'
      exact ⟨rv, mk_end (raises_own T.eb T.tc) I1 big kept un2 hok2 os2 bare2 ea ed hd1 q2⟩
    | next => exact False.elim back
    | brk => exact False.elim back
    | cont => exact False.elim back
end
/-- what a raised error says: its class, and that its field holds the data d -/
def RaisedD (K : PySem.W.Frag) (H : Hp) (dx : Addr) (fld : Str) (d : PyData) : Prop := ∃ y, H dx = some (.xd [(fld, y)]) ∧ Dr K H y d
/-- the promise of an own __init__, for raising: the dict is new -/
def spInitR (K : PySem.W.Frag) (C : Addr) (fld : Str) : Sp := fun vs H Q _ => ∃ (G : Hp) (a : Addr) (x : V) (d : PyData), vs = [.ref a, x] ∧ G a = none ∧ H = upd G a (exo a C none) ∧ Dr K G x d ∧
  ∀ (H2 : Hp) (dx : Addr) (y : V), Same G H2 → G dx = none → dx ≠ a → H2 a = some (exo a C (some dx)) → H2 dx = some (exd dx [(fld, y)]) → Dr K H2 y d → Q .non H2
theorem raised_of {K : PySem.W.Frag} {G H2 : Hp} {a C dx : Addr} {fld : Str} {y : V} {d : PyData} (s : Same G H2) (ga : G a = none) (gd : G dx = none) (h1 : H2 a = some (exo a C (some dx))) (h2 : H2 dx = some (exd dx [(fld, y)])) (hy : Dr K H2 y d) :
    Same G (upd (del H2 a) dx (.xd [(fld, y)])) ∧ RaisedD K (upd (del H2 a) dx (.xd [(fld, y)])) dx fld d := by
  refine ⟨fun b o z => ?_, y, upd_same, hy.keep fun b o z nx => ?_⟩
  · rw [upd_ne (ne_of_none z gd), del_ne (ne_of_none z ga)]
    exact s b o z
  · have n1 : b ≠ dx := fun q => by
      rw [q, h2] at z
      cases z
      exact absurd nx (by show ¬ (true = false); decide)
    have n2 : b ≠ a := fun q => by
      rw [q, h1] at z
      cases z
      exact absurd nx (by show ¬ (true = false); decide)
    rw [upd_ne n1, del_ne n2]
    exact z
/-- raise C(e): what is asked of the way out -/
theorem raise_rd {K : PySem.W.Frag} {C : Addr} {fld : Str} {σ : L2.St} {H : Hp} {i : Nat} {x : V} {d : PyData} {Q : XK} (hs : σ[i]? = some (some x)) (hx : Dr K H x d) (go : ∀ (H2 : Hp) (dx : Addr), Same H H2 → H dx = none → RaisedD K H2 dx fld d → Q (.ref C) (some dx) H2) :
    tMkE C (spInitR K C fld) (tCons (tVar i) tNil) σ H Q := by
  refine ⟨x, hs, (by show 1 ≤ 1000; decide), fun a ha => ⟨H, a, x, d, rfl, ha, rfl, hx, fun H2 dx y s gd ne h1 h2 hy => ⟨rfl, dx, _, h1, h2, gd, ?_⟩⟩⟩
  obtain ⟨q1, q2⟩ := raised_of s ha gd h1 h2 hy
  exact go _ _ q1 gd q2
end Lots

namespace Lots
open PySem PySem.Spec PyProof.Rows L2
/-! What a pure function has made becomes part of all else. -/
def grow (G H H2 : Hp) : Hp := fun b => match H b with
  | none => H2 b
  | some _ => G b
theorem grow_old {G H H2 : Hp} {b : Addr} {o : HO} (h : H b = some o) : grow G H H2 b = G b := by
  unfold grow
  rw [h]
theorem grow_new {G H H2 : Hp} {b : Addr} (h : H b = none) : grow G H H2 b = H2 b := by
  unfold grow
  rw [h]
theorem same_grow {G H H2 : Hp} (s : Same G H) : Same G (grow G H H2) := fun b o e => by
  rw [grow_old (s b o e)]
  exact e
theorem MOk.grow {G H H2 : Hp} {p : Addr} {B : Int} (m : MOk G H p B) (e : Same H H2) : MOk (grow G H H2) H2 p B := by
  obtain ⟨c, l, cs, ls, k, m⟩ := m
  refine ⟨c, l, cs, ls, k, e _ _ m.hp, e _ _ m.hl, e _ _ m.hc, by rw [grow_old m.hp]; exact m.gp, by rw [grow_old m.hl]; exact m.gl, by rw [grow_old m.hc]; exact m.gc, m.lc, fun b o h => ?_, m.k0, m.kB, m.ln, m.cn⟩
  cases q : H b with
  | none =>
    rw [grow_new q] at h
    exact h
  | some u =>
    rw [grow_old q] at h
    have h2 := m.same b o h
    exact e b o h2
end Lots

/-! Names: texts of one to eight letters; the ways in which the laws draw distinct ones. -/
namespace Lots
open PySem PySem.Spec PyProof.Rows L2
/-- the codes of a text -/
abbrev cd (z : Str) : List Nat := z.cps.toList
theorem len_cd (z : Str) : z.length = (cd z).length := by
  show z.cps.size = _
  simp
theorem cd_app (a b : Str) : cd (a ++ b) = cd a ++ cd b := by
  show (a ++ b).cps.toList = _
  rw [PySem.Str.cps_append, Array.toList_append]
theorem cd_inj {a b : Str} (h : cd a = cd b) : a = b := by
  cases a with
  | mk x =>
    cases b with
    | mk y =>
      have : x = y := by
        cases x
        cases y
        simpa using h
      rw [this]
def Low (z : Str) : Prop := ∀ c ∈ cd z, 97 ≤ c ∧ c ≤ 122
def IsName (z : Str) : Prop := 1 ≤ (cd z).length ∧ (cd z).length ≤ 8 ∧ Low z
theorem Low.app {a b : Str} (ha : Low a) (hb : Low b) : Low (a ++ b) := fun c h => by
  rw [cd_app] at h
  rcases List.mem_append.mp h with h | h
  · exact ha c h
  · exact hb c h
def letters : Str := "abcdefghijklmnopqrstuvwxyz"
theorem cd_letters : cd letters = (List.range 26).map fun i => 97 + i := by decide +kernel
def sign (c : Nat) : Str := ⟨#[c]⟩
theorem cd_sign (c : Nat) : cd (sign c) = [c] := rfl
theorem low_sign {i : Nat} (h : i < 26) : Low (sign (97 + i)) := fun c hc => by
  rw [cd_sign] at hc
  have e : c = 97 + i := by simpa using hc
  omega
theorem letter_at {r : Int} (h0 : 0 ≤ r) (h1 : r < 26) : atI (cd letters) r = some (97 + r.toNat) := by
  obtain ⟨j, rfl⟩ := Int.eq_ofNat_of_zero_le h0
  refine atI_nat ?_
  rw [cd_letters, List.getElem?_map, List.getElem?_range (by omega)]
  rfl
/-! ### slices -/
theorem cd_cutFrom (z : Str) (k : Nat) : cd (cutS z (some (k : Int)) none) = (cd z).drop k := by
  have hz : z.length = z.cps.toList.length := len_cd z
  have hz2 : z.length = (cd z).length := len_cd z
  show ((z.cps.toList.drop (HT.sIx z.length 0 (some (k : Int)))).take (HT.sIx z.length z.length none - HT.sIx z.length 0 (some (k : Int)))) = _
  have e1 : HT.sIx z.length 0 (some (k : Int)) = min k z.length := by
    unfold HT.sIx
    simp
    omega
  have e2 : HT.sIx z.length z.length none = z.length := rfl
  rw [e1, e2]
  by_cases h : k ≤ z.length
  · rw [Nat.min_eq_left h]
    exact List.take_of_length_le (by rw [List.length_drop]; omega)
  · rw [Nat.min_eq_right (by omega)]
    rw [show z.cps.toList.drop z.length = [] from List.drop_eq_nil_of_le (by omega), show (cd z).drop k = [] from List.drop_eq_nil_of_le (by omega)]
    simp
theorem cd_cutTo (z : Str) (k : Nat) : cd (cutS z none (some (k : Int))) = (cd z).take k := by
  have hz : z.length = z.cps.toList.length := len_cd z
  have hz2 : z.length = (cd z).length := len_cd z
  show ((z.cps.toList.drop (HT.sIx z.length 0 none)).take (HT.sIx z.length z.length (some (k : Int)) - HT.sIx z.length 0 none)) = _
  have e1 : HT.sIx z.length z.length (some (k : Int)) = min k z.length := by
    unfold HT.sIx
    simp
    omega
  have e2 : HT.sIx z.length 0 none = 0 := rfl
  rw [e1, e2, List.drop_zero, Nat.sub_zero]
  by_cases h : k ≤ z.length
  · rw [Nat.min_eq_left h]
  · rw [Nat.min_eq_right (by omega), List.take_of_length_le (by omega), List.take_of_length_le (by omega)]
theorem Low.from {z : Str} (h : Low z) (k : Nat) : Low (cutS z (some (k : Int)) none) := fun c hc => by
  rw [cd_cutFrom] at hc
  exact h c (List.mem_of_mem_drop hc)
theorem Low.to {z : Str} (h : Low z) (k : Nat) : Low (cutS z none (some (k : Int))) := fun c hc => by
  rw [cd_cutTo] at hc
  exact h c (List.mem_of_mem_take hc)
/-! ### text * number -/
theorem mulOk_small {z : Str} {n : Int} (hz : z.length ≤ 1000) (h0 : 1 ≤ n) (h1 : n ≤ 1000) : MulOk z n := by
  refine ⟨?_, fun _ _ => ?_, fun _ _ => ?_⟩
  · rw [Bool.or_eq_false_iff]
    exact ⟨decide_eq_false (by omega), decide_eq_false (by omega)⟩
  · have : (1000 : Int) ≤ (2 ^ 63 - 1) / n := by
      refine Int.le_ediv_of_mul_le (by omega) ?_
      have : 1000 * n ≤ 1000 * 1000 := by omega
      omega
    omega
  · have : z.length * n.toNat ≤ 1000 * 1000 := Nat.mul_le_mul hz (by omega)
    unfold Builtin.Str.tooLong
    refine decide_eq_false ?_
    rw [sizeLine_eq]
    omega
theorem cd_mul {z : Str} {n : Int} (h0 : 1 ≤ n) : cd (Txt.mul z n) = (List.replicate n.toNat (cd z)).flatten := by
  have fold : ∀ (k : Nat) (a : Array Nat), ((List.replicate k z.cps).foldl (· ++ ·) a).toList = a.toList ++ (List.replicate k (cd z)).flatten := by
    intro k
    induction k with
    | zero =>
      intro a
      simp
    | succ k ih =>
      intro a
      rw [List.replicate_succ, List.foldl_cons, ih, List.replicate_succ, List.flatten_cons, Array.toList_append, List.append_assoc]
  unfold Txt.mul
  rw [if_neg (by omega)]
  split
  · rename_i h
    rw [Bool.or_eq_true] at h
    rcases h with h | h
    · have e : n = 1 := by simpa using h
      subst e
      simp
    · have e : z.length = 0 := by simpa using h
      have e2 : cd z = [] := by
        rw [len_cd] at e
        exact List.eq_nil_of_length_eq_zero e
      rw [e2]
      simp
  · show ((List.replicate n.toNat z.cps).foldl (· ++ ·) #[]).toList = _
    rw [fold]
    simp
theorem op_repS {X : Cx} : OpR X (binaryOp .Mult) (fun x y H Q => ∃ z n, x = .str z ∧ y = .int n ∧ MulOk z n ∧ Q (.str (Txt.mul z n)) H) := by
  intro pins s σ H x y v u Q I rx ry h
  obtain ⟨z, n, rfl, rfl, ok, q⟩ := h
  obtain ⟨t, rfl⟩ := rx
  obtain ⟨t', rfl⟩ := ry
  exact SB.mul ok fun t2 k => ⟨.str _, H, I.tok k, ⟨_, rfl⟩, q⟩
/-! ### the two rows of names -/
theorem nodup_map {α β : Type} [DecidableEq β] {f : α → β} {l : List α} (hl : l.Nodup) (inj : ∀ a ∈ l, ∀ b ∈ l, f a = f b → a = b) : (l.map f).Nodup := by
  induction l with
  | nil => exact List.nodup_nil
  | cons a r ih =>
    have h := List.nodup_cons.mp hl
    rw [List.map_cons, List.nodup_cons]
    refine ⟨fun hm => ?_, ih h.2 fun x hx y hy => inj x (List.mem_cons_of_mem _ hx) y (List.mem_cons_of_mem _ hy)⟩
    obtain ⟨b, hb, e⟩ := List.mem_map.mp hm
    have z := inj b (List.mem_cons_of_mem _ hb) a List.mem_cons_self e
    rw [z] at hb
    exact h.1 hb
/-- ends or beginnings of a word of eight letters -/
def nmA (word : Str) (b : Bool) (many : Nat) (k : Nat) : Str := if b then cutS word (some (k : Int)) none else cutS word none (some ((k : Int) + 9 - many))
theorem len_nmA {word : Str} (hw : (cd word).length = 8) {b : Bool} {many k : Nat} (h1 : many ≤ 8) (hk : k < many) : (cd (nmA word b many k)).length = if b then 8 - k else k + 9 - many := by
  unfold nmA
  cases b with
  | true =>
    rw [if_pos rfl, if_pos rfl, cd_cutFrom, List.length_drop, hw]
  | false =>
    have e : ((k : Int) + 9 - many) = ((k + 9 - many : Nat) : Int) := by omega
    rw [if_neg Bool.false_ne_true, if_neg Bool.false_ne_true, e, cd_cutTo, List.length_take, hw]
    omega
theorem row_A {word : Str} (hw : (cd word).length = 8) (lw : Low word) {b : Bool} {many : Nat} (h1 : many ≤ 8) : ((List.range many).map (nmA word b many)).Nodup ∧ ∀ z ∈ (List.range many).map (nmA word b many), IsName z := by
  constructor
  · refine nodup_map List.nodup_range fun i hi j hj e => ?_
    rw [List.mem_range] at hi hj
    have l1 := len_nmA hw (b := b) h1 hi
    have l2 := len_nmA hw (b := b) h1 hj
    rw [e, l2] at l1
    cases b with
    | true =>
      simp only [if_true] at l1
      omega
    | false =>
      simp only [Bool.false_eq_true, if_false] at l1
      omega
  · intro z hz
    obtain ⟨k, hk, rfl⟩ := List.mem_map.mp hz
    rw [List.mem_range] at hk
    have l1 := len_nmA hw (b := b) h1 hk
    refine ⟨?_, ?_, ?_⟩
    · rw [l1]
      split <;> omega
    · rw [l1]
      split <;> omega
    · unfold nmA
      split
      · exact lw.from k
      · have e : ((k : Int) + 9 - many) = ((k + 9 - many : Nat) : Int) := by omega
        rw [e]
        exact lw.to _
/-- one letter put in at a place -/
def nmB (stem : Str) (p first by_ k : Nat) : Str := (cutS stem none (some (p : Int)) ++ sign (97 + (first + by_ * k) % 26)) ++ cutS stem (some (p : Int)) none
theorem cd_nmB (stem : Str) (p first by_ k : Nat) : cd (nmB stem p first by_ k) = (cd stem).take p ++ (97 + (first + by_ * k) % 26) :: (cd stem).drop p := by
  unfold nmB
  rw [cd_app, cd_app, cd_cutTo, cd_cutFrom, cd_sign, List.append_assoc]
  rfl
theorem row_B {stem : Str} (hs : (cd stem).length ≤ 7) (ls : Low stem) {p first by_ many : Nat} (hp : p ≤ (cd stem).length) (hb : by_ ∈ [1, 3, 5, 7, 9, 11]) (h1 : many ≤ 26) :
    ((List.range many).map (nmB stem p first by_)).Nodup ∧ ∀ z ∈ (List.range many).map (nmB stem p first by_), IsName z := by
  constructor
  · refine nodup_map List.nodup_range fun i hi j hj e => ?_
    rw [List.mem_range] at hi hj
    have e2 := congrArg cd e
    rw [cd_nmB, cd_nmB] at e2
    have e3 := (List.append_cancel_left e2)
    have e4 := (List.cons.inj e3).1
    have e5 : (first + by_ * i) % 26 = (first + by_ * j) % 26 := by omega
    simp only [List.mem_cons, List.not_mem_nil, or_false] at hb
    rcases hb with rfl | rfl | rfl | rfl | rfl | rfl <;> omega
  · intro z hz
    obtain ⟨k, hk, rfl⟩ := List.mem_map.mp hz
    have l1 : (cd (nmB stem p first by_ k)).length = (cd stem).length + 1 := by
      rw [cd_nmB, List.length_append, List.length_cons, List.length_take, List.length_drop]
      omega
    refine ⟨by omega, by omega, ?_⟩
    unfold nmB
    exact ((ls.to p).app (low_sign (Nat.mod_lt _ (by decide)))).app (ls.from p)
end Lots

/-! Things: ascending names. -/
namespace Lots
open PySem PySem.Spec PyProof.Rows L2
/-- one text ahead of another -/
abbrev Lt (a b : Str) : Prop := cd a < cd b
theorem lt_irr (a : Str) : ¬ Lt a a := List.lt_irrefl _
theorem lt_trans {a b c : Str} (h : Lt a b) (g : Lt b c) : Lt a c := List.lt_trans h g
theorem lt_or (a b : Str) : Lt a b ∨ a = b ∨ Lt b a := by
  by_cases h : Lt a b
  · exact .inl h
  · by_cases g : Lt b a
    · exact .inr (.inr g)
    · exact .inr (.inl (cd_inj (List.le_antisymm (List.not_lt.mp g) (List.not_lt.mp h))))
theorem lt_asym {a b : Str} (h : Lt a b) : ¬ Lt b a := fun g => lt_irr a (lt_trans h g)
/-- ascending, each once -/
def Asc (zs : List Str) : Prop := zs.Pairwise Lt
def Things (zs : List Str) : Prop := Asc zs ∧ ∀ z ∈ zs, IsName z
theorem rising_of : ∀ (r : List Str) (p : Str), risingS p r = true → (p :: r).Pairwise fun a b => ¬ Lt b a
  | [], p, _ => List.pairwise_singleton _ _
  | x :: r, p, h => by
    have h2 : (!ltCps (cd x) (cd p) && risingS x r) = true := h
    rw [Bool.and_eq_true] at h2
    have ih := rising_of r x h2.2
    have px : ¬ Lt x p := by
      have q := h2.1
      rw [ltCps_eq] at q
      simpa using q
    refine List.pairwise_cons.mpr ⟨fun y hy => ?_, ih⟩
    rcases List.mem_cons.mp hy with rfl | hy
    · exact px
    · intro g
      have xy := (List.pairwise_cons.mp ih).1 y hy
      rcases lt_or x p with q | q | q
      · exact px q
      · subst q
        exact xy g
      · exact xy (lt_trans g q)
theorem asc_of_sorted {zs : List Str} (h : sortedS zs = true) (nd : zs.Nodup) : Asc zs := by
  cases zs with
  | nil => exact List.Pairwise.nil
  | cons x r =>
    have h1 := rising_of r x h
    refine (h1.and nd).imp fun {a b} ⟨n, e⟩ => ?_
    rcases lt_or a b with q | q | q
    · exact q
    · exact absurd q e
    · exact absurd q n
theorem Asc.nodup {zs : List Str} (h : Asc zs) : zs.Nodup := h.imp fun {a b} l e => by
  subst e
  exact lt_irr _ l
/-- two ascending rows with the same members are one -/
theorem asc_unique : ∀ {xs ys : List Str}, Asc xs → Asc ys → (∀ z, z ∈ xs ↔ z ∈ ys) → xs = ys
  | [], ys, _, _, h => by
    cases ys with
    | nil => rfl
    | cons y r => exact absurd ((h y).mpr List.mem_cons_self) (by simp)
  | x :: r, ys, hx, hy, h => by
    cases ys with
    | nil => exact absurd ((h x).mp List.mem_cons_self) (by simp)
    | cons y t =>
      have px := List.pairwise_cons.mp hx
      have py := List.pairwise_cons.mp hy
      have e : x = y := by
        rcases List.mem_cons.mp ((h x).mp List.mem_cons_self) with q | q
        · exact q
        · rcases List.mem_cons.mp ((h y).mpr List.mem_cons_self) with g | g
          · exact g.symm
          · exact absurd (px.1 y g) (lt_asym (py.1 x q))
      subst e
      congr 1
      refine asc_unique px.2 py.2 fun z => ?_
      constructor
      · intro hz
        rcases List.mem_cons.mp ((h z).mp (List.mem_cons_of_mem _ hz)) with q | q
        · subst q
          exact absurd (px.1 z hz) (lt_irr _)
        · exact q
      · intro hz
        rcases List.mem_cons.mp ((h z).mpr (List.mem_cons_of_mem _ hz)) with q | q
        · subst q
          exact absurd (py.1 z hz) (lt_irr _)
        · exact q
end Lots

namespace Lots
open PySem PySem.Spec PyProof.Rows L2
/-! Sets of texts: made of a tuple, told in order. -/
theorem perm_back {α β : Type} {f : α → β} {l m : List β} (p : l.Perm m) : ∀ L : List α, m = L.map f → ∃ L' : List α, l = L'.map f ∧ L'.Perm L := by
  induction p with
  | nil =>
    intro L e
    exact ⟨L, e, .refl L⟩
  | cons x p ih =>
    intro L e
    cases L with
    | nil => cases e
    | cons y L =>
      injection e with e1 e2
      obtain ⟨L', e3, q⟩ := ih L e2
      exact ⟨y :: L', by rw [e1, e3]; rfl, q.cons y⟩
  | swap x y l =>
    intro L e
    match L, e with
    | u :: v :: L, e =>
      injection e with e1 e2
      injection e2 with e2 e3
      exact ⟨v :: u :: L, by rw [e1, e2, e3]; rfl, .swap u v L⟩
  | trans p q ih1 ih2 =>
    intro L e
    obtain ⟨L1, e1, q1⟩ := ih2 L e
    obtain ⟨L2, e2, q2⟩ := ih1 L1 e1
    exact ⟨L2, e2, q2.trans q1⟩
/-- the place of a text in a set -/
def plc (w : World) (p : Str × Tok) : Int × Value := (hashStr w p.1, .str p.1 p.2)
/-- a set of texts -/
def TxtSet (w : World) (h : Heap) (a : Addr) (L : List (Str × Tok)) : Prop := ∃ (o : Obj) (es : Array (Int × Value)) (ep : Nat) (t : SetTable),
  (h.get? a = some o ∧ o.ExactSet ∧ o.data = .set es ep t) ∧ es.toList = L.map (plc w) ∧ (L.map Prod.fst).Nodup ∧ L.length < scanBound ∧ (t.fits es.size = true ∧ Ris t.place.toList) ∧ (w.params.followText "set-order" = true ∨ t.led = true)
theorem TxtSet.keep {w : World} {h h' : Heap} {a : Addr} {L : List (Str × Tok)} (R : TxtSet w h a L) (k : ∀ o, h.get? a = some o → h'.get? a = some o) : TxtSet w h' a L := by
  obtain ⟨o, es, ep, t, ⟨ho, r⟩, r2⟩ := R
  exact ⟨o, es, ep, t, ⟨k o ho, r⟩, r2⟩
section
variable {P : Program} {w : World} {A : Around} {E : Value → Shared → Prop} {s : Shared} {a : Addr} {L : List (Str × Tok)}
theorem plc_is (z k : Str) (tk : Tok) : (strKind P w).is z (plc w (k, tk)).2 = true ↔ k = z := by
  show (k == z) = true ↔ k = z
  exact beq_iff_eq
theorem plc_elems (L : List (Str × Tok)) : ElemsOf (strKind P w) (L.map (plc w)) := fun e he => by
  obtain ⟨p, _, rfl⟩ := List.mem_map.mp he
  exact ⟨⟨p.1, (plc_is p.1 p.1 p.2).2 rfl, rfl⟩, rfl⟩
/-- what is left to do once a new place was found -/
theorem txt_store {g : Bool → Sem Unit} (hg : ∀ (b : Bool) (s1 : Shared) (R : Unit → Shared → Prop), R () s1 → wpAny (model P w) A (g b) R E s1) {o : Obj} {es es1 : Array (Int × Value)} {ep : Nat} {t t1 : SetTable} {L1 : List (Str × Tok)}
    (ob : s.heap.get? a = some o ∧ o.ExactSet ∧ o.data = .set es ep t) (rows : es1.toList = L1.map (plc w)) (nd : (L1.map Prod.fst).Nodup) (few : L1.length < scanBound) (ok : t1.fits es1.size = true ∧ Ris t1.place.toList)
    (led : w.params.followText "set-order" = true ∨ t1.led = true) {old : Bool} {R : Option Bool → Shared → Prop}
    (go : ∀ h' L2, Heap.SameBut a s.heap h' → TxtSet w h' a L2 → L2.Perm L1 → R (some true) { s with heap := h' }) :
    wpAny (model P w) A (do storeSet a es1 t1; if (!old && t1.tooFull) = true then do { g (relayAll t1 es1 (SetTable.grown es1.size)).2.2; storeSet a (relayAll t1 es1 (SetTable.grown es1.size)).1 (relayAll t1 es1 (SetTable.grown es1.size)).2.1; pure (some true) } else pure (some true)) R E s := by
  obtain ⟨o1, o2, o3⟩ := ob
  have n1 : es1.size < scanBound := by rw [← Array.length_toList, rows, List.length_map]; exact few
  have at1 := store_at (es' := es1) (t' := t1) o1 o3
  have sb := Heap.SameBut.update s.heap a (Obj.putSet es1 t1)
  refine wpAny_bind (wpAny_storeSet_of o1 o3 ?_ (fits_of_scanBound n1))
  split
  · have w1 := relayAll_perm t1 es1 (SetTable.grown es1.size)
    have w2 := relayAll_fits t1 es1 (SetTable.grown es1.size)
    have w3 := relayAll_ris t1 es1 (SetTable.grown es1.size)
    have w4 := relayAll_led t1 es1 (SetTable.grown es1.size)
    generalize relayAll t1 es1 (SetTable.grown es1.size) = Z at w1 w2 w3 w4 ⊢
    obtain ⟨es2, t2, gave⟩ := Z
    dsimp only at w1 w2 w3 w4 ⊢
    obtain ⟨L2, e2, p2⟩ := perm_back w1 L1 rows
    have n2 : es2.size < scanBound := by rw [← Array.length_toList, w1.length_eq, Array.length_toList]; exact n1
    refine wpAny_bind (hg _ _ _ (wpAny_bind (wpAny_storeSet_of at1 rfl ?_ (fits_of_scanBound n2))))
    refine wpAny_pure (go _ L2 (sb.trans (Heap.SameBut.update _ a _)) ⟨_, es2, _, t2, ⟨store_at (es' := es2) (t' := t2) at1 rfl, o2, rfl⟩, e2, (p2.map Prod.fst).nodup_iff.mpr nd, by rw [p2.length_eq]; exact few, ⟨w2, w3⟩, led.imp id fun z => by rw [w4]; exact z⟩ p2)
  · exact wpAny_pure (go _ L1 sb ⟨_, es1, _, t1, ⟨at1, o2, rfl⟩, rows, nd, few, ok, led⟩ (.refl L1))
theorem txt_add {k : Str} {tk : Tok} {Q : Bool → Shared → Prop} (R : TxtSet w s.heap a L) (room : L.length + 1 < scanBound)
    (go : ∀ b h' L', Heap.SameBut a s.heap h' → TxtSet w h' a L' → (∀ z, z ∈ L'.map Prod.fst ↔ z = k ∨ z ∈ L.map Prod.fst) → L'.length ≤ L.length + 1 → Q b { s with heap := h' }) :
    wpAny (model P w) A (setAddHashed a (.str k tk) ((strKind P w).hash k)) Q E s := by
  obtain ⟨o, es, ep, t, ⟨ho, hx, hd⟩, rows, nd, few, ⟨fit, ris⟩, led⟩ := id R
  have el : ElemsOf (strKind P w) es.toList := rows ▸ plc_elems L
  have n0 : es.size < scanBound := by rw [← Array.length_toList, rows, List.length_map]; exact few
  have isk : (strKind P w).is k (.str k tk) = true := (plc_is k k tk).2 rfl
  have sc : (Value.str k tk).scannable = true := rfl
  unfold setAddHashed setAddHashedIn
  refine wpAny_holding (wpAny_bind (wpAny_setState_of ho hd fit ?_))
  dsimp only
  rw [byScan_of sc n0 el, if_pos rfl]
  unfold setAddByScan
  refine wpAny_bind (wpAny_bind (wpAny_rule (wpAny_bind (wpAny_setScan_of isk ho hd fit el ?_))))
  cases met : es.toList.findIdx? (fun e => (strKind P w).is k e.2) with
  | some j =>
    dsimp only
    obtain ⟨hj, pj, _⟩ := List.findIdx?_eq_some_iff_getElem.mp met
    have mem : k ∈ L.map Prod.fst := by
      have q := List.getElem_mem hj
      generalize es.toList[j] = e at q pj
      rw [rows] at q
      obtain ⟨p, hp, rfl⟩ := List.mem_map.mp q
      exact List.mem_map.mpr ⟨p, hp, (plc_is k p.1 p.2).1 pj⟩
    exact wpAny_pure (wpAny_pure (go _ s.heap L (Heap.SameBut.refl a s.heap) R (fun z => ⟨.inr, fun h => h.elim (fun e => e ▸ mem) id⟩) (Nat.le_succ _)))
  | none =>
    dsimp only
    have new : k ∉ L.map Prod.fst := fun h => by
      obtain ⟨p, hp, e⟩ := List.mem_map.mp h
      have c := List.findIdx?_eq_none_iff.mp met (plc w p) (by rw [rows]; exact List.mem_map.mpr ⟨p, hp, rfl⟩)
      rw [(plc_is k p.1 p.2).2 e] at c
      cases c
    have w1 := layNew_perm t es ((strKind P w).hash k) (.str k tk)
    have w2 := layNew_fits t es ((strKind P w).hash k) (.str k tk)
    have w3 := layNew_ris t es ((strKind P w).hash k) (.str k tk) ris
    have w4 := layNew_led t es ((strKind P w).hash k) (.str k tk)
    generalize layNew t es ((strKind P w).hash k) (.str k tk) = Z at w1 w2 w3 w4 ⊢
    obtain ⟨es1, t1, old, gave⟩ := Z
    dsimp only at w1 w2 w3 w4 ⊢
    rw [Array.toList_push] at w1
    obtain ⟨L1, e1, p1⟩ := perm_back (f := plc w) (w1.trans (List.perm_append_singleton _ _)) ((k, tk) :: L) (by rw [rows]; rfl)
    have nd1 : (L1.map Prod.fst).Nodup := (p1.map Prod.fst).nodup_iff.mpr (List.nodup_cons.mpr ⟨new, nd⟩)
    have n1 : L1.length = L.length + 1 := p1.length_eq
    have led1 : w.params.followText "set-order" = true ∨ t1.led = true := led.imp id fun z => by rw [w4]; exact z
    have sel : ∀ (b : Bool) {s1 : Shared} {R : Unit → Shared → Prop}, R () s1 → wpAny (model P w) A (match b with | true => rule "set.scan.the-table-gave-way" | false => pure ()) R E s1 := fun b s1 R q => by
      cases b
      · exact wpAny_pure q
      · exact wpAny_rule q
    have fin : ∀ h' L2, Heap.SameBut a s.heap h' → TxtSet w h' a L2 → L2.Perm L1 → Q true { s with heap := h' } := fun h' L2 sb r p2 =>
      go true h' L2 sb r (fun z => by rw [((p2.trans p1).map Prod.fst).mem_iff, List.map_cons, List.mem_cons]) (by rw [(p2.trans p1).length_eq]; exact Nat.le_refl _)
    refine wpAny_bind (sel _ ?_)
    split
    · refine wpAny_bind ?_
      rw [hashByValue_scannable 8 sc]
      refine wpAny_pure (txt_store ?_ ⟨ho, hx, hd⟩ e1 nd1 (by omega) ⟨?_, ?_⟩ ?_ ?_)
      · exact fun b s1 R q => by cases b <;> first | exact wpAny_pure q | exact wpAny_rule q
      · first | exact w2 | (split <;> first | exact w2 | exact SetTable.fits_plain_off w2)
      · first | exact w3 | (split <;> exact w3)
      · first | exact led1 | (split <;> exact led1)
      · exact fun h' L2 sb r p2 => wpAny_pure (fin h' L2 sb r p2)
    · refine wpAny_bind (wpAny_pure ?_)
      simp only [if_true]
      refine txt_store ?_ ⟨ho, hx, hd⟩ e1 nd1 (by omega) ⟨w2, w3⟩ led1 fun h' L2 sb r p2 => wpAny_pure (fin h' L2 sb r p2)
      exact fun b s1 R q => by cases b <;> first | exact wpAny_pure q | exact wpAny_rule q
/-- an empty set -/
def noTxt (w : World) : Obj := { cls := .type "set", dict := none, data := .set #[] 0 (.fresh 0 0 (!w.params.followText "set-order")) }
theorem txt_none {h : Heap} (ho : h.get? a = some (noTxt w)) : TxtSet w h a [] := by
  refine ⟨_, #[], 0, _, ⟨ho, ⟨rfl, rfl, rfl⟩, rfl⟩, rfl, List.nodup_nil, by decide, ⟨rfl, List.Pairwise.nil⟩, ?_⟩
  show _ ∨ (!w.params.followText "set-order") = true
  cases w.params.followText "set-order" <;> simp
theorem txt_loop {I : Addr} {fp wr : List Addr} {G : Array GenState → Array GenState → Prop} {n : Nat} {Pv : Nat → Value → Prop} {St : Nat → Shared → Prop} {R : Result → Shared → Prop} (W : WalksS P w A.in1 I fp wr G n Pv St)
    (far : a ∉ fp) (zs : List Str) (hn : n = zs.length) (room : zs.length + 1 < scanBound) (val : ∀ i v, Pv i v → ∃ z t, zs[i]? = some z ∧ v = .str z t) : ∀ (left i : Nat) (s : Shared), n - i = left → i ≤ n → St i s →
      (∃ L, TxtSet w s.heap a L ∧ L.length ≤ i ∧ ∀ z, z ∈ L.map Prod.fst ↔ z ∈ zs.take i) →
      (∀ s' L, Moved (a :: wr) G s s' → TxtSet w s'.heap a L → L.length ≤ n → (∀ z, z ∈ L.map Prod.fst ↔ z ∈ zs) → R (.ok (.ret .none)) s') → codeAny (model P w) A (.builtin "set.update.loop" ⟨[.ref a, .ref I], []⟩) R s := by
  have out : a ∉ wr := fun h => far (W.sub _ h)
  intro left
  induction left with
  | zero =>
    rintro i s e1 e2 st ⟨L, r, len, mem⟩ go
    obtain rfl : i = n := by omega
    refine codeAny_builtin F.entry_set_update_loop ?_
    rw [Around.under_plainId F.plain_set_update_loop _]
    refine wpAny_bind (W.done s _ _ st fun s1 mv => wpAny_pure (go s1 L (mv.mono fun b hb => List.mem_cons_of_mem _ hb) (r.keep fun o e => mv.heap a o out e) len fun z => ?_))
    rw [mem z, List.take_of_length_le (by omega)]
  | succ left ih =>
    rintro i s e1 e2 st ⟨L, r, len, mem⟩ go
    refine codeAny_builtin F.entry_set_update_loop ?_
    rw [Around.under_plainId F.plain_set_update_loop _]
    refine wpAny_bind (W.item i s _ _ (by omega) st fun v s1 pv st1 mv => ?_)
    obtain ⟨z, t, hz, rfl⟩ := val i v pv
    have r1 : TxtSet w s1.heap a L := r.keep fun o e => mv.heap a o out e
    show wpAny _ A.in1 (holding [Value.str z t] (setAdd a (.str z t)) >>= _) _ _ s1
    refine wpAny_bind (wpAny_holding ?_)
    unfold setAdd
    refine wpAny_holding (wpAny_bind ((PySem.strKind P w).pyHash (k := z) ((plc_is z z t).2 rfl) ?_))
    refine txt_add (s := { s1 with toks := s1.toks + 1 }) r1 (by omega) fun b h2 L2 sb r2 mem2 len2 => ?_
    refine wpAny_pure ⟨plainId_quiet F.plain_set_update_loop _, ih (i + 1) _ (by omega) (by omega) (W.frame _ s1 _ _ st1 (Nat.le_succ _) fun b hb o e => ?_) ⟨L2, r2, by omega, fun y => ?_⟩ fun s3 L3 mv3 r3 len3 mem3 => ?_⟩
    · rw [sb.2 b fun h => far (h ▸ hb)]
      exact e
    · rw [mem2 y, mem y, List.take_add_one, hz, List.mem_append]
      simp only [Option.toList_some, List.mem_singleton]
      exact Or.comm
    · refine go s3 L3 (Moved.trans W.gtrans ((mv.mono fun b hb => List.mem_cons_of_mem _ hb).then_heap (Nat.le_succ _) fun b o hb e => ?_) mv3) r3 len3 mem3
      rw [sb.2 b fun h => hb (h ▸ List.mem_cons_self)]
      exact e
theorem txt_set {l : Addr} {items : Array Value} (zs : List Str) {Q : Value → Shared → Prop} (calm : A.handled = none) (hl : s.heap.IsTuple l items) (val : ∀ (i : Nat) (v : Value), items[i]? = some v → ∃ z t, zs[i]? = some z ∧ v = .str z t)
    (size : items.size = zs.length) (room : zs.length + 1 < scanBound)
    (go : ∀ (h' : Heap) (tk : Nat) (L : List (Str × Tok)), TxtSet w h' s.heap.objs.size L → L.length ≤ zs.length → (∀ z, z ∈ L.map Prod.fst ↔ z ∈ zs) → (∀ b o, s.heap.get? b = some o → h'.get? b = some o) → Q (.ref s.heap.objs.size) { s with heap := h', toks := tk }) :
    wpAny (model P w) A (call (.type "set") [.ref l]) Q E s := by
  obtain ⟨c, tl, mro⟩ := F.called_set.mro
  have made := F.called_set.made
  have sub := F.called_set.sub
  refine wpAny_call (codeAny_of_tree ?_)
  show wpAny _ _ (callAny (.type "set") _) _ _ _
  refine wpAny_pure ⟨Code.quiet_builtin _ (by decide +kernel), codeAny_builtin F.entry_type_call ?_⟩
  rw [Around.under_plain (weight_type_call_type "set" [.ref l] []) rfl]
  have u1 := F.called_set.notType
  have u2 := F.called_set.canCreate
  have u3 := F.typeCall_set_1 (.ref l)
  repeat (any_goals (first | assumption | wp_step))
  obtain ⟨N, hN⟩ : ∃ N, N = s.heap.push (noTxt w) := ⟨_, rfl⟩
  have nS : N.get? s.heap.objs.size = some (noTxt w) := by rw [hN]; exact Heap.get?_push_size _ rfl
  have nO : ∀ b o, s.heap.get? b = some o → N.get? b = some o := fun b o e => by rw [hN]; exact Heap.get?_push_of_some _ e
  have nZ : N.objs.size = s.heap.objs.size + 1 := by rw [hN]; exact Heap.size_push ..
  refine codeAny_mono (code_set_led1 (.ref l) (E := E) (Q₁ := fun v s1 => v = .ref s.heap.objs.size ∧ s1 = { s with heap := N }) ⟨rfl, by rw [hN]; rfl⟩) fun r s1 hr => ?_
  rcases r with e | fl
  · exact hr
  cases fl with
  | ret v =>
    obtain ⟨rfl, rfl⟩ := hr
    have ty : Shared.TypeIs { s with heap := N } (.ref s.heap.objs.size) "set" := ⟨_, nS, rfl⟩
    have v1 := F.called_set.init.lookup
    have v2 := F.called_set.init.bind (.ref s.heap.objs.size)
    repeat (any_goals (first | assumption | wp_step))
    refine codeAny_mono (codeAny_call_builtin (R := wants (fun r s2 => r = .none ∧ ∃ h' tk L, s2 = { s with heap := h', toks := tk } ∧ TxtSet w h' s.heap.objs.size L ∧ L.length ≤ zs.length ∧ (∀ z, z ∈ L.map Prod.fst ↔ z ∈ zs) ∧ ∀ b o, s.heap.get? b = some o → h'.get? b = some o) E)
      F.called_set.init.plain F.entry_set_init (check_set_init_1 ty ?_)) fun r2 s2 hr2 => ?_
    · obtain ⟨ol, g1, g2, nl, g3⟩ := hl
      obtain ⟨ocls, odict, odata, oslots⟩ := ol
      simp only at g2 g3
      subst g2
      subst g3
      have gN := nO l _ g1
      have no1 := F.sub_tuple_set
      have no2 := F.sub_tuple_frozenset
      have no3 : (Value.type "tuple" == Value.type "dict") = false := by decide
      have tup : N.IsTuple l items := ⟨_, gN, rfl, nl, rfl⟩
      unfold Builtin.«set.__init__» noKeywords Builtin.Frozenset.updateFrom
      generalize hPI : pyIter = PI
      wp_walk
      subst hPI
      refine wpAny_pyIter_tuple tup (wpAny_bind (wpAny_runValue ?_))
      have lt : l < s.heap.objs.size := Heap.lt_size g1
      have calm3 : A.in1.in1.in1.handled = none := by simp [calm]
      have apart : l ≠ N.objs.size := Nat.ne_of_lt (by rw [nZ]; exact Nat.lt_succ_of_lt lt)
      have far : s.heap.objs.size ∉ [N.objs.size, l] := by
        intro h
        rcases List.mem_cons.mp h with h | h
        · exact Nat.lt_irrefl _ (Nat.lt_of_lt_of_eq (Nat.lt_succ_self _) (h.trans nZ).symm)
        · exact Nat.lt_irrefl _ (Nat.lt_of_lt_of_eq lt (List.mem_singleton.mp h))
      refine txt_loop ((Walks.tuple calm3 _ l apart items).toS) far zs size room val (items.size - 0) 0 _ (by omega) (Nat.zero_le _) ⟨⟨_, Heap.get?_push_size _ rfl, rfl, rfl⟩, tup.push _⟩
        ⟨[], txt_none (Heap.get?_push_of_some _ nS), Nat.le_refl _, fun z => by simp⟩ fun s3 L mv r len mem => ?_
      obtain ⟨h3, g3, d3, tk3, os3⟩ := s3
      obtain rfl : g3 = s.gens := mv.gens
      obtain rfl : d3 = s.drawn := mv.drawn
      obtain rfl : os3 = s.os := mv.os
      show wpAny _ _ _ _ _ _
      refine wpAny_pure ?_
      show wpAny _ _ (ret Value.none) _ _ _
      refine wpAny_pure ⟨rfl, h3, tk3, L, rfl, r, by omega, mem, fun b o e => ?_⟩
      have b0 : b < s.heap.objs.size := Heap.lt_size e
      refine mv.heap b o (fun h => ?_) (Heap.get?_push_of_some _ (nO b o e))
      rcases List.mem_cons.mp h with h | h
      · exact Nat.ne_of_lt b0 h
      · exact Nat.ne_of_lt (Nat.lt_succ_of_lt b0) ((List.mem_singleton.mp h).trans nZ)
    · rcases r2 with e | fl2
      · exact hr2
      cases fl2 with
      | ret v =>
        obtain ⟨rfl, h', tk, L, rfl, r, len, mem, old⟩ := hr2
        repeat (any_goals (first | assumption | wp_step))
        exact go _ _ _ r len mem old
      | _ => exact hr2.elim
  | _ => exact hr.elim
theorem strs_of : ∀ L : List (Str × Tok), StrsAre (L.map fun p => Value.str p.1 p.2) (L.map Prod.fst)
  | [] => .nil
  | p :: L => .cons p.1 p.2 (strs_of L)
theorem txt_sorted {Q : Value → Shared → Prop} (R : TxtSet w s.heap a L) (calm : A.handled = none) (few : L.length < 64)
    (go : ∀ s' p (out : Array Value) (c : Nat) (ys : List Str), (∀ b o, s.heap.get? b = some o → s'.heap.get? b = some o) → s'.gens = s.gens → s'.os = s.os → s.heap.objs.size ≤ p →
      s'.heap.get? p = some (seqObj "list" out c) → StrsAre out.toList ys → ys.Perm (L.map Prod.fst) → sortedS ys = true → Q (.ref p) s') : wpAny (model P w) A (call (.builtin "sorted") [.ref a]) Q E s := by
  obtain ⟨o, es, ep, t, ⟨ho, hx, hd⟩, rows, nd, _, ⟨fit, ris⟩, led⟩ := R
  have n0 : es.size < scanBound := by
    rw [← Array.length_toList, rows, List.length_map]
    unfold scanBound
    omega
  refine Calls.call_function_entry kind_sorted plain_sorted entry_sorted (args_sorted1 _) ?_
  unfold Builtin.«sorted»
  refine wpAny_bind (m := checkCount "sorted" 1 1 _) (wpAny_pure (wpAny_bind (collect_set (A := A.in1) calm ⟨o, ho, hx.1, hd⟩ fit n0 ris led fun s1 vs k1 hz g1 o1 pm => ?_)))
  rw [rows, List.map_map] at pm
  obtain ⟨L2, rfl, p2⟩ := perm_back (f := fun p : Str × Tok => Value.str p.1 p.2) pm L rfl
  have S := strs_of L2
  generalize hv : L2.map (fun p => Value.str p.1 p.2) = vs at S ⊢
  have n2 : vs.length < 64 := by rw [← hv, List.length_map, p2.length_eq]; exact few
  refine wpAny_bind (wpAny_newList ?_ (by rw [sizeLine_eq]; omega))
  have at1 : (s1.heap.push (seqObj "list" vs.toArray 0)).get? s1.heap.objs.size = some (seqObj "list" vs.toArray 0) := Heap.get?_push_size _ rfl
  refine wpAny_bind (wpAny_holding (wpAny_call_entry slot_list_sort ⟨_, at1, rfl⟩ entry_list_sort (list_sort_treeK strKind_oneLt at1 S.keysOf (fun v1 v2 rest e => keyKind_strs (by rw [← e]; exact S)) n2 fun st q1 q2 => ⟨_, rfl, ?_⟩) (args_list_sort _)))
  obtain ⟨ys, y1, y2, y3⟩ := sorted_out_str S q1 q2
  obtain ⟨c, hc⟩ := sortedHeap_at (vs := vs) (out := (arrOf st).map (·.2)) at1
  refine wpAny_pure ⟨_, rfl, go _ s1.heap.objs.size _ c ys (fun b u e => ?_) g1 o1 hz hc y1 (y2.trans (p2.map Prod.fst)) y3⟩
  have q := k1 b u e
  have lt := Heap.lt_size q
  exact (sortedHeap_old (Nat.ne_of_lt lt) (by rw [size_push']; exact Nat.lt_succ_of_lt lt)).trans (Heap.get?_push_of_some _ q)
end
/-- the set of texts at a place -/
def SetX (w : World) (a : Addr) (L : List (Str × Tok)) : HO := .ext fun h => TxtSet w h a L
section
variable {X : Cx}
theorem setX_new {w : World} {P : Program} {H : Hp} {h : Heap} {a : Addr} {L : List (Str × Tok)} (R : TxtSet w h a L) : ObjOk P w H h a (SetX w a L) := by
  obtain ⟨o, es, ep, t, ⟨ho, q⟩, r⟩ := id R
  exact ⟨R, ⟨o, ho⟩, fun h1 h2 p k => TxtSet.keep p k⟩
theorem str_at {zs : List Str} {us : List Value} (r : Vals (zs.map V.str) us) : ∀ (i : Nat) (v : Value), us[i]? = some v → ∃ z t, zs[i]? = some z ∧ v = .str z t := by
  induction zs generalizing us with
  | nil =>
    cases r
    intro i v h
    cases h
  | cons z zs ih =>
    rw [List.map_cons] at r
    cases r with
    | cons r1 r2 =>
      intro i v h
      cases i with
      | zero =>
        obtain ⟨t, rfl⟩ := r1
        exact ⟨z, t, rfl, (Option.some.inj h).symm⟩
      | succ i => exact ih r2 i v h
/-- set(xs) of a tuple of texts -/
def rSetTup (K : PySem.W.Frag) (w : World) : List V → Hp → VK → Prop := fun vs H Q => ∃ (l : Addr) (zs : List Str), vs = [V.ref l] ∧ SqT K H l (zs.map V.str) ∧ zs.length ≤ 1000 ∧
  ∀ a L, H a = none → L.length ≤ zs.length → (∀ z, z ∈ L.map Prod.fst ↔ z ∈ zs) → (L.map Prod.fst).Nodup → Q (.ref a) (upd H a (SetX w a L))
theorem cr_setTup (calm : X.calm = true) : CallR X (.type "set") (rSetTup X.K X.w) := by
  intro pins s σ H vs us Q I r h
  obtain ⟨l, zs, rfl, hl, len, go⟩ := h
  rw [Vals.ref1 r]
  obtain ⟨its, rv, tup, _⟩ := I.tuple hl
  have none0 : H s.heap.objs.size = none := I.hok.fresh (Nat.le_refl _)
  have size : its.toArray.size = zs.length := by
    have q := rv.length
    rw [List.length_map] at q
    rw [List.size_toArray]
    exact q.symm
  refine txt_set (P := X.prog) (w := X.w) zs (I.ok.hd calm) tup (fun i v e => str_at rv i v (by simpa using e)) size (by unfold scanBound; omega) fun h' tk L R n mem k => ?_
  refine ⟨.ref s.heap.objs.size, upd H s.heap.objs.size (SetX X.w s.heap.objs.size L), I.laid (t' := tk) k (Nat.le_refl _) (setX_new R), rfl, go _ L none0 n mem ?_⟩
  obtain ⟨_, _, _, _, _, _, nd, _⟩ := R
  exact nd
/-- sorted(set) of texts -/
def rSortedTxt (w : World) : List V → Hp → VK → Prop := fun vs H Q => ∃ (a : Addr) (L : List (Str × Tok)), vs = [V.ref a] ∧ H a = some (SetX w a L) ∧ L.length < 64 ∧
  ∀ (ys : List Str) (p : Addr), ys.Perm (L.map Prod.fst) → sortedS ys = true → H p = none → Q (.ref p) (upd H p (.lst (ys.map V.str)))
theorem cr_sortedTxt (calm : X.calm = true) : CallR X (.builtin "sorted") (rSortedTxt X.w) := by
  intro pins s σ H vs us Q I r h
  obtain ⟨a, L, rfl, ha, few, go⟩ := h
  have R : TxtSet X.w s.heap a L := (I.hok a _ ha).1
  rw [Vals.ref1 r]
  refine txt_sorted (P := X.prog) (w := X.w) R (I.ok.hd calm) few fun s1 p out c ys k g o hp at1 S pm srt => ?_
  have none1 : H p = none := I.hok.fresh hp
  have len : (ys.map V.str).length ≤ sizeLine := by
    rw [List.length_map, pm.length_eq, List.length_map, sizeLine_eq]
    omega
  have J : Inv X pins σ (upd H p (.lst (ys.map V.str))) { s with heap := s1.heap, gens := s1.gens, drawn := s1.drawn, toks := s1.toks } :=
    I.call (ch := []) (Un.laid k hp none1) (I.hok.laid k hp ⟨len, out.toList, c, vals_of_strs S, at1⟩) (by rw [g]; exact I.bare) fun _ z => nomatch z
  have e : s1 = { s with heap := s1.heap, gens := s1.gens, drawn := s1.drawn, toks := s1.toks } := by
    cases s1
    cases s
    cases o
    rfl
  rw [e]
  exact ⟨.ref p, _, J, rfl, go ys p pm srt none1⟩
end
end Lots

/-! Lists of tuples of texts that begin with (), sorted. -/
namespace Lots
open PySem PySem.Spec PyProof.Rows L2
abbrev cds (x : List Str) : List (List Nat) := x.map fun z => z.cps.toList
def ltT (x y : List Str) : Bool := decide (cds x < cds y)
theorem ltT_swo : SrtO.Swo ltT := by
  refine ⟨fun x y h => ?_, fun x y z h1 h2 => ?_⟩
  · have h := of_decide_eq_true h
    exact decide_eq_false fun g => List.lt_irrefl _ (List.lt_trans h g)
  · have h1 := of_decide_eq_false h1
    have h2 := of_decide_eq_false h2
    exact decide_eq_false fun g => h1 (List.lt_of_le_of_lt (List.not_lt.mp h2) g)
/-- what a walk over both tells -/
theorem lex_txt (X Y : List (List Nat)) : ∀ (k i : Nat), k = min X.length Y.length - i → i ≤ min X.length Y.length →
    Ob.lexAt (fun j => decide (X.getD j [] = Y.getD j [])) (fun j => decide (X.getD j [] < Y.getD j [])) (decide (X.length < Y.length)) i k = decide (X.drop i < Y.drop i)
  | 0, i, e, h => by
    rw [Ob.lexAt_zero, decide_eq_decide]
    by_cases c : X.length ≤ Y.length
    · obtain rfl : i = X.length := by omega
      rw [List.drop_length]
      by_cases c2 : X.length < Y.length
      · rw [List.drop_eq_getElem_cons c2]
        exact ⟨fun _ => List.nil_lt_cons _ _, fun _ => c2⟩
      · rw [List.drop_of_length_le (by omega)]
        exact ⟨fun q => absurd q c2, fun q => absurd q (List.lt_irrefl _)⟩
    · rw [List.drop_of_length_le (show Y.length ≤ i by omega)]
      exact ⟨fun q => by omega, fun q => absurd q (List.not_lt_nil _)⟩
  | k + 1, i, e, h => by
    have h1 : i < X.length := by omega
    have h2 : i < Y.length := by omega
    rw [Ob.lexAt_succ, lex_txt X Y k (i + 1) (by omega) (by omega), List.drop_eq_getElem_cons h1, List.drop_eq_getElem_cons h2, List.getD_eq_getElem?_getD, List.getD_eq_getElem?_getD, List.getElem?_eq_getElem h1, List.getElem?_eq_getElem h2, Option.getD_some, Option.getD_some]
    by_cases c : X[i] = Y[i]
    · rw [if_pos (decide_eq_true c), decide_eq_decide, List.cons_lt_cons_iff]
      constructor
      · exact fun q => .inr ⟨c, q⟩
      · rintro (q | ⟨_, q⟩)
        · rw [c] at q
          exact absurd q (List.lt_irrefl _)
        · exact q
    · rw [if_neg (by rw [decide_eq_false c]; exact Bool.false_ne_true), decide_eq_decide, List.cons_lt_cons_iff]
      constructor
      · exact fun q => .inl q
      · rintro (q | ⟨q, _⟩)
        · exact q
        · exact absurd q c
/-- a tuple of texts as a value -/
def TupTx (h : Heap) (v : Value) (ks : List Str) : Prop := ∃ (a : Addr) (items : Array Value), v = .ref a ∧ h.IsTuple a items ∧ StrsAre items.toList ks
section
variable {prog : Program} {w : World} {A : Around} {E : Value → Shared → Prop} {s : Shared}
theorem txt_nth : ∀ {us : List Value} {ks : List Str}, StrsAre us ks → ∀ (j : Nat) (h : j < us.length), ∃ t, us[j] = .str (ks.getD j "") t ∧ (cds ks).getD j [] = (ks.getD j "").cps.toList
  | _, _, .nil, j, h => absurd h (by simp)
  | _, _, .cons y t S, j, h => by
    cases j with
    | zero => exact ⟨t, rfl, rfl⟩
    | succ j => exact txt_nth S j (by simpa using h)
theorem str_cps {a b : Str} : (a == b) = decide (a.cps.toList = b.cps.toList) := by
  by_cases e : a = b
  · subst e
    simp
  · rw [beq_eq_false_iff_ne.mpr e, eq_comm, decide_eq_false_iff_not]
    intro q
    cases a
    cases b
    exact e (congrArg Str.mk (Array.toList_inj.mp q))
theorem tup_lt {u v : Value} {xs ys : List Str} (hu : TupTx s.heap u xs) (hv : TupTx s.heap v ys) (room : A.units + 2 < cLine) {Q : Bool → Shared → Prop} (go : Q (ltT xs ys) s) : wpAny (model prog w) A (keyLt' oneType' u v) Q E s := by
  obtain ⟨a, its, rfl, ha, sa⟩ := hu
  obtain ⟨b, jts, rfl, hb, sb⟩ := hv
  obtain ⟨⟨cls, dd, data, sl⟩, ho, hc, n, hd⟩ := id ha
  obtain ⟨⟨cls2, dd2, data2, sl2⟩, ho2, hc2, n2, hd2⟩ := id hb
  simp only at hc hd hc2 hd2
  subst hc hd hc2 hd2
  rw [keyLt'_oneType, oneLt'_eq]
  simp only [if_true]
  refine wpAny_bind (wpAny_cRoomFor (by omega) ?_)
  refine wpAny_bind (wpAny_callSpecialIfBound?_slot (T := "tuple") ⟨_, ho, rfl⟩ F.slot_tuple_lt ?_)
  have l1 := StrsAre.length sa
  have l2 := StrsAre.length sb
  rw [Array.length_toList] at l1 l2
  refine call_meets F.slot_tuple_lt ⟨_, ho, rfl⟩ F.entry_tuple_lt (F.args_tuple_lt_2 _ _)
    (Ob.tuple_ltAt a b its jts n n2 dd dd2 sl sl2 (fun j => decide ((cds xs).getD j [] = (cds ys).getD j [])) (fun j => decide ((cds xs).getD j [] < (cds ys).getD j [])))
    ⟨ho, ho2, fun j h1 h2 => ?_, fun j h1 h2 _ => ?_, ?_⟩
  · obtain ⟨t, e1, e2⟩ := txt_nth sa j (by simpa using h1)
    obtain ⟨t', e3, e4⟩ := txt_nth sb j (by simpa using h2)
    rw [Array.getElem_toList] at e1 e3
    rw [e1, e3, e2, e4, ← str_cps]
    exact SeqAt.EqAt.str_str _ _ _ _
  · obtain ⟨t, e1, e2⟩ := txt_nth sa j (by simpa using h1)
    obtain ⟨t', e3, e4⟩ := txt_nth sb j (by simpa using h2)
    rw [Array.getElem_toList] at e1 e3
    rw [e1, e3, e2, e4]
    exact fun _ _ _ _ h => PyProof.Rows.lt_str h
  · have q := lex_txt (cds xs) (cds ys) (min (cds xs).length (cds ys).length) 0 rfl (Nat.zero_le _)
    rw [List.drop_zero, List.drop_zero] at q
    have m1 : (cds xs).length = its.size := by rw [List.length_map, l1]
    have m2 : (cds ys).length = jts.size := by rw [List.length_map, l2]
    rw [m1, m2] at q
    rw [q]
    exact wpAny_truthy_bool go
theorem tup_first {v : Value} {ks : List Str} (hv : TupTx s.heap v ks) {Q : Option Value → Shared → Prop} (go : ∀ f, (ks = [] → f = none) → Q f s) : wpAny (model prog w) A (firstOfTuple' v) Q E s := by
  obtain ⟨a, its, rfl, ⟨o, ho, hc, n, hd⟩, S⟩ := hv
  rw [PySem.W.kas_first_eq]
  refine wpAny_bind (wpAny_typeOf (T := "tuple") ⟨o, ho, hc⟩ ?_)
  rw [if_neg (by first | decide | simp)]
  refine wpAny_bind (listItems_at ho hd (wpAny_pure (go _ fun e => ?_)))
  subst e
  have l := StrsAre.length S
  rw [Array.length_toList] at l
  exact Array.getElem?_eq_none (by rw [l]; exact Nat.le_refl _)
theorem tup_firsts : ∀ (vs : List Value) {Q : List (Option Value) → Shared → Prop}, (∀ v ∈ vs, ∃ ks, TupTx s.heap v ks) → (∀ fs : List (Option Value), fs.length = vs.length → (∀ v, vs.head? = some v → TupTx s.heap v [] → fs.head? = some none) → Q fs s) →
    wpAny (model prog w) A (vs.mapM firstOfTuple') Q E s
  | [], _, _, go => by
    rw [List.mapM_nil]
    exact wpAny_pure (go [] rfl fun v h => by cases h)
  | v :: vs, Q, all, go => by
    obtain ⟨ks, hv⟩ := all v List.mem_cons_self
    rw [List.mapM_cons]
    by_cases e : TupTx s.heap v []
    · refine wpAny_bind (tup_first e fun f hf => wpAny_bind (tup_firsts vs (Q := fun fs s' => wpAny (model prog w) A (pure (f :: fs)) Q E s') (fun u hu => all u (List.mem_cons_of_mem _ hu)) fun fs len _ => wpAny_pure (go _ (by simp [len]) fun u _ _ => ?_)))
      rw [List.head?_cons, hf rfl]
    · refine wpAny_bind (tup_first hv fun f hf => wpAny_bind (tup_firsts vs (Q := fun fs s' => wpAny (model prog w) A (pure (f :: fs)) Q E s') (fun u hu => all u (List.mem_cons_of_mem _ hu)) fun fs len _ => wpAny_pure (go _ (by simp [len]) fun u hu t => ?_)))
      rw [List.head?_cons] at hu
      exact absurd (Option.some.inj hu ▸ t) e
theorem tup_kind {v : Value} {rest : List Value} (h0 : TupTx s.heap v []) (all : ∀ u ∈ v :: rest, ∃ ks, TupTx s.heap u ks) {Q : SortKind → Shared → Prop} (go : Q oneType' s) : wpAny (model prog w) A (keyKind' (v :: rest).toArray) Q E s := by
  rw [keyKind'_eq, List.mapM_toArray, map_eq_pure_bind]
  refine wpAny_bind (wpAny_bind (tup_firsts _ all fun fs len hd => wpAny_pure ?_))
  obtain ⟨f, fr, rfl⟩ : ∃ f fr, fs = f :: fr := by
    cases fs with
    | nil => cases len
    | cons f fr => exact ⟨f, fr, rfl⟩
  have e := hd v rfl h0
  rw [List.head?_cons] at e
  obtain rfl := Option.some.inj e
  rw [if_neg (by simp), if_neg (by simp), oneTypeOnly'_eq, List.mapM_toArray, map_eq_pure_bind]
  refine wpAny_bind (wpAny_bind (wpAny_bind (PySem.W.kas_mapM (r := Value.type "tuple") _ (fun u hu Q' hq => ?_) (wpAny_pure ?_))))
  · obtain ⟨ks, a, its, rfl, ⟨o, ho, hc, _⟩, _⟩ := all u hu
    exact wpAny_typeOf (T := "tuple") ⟨o, ho, hc⟩ hq
  · have a1 : ((List.map (fun _ => Value.type "tuple") (v :: rest)).toArray.all fun x => x == Value.type "tuple") = true := by
      simp only [List.all_toArray, List.all_map, List.all_eq_true]
      intro _ _
      rfl
    have a2 : (List.map (fun _ => Value.type "tuple") (v :: rest)).toArray[0]? = some (Value.type "tuple") := by simp
    rw [a2]
    simp only [a1, if_true]
    exact wpAny_pure (wpAny_pure go)
theorem TupTx.keep {h h' : Heap} {u : Value} {ks : List Str} (x : TupTx h u ks) (k : ∀ b o, h.get? b = some o → o.cls = .type "tuple" → h'.get? b = some o) : TupTx h' u ks := by
  obtain ⟨a, its, e, ⟨o, ho, hc, r⟩, S⟩ := x
  exact ⟨a, its, e, ⟨o, k a o ho hc, hc, r⟩, S⟩
theorem strs_one : ∀ {us : List Value} {x y : List Str}, StrsAre us x → StrsAre us y → x = y
  | _, _, _, .nil, .nil => rfl
  | _, _, _, .cons z t S, .cons _ _ T => by rw [strs_one S T]
theorem TupTx.one {h : Heap} {u : Value} {x y : List Str} (p : TupTx h u x) (q : TupTx h u y) : x = y := by
  obtain ⟨a, its, rfl, ⟨o, ho, _, n, hd⟩, S⟩ := p
  obtain ⟨b, jts, e, ⟨o', ho', _, n', hd'⟩, T⟩ := q
  cases e
  rw [ho] at ho'
  cases ho'
  rw [hd] at hd'
  cases hd'
  exact strs_one S T
theorem tup_sortable {a : Addr} {v : Value} {rest : List Value} {k : Value → List Str} (hp : ∀ u ∈ v :: rest, TupTx s.heap u (k u)) (h0 : k v = []) (room : A.units + 2 < cLine) (ha : ∀ o, s.heap.get? a = some o → o.cls ≠ .type "tuple") :
    SrtO.SortableO prog w A s a (v :: rest) fun u u' => ltT (k u) (k u') := by
  intro h' keep
  have all : ∀ u ∈ v :: rest, TupTx h' u (k u) := fun u hu => (hp u hu).keep fun b o e c => keep b o (fun z => by subst z; exact ha o e c) e
  refine ⟨oneType', fun Q E go => tup_kind (s := { s with heap := h' }) (h0 ▸ all v List.mem_cons_self) (fun u hu => ⟨_, all u hu⟩) go, fun p q m1 m2 => tup_lt (s := { s with heap := h' }) (all _ m1) (all _ m2) room ⟨rfl, rfl⟩⟩
theorem tup_sorted {l : Addr} {v : Value} {rest : List Value} {k : Value → List Str} {Q : Value → Shared → Prop} (hl : s.heap.IsList l (v :: rest).toArray) (hz : (v :: rest).length ≤ sizeLine) (hp : ∀ u ∈ v :: rest, TupTx s.heap u (k u)) (h0 : k v = []) (room : A.units + 8 < cLine)
    (go : ∀ (out : List Value), SrtO.Srtd (fun u u' => ltT (k u) (k u')) out → out.Perm (v :: rest) → Q (.ref (s.heap.objs.size + 1)) { s with heap := sortedAll s.heap (v :: rest) out.toArray }) : wpAny (model prog w) A (call (.builtin "sorted") [.ref l]) Q E s := by
  have O : SrtO.Swo fun u u' => ltT (k u) (k u') := ⟨fun x y => ltT_swo.asym _ _, fun x y z => ltT_swo.tr _ _ _⟩
  refine SrtO.sorted_ord O hl hz (fun _ h1 a e1 old => ?_) fun out q1 q2 => go out q1 q2.perm
  refine tup_sortable (s := { s with heap := h1 }) (fun u hu => (hp u hu).keep fun b o e _ => (old b o e).2) h0 ?_ fun o e => ?_
  · show A.units + 1 + 1 + 2 < cLine
    omega
  · obtain rfl := Option.some.inj (e.symm.trans e1)
    intro c
    exact absurd (Value.type.inj c) (by decide)
end
/-- the texts of the row at an address -/
def txAt (rows : List (Addr × List Str)) (u : Value) : List Str := match u with
  | .ref a => ((rows.find? fun p => decide (p.1 = a)).map Prod.snd).getD []
  | _ => []
theorem txAt_of {h : Heap} : ∀ {rows : List (Addr × List Str)}, (∀ p ∈ rows, TupTx h (.ref p.1) p.2) → ∀ p ∈ rows, txAt rows (.ref p.1) = p.2
  | [], _, p, hp => by cases hp
  | q :: rows, all, p, hp => by
    show ((List.find? (fun r : Addr × List Str => decide (r.1 = p.1)) (q :: rows)).map Prod.snd).getD [] = p.2
    by_cases e : q.1 = p.1
    · have f : List.find? (fun r => decide (r.1 = p.1)) (q :: rows) = some q := List.find?_cons_of_pos (by simpa using e)
      rw [f]
      have h1 := all q List.mem_cons_self
      rw [e] at h1
      exact h1.one (all p hp)
    · have f : List.find? (fun r => decide (r.1 = p.1)) (q :: rows) = List.find? (fun r => decide (r.1 = p.1)) rows := List.find?_cons_of_neg (by simpa using e)
      rw [f]
      have hp2 : p ∈ rows := by
        rcases List.mem_cons.mp hp with h | h
        · exact absurd (congrArg Prod.fst h).symm e
        · exact h
      exact txAt_of (fun r hr => all r (List.mem_cons_of_mem _ hr)) p hp2
abbrev rowV (p : Addr × List Str) : V := .ref p.1
theorem rows_vals : ∀ {rows : List (Addr × List Str)} {us : List Value}, Vals (rows.map rowV) us → us = rows.map fun p => Value.ref p.1
  | [], _, r => by
    cases r
    rfl
  | p :: rows, _, r => by
    rw [List.map_cons] at r
    cases r with
    | cons r1 r2 =>
      have e := rows_vals r2
      cases r1
      rw [e, List.map_cons]
theorem vals_rows : ∀ rows : List (Addr × List Str), Vals (rows.map rowV) (rows.map fun p => Value.ref p.1)
  | [] => .nil
  | p :: rows => .cons (show RelV (.ref p.1) (.ref p.1) from rfl) (vals_rows rows)
/-- sorted(rows) of a list of tuples of texts, the first of them () -/
def rSortTup (K : PySem.W.Frag) : List V → Hp → VK → Prop := fun vs H Q => ∃ (a : Addr) (p0 : Addr) (rows : List (Addr × List Str)), vs = [V.ref a] ∧ SqL K H a (((p0, []) :: rows).map rowV) ∧ (∀ p ∈ (p0, []) :: rows, SqT K H p.1 (p.2.map V.str)) ∧
  ∀ (out : List (Addr × List Str)) (q : Addr), out.Perm ((p0, []) :: rows) → out.Pairwise (fun r r' => ltT r'.2 r.2 = false) → H q = none → Q (.ref q) (upd H q (.lst (out.map rowV)))
theorem cr_sortTup {X : Cx} (room : X.A.units + 8 < cLine) : CallR X (.builtin "sorted") (rSortTup X.K) := by
  intro pins s σ H vs us Q I r h
  obtain ⟨a, p0, rows, rfl, hl, ht, go⟩ := h
  rw [Vals.ref1 r]
  obtain ⟨its, rv, pl, hz⟩ := I.list hl
  have tx : ∀ p ∈ (p0, []) :: rows, TupTx s.heap (.ref p.1) p.2 := fun p hp => by
    obtain ⟨jts, rj, tup, _⟩ := I.tuple (ht p hp)
    exact ⟨p.1, jts.toArray, rfl, tup, by simpa using rj.strs⟩
  have ei := rows_vals rv
  rw [List.map_cons] at ei
  subst ei
  have one := txAt_of tx
  rw [List.length_map] at hz
  refine tup_sorted (k := txAt ((p0, []) :: rows)) pl.isList (by simpa using hz) (fun u hu => ?_) (one _ List.mem_cons_self) room fun out srt pm => ?_
  · rw [← List.map_cons (f := fun p : Addr × List Str => Value.ref p.1) (a := ((p0, []) : Addr × List Str))] at hu
    obtain ⟨p, hp, rfl⟩ := List.mem_map.mp hu
    rw [one p hp]
    exact tx p hp
  · obtain ⟨L, e, pL⟩ := perm_back (f := fun p : Addr × List Str => Value.ref p.1) pm ((p0, []) :: rows) rfl
    subst e
    obtain ⟨n, hn⟩ := PyProof.Rows.sortedAll_at s.heap (Value.ref p0 :: rows.map fun p => Value.ref p.1) (L.map fun p => Value.ref p.1).toArray
    have free : H (s.heap.objs.size + 1) = none := I.hok.fresh (Nat.le_succ _)
    refine ⟨.ref _, upd H (s.heap.objs.size + 1) (.lst (L.map rowV)), I.laid (t' := s.toks) (fun _ _ => PyProof.Rows.sortedAll_old) (Nat.le_succ _) ⟨?_, L.map (fun p => Value.ref p.1), n, vals_rows L, hn⟩, rfl, go L _ pL ?_ free⟩
    · rw [List.length_map, pL.length_eq]
      exact hz
    · refine List.Pairwise.imp_of_mem (fun {p q} hp hq hle => ?_) (List.pairwise_map.mp srt)
      have q0 : ltT (txAt ((p0, []) :: rows) (.ref q.1)) (txAt ((p0, []) :: rows) (.ref p.1)) = false := hle
      rw [one p (pL.mem_iff.mp hp), one q (pL.mem_iff.mp hq)] at q0
      exact q0
end Lots

namespace Lots
open PySem PySem.Spec PyProof.Rows L2
/-! All lots of things, in their order. -/
def lots : List Str → List (List Str)
  | [] => [[]]
  | x :: xs => [] :: (lots xs).map (x :: ·) ++ (lots xs).tail
/-- as the law builds them -/
def built (rows : List (List Str)) : List Str → List (List Str)
  | [] => rows
  | x :: xs => built (rows ++ rows.map (· ++ [x])) xs
theorem lots_cons (xs : List Str) : ∃ r, lots xs = [] :: r := by
  cases xs with
  | nil => exact ⟨[], rfl⟩
  | cons x xs => exact ⟨_, rfl⟩
theorem lots_perm (x : Str) (xs : List Str) : (lots (x :: xs)).Perm (lots xs ++ (lots xs).map (x :: ·)) := by
  obtain ⟨r, e⟩ := lots_cons xs
  show ([] :: (lots xs).map (x :: ·) ++ (lots xs).tail).Perm _
  rw [e, List.tail_cons, List.cons_append, List.cons_append]
  exact List.Perm.cons _ List.perm_append_comm
theorem flat_two {α β : Type} (f g : α → List β) : ∀ l : List α, (l.flatMap fun a => f a ++ g a).Perm (l.flatMap f ++ l.flatMap g)
  | [] => .refl _
  | a :: l => by
    simp only [List.flatMap_cons]
    have h := (flat_two f g l).append_left (f a ++ g a)
    refine h.trans ?_
    rw [List.append_assoc, List.append_assoc]
    refine List.Perm.append_left _ ?_
    rw [← List.append_assoc, ← List.append_assoc]
    exact List.Perm.append_right _ List.perm_append_comm
theorem flat_perm {α β : Type} {f g : α → List β} (h : ∀ a, (f a).Perm (g a)) : ∀ l : List α, (l.flatMap f).Perm (l.flatMap g)
  | [] => .refl _
  | a :: l => by
    rw [List.flatMap_cons, List.flatMap_cons]
    exact (h a).append (flat_perm h l)
theorem built_perm : ∀ (xs : List Str) (rows : List (List Str)), (built rows xs).Perm (rows.flatMap fun r => (lots xs).map (r ++ ·))
  | [], rows => by
    have e : (rows.flatMap fun r => (lots []).map (r ++ ·)) = rows := by
      show (rows.flatMap fun r => [r ++ []]) = rows
      simp [List.flatMap_singleton']
    rw [e]
    exact .refl _
  | x :: xs, rows => by
    refine (built_perm xs (rows ++ rows.map (· ++ [x]))).trans ?_
    rw [List.flatMap_append]
    have h : (rows.flatMap fun r => (lots (x :: xs)).map (r ++ ·)).Perm (rows.flatMap fun r => (lots xs).map (r ++ ·) ++ ((lots xs).map (x :: ·)).map (r ++ ·)) := by
      refine flat_perm (fun r => ?_) rows
      rw [← List.map_append]
      exact (lots_perm x xs).map _
    refine List.Perm.trans ?_ h.symm
    refine List.Perm.trans ?_ (flat_two _ _ rows).symm
    refine List.Perm.append_left _ ?_
    rw [List.flatMap_map]
    simp [List.map_map, Function.comp_def]
theorem built_lots (xs : List Str) : (built [[]] xs).Perm (lots xs) := by
  have h := built_perm xs [[]]
  simpa using h
theorem lots_from : ∀ (xs l : List Str), l ∈ lots xs → ∀ z ∈ l, z ∈ xs
  | [], l, h => by
    simp [lots] at h
    simp [h]
  | x :: xs, l, h => by
    have h := (lots_perm x xs).mem_iff.mp h
    intro z hz
    rcases List.mem_append.mp h with h | h
    · exact List.mem_cons_of_mem _ (lots_from xs l h z hz)
    · obtain ⟨l', h', rfl⟩ := List.mem_map.mp h
      rcases List.mem_cons.mp hz with rfl | hz
      · exact List.mem_cons_self
      · exact List.mem_cons_of_mem _ (lots_from xs l' h' z hz)
theorem lots_tail : ∀ xs : List Str, ∀ l ∈ (lots xs).tail, l ≠ []
  | [], l, h => by simp [lots] at h
  | x :: xs, l, h => by
    have h : l ∈ (lots xs).map (x :: ·) ++ (lots xs).tail := h
    rcases List.mem_append.mp h with h | h
    · obtain ⟨l', _, rfl⟩ := List.mem_map.mp h
      exact List.cons_ne_nil _ _
    · exact lots_tail xs l h
theorem ltT_nil (y : Str) (l : List Str) : ltT [] (y :: l) = true := decide_eq_true (List.nil_lt_cons _ _)
theorem lots_asc : ∀ {xs : List Str}, Asc xs → (lots xs).Pairwise fun a b => ltT a b = true
  | [], _ => List.pairwise_singleton _ _
  | x :: xs, h => by
    obtain ⟨h1, h2⟩ := List.pairwise_cons.mp h
    have ih := lots_asc h2
    show ([] :: ((lots xs).map (x :: ·) ++ (lots xs).tail)).Pairwise _
    refine List.pairwise_cons.mpr ⟨fun l hl => ?_, List.pairwise_append.mpr ⟨List.pairwise_map.mpr (ih.imp fun {a b} q => ?_), ih.sublist (List.tail_sublist _), fun a ha b hb => ?_⟩⟩
    · cases l with
      | nil => exact absurd rfl (lots_tail (x :: xs) [] hl)
      | cons y l => exact ltT_nil y l
    · exact decide_eq_true (List.cons_lt_cons_iff.mpr (.inr ⟨rfl, of_decide_eq_true q⟩))
    · obtain ⟨a', _, rfl⟩ := List.mem_map.mp ha
      cases b with
      | nil => exact absurd rfl (lots_tail xs [] hb)
      | cons y b => exact decide_eq_true (List.cons_lt_cons_iff.mpr (.inl (h1 y (lots_from xs _ (List.mem_of_mem_tail hb) y List.mem_cons_self))))
theorem cds_inj : ∀ {a b : List Str}, cds a = cds b → a = b
  | [], [], _ => rfl
  | x :: a, y :: b, h => by
    injection h with h1 h2
    rw [cds_inj h2]
    cases x
    cases y
    rw [congrArg Str.mk (Array.toList_inj.mp h1)]
/-- there is one order -/
theorem lots_only {xs : List Str} {rows : List (List Str)} (h : Asc xs) (p : rows.Perm (lots xs)) (srt : rows.Pairwise fun a b => ltT b a = false) : rows = lots xs := by
  refine List.Perm.eq_of_pairwise (le := fun a b => ltT b a = false) (fun a b _ _ h1 h2 => ?_) srt ((lots_asc h).imp fun {a b} q => ltT_swo.asym _ _ q) p
  exact cds_inj (List.le_antisymm (List.not_lt.mp (of_decide_eq_false h1)) (List.not_lt.mp (of_decide_eq_false h2)))
theorem lots_len : ∀ xs : List Str, (lots xs).length = 2 ^ xs.length
  | [] => rfl
  | x :: xs => by
    rw [(lots_perm x xs).length_eq, List.length_append, List.length_map, lots_len xs, List.length_cons, Nat.pow_succ]
    omega
end Lots

namespace Lots
open PySem PySem.Spec PyProof.Rows L2
/-! A list of any items against []. -/
section
variable {X : Cx}
def rEqNil (K : PySem.W.Frag) (neg : Bool) : R2 := fun x y H Q => ∃ (a b : Addr) (xs : List V), x = .ref a ∧ y = .ref b ∧ SqL K H a xs ∧ SqL K H b [] ∧ Q (.bl (if neg then !xs.isEmpty else xs.isEmpty)) H
theorem op_eqNil (room : X.A.units < cLine) : OpR X (compareOp .Eq) (rEqNil X.K false) := by
  intro pins s σ H x y v u Q I rx ry h
  obtain ⟨a, b, xs, rfl, rfl, ha, hb, go⟩ := h
  cases rx
  cases ry
  obtain ⟨its, r1, p1, _⟩ := I.list ha
  obtain ⟨jts, r2, p2, _⟩ := I.list hb
  cases r2
  cases r1 with
  | nil => exact SeqAt.eq_listAt p1.isList p2.isList rfl room (e := fun _ => true) (fun j h1 _ => absurd h1 (by simp)) ⟨.bl true, H, I, rfl, go⟩
  | cons q1 q2 => exact SeqAt.eq_list_lengthsAt p1.isList p2.isList (by simp) room ⟨.bl false, H, I, rfl, go⟩
theorem op_neNil (room : X.A.units < cLine) : OpR X (compareOp .NotEq) (rEqNil X.K true) := by
  intro pins s σ H x y v u Q I rx ry h
  obtain ⟨a, b, xs, rfl, rfl, ha, hb, go⟩ := h
  cases rx
  cases ry
  obtain ⟨its, r1, p1, _⟩ := I.list ha
  obtain ⟨jts, r2, p2, _⟩ := I.list hb
  cases r2
  cases r1 with
  | nil => exact SeqAt.RcNeAt.lists p1.isList p2.isList rfl room (e := fun _ => true) (fun j h1 _ => absurd h1 (by simp)) _ _ _ _ ⟨.bl false, H, I, rfl, go⟩
  | cons q1 q2 => exact SeqAt.RcNeAt.lists_lengths p1.isList p2.isList (by simp) room _ _ _ _ ⟨.bl true, H, I, rfl, go⟩
end
end Lots

/-! enumerate(t) of a tuple, as HandS has it of a list. -/
namespace Lots
open PySem PySem.Spec PyProof.Rows L2
open Sem (wp)
theorem meets_enumerate_one {v : Value} {o : Obj} {H : Heap → Prop} (B : Begins v o H) :
    Meets (Builtin.«enumerate.__new__» ⟨[.type "enumerate", v], []⟩) (fun _ R s => H s.heap ∧
      R (.ok (.ret (.ref (s.heap.push o).objs.size))) { s with heap := (s.heap.push o).push { cls := .type "enumerate", data := .fields #[.none, .bool false, .ref s.heap.objs.size, rawInt 0, .none, .none] } }) :=
  .of_wp fun prog w A R s h => by
    obtain ⟨hp, g, d, tk, os⟩ := s; obtain ⟨h1, h⟩ := h
    have hsub := sub_enumerate
    have q1 : ∀ {A' : Around} {E : Value → Shared → Prop} {Q : Value → Shared → Prop}, Q (.ref hp.objs.size) ⟨hp.push o, g, d, tk, os⟩ → wpAny (model prog w) A' (pyIter v) Q E ⟨hp, g, d, tk, os⟩ :=
      fun q => B.iter prog w _ _ ⟨hp, g, d, tk, os⟩ _ h1 q
    wp_walk using q1
    refine wpAny_stack_any fun st => wpAny_pure ?_
    split
    · rename_i c _ _ _ _ _
      cases (c == Value.type "enumerate")
      · wp_walk using q1
        exact ⟨_, rfl, h⟩
      · wp_walk using q1
        exact ⟨_, rfl, h⟩
    · wp_walk using q1
      exact ⟨_, rfl, h⟩
theorem call_enumerate_tuple {prog : Program} {w : World} {A : Around} {E : Value → Shared → Prop} {s : Shared} {t : Addr} {items : Array Value} {Q : Value → Shared → Prop} (hT : s.heap.IsTuple t items)
    (h : ∀ h', IsEnum h' (s.heap.objs.size + 1) s.heap.objs.size 0 .none → h'.IsTupleIter s.heap.objs.size t 0 → h'.objs.size = s.heap.objs.size + 2 →
      (∀ b o, s.heap.get? b = some o → h'.get? b = some o) → Q (.ref (s.heap.objs.size + 1)) { s with heap := h' }) :
    wpAny (model prog w) A (call (.type "enumerate") [.ref t]) Q E s := by
  refine callType_new F.called_enumerate (by decide) (F.typeCall_enumerate_1 _) (F.newCall_enumerate_1 _) (fun obj => F.args_object_init_2 obj _) F.entry_enumerate_new
    (meets_enumerate_one (begins_tuple t items)) ⟨hT, ?_⟩
  have hz : (s.heap.push { cls := .type "tuple_iterator", data := .fields #[.ref t, .int 0 0] }).objs.size = s.heap.objs.size + 1 := Heap.size_push ..
  show _ ∧ _
  rw [hz]
  have he : IsEnum ((s.heap.push { cls := .type "tuple_iterator", data := .fields #[.ref t, .int 0 0] }).push
      { cls := .type "enumerate", data := .fields #[.none, .bool false, .ref s.heap.objs.size, rawInt 0, .none, .none] }) (s.heap.objs.size + 1) s.heap.objs.size 0 .none := by
    have := Heap.get?_push_size (s.heap.push { cls := .type "tuple_iterator", data := .fields #[.ref t, .int 0 0] })
      (o := { cls := .type "enumerate", data := .fields #[.none, .bool false, .ref s.heap.objs.size, rawInt 0, .none, .none] }) rfl
    rw [hz] at this; exact this
  refine ⟨⟨_, he, rfl⟩, h _ he ⟨_, Heap.get?_push_of_some _ (Heap.get?_push_size _ rfl), rfl, rfl⟩ (by rw [Heap.size_push, hz]) fun b o x => Heap.get?_push_of_some _ (Heap.get?_push_of_some _ x)⟩
/-- the end of enumerate over a tuple -/
theorem enum_endT {prog : Program} {w : World} {A : Around} {E : Value → Shared → Prop} {s : Shared} {e it t : Addr} {i : Nat} {j : Int} {items : Array Value} {old : Value} {Q : Option Value → Shared → Prop}
    (hh : A.handled = none) (he : IsEnum s.heap e it j old) (hit : s.heap.IsTupleIter it t i) (ht : s.heap.IsTuple t items) (hi : items.size ≤ i)
    (hQ : ∀ h', Heap.ExtBut it s.heap h' → Q none { s with heap := h' }) : wpAny (model prog w) A (pyNext (.ref e)) Q E s := by
  have hT : s.TypeIs (.ref e) "enumerate" := ⟨_, he, rfl⟩
  unfold pyNext
  refine wpAny_bind (wpAny_attempt (wpAny_callSpecial?_slot (name := Str.ofString "__next__") hT F.slot_enumerate_next
    (wpAny_call_entry F.slot_enumerate_next hT F.entry_enumerate_next ?_ (F.args_enumerate_next_1 _))))
  show wpAny _ _ (field (.ref e) 2 >>= _) _ _ _
  refine wpAny_bind (wpAny_field he rfl (x := .ref it) rfl ?_)
  refine wpAny_bind (wpAny_nextOf_tuple_end (A := A.in1) hh hit ht (by simp; omega) fun h' x he' hx' => ?_)
  obtain ⟨o, ho, hc⟩ := hx'
  refine wpAny_bind (wpAny_isInstance (T := "StopIteration") (b := true) ⟨o, ho, hc⟩ isSubtype_stop ?_)
  exact wpAny_pure (hQ _ he')
/-- the tuple at a as it stands at each turn, each item in a new pair -/
def IteT (K : PySem.W.Frag) (a : Addr) : It :=
  ⟨fun i H => ∃ (xs : List V) (x : V), SqT K H a xs ∧ xs[i]? = some x, fun i H v H' => ∃ T x, v = .ref T ∧ H T = none ∧ H' = upd H T (.tup [.int (i : Nat), x]) ∧ ∀ xs, SqT K H a xs → xs[i]? = some x, fun i H => ∃ xs : List V, SqT K H a xs ∧ xs.length ≤ i⟩
theorem turn_enumT {P : Program} {w : World} {K : PySem.W.Frag} {elts : List Expr} {kk : Nat} {tpos : Pos} (a e it : Addr) (hai : a ≠ it) (hea : e ≠ a) :
    Turn P w K (.Tuple elts kk tpos) (IteT K a) [e, it] e (fun i h => (∃ old, IsEnum h e it ((i : Nat) : Int) old) ∧ h.IsTupleIter it a i ∧ e ≠ it) where
  mem := by simp
  obj := fun i h st b hb => by
    obtain ⟨⟨old, he⟩, ⟨o, ho, hc, hd⟩, _⟩ := st
    have e' : b = e ∨ b = it := by simpa using hb
    rcases e' with z | z
    · rw [z]; exact ⟨_, he, fun v q => nomatch q⟩
    · rw [z]; exact ⟨o, ho, fun v q => by rw [hd] at q; cases q⟩
  keep := fun i h h' st k => let ⟨⟨old, he⟩, hi, hne⟩ := st; ⟨⟨old, k e (by simp) _ he⟩, hi.at fun o q => k it (by simp) o q, hne⟩
  item := by
    intro X hP hw hK hc i pins s σ H E I hf st hg
    subst hP hw hK
    obtain ⟨⟨old, he⟩, hit, hne⟩ := st
    obtain ⟨xs, x, hq, hx⟩ := hg
    obtain ⟨its, rv, p, hz⟩ := I.tuple hq
    obtain ⟨u, hu, ru⟩ := rv.get hx
    have hel : e < s.heap.objs.size := Heap.lt_size he
    have hil : it < s.heap.objs.size := by obtain ⟨_, q, _⟩ := hit; exact Heap.lt_size q
    have hi : i < its.toArray.size := by
      have q := (List.getElem?_eq_some_iff.mp hu).1
      simpa using q
    have D := Draws.tuple (prog := X.prog) (w := X.w) (A := X.A.in1) (I.ok.hd hc) it a hai its.toArray
    refine wpAny_pyNext_enum_itemD (n := its.toArray.size) D he (i := i) ⟨hit, p⟩ hi hne (by simp [hne, hea]) fun x' h' tk hP ho hst' hT hsz hk => ?_
    obtain ⟨hit', p'⟩ := hst'
    have exu : x' = u := by
      have q : its.toArray[i]? = some x' := hP
      rw [List.getElem?_toArray, hu] at q
      exact (Option.some.inj q).symm
    subst exu
    refine ⟨_, rfl, wpAny_letOwnedTupleGo_enum (s := { s with heap := h', toks := tk + 1 }) ho fun h'' he' sb => ?_⟩
    have hT2 : h''.get? s.heap.objs.size = some { cls := .type "tuple", data := .seq #[.int i tk, x'] } := (sb.2 _ (Nat.ne_of_gt hel)).trans hT
    have new : ObjOk X.prog X.w (upd H s.heap.objs.size (.tup [.int (i : Nat), x])) h'' s.heap.objs.size (.tup [.int (i : Nat), x]) :=
      ⟨by show 2 ≤ sizeLine; decide, [.int i tk, x'], .cons ⟨_, rfl⟩ (.cons ru .nil), ⟨_, hT2, rfl, _, rfl⟩⟩
    have I1 : Inv X pins σ (upd H s.heap.objs.size (.tup [.int (i : Nat), x])) { s with heap := h'', toks := tk + 1 } :=
      I.turnedNew (ch := [e, it]) (fun b ob hb q => (sb.2 b (fun z => hb (by simp [z]))).trans (hk b ob (fun z => hb (by simp [z])) (fun z => hb (by simp [z])) q)) hf (Nat.le_refl _) new
    refine ⟨.ref s.heap.objs.size, _, I1, rfl, ⟨_, x, rfl, I.hok.fresh (Nat.le_refl _), rfl, fun ys hy => by rw [I.tuple_inj hy hq]; exact hx⟩, ⟨⟨x', ?_⟩, hit'.at fun o q => (sb.2 it (Ne.symm hne)).trans q, hne⟩, fun b hb => ?_⟩
    · have e1 : ((i + 1 : Nat) : Int) = (i : Int) + 1 := by omega
      rw [e1]; exact he'
    · have hb' : b < s.heap.objs.size := by
        have e' : b = e ∨ b = it := by simpa using hb
        rcases e' with z | z
        · rw [z]; exact hel
        · rw [z]; exact hil
      rw [upd_ne (Nat.ne_of_lt hb')]
      exact (hf b hb).1
  done := by
    intro X hP hw hK hc i pins s σ H E I hf st hg
    subst hP hw hK
    obtain ⟨⟨old, he⟩, hit, hne⟩ := st
    obtain ⟨xs, hq, hx⟩ := hg
    obtain ⟨its, rv, p, hz⟩ := I.tuple hq
    obtain ⟨f0, f1, f2, f3, f4, f5⟩ := hf it (by simp)
    have hl := rv.length
    have hi : its.toArray.size ≤ i := by simp; omega
    exact enum_endT (I.ok.hd hc) he hit p hi fun h' eb => ⟨rfl, I.turned (t' := s.toks) (fun b o hb q => eb b o hb q) f0 f1 f3 f4 f5⟩
  self := fun A i s Q E st h => let ⟨⟨_, he⟩, _⟩ := st; wpAny_pyIter_enum he h
def iEnumT (K : PySem.W.Frag) (ta : TA) : TI := fun σ H R => ta σ H fun vs H1 => ∃ a xs, vs = [.ref a] ∧ SqT K H1 a xs ∧ R (IteT K a) H1
theorem pi_enumT {X : Cx} {e : Expr} {ta : TA} {p pos tpos : Pos} {elts : List Expr} {kk : Nat} (hg : Gl X "enumerate") (hm : X.mg "enumerate" = none) (ha : PA X [e] ta) (hs : starEach [e] X.env = [(false, eval e X.env)] := by rfl) :
    PI X (.Tuple elts kk tpos) (.Call (.Name "enumerate" p) [e] [] pos) (iEnumT X.K ta) := by
  refine ⟨fun pins s σ H R I h => ?_⟩
  refine Call_ (ld_blt I hg hm boot_enumerate (PyProof.Rows.callWith_type1 (thn (ha.run pos pins s σ H _ I h) fun us s1 ⟨vs, H1, I1, r1, q1⟩ => ?_) hs rfl))
  obtain ⟨a, xs, ex, hq, q⟩ := q1
  subst ex
  cases r1 with
  | cons r rr =>
    cases rr
    cases r
    obtain ⟨its, rv, p', hz⟩ := I1.tuple hq
    have hal : a < s1.heap.objs.size := by obtain ⟨_, q, _⟩ := p'; exact Heap.lt_size q
    refine call_enumerate_tuple p' fun h' he hit hsz hk => wpAny_pyIter_enum he ?_
    have I2 : Inv X pins σ H1 { s1 with heap := h' } := I1.kept (t' := s1.toks) hk
    refine ⟨s1.heap.objs.size + 1, [s1.heap.objs.size + 1, s1.heap.objs.size], _, _, H1, rfl, I2, turn_enumT a (s1.heap.objs.size + 1) s1.heap.objs.size (Nat.ne_of_lt hal) (Ne.symm (Nat.ne_of_lt (Nat.lt_succ_of_lt hal))), ⟨⟨.none, he⟩, hit, Nat.succ_ne_self _⟩, fun b hb => ?_, q⟩
    have e' : b = s1.heap.objs.size + 1 ∨ b = s1.heap.objs.size := by simpa using hb
    have hle : s1.heap.objs.size ≤ b := by
      rcases e' with z | z
      · rw [z]; exact Nat.le_add_right _ _
      · rw [z]; exact Nat.le_refl _
    exact I1.fpOk hle (I1.hok.fresh hle)
theorem walk_enumT {K : PySem.W.Frag} {a : Addr} {xs : List V} : Walk (IteT K a) xs.length (fun H => SqT K H a xs) (YPair (fun i => some (.int (i : Nat))) (fun i => xs[i]?)) := by
  refine ⟨fun i _ hi q => ⟨xs, xs[i], q, by simp [hi]⟩, fun _ q => ⟨xs, q, Nat.le_refl _⟩, fun i H v H' _ q y => ?_⟩
  obtain ⟨T, x, h1, h2, h3, h4⟩ := y
  exact ⟨T, .int (i : Nat), x, h1, h2, h3, rfl, h4 xs q⟩
end Lots

/-! t[::-1] of a tuple: always a new one. -/
namespace Lots
open PySem PySem.Spec PyProof.Rows L2 HT
section
variable {prog : Program} {w : World} {A : Around} {E : Value → Shared → Prop} {s : Shared}
theorem adjust_rev (n : Nat) : Builtin.Slice.sliceAdjust none none (-1) (n : Int) = ((n : Int) - 1, -1) := by
  unfold Builtin.Slice.sliceAdjust
  have h1 : (-1 : Int) < 0 := by omega
  simp only [h1, if_true]
theorem places_rev (n : Nat) : Builtin.Slice.slicePlaces ((n : Int) - 1) (-1) (-1) = n := by
  unfold Builtin.Slice.slicePlaces
  have h1 : ¬ ((-1 : Int) > 0) := by omega
  simp only [h1, if_false]
  split
  · rw [show (- -1 : Int) = 1 by decide, Int.ediv_one]
    omega
  · omega
theorem sliceApplied_rev {sl : Addr} {u : Tok} {n : Nat} {Q : Int × Int × Nat → Shared → Prop} (hs : s.heap.IsSliceOf sl .none .none (.int (-1) u))
    (h : Q ((n : Int) - 1, -1, n) s) : wpAny (model prog w) A (Builtin.Slice.sliceApplied (.ref sl) (pure (n : Int))) Q E s := by
  obtain ⟨os, hos, hcs, hds⟩ := id hs
  unfold Builtin.Slice.sliceApplied Builtin.Slice.sliceFields
  refine wpAny_bind (wpAny_bind (wpAny_field hos hds (x := .none) rfl (wpAny_bind (wpAny_field hos hds (x := .none) rfl (wpAny_bind (wpAny_field hos hds (x := .int (-1) u) rfl (wpAny_pure ?_)))))))
  refine wpAny_bind (slicePart_int ?_)
  show wpAny _ _ (if ((-1 : Int) == 0) = true then _ else _) _ _ s
  rw [if_neg (by decide)]
  refine wpAny_bind (slicePart_none (wpAny_bind (slicePart_none (wpAny_bind (wpAny_pure ?_)))))
  show wpAny _ _ (match Builtin.Slice.sliceAdjust none none (-1) (n : Int) with | (lo, hi) => pure (lo, (-1 : Int), Builtin.Slice.slicePlaces lo hi (-1))) _ _ s
  rw [adjust_rev n]
  show wpAny _ _ (pure ((n : Int) - 1, (-1 : Int), Builtin.Slice.slicePlaces ((n : Int) - 1) (-1) (-1))) _ _ s
  rw [places_rev]
  exact wpAny_pure h
theorem fm_congr {α β : Type} {f g : α → Option β} : ∀ {l : List α}, (∀ a ∈ l, f a = g a) → l.filterMap f = l.filterMap g
  | [], _ => rfl
  | a :: l, h => by
    rw [List.filterMap_cons, List.filterMap_cons, h a (List.mem_cons_self ..), fm_congr fun b hb => h b (List.mem_cons_of_mem _ hb)]
theorem pick_rev (xs : Array Value) : ((List.range xs.size).filterMap fun (m : Nat) => xs[((xs.size : Int) - 1 + (m : Int) * (-1)).toNat]?).toArray = xs.toList.reverse.toArray := by
  rw [← PySem.W.krv_pick]
  unfold slicePick
  rw [PySem.W.krv_bounds]
  show _ = ((sliceRange ((xs.size : Int) - 1) (-1) (-1)).filterMap (xs[·]?)).toArray
  rw [PySem.W.krv_sliceRange, List.filterMap_map]
  congr 1
  refine fm_congr fun m hm => ?_
  have := List.mem_range.mp hm
  show xs[((xs.size : Int) - 1 + (m : Int) * (-1)).toNat]? = xs[xs.size - 1 - m]?
  rw [show ((xs.size : Int) - 1 + (m : Int) * (-1)).toNat = xs.size - 1 - m by omega]
theorem getItem_tuple_rev {t sl : Addr} {items : Array Value} {u : Tok} {Q : Value → Shared → Prop} (ht : IsTup s.heap t items) (hs : s.heap.IsSliceOf sl .none .none (.int (-1) u))
    (h : Q (.ref s.heap.objs.size) { s with heap := s.heap.push { cls := .type "tuple", data := .seq items.toList.reverse.toArray } })
    (hsz : items.size ≤ sizeLine) : wpAny (model prog w) A (getItem (.ref t) (.ref sl)) Q E s := by
  have htake : sizeOk (.seq items.toList.reverse.toArray) := by
    show items.toList.reverse.toArray.size ≤ sizeLine
    rw [List.size_toArray, List.length_reverse, Array.length_toList]
    exact hsz
  obtain ⟨os, hos, hcs, hds⟩ := id hs
  have hTs : s.TypeIs (.ref sl) "slice" := ⟨os, hos, hcs⟩
  unfold getItem
  try with_reducible refine wpAny_holding ?_
  first | refine wpAny_bind (wpAny_pure ?_) | skip
  refine wpAny_bind (wpAny_sequenceKey ht.typeIs (by decide) ?_)
  refine wpAny_bind (wpAny_callSpecial?_slot (name := Str.ofString "__getitem__") ht.typeIs PyProof.Rows.slot_tuple_getitem
    (wpAny_call_entry PyProof.Rows.slot_tuple_getitem ht.typeIs entry_tuple_getitem ?_ (args_tuple_getitem _ _)))
  show wpAny _ _ (Builtin.Tuple.tupleItemsOf (.ref t) >>= _) _ _ s
  refine wpAny_bind (tupleItemsOf_ ht ?_)
  refine wpAny_bind (wpAny_typeOf hTs ?_)
  rw [if_pos (by decide)]
  refine wpAny_bind (sliceApplied_rev hs ?_)
  have hno : ¬ ((((items.size : Int) - 1) == 0 && (-1 : Int) == 1 && items.size == items.size) = true) := by
    intro q
    rw [Bool.and_eq_true, Bool.and_eq_true] at q
    exact absurd q.1.2 (by decide)
  show wpAny _ _ (if (((items.size : Int) - 1) == 0 && (-1 : Int) == 1 && items.size == items.size) = true then _ else _) _ _ s
  rw [if_neg hno, pick_rev]
  first
    | exact wpAny_bind (m := Builtin.Tuple.tupleExact _) (wpAny_newObj_type (wpAny_pure ⟨_, rfl, wpAny_pure h⟩) htake)
    | exact wpAny_bind (m := Builtin.Tuple.tupleExact _) (wpAny_newObj_type (wpAny_bind (wpAny_pure (wpAny_pure ⟨_, rfl, wpAny_pure h⟩))) htake)
    | exact wpAny_bind (wpAny_bind (m := Builtin.Tuple.tupleExact _) (wpAny_newObj_type (wpAny_pure (wpAny_pure ⟨_, rfl, wpAny_pure h⟩)) htake))
    | exact wpAny_bind (wpAny_bind (m := Builtin.Tuple.tupleExact _) (wpAny_newObj_type (wpAny_pure ⟨_, rfl, wpAny_pure h⟩) htake))
end
def tRevT (K : PySem.W.Frag) (te : TE) : TE := fun σ H Q => te σ H fun x H1 => ∃ a xs, x = .ref a ∧ SqT K H1 a xs ∧ ∀ p, H1 p = none → Q (.ref p) (upd H1 p (.tup xs.reverse))
section
variable {X : Cx}
theorem pe_revT {e : Expr} {te : TE} {k : Nat} {p1 p2 p3 pos : Pos} (he : PE X e te) : PE X (.Subscript e (.Slice none none (some (.UnaryOp .USub (.Constant (.int 1) k p1) p2)) p3) pos) (tRevT X.K te) := by
  refine ⟨fun pins s σ H Q I h => ?_⟩
  refine Subscript_ (thn (he.run pins s σ H _ I h) fun v s1 ⟨x, H1, I1, r1, q1⟩ => ?_)
  obtain ⟨a, xs, ex, hx, q⟩ := q1
  subst ex
  cases r1
  have hst : PO X (some (.UnaryOp .USub (.Constant (.int 1) k p1) p2)) (tPart (tUn (rU fun i => .int (-i)) (tC (.int 1)))) := po_some (pe_un un_neg pe_int)
  refine wpAny_Slice (thn (po_none.run pins s1 σ H1 (fun o H2 => o = none ∧ H2 = H1) I1 ⟨rfl, rfl⟩) fun vl s2 ⟨l, H2, I2, pl, el, e2⟩ => ?_)
  subst el e2
  refine thn (po_none.run pins s2 σ H2 (fun o H3 => o = none ∧ H3 = H2) I2 ⟨rfl, rfl⟩) fun vu s3 ⟨u, H3, I3, pu, eu, e3⟩ => ?_
  subst eu e3
  refine thn (hst.run pins s3 σ H3 (fun o H4 => o = some (-1) ∧ H4 = H3) I3 ⟨1, rfl, -1, rfl, rfl, rfl⟩) fun vs s4 ⟨o, H4, I4, ps, eo, e4⟩ => ?_
  subst eo e4
  have I5 : Inv X pins σ H4 { s4 with heap := s4.heap.push { cls := .type "slice", data := .fields #[vl, vu, vs] } } := I4.kept (t' := s4.toks) fun b ob q => Heap.get?_push_of_some _ q
  obtain ⟨its, r, ht, hz⟩ := I5.tuple hx
  have hlen := r.length
  show wpAny (model X.prog X.w) X.A (subscriptTail e (.Slice none none (some (.UnaryOp .USub (.Constant (.int 1) k p1) p2)) p3) (.ref a) (.ref s4.heap.objs.size)) (EP X pins σ Q) X.xe { s4 with heap := s4.heap.push { cls := .type "slice", data := .fields #[vl, vu, vs] } }
  refine tail_any (ops := [.ref a, .ref s4.heap.objs.size]) ht.typeIs (PyProof.Rows.slot_tuple_getitem.lookup) ?_ (by with_unfolding_all rfl)
  cases pl
  cases pu
  cases ps
  refine getItem_tuple_rev ht (Heap.IsSliceOf.new _ _ _ _) ?_ (by rw [List.size_toArray]; omega)
  refine ⟨.ref _, _, I5.laid (t' := s4.toks) (o := .tup xs.reverse) (fun b ob q => Heap.get?_push_of_some _ q) (Nat.le_refl _) ?_, rfl, q _ (I5.hok.fresh (Nat.le_refl _))⟩
  exact ⟨by rw [List.length_reverse]; exact hz, _, r.reverse, IsTup.new _ _⟩
end
end Lots

namespace Lots
open PySem PySem.Spec PyProof.Rows L2
/-! Data of tuples and texts alone: it stays where lists turn. The names of rules as data. -/
mutual
def flatD : PyData → Bool
  | .list _ => false
  | .dict _ => false
  | .tuple ds => flatDs ds
  | _ => true
def flatDs : List PyData → Bool
  | [] => true
  | d :: ds => flatD d && flatDs ds
end
/-- tuples stay -/
def SameT (H H2 : Hp) : Prop := (∀ b xs, H b = some (.tup xs) → H2 b = some (.tup xs)) ∧ ∀ b o u, H b = some (.frz o u) → H2 b = some (.frz o u)
theorem SameT.of {H H2 : Hp} (e : Same H H2) : SameT H H2 := ⟨fun b xs h => e b _ h, fun b o u h => e b _ h⟩
theorem SameT.lst {H H2 : Hp} {f : Addr} {xs ys : List V} (e : SameT H H2) (h : H2 f = some (.lst xs)) : SameT H (upd H2 f (.lst ys)) := by
  refine ⟨fun b us z => ?_, fun b o u z => ?_⟩
  · have q := e.1 b us z
    rw [upd_ne (ne_of q h (by intro z; cases z))]
    exact q
  · have q := e.2 b o u z
    rw [upd_ne (ne_of q h (by intro z; cases z))]
    exact q
mutual
theorem Dr.keepT {K : PySem.W.Frag} {H H2 : Hp} (e : SameT H H2) : ∀ {d : PyData} {v : V}, Dr K H v d → flatD d = true → Dr K H2 v d
  | .none, _, h, _ => by
    cases h
    exact .non
  | .bool _, _, h, _ => by
    cases h
    exact .bl _
  | .int _, _, h, _ => by
    cases h
    exact .int _
  | .str _, _, h, _ => by
    cases h
    exact .str _
  | .list ds, _, h, q => by
    unfold flatD at q
    cases q
  | .tuple ds, _, h, q => by
    unfold flatD at q
    cases h with
    | tup at_ no all =>
      refine .tup ?_ no (DrAll.keepT e all q)
      rcases at_ with z | ⟨o, z⟩
      · exact .inl (e.1 _ _ z)
      · exact .inr ⟨o, e.2 _ _ _ z⟩
  | .dict _, _, h, q => by
    unfold flatD at q
    cases q
theorem DrAll.keepT {K : PySem.W.Frag} {H H2 : Hp} (e : SameT H H2) : ∀ {ds : List PyData} {vs : List V}, DrAll K H vs ds → flatDs ds = true → DrAll K H2 vs ds
  | [], _, h, _ => by
    cases h
    exact .nil
  | _ :: _, _, h, q => by
    unfold flatDs at q
    rw [Bool.and_eq_true] at q
    cases h with
    | cons one more => exact .cons (Dr.keepT e one q.1) (DrAll.keepT e more q.2)
end
theorem DrAll.app {K : PySem.W.Frag} {H : Hp} : ∀ {vs us : List V} {ds es : List PyData}, DrAll K H vs ds → DrAll K H us es → DrAll K H (vs ++ us) (ds ++ es)
  | _, _, _, _, .nil, h => h
  | _, _, _, _, .cons one more, h => .cons one (DrAll.app more h)
theorem DrAll.size {K : PySem.W.Frag} {H : Hp} : ∀ {xs : List V} {ds : List PyData}, DrAll K H xs ds → xs.length = ds.length
  | _, _, .nil => rfl
  | _, _, .cons _ more => congrArg Nat.succ (DrAll.size more)
theorem flatDs_app : ∀ {ds es : List PyData}, flatDs (ds ++ es) = (flatDs ds && flatDs es)
  | [], es => by simp [flatDs]
  | d :: ds, es => by
    have h := flatDs_app (ds := ds) (es := es)
    simp only [List.cons_append, flatDs, h, Bool.and_assoc]
theorem flatDs_strs : ∀ zs : List Str, flatDs (zs.map PyData.str) = true
  | [] => by simp [flatDs]
  | z :: zs => by
    rw [List.map_cons]
    unfold flatDs
    rw [flatDs_strs zs]
    simp [flatD]
theorem drAll_strs (K : PySem.W.Frag) (H : Hp) : ∀ zs : List Str, DrAll K H (zs.map V.str) (zs.map PyData.str)
  | [] => .nil
  | z :: zs => .cons (.str z) (drAll_strs K H zs)
theorem noDict_strs : ∀ zs : List Str, PyData.hasDictAll (zs.map PyData.str) = false
  | [] => by simp [PyData.hasDictAll]
  | z :: zs => by
    rw [List.map_cons]
    unfold PyData.hasDictAll
    rw [noDict_strs zs]
    simp [PyData.hasDict]
abbrev tupD (l : List Str) : PyData := .tuple (l.map .str)
theorem dr_tup {K : PySem.W.Frag} {H : Hp} {a : Addr} {l : List Str} (h : H a = some (.tup (l.map V.str))) : Dr K H (.ref a) (tupD l) := .tup (Rd.of h) rfl (drAll_strs K H l)
def stepD (l : List Str) (x : Str) : PyData := .tuple [.str "step", tupD l, .str x]
def pairD (l : List Str) (x y : Str) : PyData := .tuple [.str "pair", tupD l, .str x, .str y]
theorem flat_tupD (l : List Str) : flatD (tupD l) = true := by
  unfold flatD
  exact flatDs_strs l
theorem noDict_tupD (l : List Str) : PyData.hasDict (tupD l) = false := by
  unfold PyData.hasDict
  exact noDict_strs l
theorem flat_step (l : List Str) (x : Str) : flatD (stepD l x) = true := by
  simp [stepD, flatD, flatDs, flatDs_strs]
theorem flat_pair (l : List Str) (x y : Str) : flatD (pairD l x y) = true := by
  simp [pairD, flatD, flatDs, flatDs_strs]
theorem dr_step {K : PySem.W.Frag} {H : Hp} {T a : Addr} {l : List Str} {x : Str} (hT : H T = some (.tup [.str "step", .ref a, .str x])) (ha : H a = some (.tup (l.map V.str))) : Dr K H (.ref T) (stepD l x) :=
  .tup (Rd.of hT) rfl (.cons (.str _) (.cons (dr_tup ha) (.cons (.str _) .nil)))
theorem dr_pair {K : PySem.W.Frag} {H : Hp} {T a : Addr} {l : List Str} {x y : Str} (hT : H T = some (.tup [.str "pair", .ref a, .str x, .str y])) (ha : H a = some (.tup (l.map V.str))) : Dr K H (.ref T) (pairD l x y) :=
  .tup (Rd.of hT) rfl (.cons (.str _) (.cons (dr_tup ha) (.cons (.str _) (.cons (.str _) .nil))))
/-- a list of such data at f, made behind H -/
structure Acc (K : PySem.W.Frag) (H H2 : Hp) (f : Addr) (ds : List PyData) : Prop where
  free : H f = none
  at_ : ∃ vs, H2 f = some (.lst vs) ∧ DrAll K H2 vs ds
  flat : flatDs ds = true
section
variable {K : PySem.W.Frag} {H H2 H3 : Hp} {f g : Addr} {ds es : List PyData}
theorem Acc.grow (A : Acc K H H2 f ds) (e : Same H2 H3) : Acc K H H3 f ds :=
  let ⟨vs, h, all⟩ := A.at_
  ⟨A.free, ⟨vs, e _ _ h, all.same e⟩, A.flat⟩
theorem Acc.other (A : Acc K H H2 f ds) {xs ys : List V} (ne : f ≠ g) (h : H2 g = some (.lst xs)) : Acc K H (upd H2 g (.lst ys)) f ds := by
  obtain ⟨vs, hf, all⟩ := A.at_
  exact ⟨A.free, ⟨vs, by rw [upd_ne ne]; exact hf, all.keepT (.lst (.of (Same.refl _)) h) A.flat⟩, A.flat⟩
theorem Acc.push (A : Acc K H H2 f ds) {v : V} {d : PyData} {vs : List V} (h : H2 f = some (.lst vs)) (hv : Dr K H2 v d) (fl : flatD d = true) : Acc K H (upd H2 f (.lst (vs ++ [v]))) f (ds ++ [d]) := by
  obtain ⟨us, hf, all⟩ := A.at_
  rw [h] at hf
  cases hf
  have s : SameT H2 (upd H2 f (.lst (vs ++ [v]))) := .lst (.of (Same.refl _)) h
  refine ⟨A.free, ⟨_, upd_same, (all.keepT s A.flat).app (.cons (hv.keepT s fl) .nil)⟩, ?_⟩
  rw [flatDs_app, A.flat]
  simp [flatDs, fl]
/-- two lists' items in a new one -/
theorem Acc.cat {vs us : List V} (A : Acc K H H2 f ds) (B : Acc K H H2 g es) (h1 : H2 f = some (.lst vs)) (h2 : H2 g = some (.lst us)) {q : Addr} (hq : H2 q = none) (hn : H q = none) : Acc K H (upd H2 q (.lst (vs ++ us))) q (ds ++ es) := by
  obtain ⟨ws, hf, all⟩ := A.at_
  obtain ⟨xs, hg, more⟩ := B.at_
  rw [h1] at hf
  rw [h2] at hg
  cases hf
  cases hg
  refine ⟨hn, ⟨_, upd_same, (all.app more).same (same_upd hq)⟩, ?_⟩
  rw [flatDs_app, A.flat, B.flat]
  rfl
theorem Acc.len (A : Acc K H H2 f ds) {vs : List V} (h : H2 f = some (.lst vs)) : vs.length = ds.length := by
  obtain ⟨us, hf, all⟩ := A.at_
  rw [h] at hf
  cases hf
  exact all.size
end
/-- of the first i things of the rest: each with each behind it -/
def pairsTo (l rest : List Str) (i : Nat) : List PyData := (List.range i).flatMap fun j => (rest.drop (j + 1)).map (pairD l (rest.getD j ""))
theorem pairsTo_succ (l rest : List Str) (i : Nat) : pairsTo l rest (i + 1) = pairsTo l rest i ++ (rest.drop (i + 1)).map (pairD l (rest.getD i "")) := by
  unfold pairsTo
  rw [List.range_succ, List.flatMap_append, List.flatMap_singleton]
abbrev restL (xs l : List Str) : List Str := xs.filter fun z => !decide (z ∈ l)
def stepsD (xs : List Str) (ls : List (List Str)) : List PyData := ls.flatMap fun l => (restL xs l).map (stepD l)
def pairsD (xs : List Str) (ls : List (List Str)) : List PyData := ls.flatMap fun l => pairsTo l (restL xs l) (restL xs l).length
def noneD : PyData := .tuple [.str "none"]
def rulesD (xs : List Str) : List PyData := noneD :: stepsD xs (lots xs) ++ pairsD xs (lots xs)
theorem stepsD_snoc (xs : List Str) (ls : List (List Str)) (l : List Str) : stepsD xs (ls ++ [l]) = stepsD xs ls ++ (restL xs l).map (stepD l) := by
  unfold stepsD
  rw [List.flatMap_append, List.flatMap_singleton]
theorem pairsD_snoc (xs : List Str) (ls : List (List Str)) (l : List Str) : pairsD xs (ls ++ [l]) = pairsD xs ls ++ pairsTo l (restL xs l) (restL xs l).length := by
  unfold pairsD
  rw [List.flatMap_append, List.flatMap_singleton]
theorem flat_steps (l : List Str) : ∀ r : List Str, flatDs (r.map (stepD l)) = true
  | [] => by simp [flatDs]
  | x :: r => by
    rw [List.map_cons]
    unfold flatDs
    rw [flat_steps l r, flat_step]
    rfl
theorem flatMap_len {α β : Type} {f : α → List β} {n : Nat} : ∀ {ls : List α}, (∀ a ∈ ls, (f a).length ≤ n) → (ls.flatMap f).length ≤ ls.length * n
  | [], _ => by simp
  | a :: ls, h => by
    rw [List.flatMap_cons, List.length_append, List.length_cons, Nat.succ_mul]
    have h1 := h a (List.mem_cons_self ..)
    have h2 := flatMap_len (f := f) (n := n) (ls := ls) fun b hb => h b (List.mem_cons_of_mem _ hb)
    omega
theorem restL_len (xs l : List Str) : (restL xs l).length ≤ xs.length := List.length_filter_le _ _
theorem steps_len (xs : List Str) (ls : List (List Str)) : (stepsD xs ls).length ≤ ls.length * xs.length := flatMap_len fun l _ => by
  rw [List.length_map]
  exact restL_len xs l
theorem pairsTo_len (l rest : List Str) (i : Nat) : (pairsTo l rest i).length ≤ i * rest.length := by
  have h := flatMap_len (f := fun j => (rest.drop (j + 1)).map (pairD l (rest.getD j ""))) (n := rest.length) (ls := List.range i) fun j _ => by
    rw [List.length_map, List.length_drop]
    omega
  rw [List.length_range] at h
  exact h
theorem pairs_len (xs : List Str) (ls : List (List Str)) : (pairsD xs ls).length ≤ ls.length * (xs.length * xs.length) := flatMap_len fun l _ =>
  Nat.le_trans (pairsTo_len l _ _) (Nat.mul_le_mul (restL_len xs l) (restL_len xs l))
end Lots

/-! Tuples whose object is known to have no dict of its own: what a tuple's methods ask. -/
namespace Lots
open PySem PySem.Spec PyProof.Rows L2
section
variable {X : Cx}
theorem call_tuple_ofB : CallR X (.type "tuple") (fun xs H Q => ∃ p ys, xs = [.ref p] ∧ SqL X.K H p ys ∧ ∀ (l : Addr) (o : Obj), H l = none → o.dict = none → Q (.ref l) (upd H l (.frz o (.tup ys)))) := by
  intro pins s σ H xs us Q I r h
  obtain ⟨p, ys, rfl, hq, q⟩ := h
  obtain ⟨u, rfl, rx⟩ := vals1 r
  cases rx
  obtain ⟨its, r', pl, hz⟩ := I.list hq
  have hlen := r'.length
  refine call_tuple_list pl.isList (fun h' kp => ?_) (by simp only [List.size_toArray] <;> omega)
  have I1 : Inv X pins σ H { s with heap := h' } := I.kept (t' := s.toks) kp
  have I2 : Inv X pins σ (upd H h'.objs.size (.frz { cls := .type "tuple", data := .seq its.toArray } (.tup ys))) { s with heap := h'.push { cls := .type "tuple", data := .seq its.toArray } } :=
    I1.laid (t' := s.toks) (fun b o e => Heap.get?_push_of_some _ e) (Nat.le_refl _) (show ObjOk X.prog X.w _ _ _ (.frz _ (.tup ys)) from ⟨Heap.get?_push_size _ rfl, hz, its, r', IsTup.new _ _⟩)
  exact ⟨.ref h'.objs.size, _, I2, rfl, q _ _ (I1.hok.fresh (Nat.le_refl _)) rfl⟩
variable {o e : Expr} {es : List Expr} {to : TE} {t : TA} {name : Str} {apos cpos : Pos} {id : String} {r : V → List V → Hp → VK → Prop}
def isBare (x : V) (H : Hp) : Prop := ∃ p ob xs, x = .ref p ∧ H p = some (.frz ob (.tup xs)) ∧ ob.dict = none
def tBMB (r : V → List V → Hp → VK → Prop) (to : TE) (t : TA) : TE := fun σ H Q => to σ H fun x H1 => isBare x H1 ∧ t σ H1 fun xs H2 => r x xs H2 Q
theorem pe_bmB (pa : PlainAttrs "tuple") (slot : Slot "tuple" name id) (hty : typeOf (.builtin id) = pure (.type "method_descriptor")) (hm : MtR X id r) (ho : PE X o to) (ha : PA X (e :: es) t)
    (hbase : attributeBase o name X.env (eval o X.env) = eval o X.env := by rfl)
    (hfew : ((backTo cpos (starEach (e :: es) X.env)).all (fun x => !x.1) && (backToKw cpos (keywordEach [] X.env)).all (fun x => x.1.isSome)
      && decide ((e :: es).length + ([] : List Keyword).length + (if ([] : List Keyword).isEmpty then 0 else 1) < 30)) = true := by rfl)
    (hline : (apos.endLine == cpos.line) = true := by rfl) (hs : starEach (e :: es) X.env = (false, eval e X.env) :: starEach es X.env := by rfl) (hplain : (backTo cpos (starEach es X.env)).any (·.1) = false := by rfl) :
    PE X (.Call (.Attribute o name apos) (e :: es) [] cpos) (tBMB r to t) := by
  refine ⟨fun pins s σ H Q I h => ?_⟩
  refine wpAny_Call_method_late hbase hfew hline rfl (thn (ho.run pins s σ H _ I h) fun v s1 ⟨x, H1, I1, r1, ty, q1⟩ => ?_)
  obtain ⟨p, ob, xs, rfl, hp, hd⟩ := ty
  have hb : ObjOk X.prog X.w H1 s1.heap p (.frz ob (.tup xs)) := I1.hok p _ hp
  obtain ⟨hg, _, its, _, it⟩ := hb
  obtain ⟨o2, ho2, hc, _⟩ := it
  have h1 : s1.TypeIs v "tuple" := by
    cases r1
    exact ⟨o2, ho2, hc⟩
  have h2 : ∀ a, v = .ref a → ∃ ob, s1.heap.get? a = some ob ∧ ob.dict = none := fun a e => by
    cases r1
    cases e
    exact ⟨ob, hg, hd⟩
  refine ⟨"tuple", id, pa, slot, hty, h1, h2, ?_⟩
  have hA := ha.run cpos pins s1 σ H1 _ I1 q1
  rw [hs] at hA ⊢
  refine Calls.callWith_builtin (by show (false || (backTo cpos (starEach es X.env)).any (·.1)) = false; rw [hplain] <;> rfl) (Calls.evalArgs_plain ?_)
  exact thn hA fun us s2 ⟨vs, H2, I2, r2, q2⟩ => hm pins s2 σ H2 _ vs v us Q I2 r1 r2 q2
end
end Lots

namespace Lots
open PySem PySem.Spec PyProof.Rows L2
/-! t[a:b]: at some address, new or not. -/
def rSlW (K : PySem.W.Frag) : V → Option Int → Option Int → Hp → VK → Prop := fun x lo hi H Q => ∃ a xs, x = .ref a ∧ SqT K H a xs ∧ ∀ (H2 : Hp) (b : Addr), Same H H2 → SqT K H2 b (cutV xs lo hi) → Q (.ref b) H2
theorem sl_tupW {X : Cx} : SlR X (rSlW X.K) := by
  intro pins s σ H x v vl vu lo hi sl Q I rx hs pl pu h
  obtain ⟨a, xs, rfl, ha, q⟩ := h
  refine sl_tupA pins s σ H _ v vl vu lo hi sl Q I rx hs pl pu ⟨a, xs, rfl, ha, fun hw => q H a (Same.refl _) ?_, fun hw p hp => q _ p (same_upd hp) (.of upd_same)⟩
  unfold cutV
  rw [hw.1, hw.2, List.drop_zero, Nat.sub_zero, List.take_length]
  exact ha
/-- t + u: at some address -/
def rCatW (K : PySem.W.Frag) : R2 := fun x y H Q => ∃ a b xs ys, x = .ref a ∧ y = .ref b ∧ SqT K H a xs ∧ SqT K H b ys ∧ xs.length + ys.length ≤ sizeLine ∧
  ∀ (H2 : Hp) (c : Addr), Same H H2 → SqT K H2 c (xs ++ ys) → Q (.ref c) H2
theorem op_catW {X : Cx} : OpR X (binaryOp .Add) (rCatW X.K) := by
  intro pins s σ H x y v u Q I rx ry h
  obtain ⟨a, b, xs, ys, rfl, rfl, ha, hb, hz, q⟩ := h
  refine op_catA pins s σ H _ _ v u Q I rx ry ⟨a, b, xs, ys, rfl, rfl, ha, hb, hz, fun e => q H b (Same.refl _) ?_, fun _ e => q H a (Same.refl _) ?_, fun _ _ p hp => q _ p (same_upd hp) (.of upd_same)⟩
  · rw [e]
    exact hb
  · rw [e, List.append_nil]
    exact ha
end Lots

namespace Lots
open PySem PySem.Spec PyProof.Rows L2
def top (i : Nat) : Stmt := PySem.Challenge.pw_standlots_k01_whole_things_and_lots.main.body.getD i (.Pass ⟨0, 0, 0, 0⟩)
abbrev sNames : Stmt := top 21
/-- the built-in names that the texts use -/
structure Blt (mg : Str → Option Value) : Prop where
  len : mg "len" = none
  int : mg "int" = none
  list : mg "list" = none
  dict : mg "dict" = none
  isinstance : mg "isinstance" = none
  range : mg "range" = none
  repr : mg "repr" = none
  sorted : mg "sorted" = none
  tuple : mg "tuple" = none
  set : mg "set" = none
  all : mg "all" = none
  str : mg "str" = none
  bool : mg "bool" = none
  enumerate : mg "enumerate" = none
  zip : mg "zip" = none
  min : mg "min" = none
section
variable {P : Program} {w : World} {K : PySem.W.Frag} {mg : Str → Option Value} {base : Heap}
/-- a row of distinct names -/
def spNames : Sp := fun vs H Q _ => ∃ (G : Hp) (p : Addr) (many : Nat) (B : Int), vs = [.ref p, .int (many : Nat)] ∧ MOk G H p B ∧ 1 ≤ many ∧ many ≤ 8 ∧ B < 900000000 ∧
  ∀ (G2 H2 : Hp) (l : Addr) (zs : List Str), MOk G2 H2 p (B + 20) → Same G G2 → G2 l = some (.lst (zs.map V.str)) → zs.length = many → zs.Nodup → (∀ z ∈ zs, IsName z) → Q (.ref l) H2
abbrev NN : List Str := ["m", "many", "letters", "stem", "k", "at", "first", "by", "word"]
theorem scNames : FnScope NN ["m", "many"] (defScope sNames) := ⟨rfl, rfl, rfl, by decide +kernel, rfl, by decide +kernel, by decide +kernel⟩
theorem ok_names {f fN : Addr} {fd fdN : FuncData} (F : Fun K "_law_names" "_law_names" sNames f fd) (T : Blt mg)
    (FN : FnOk P w K mg base CX0 1 fN fdN ["m", "many"] spNext) (gN : mg "_law_next" = some (.ref fN)) (kN : PySem.W.keepIn K (.ref fN) = true) (bN : Binds K fdN ["m", "many"] []) : FnOk P w K mg base CX0 2 f fd ["m", "many"] spNames := by
  refine F.ok scNames (fun vs H Q E h => ?_) (fun cdv A outer s H vs Q E hr h => ?_)
  · obtain ⟨G, p, many, B, rfl, _⟩ := h
    rfl
  obtain ⟨G, p, many, B, rfl, M, m1, m8, hB, go⟩ := h
  obtain ⟨t2, d2, last⟩ : ∃ t, PSs (cxOf CX0 P w K mg base NN "_law_names" (defScope sNames) f cdv A outer s H E).nox ((defBody sNames).drop 5) t ∧
      ∀ (G5 H7 : Hp) (z : Str) (a b by_ : Nat) (v4 v8 : Option V), Same G G5 → MOk G5 H7 p (B + 20) → (cd z).length ≤ 7 → Low z → a ≤ (cd z).length → b < 26 → by_ ∈ [1, 3, 5, 7, 9, 11] →
        t { nx := fun _ H' => Q .non H', rt := Q } [some (.ref p), some (.int (many : Nat)), some (.str letters), some (.str z), v4, some (.int (a : Nat)), some (.int (b : Nat)), some (.int (by_ : Nat)), v8] H7 := by
    refine ⟨_, (pss_one (ps_ret (pe_lc (own := [("k", 4)]) (g := gName 4) (tt := tYes) (by rfl) scNames.nd (pi_range1 (by rfl) T.range (pa_cons (pv 1) pa_nil)) (blkOk_by (own := [("k", 4)]) (N := NN) (sc := defScope sNames) (by decide +kernel)) (fun _ _ _ _ _ => pg_name (i := 4) scNames.nd rfl (Or.inl rfl)) (fun _ _ _ _ _ => pts_nil) (fun _ _ _ _ _ => (pe_op op_add_str (pe_op op_add_str (pe_slice sl_str (pv 3) po_none (po_some (pv 5))) (pe_ix ix_str (pv 2) (pe_op op_mod (pe_callTy call_int1 (by rfl) T.int (by decide +kernel) (pa_cons (pe_op op_add (pv 6) (pe_op op_mul (pv 7) (pv 4))) pa_nil)) pe_int) (fun _ _ => rfl))) (pe_slice sl_str (pv 3) (po_some (pv 5)) po_none)))))), fun G5 H7 z a b by_ v4 v8 s5 M7 lz wz la hb hby => ?_⟩
    refine ⟨_, rfl, _, rfl, by omega, by omega, fun D hD => ?_⟩
    refine lc_range (lo := 0) (n := _) (fun i H' => H' = upd H7 D (.lst (((List.range i).map (nmB z a b by_)).map V.str))) rfl ?_ ?_
    · rintro i H' hi rfl
      have big : (1000 : Nat) ≤ sizeLine := by decide
      have lz0 : z.length = (cd z).length := len_cd z
      have hi8 : i < 8 := by omega
      have hby2 : by_ < 12 := by
        simp only [List.mem_cons, List.not_mem_nil, or_false] at hby
        omega
      have r0 : (0 : Int) ≤ ((b : Nat) + (by_ : Nat) * (0 + (i : Nat))) % 26 := Int.emod_nonneg _ (by decide)
      have r1 : (((b : Nat) : Int) + (by_ : Nat) * (0 + (i : Nat))) % 26 < 26 := Int.emod_lt_of_pos _ (by decide)
      have ez : ((((b : Nat) : Int) + (by_ : Nat) * (0 + (i : Nat))) % 26).toNat = (b + by_ * i) % 26 := by
        rw [Int.zero_add]
        have : (((b : Nat) : Int) + (by_ : Nat) * (i : Nat)) % 26 = (((b + by_ * i) % 26 : Nat) : Int) := by
          rw [Int.natCast_emod, Int.natCast_add, Int.natCast_mul]
          rfl
        rw [this]
        exact Int.toNat_natCast _
      refine ⟨rfl, _, rfl, _, rfl, _, rfl, z, rfl, by omega, ?_⟩
      refine ⟨_, rfl, _, rfl, _, rfl, _, rfl, _, _, rfl, rfl, .inr (by constructor <;> omega), _, _, rfl, rfl, .inl ⟨_, rfl, ?_⟩⟩
      refine ⟨_, _, rfl, rfl, (by show (0 : Int) < 26; decide), letters, _, _, rfl, rfl, by decide, letter_at r0 r1, ?_⟩
      refine ⟨_, _, rfl, rfl, ?_, _, rfl, _, rfl, _, rfl, z, rfl, by omega, _, _, rfl, rfl, ?_, ?_⟩
      · rw [len_cd, len_cd, cd_cutTo, List.length_take]
        show min a _ + 1 ≤ _
        omega
      · rw [len_cd, len_cd, cd_app, cd_cutTo, cd_cutFrom, List.length_append, List.length_take, List.length_drop]
        show min a _ + 1 + _ ≤ _
        omega
      refine ⟨_, upd_same, ?_, ?_⟩
      · rw [List.length_map, List.length_map, List.length_range]
        exact small1000 (by omega)
      · rw [upd_upd, List.range_succ, List.map_append, List.map_append, ez]
        rfl
    · rintro H' rfl
      have e : ((many : Nat) : Int).toNat = many := Int.toNat_natCast _
      obtain ⟨n1, n2⟩ := row_B (stem := z) lz wz (p := a) (first := b) (by_ := by_) (many := many) la hby (by omega)
      rw [e]
      exact go (upd G5 D (.lst (((List.range many).map (nmB z a b by_)).map V.str))) _ D _ (M7.new hD) (s5.trans (same_upd (M7.same.free hD))) upd_same (by rw [List.length_map, List.length_range]) n1 n2
  refine ⟨_, (pss_cons (ps_asg (pe_tup (pa_cons pe_str (pa_cons pe_str pa_nil))) (pg_tup rfl (pgs_cons (pg_name (i := 2) scNames.nd rfl (Or.inr rfl)) (pgs_cons (pg_name (i := 3) scNames.nd rfl (Or.inr rfl)) pgs_nil))))
      (pss_cons (ps_for PassesOwn.never rfl (pi_range1 (by rfl) T.range (pa_cons (pe_call FN hr (by rfl) gN kN bN .nil pass0 (pa_cons (pv 0) (pa_cons pe_int pa_nil))) pa_nil)) (pg_name (i := 4) scNames.nd rfl (Or.inl rfl))
      (pss_one (ps_set (i := 3) scNames.nd rfl (Or.inr rfl) (pe_op op_add_str (pv 3) (pe_ix ix_str (pv 2) (pe_call FN hr (by rfl) gN kN bN .nil pass0 (pa_cons (pv 0) (pa_cons pe_int pa_nil))) (fun _ _ => rfl))))))
      (pss_cons (ps_asg (pe_tup (pa_cons (pe_call FN hr (by rfl) gN kN bN .nil pass0 (pa_cons (pv 0) (pa_cons (pe_op op_add (pe_callB call_len_str (by rfl) T.len PySem.boot_len (pa_cons (pv 3) pa_nil)) pe_int) pa_nil))) (pa_cons (pe_call FN hr (by rfl) gN kN bN .nil pass0 (pa_cons (pv 0) (pa_cons pe_int pa_nil))) (pa_cons (pe_ix ix_list (pe_lst (pa_cons pe_int (pa_cons pe_int (pa_cons pe_int (pa_cons pe_int (pa_cons pe_int (pa_cons pe_int pa_nil))))))) (pe_call FN hr (by rfl) gN kN bN .nil pass0 (pa_cons (pv 0) (pa_cons pe_int pa_nil))) (fun _ _ => rfl)) pa_nil)))) (pg_tup rfl (pgs_cons (pg_name (i := 5) scNames.nd rfl (Or.inr rfl)) (pgs_cons (pg_name (i := 6) scNames.nd rfl (Or.inr rfl)) (pgs_cons (pg_name (i := 7) scNames.nd rfl (Or.inr rfl)) pgs_nil)))))
      (pss_cons (ps_set (i := 8) scNames.nd rfl (Or.inr rfl) (pe_slice sl_str (pe_op op_add_str (pv 3) (pe_op op_repS (pe_ix ix_str (pv 2) (pv 6) (fun _ _ => rfl)) pe_int)) po_none (po_some pe_int)))
      (pss_cons (ps_if (PW.pt (pw_and (pt_cmpR op_gt (pv 7) pe_int (nomark _)) (pw_and1 (pt_cmpR op_lt (pv 1) pe_int (nomark _))))) (pss_one (ps_ret (pe_lc (own := [("k", 4)]) (g := gName 4) (tt := tYes) (by rfl) scNames.nd (pi_range1 (by rfl) T.range (pa_cons (pv 1) pa_nil)) (blkOk_by (own := [("k", 4)]) (N := NN) (sc := defScope sNames) (by decide +kernel)) (fun _ _ _ _ _ => pg_name (i := 4) scNames.nd rfl (Or.inl rfl)) (fun _ _ _ _ _ => pts_nil) (fun _ _ _ _ _ => (pe_ifExp (pt_cmpR op_gt (pv 7) pe_int (nomark _)) (pe_slice sl_str (pv 8) (po_some (pv 4)) po_none) (pe_slice sl_str (pv 8) po_none (po_some (pe_op op_sub (pe_op op_add (pv 4) pe_int) (pv 1))))))))) pss_nil)
      d2))))), ?_⟩
  refine ⟨(by show 2 ≤ sizeLine; decide), fun t0 ht0 => ⟨t0, _, rfl, .inl (.inl upd_same), rfl, _, _, rfl, _, _, rfl, rfl, ?_⟩⟩
  have M0 := M.garbage (o := .tup [.str "abcdefghijklmnopqrstuvwxyz", .str ""]) ht0
  refine ⟨_, rfl, G, p, 8, B, rfl, M0, by decide, by decide, by omega, fun H1 n M1 n0 n8 => ?_⟩
  obtain ⟨n, rfl⟩ := Int.eq_ofNat_of_zero_le n0
  refine ⟨_, rfl, by omega, by omega, ?_⟩
  refine for_range (lo := 0) (n := _) (fun i σ H2 => MOk G H2 p (B + 1 + (i : Nat)) ∧ ∃ (z : Str) (v4 : Option V), σ = [some (.ref p), some (.int (many : Nat)), some (.str letters), some (.str z), v4, none, none, none, none] ∧ (cd z).length = i ∧ Low z)
    ⟨by simpa using M1, Str.ofString "", none, rfl, rfl, fun c hc => by cases hc⟩ ?_ ?_
  · rintro i σ H2 hi ⟨M2, z, v4, rfl, lz, wz⟩
    refine ⟨_, rfl, _, rfl, _, rfl, G, p, 26, _, rfl, M2, by decide, by decide, by omega, fun H3 r M3 r0 r1 => ?_⟩
    refine ⟨letters, r, _, rfl, rfl, by decide, letter_at r0 r1, ?_⟩
    have hz := len_cd z
    refine ⟨z, _, rfl, rfl, ?_, ?_⟩
    · have h7 : i < 8 := by omega
      rw [len_cd, len_cd, lz]
      show i + 1 ≤ sizeLine
      rw [sizeLine_eq]
      omega
    refine ⟨?_, z ++ sign (97 + r.toNat), _, rfl, ?_, ?_⟩
    · have e : B + 1 + ((i + 1 : Nat) : Int) = B + 1 + (i : Nat) + 1 := by omega
      rw [e]
      exact M3
    · rw [cd_app, List.length_append, lz]
      rfl
    · exact wz.app (low_sign (by omega))
  rintro σ H2 ⟨M2, z, v4, rfl, lz, wz⟩
  have lz7 : (cd z).length ≤ 7 := by omega
  have lz0 : z.length = (cd z).length := len_cd z
  have big : (1000 : Nat) ≤ sizeLine := by decide
  refine ⟨_, rfl, _, rfl, z, rfl, by omega, _, _, rfl, rfl, G, p, _, _, rfl, M2, by omega, by omega, by omega, fun H3 a M3 a0 a1 => ?_⟩
  refine ⟨_, rfl, G, p, 26, _, rfl, M3, by decide, by decide, by omega, fun H4 b M4 b0 b1 => ?_⟩
  refine ⟨(by show 6 ≤ sizeLine; decide), fun L hL => ?_⟩
  have M5 := M4.new (o := .lst [.int 1, .int 3, .int 5, .int 7, .int 9, .int 11]) hL
  have sL : Same G (upd G L (.lst [.int 1, .int 3, .int 5, .int 7, .int 9, .int 11])) := same_upd (M4.same.free hL)
  have gL : (upd G L (.lst [.int 1, .int 3, .int 5, .int 7, .int 9, .int 11])) L = some (.lst [.int 1, .int 3, .int 5, .int 7, .int 9, .int 11]) := upd_same
  generalize upd G L (.lst [.int 1, .int 3, .int 5, .int 7, .int 9, .int 11]) = G5 at M5 sL gL
  refine ⟨_, rfl, G5, p, 6, _, rfl, M5, by decide, by decide, by omega, fun H6 c M6 c0 c1 => ?_⟩
  obtain ⟨by_, hby, hat⟩ : ∃ k : Nat, k ∈ [1, 3, 5, 7, 9, 11] ∧ atI ([.int 1, .int 3, .int 5, .int 7, .int 9, .int 11] : List V) c = some (.int (k : Nat)) := by
    obtain ⟨j, rfl⟩ := Int.eq_ofNat_of_zero_le c0
    rcases j with _ | _ | _ | _ | _ | _ | j
    · exact ⟨1, by decide, atI_nat rfl⟩
    · exact ⟨3, by decide, atI_nat rfl⟩
    · exact ⟨5, by decide, atI_nat rfl⟩
    · exact ⟨7, by decide, atI_nat rfl⟩
    · exact ⟨9, by decide, atI_nat rfl⟩
    · exact ⟨11, by decide, atI_nat rfl⟩
    · omega
  refine ⟨L, _, c, _, rfl, rfl, SqL.of (M6.same _ _ gL), hat, ?_⟩
  refine ⟨(by show 3 ≤ sizeLine; decide), fun t ht => ⟨t, _, rfl, .inl (.inl upd_same), rfl, _, _, rfl, _, _, rfl, _, _, rfl, rfl, ?_⟩⟩
  have M7 := M6.garbage (o := .tup [.int a, .int b, .int (by_ : Nat)]) ht
  obtain ⟨a, rfl⟩ := Int.eq_ofNat_of_zero_le a0
  obtain ⟨b, rfl⟩ := Int.eq_ofNat_of_zero_le b0
  have hb26 : b < 26 := by omega
  -- word
  refine ⟨_, rfl, _, rfl, _, rfl, letters, _, _, rfl, rfl, by decide, letter_at b0 b1, sign (97 + b), 8, rfl, rfl, mulOk_small (by show 1 ≤ 1000; decide) (by decide) (by decide), z, _, rfl, rfl, ?_, ?_⟩
  · rw [len_cd (Txt.mul _ _), cd_mul (by decide)]
    show z.length + 8 ≤ sizeLine
    omega
  have wl : cd (z ++ Txt.mul (sign (97 + b)) 8) = cd z ++ List.replicate 8 (97 + b) := by
    rw [cd_app, cd_mul (by decide)]
    rfl
  refine ⟨8, rfl, z ++ Txt.mul (sign (97 + b)) 8, rfl, ?_, ?_⟩
  · rw [len_cd, wl, List.length_append, List.length_replicate]
    omega
  obtain ⟨word, hw⟩ : ∃ word, word = cutS (z ++ Txt.mul (sign (97 + b)) 8) none (some 8) := ⟨_, rfl⟩
  rw [← hw]
  have w8 : (cd word).length = 8 := by
    rw [hw, show cd (cutS (z ++ Txt.mul (sign (97 + b)) 8) none (some 8)) = (cd (z ++ Txt.mul (sign (97 + b)) 8)).take 8 from cd_cutTo _ 8, wl, List.length_take, List.length_append, List.length_replicate]
    omega
  have ww : Low word := by
    rw [hw]
    refine Low.to (fun c hc => ?_) 8
    rw [wl] at hc
    rcases List.mem_append.mp hc with hc | hc
    · exact wz c hc
    · rw [List.mem_replicate] at hc
      omega
  clear hw
  have wlen : word.length ≤ sizeLine := by
    rw [len_cd, w8]
    decide
  have sG : Same G G5 := sL
  have M8 : MOk G5 (upd H6 t (.tup [.int (a : Nat), .int (b : Nat), .int (by_ : Nat)])) p (B + 20) := M7.more (by omega)
  have la : a ≤ (cd z).length := by omega
  generalize upd H6 t (.tup [.int (a : Nat), .int (b : Nat), .int (by_ : Nat)]) = H7 at M8
  refine ⟨_, rfl, _, _, rfl, rfl, _, rfl, ?_⟩
  refine ite2 (fun c1 => ?_) (fun _ => last G5 H7 z a b by_ _ _ sG M8 lz7 wz la hb26 hby)
  refine ⟨_, rfl, _, _, rfl, rfl, _, rfl, ?_⟩
  refine ite2 (fun c2 => ?_) (fun _ => last G5 H7 z a b by_ _ _ sG M8 lz7 wz la hb26 hby)
  refine ⟨_, rfl, _, rfl, by omega, by omega, fun D hD => ?_⟩
  refine lc_range (lo := 0) (n := _) (fun i H' => H' = upd H7 D (.lst (((List.range i).map (nmA word (decide (7 < by_)) many)).map V.str))) rfl ?_ ?_
  · rintro i H' hi rfl
    have hi8 : i < 8 := by omega
    have el : ∀ k : Nat, k < many → cutS word none (some ((0 + (k : Int)) + 9 - (many : Nat))) = cutS word none (some ((k : Int) + 9 - (many : Nat))) := fun k _ => by rw [Int.zero_add]
    refine ⟨rfl, _, rfl, _, _, rfl, rfl, _, rfl, ?_⟩
    by_cases c : 7 < by_
    · rw [decide_eq_true (show (7 : Int) < (by_ : Nat) by omega)]
      refine iteT ?_
      refine ⟨_, rfl, _, rfl, _, rfl, word, rfl, wlen, _, upd_same, ?_, ?_⟩
      · rw [List.length_map, List.length_map, List.length_range]
        exact small1000 (by omega)
      · rw [upd_upd, List.range_succ, List.map_append, List.map_append, Int.zero_add]
        have q : nmA word (decide (7 < by_)) many i = cutS word (some (i : Int)) none := by
          unfold nmA
          rw [if_pos (decide_eq_true c)]
        show _ = upd H7 D (.lst (_ ++ [V.str (nmA word (decide (7 < by_)) many i)]))
        rw [q]
    · rw [decide_eq_false (show ¬ (7 : Int) < (by_ : Nat) by omega)]
      refine iteF ?_
      refine ⟨_, rfl, _, rfl, _, _, rfl, rfl, _, rfl, _, _, rfl, rfl, _, rfl, word, rfl, wlen, _, upd_same, ?_, ?_⟩
      · rw [List.length_map, List.length_map, List.length_range]
        exact small1000 (by omega)
      · rw [upd_upd, List.range_succ, List.map_append, List.map_append, Int.zero_add]
        have q : nmA word (decide (7 < by_)) many i = cutS word none (some ((i : Int) + 9 - (many : Nat))) := by
          unfold nmA
          rw [if_neg (by rw [decide_eq_false c]; exact Bool.false_ne_true)]
        show _ = upd H7 D (.lst (_ ++ [V.str (nmA word (decide (7 < by_)) many i)]))
        rw [q]
  · rintro H' rfl
    have e : ((many : Nat) : Int).toNat = many := Int.toNat_natCast _
    obtain ⟨n1, n2⟩ := row_A w8 ww (b := decide (7 < by_)) (many := many) m8
    rw [e]
    exact go (upd G5 D (.lst (((List.range many).map (nmA word (decide (7 < by_)) many)).map V.str))) _ D _ (M8.new hD) (sG.trans (same_upd (M8.same.free hD))) upd_same (by rw [List.length_map, List.length_range]) n1 n2
abbrev sThings : Stmt := top 27
/-- drawn things -/
def spThings : Sp := fun vs H Q _ => ∃ (G : Hp) (p : Addr) (most : Nat) (B : Int), vs = [.ref p, .int (most : Nat)] ∧ MOk G H p B ∧ 1 ≤ most ∧ most ≤ 8 ∧ B < 800000000 ∧
  ∀ (G2 H2 : Hp) (l : Addr) (o : Obj) (zs : List Str), MOk G2 H2 p (B + 30) → Same G G2 → G2 l = some (.frz o (.tup (zs.map V.str))) → o.dict = none → 1 ≤ zs.length → zs.length ≤ most → Things zs → Q (.ref l) H2
theorem scThings : FnScope ["m", "most"] ["m", "most"] (defScope sThings) := ⟨rfl, rfl, rfl, by decide +kernel, rfl, by decide +kernel, by decide +kernel⟩
theorem ok_things {f fN fM : Addr} {fd fdN fdM : FuncData} (F : Fun K "_law_things" "_law_things" sThings f fd) (T : Blt mg)
    (FN : FnOk P w K mg base CX0 1 fN fdN ["m", "many"] spNext) (gN : mg "_law_next" = some (.ref fN)) (kN : PySem.W.keepIn K (.ref fN) = true) (bN : Binds K fdN ["m", "many"] [])
    (FM : FnOk P w K mg base CX0 2 fM fdM ["m", "many"] spNames) (gM : mg "_law_names" = some (.ref fM)) (kM : PySem.W.keepIn K (.ref fM) = true) (bM : Binds K fdM ["m", "many"] []) : FnOk P w K mg base CX0 3 f fd ["m", "most"] spThings := by
  refine F.ok scThings (fun vs H Q E h => ?_) (fun cdv A outer s H vs Q E hr h => ?_)
  · obtain ⟨G, p, most, B, rfl, _⟩ := h
    rfl
  obtain ⟨G, p, most, B, rfl, M, m1, m8, hB, go⟩ := h
  have hr1 : Room 1 _ := hr.mono (by decide)
  refine ⟨_, pss_one (ps_ret (pe_callTy call_tuple_ofB (by rfl) T.tuple (by decide +kernel) (pa_cons (pe_callB cr_sortedS (by rfl) T.sorted (by decide +kernel) (pa_cons
    (pe_call FM hr (by rfl) gM kM bM .nil pass0 (pa_cons (pv 0) (pa_cons (pe_op op_add pe_int (pe_call FN hr1 (by rfl) gN kN bN .nil pass0 (pa_cons (pv 0) (pa_cons (pv 1) pa_nil)))) pa_nil))) pa_nil)) pa_nil))), ?_⟩
  refine ⟨_, rfl, _, rfl, _, rfl, G, p, (most : Nat), B, rfl, M, by omega, by omega, by omega, fun H1 r M1 r0 r1 => ?_⟩
  obtain ⟨r, rfl⟩ := Int.eq_ofNat_of_zero_le r0
  refine ⟨_, _, rfl, rfl, G, p, 1 + r, B + 1, ?_, M1, by omega, by omega, by omega, fun G2 H2 l zs M2 s2 hl len nd nm => ?_⟩
  · show [V.ref p, V.int (1 + (r : Int))] = [V.ref p, V.int ((1 + r : Nat) : Int)]
    rw [Int.natCast_add]
    rfl
  refine ⟨l, zs, rfl, SqL.of (M2.same _ _ hl), by omega, fun ys q perm srt hq => ?_⟩
  have M3 := M2.garbage (o := .lst (ys.map V.str)) hq
  refine ⟨q, _, rfl, SqL.of upd_same, fun t o ht hd => ?_⟩
  have ly : ys.length = zs.length := perm.length_eq
  have ndy : ys.Nodup := perm.nodup_iff.mpr nd
  exact go (upd G2 t (.frz o (.tup (ys.map V.str)))) _ t o ys ((M3.new ht).more (by omega)) (s2.trans (same_upd (M3.same.free ht))) upd_same hd (by omega) (by omega) ⟨asc_of_sorted srt ndy, fun z hz => nm z (perm.mem_iff.mp hz)⟩
/-- what is in one of two tuples or in both -/
def spBoth (K : PySem.W.Frag) : Sp := fun vs H Q _ => ∃ (a b : Addr) (xs ys : List Str), vs = [.ref a, .ref b] ∧ SqT K H a (xs.map V.str) ∧ SqT K H b (ys.map V.str) ∧ xs.length + ys.length ≤ 60 ∧
  ∀ (H2 : Hp) (t : Addr) (zs : List Str), Same H H2 → H t = none → H2 t = some (.tup (zs.map V.str)) → Asc zs → (∀ z, z ∈ zs ↔ z ∈ xs ∨ z ∈ ys) → Q (.ref t) H2
abbrev sBoth : Stmt := top 28
theorem scBoth : FnScope ["one", "other"] ["one", "other"] (defScope sBoth) := ⟨rfl, rfl, rfl, by decide +kernel, rfl, by decide +kernel, by decide +kernel⟩
theorem ok_both {f : Addr} {fd : FuncData} (F : Fun K "_law_both" "_law_both" sBoth f fd) (T : Blt mg) : FnOk P w K mg base CX0 1 f fd ["one", "other"] (spBoth K) := by
  refine F.ok scBoth (fun vs H Q E h => ?_) (fun cdv A outer s H vs Q E hr h => ?_)
  · obtain ⟨a, b, xs, ys, rfl, _⟩ := h
    rfl
  obtain ⟨a, b, xs, ys, rfl, ha, hb, len, go⟩ := h
  have join : ∀ (H1 : Hp) (c : Addr) (ws : List Str), Same H H1 → SqT K H1 c (ws.map V.str) → ws.length ≤ 60 → (∀ z, z ∈ ws ↔ z ∈ xs ∨ z ∈ ys) → rSetTup K w [.ref c] H1 (fun v H2 => rSortedTxt w [v] H2 fun v H3 => ∃ p us, [v] = [V.ref p] ∧ ((SqL K H3 p us ∧ ∀ l, H3 l = none → Q (.ref l) (upd H3 l (.tup us))) ∨ (SqT K H3 p us ∧ Q (.ref p) H3))) := by
    intro H1 c ws s1 hc n1 mem
    refine ⟨c, ws, rfl, hc, by omega, fun S L hS n2 mem2 nd => ⟨S, L, rfl, upd_same, by omega, fun us q pm srt hq => ⟨q, us.map V.str, rfl, .inl ⟨SqL.of upd_same, fun t ht => ?_⟩⟩⟩⟩
    have s3 : Same H (upd (upd H1 S (SetX w S L)) q (.lst (us.map V.str))) := same_new (same_new s1 hS) hq
    refine go _ t us (same_new s3 ht) (s3.free ht) upd_same (asc_of_sorted srt (pm.nodup_iff.mpr nd)) fun z => ?_
    rw [pm.mem_iff, mem2 z, mem z]
  refine ⟨_, pss_one (ps_ret (pe_callTy call_tuple_of (by rfl) T.tuple (by decide +kernel) (pa_cons (pe_callB (cr_sortedTxt (by rfl)) (by rfl) T.sorted (by decide +kernel) (pa_cons (pe_callTy (cr_setTup (by rfl)) (by rfl) T.set (by decide +kernel)
    (pa_cons (pe_op op_catA (pv 0) (pv 1)) pa_nil)) pa_nil)) pa_nil))), ?_⟩
  refine ⟨_, rfl, _, rfl, a, b, _, _, rfl, rfl, ha, hb, by rw [List.length_map, List.length_map, sizeLine_eq]; omega, fun e => ?_, fun e1 e2 => ?_, fun e1 e2 c hc => ?_⟩
  · have e : xs = [] := by simpa using e
    subst e
    exact join H b ys (.refl H) hb (by omega) fun z => by simp
  · have e : ys = [] := by simpa using e2
    subst e
    exact join H a xs (.refl H) ha (by omega) fun z => by simp
  · refine join _ c (xs ++ ys) (same_upd hc) (.of (by rw [List.map_append]; exact upd_same)) (by rw [List.length_append]; exact len) fun z => by simp
abbrev sJoined : Stmt := top 15
theorem scJoined : FnScope ["one", "other"] ["one", "other"] (defScope sJoined) := ⟨rfl, rfl, rfl, by decide +kernel, rfl, by decide +kernel, by decide +kernel⟩
theorem ok_joined {f : Addr} {fd : FuncData} (F : Fun K "joined" "joined" sJoined f fd) (T : Blt mg) : FnOk P w K mg base CX0 1 f fd ["one", "other"] (spBoth K) := by
  refine F.ok scJoined (fun vs H Q E h => ?_) (fun cdv A outer s H vs Q E hr h => ?_)
  · obtain ⟨a, b, xs, ys, rfl, _⟩ := h
    rfl
  obtain ⟨a, b, xs, ys, rfl, ha, hb, len, go⟩ := h
  have join : ∀ (H1 : Hp) (c : Addr) (ws : List Str), Same H H1 → SqT K H1 c (ws.map V.str) → ws.length ≤ 60 → (∀ z, z ∈ ws ↔ z ∈ xs ∨ z ∈ ys) → rSetTup K w [.ref c] H1 (fun v H2 => rSortedTxt w [v] H2 fun v H3 => ∃ p us, [v] = [V.ref p] ∧ ((SqL K H3 p us ∧ ∀ l, H3 l = none → Q (.ref l) (upd H3 l (.tup us))) ∨ (SqT K H3 p us ∧ Q (.ref p) H3))) := by
    intro H1 c ws s1 hc n1 mem
    refine ⟨c, ws, rfl, hc, by omega, fun S L hS n2 mem2 nd => ⟨S, L, rfl, upd_same, by omega, fun us q pm srt hq => ⟨q, us.map V.str, rfl, .inl ⟨SqL.of upd_same, fun t ht => ?_⟩⟩⟩⟩
    have s3 : Same H (upd (upd H1 S (SetX w S L)) q (.lst (us.map V.str))) := same_new (same_new s1 hS) hq
    refine go _ t us (same_new s3 ht) (s3.free ht) upd_same (asc_of_sorted srt (pm.nodup_iff.mpr nd)) fun z => ?_
    rw [pm.mem_iff, mem2 z, mem z]
  refine ⟨_, pss_one (ps_ret (pe_callTy call_tuple_of (by rfl) T.tuple (by decide +kernel) (pa_cons (pe_callB (cr_sortedTxt (by rfl)) (by rfl) T.sorted (by decide +kernel) (pa_cons (pe_callTy (cr_setTup (by rfl)) (by rfl) T.set (by decide +kernel)
    (pa_cons (pe_op op_catA (pv 0) (pv 1)) pa_nil)) pa_nil)) pa_nil))), ?_⟩
  refine ⟨_, rfl, _, rfl, a, b, _, _, rfl, rfl, ha, hb, by rw [List.length_map, List.length_map, sizeLine_eq]; omega, fun e => ?_, fun e1 e2 => ?_, fun e1 e2 c hc => ?_⟩
  · have e : xs = [] := by simpa using e
    subst e
    exact join H b ys (.refl H) hb (by omega) fun z => by simp
  · have e : ys = [] := by simpa using e2
    subst e
    exact join H a xs (.refl H) ha (by omega) fun z => by simp
  · refine join _ c (xs ++ ys) (same_upd hc) (.of (by rw [List.map_append]; exact upd_same)) (by rw [List.length_append]; exact len) fun z => by simp
theorem Same.sT {H H' : Hp} {a : Addr} {xs : List V} (e : Same H H') (h : SqT K H a xs) : SqT K H' a xs := by
  rcases h with h | h
  · rcases h with h | ⟨o, h⟩
    · exact .inl (.inl (e _ _ h))
    · exact .inl (.inr ⟨o, e _ _ h⟩)
  · exact .inr h
theorem inV_str (z : Str) : ∀ ys : List Str, inV (.str z) (ys.map V.str) = decide (z ∈ ys)
  | [] => rfl
  | y :: ys => by
    have h := inV_str z ys
    unfold inV at h ⊢
    rw [List.map_cons, List.any_cons, h]
    by_cases e : y = z
    · subst e
      simp [eqV]
    · have e2 : ¬ z = y := fun q => e q.symm
      simp [eqV, e, e2]
theorem flat_strs (ys : List Str) : (ys.map V.str).all flatV = true := by
  rw [List.all_map, List.all_eq_true]
  intro z _
  rfl
theorem str_nth {xs : List Str} {i : Nat} {x : V} (h : (xs.map V.str)[i]? = some x) : ∃ z, x = .str z ∧ xs[i]? = some z := by
  rw [List.getElem?_map] at h
  cases e : xs[i]? with
  | none =>
    rw [e] at h
    cases h
  | some z =>
    rw [e] at h
    exact ⟨z, (Option.some.inj h).symm, rfl⟩
theorem take_snoc {α : Type} {xs : List α} {i : Nat} {z : α} (h : xs[i]? = some z) : xs.take (i + 1) = xs.take i ++ [z] := by
  rw [List.take_add_one, h]
  rfl
abbrev lessL (xs ys : List Str) : List Str := xs.filter fun z => !decide (z ∈ ys)
/-- what is in the first of two tuples alone -/
def spLess (K : PySem.W.Frag) : Sp := fun vs H Q _ => ∃ (a b : Addr) (xs ys : List Str), vs = [.ref a, .ref b] ∧ SqT K H a (xs.map V.str) ∧ SqT K H b (ys.map V.str) ∧ xs.length ≤ 60 ∧
  ∀ (H2 : Hp) (t : Addr), Same H H2 → H t = none → H2 t = some (.tup ((lessL xs ys).map V.str)) → Q (.ref t) H2
abbrev sLess : Stmt := top 29
theorem scLess : FnScope ["one", "other", "thing"] ["one", "other"] (defScope sLess) := ⟨rfl, rfl, rfl, by decide +kernel, rfl, by decide +kernel, by decide +kernel⟩
theorem ok_less {f : Addr} {fd : FuncData} (F : Fun K "_law_less" "_law_less" sLess f fd) (T : Blt mg) : FnOk P w K mg base CX0 1 f fd ["one", "other"] (spLess K) := by
  refine F.ok scLess (fun vs H Q E h => ?_) (fun cdv A outer s H vs Q E hr h => ?_)
  · obtain ⟨a, b, xs, ys, rfl, _⟩ := h
    rfl
  obtain ⟨a, b, xs, ys, rfl, ha, hb, len, go⟩ := h
  refine ⟨_, pss_one (ps_ret (pe_callTy call_tuple_of (by rfl) T.tuple (by decide +kernel) (pa_cons
    (pe_lc (own := [("thing", 2)]) (g := gName 2) (by rfl) scLess.nd (pi_tup (pv 0)) (blkOk_by (own := [("thing", 2)]) (N := ["one", "other", "thing"]) (sc := defScope sLess) (by decide +kernel)) (fun _ _ _ _ _ => pg_name (i := 2) scLess.nd rfl (Or.inl rfl))
      (fun _ _ _ _ _ => pts_one (pt_cmpR (r := rIn K true) op_notIn_seq (pv 2) (pv 1) (by rfl))) (fun _ _ _ _ _ => pv 2)) pa_nil))), ?_⟩
  refine ⟨_, rfl, a, rfl, ⟨_, ha⟩, fun D hD => ?_⟩
  refine lc_tup (K := K) (a := a) (xs := xs.map V.str) (fun i H2 => H2 = upd H D (.lst ((lessL (xs.take i) ys).map V.str))) rfl (fun i H2 _ e => ?_) ?_ ?_
  · rw [e]
    exact Same.sT (same_upd hD) ha
  · rintro i x H2 hx rfl
    obtain ⟨z, rfl, hz⟩ := str_nth hx
    have hi : i < xs.length := (List.getElem?_eq_some_iff.mp hz).1
    refine ⟨rfl, _, rfl, _, rfl, b, _, rfl, .inr (Same.sT (same_upd hD) hb), rfl, flat_strs ys, ?_⟩
    rw [inV_str, if_pos rfl]
    have step : lessL (xs.take (i + 1)) ys = lessL (xs.take i) ys ++ (if (!decide (z ∈ ys)) = true then [z] else []) := by
      rw [take_snoc hz, lessL, List.filter_append, List.filter_cons, List.filter_nil]
    by_cases c : z ∈ ys
    · rw [decide_eq_true c] at step ⊢
      refine ⟨false, rfl, iteF ?_⟩
      rw [step]
      simp
    · rw [decide_eq_false c] at step ⊢
      refine ⟨true, rfl, iteT ⟨_, rfl, _, upd_same, ?_, ?_⟩⟩
      · rw [List.length_map]
        have q := List.length_filter_le (fun z => !decide (z ∈ ys)) (xs.take i)
        rw [List.length_take] at q
        refine small1000 ?_
        show (List.filter _ _).length ≤ 1000
        omega
      · rw [upd_upd, step]
        simp
  · rintro H2 rfl
    refine ⟨D, _, rfl, .inl ⟨SqL.of upd_same, fun t ht => ?_⟩⟩
    have s2 : Same H (upd (upd H D (.lst ((lessL (xs.take (xs.map V.str).length) ys).map V.str))) t (.tup ((lessL (xs.take (xs.map V.str).length) ys).map V.str))) := same_new (same_upd hD) ht
    refine go _ t s2 ((same_upd hD).free ht) ?_
    rw [upd_same, List.length_map, List.take_length]
abbrev sWithout : Stmt := top 16
theorem scWithout : FnScope ["one", "other", "word"] ["one", "other"] (defScope sWithout) := ⟨rfl, rfl, rfl, by decide +kernel, rfl, by decide +kernel, by decide +kernel⟩
theorem ok_without {f : Addr} {fd : FuncData} (F : Fun K "without" "without" sWithout f fd) (T : Blt mg) : FnOk P w K mg base CX0 1 f fd ["one", "other"] (spLess K) := by
  refine F.ok scWithout (fun vs H Q E h => ?_) (fun cdv A outer s H vs Q E hr h => ?_)
  · obtain ⟨a, b, xs, ys, rfl, _⟩ := h
    rfl
  obtain ⟨a, b, xs, ys, rfl, ha, hb, len, go⟩ := h
  refine ⟨_, pss_one (ps_ret (pe_callTy call_tuple_of (by rfl) T.tuple (by decide +kernel) (pa_cons
    (pe_lc (own := [("word", 2)]) (g := gName 2) (by rfl) scWithout.nd (pi_tup (pv 0)) (blkOk_by (own := [("word", 2)]) (N := ["one", "other", "word"]) (sc := defScope sWithout) (by decide +kernel)) (fun _ _ _ _ _ => pg_name (i := 2) scWithout.nd rfl (Or.inl rfl))
      (fun _ _ _ _ _ => pts_one (pt_cmpR (r := rIn K true) op_notIn_seq (pv 2) (pv 1) (by rfl))) (fun _ _ _ _ _ => pv 2)) pa_nil))), ?_⟩
  refine ⟨_, rfl, a, rfl, ⟨_, ha⟩, fun D hD => ?_⟩
  refine lc_tup (K := K) (a := a) (xs := xs.map V.str) (fun i H2 => H2 = upd H D (.lst ((lessL (xs.take i) ys).map V.str))) rfl (fun i H2 _ e => ?_) ?_ ?_
  · rw [e]
    exact Same.sT (same_upd hD) ha
  · rintro i x H2 hx rfl
    obtain ⟨z, rfl, hz⟩ := str_nth hx
    have hi : i < xs.length := (List.getElem?_eq_some_iff.mp hz).1
    refine ⟨rfl, _, rfl, _, rfl, b, _, rfl, .inr (Same.sT (same_upd hD) hb), rfl, flat_strs ys, ?_⟩
    rw [inV_str, if_pos rfl]
    have step : lessL (xs.take (i + 1)) ys = lessL (xs.take i) ys ++ (if (!decide (z ∈ ys)) = true then [z] else []) := by
      rw [take_snoc hz, lessL, List.filter_append, List.filter_cons, List.filter_nil]
    by_cases c : z ∈ ys
    · rw [decide_eq_true c] at step ⊢
      refine ⟨false, rfl, iteF ?_⟩
      rw [step]
      simp
    · rw [decide_eq_false c] at step ⊢
      refine ⟨true, rfl, iteT ⟨_, rfl, _, upd_same, ?_, ?_⟩⟩
      · rw [List.length_map]
        have q := List.length_filter_le (fun z => !decide (z ∈ ys)) (xs.take i)
        rw [List.length_take] at q
        refine small1000 ?_
        show (List.filter _ _).length ≤ 1000
        omega
      · rw [upd_upd, step]
        simp
  · rintro H2 rfl
    refine ⟨D, _, rfl, .inl ⟨SqL.of upd_same, fun t ht => ?_⟩⟩
    have s2 : Same H (upd (upd H D (.lst ((lessL (xs.take (xs.map V.str).length) ys).map V.str))) t (.tup ((lessL (xs.take (xs.map V.str).length) ys).map V.str))) := same_new (same_upd hD) ht
    refine go _ t s2 ((same_upd hD).free ht) ?_
    rw [upd_same, List.length_map, List.take_length]
theorem built_snoc (x : Str) : ∀ (xs : List Str) (rows : List (List Str)), built rows (xs ++ [x]) = built rows xs ++ (built rows xs).map (· ++ [x])
  | [], _ => rfl
  | y :: xs, rows => built_snoc x xs _
theorem built_len : ∀ (xs : List Str) (rows : List (List Str)), (built rows xs).length = rows.length * 2 ^ xs.length
  | [], rows => by simp [built]
  | x :: xs, rows => by
    show (built (rows ++ rows.map (· ++ [x])) xs).length = _
    rw [built_len xs, List.length_append, List.length_map, List.length_cons, Nat.pow_succ, ← Nat.two_mul, Nat.mul_assoc, Nat.mul_left_comm, Nat.mul_comm 2]
theorem lots_short : ∀ (xs l : List Str), l ∈ lots xs → l.length ≤ xs.length
  | [], l, h => by
    simp [lots] at h
    simp [h]
  | x :: xs, l, h => by
    rcases List.mem_append.mp ((lots_perm x xs).mem_iff.mp h) with h | h
    · have q := lots_short xs l h
      rw [List.length_cons]
      omega
    · obtain ⟨l', h', rfl⟩ := List.mem_map.mp h
      have q := lots_short xs l' h'
      rw [List.length_cons, List.length_cons]
      omega
/-- rows of texts, all made behind H -/
def RowsAt (H H2 : Hp) (L : List (Addr × List Str)) : Prop := ∀ p ∈ L, H p.1 = none ∧ H2 p.1 = some (.tup (p.2.map V.str))
theorem RowsAt.keep {H H2 H3 : Hp} {L : List (Addr × List Str)} (r : RowsAt H H2 L) (s : Same H2 H3) : RowsAt H H3 L := fun p hp => ⟨(r p hp).1, s _ _ (r p hp).2⟩
/-- all lots, ascending -/
def spLots (K : PySem.W.Frag) : Sp := fun vs H Q _ => ∃ (a : Addr) (xs : List Str), vs = [.ref a] ∧ SqT K H a (xs.map V.str) ∧ Asc xs ∧ xs.length ≤ 8 ∧
  ∀ (H2 : Hp) (t : Addr) (L : List (Addr × List Str)), Same H H2 → H t = none → H2 t = some (.lst (L.map rowV)) → L.map Prod.snd = lots xs → RowsAt H H2 L → Q (.ref t) H2
abbrev sLots : Stmt := top 26
theorem scLots : FnScope ["many", "rows", "one", "row"] ["many"] (defScope sLots) := ⟨rfl, rfl, rfl, by decide +kernel, rfl, by decide +kernel, by decide +kernel⟩
theorem ok_lots {f : Addr} {fd : FuncData} (F : Fun K "_law_lots" "_law_lots" sLots f fd) (T : Blt mg) : FnOk P w K mg base CX0 1 f fd ["many"] (spLots K) := by
  refine F.ok scLots (fun vs H Q E h => ?_) (fun cdv A outer s H vs Q E hr h => ?_)
  · obtain ⟨a, xs, rfl, _⟩ := h
    rfl
  obtain ⟨a, xs, rfl, ha, asc, len, go⟩ := h
  refine ⟨_, pss_cons (ps_set (i := 1) scLots.nd rfl (Or.inl rfl) (pe_lst (pa_cons (pe_tup pa_nil) pa_nil)))
    (pss_cons (ps_for PassesOwn.never rfl (pi_tup (pv 0)) (pg_name (i := 2) scLots.nd rfl (Or.inr rfl))
      (pss_one (ps_set (i := 1) scLots.nd rfl (Or.inl rfl) (pe_op op_cat (pv 1)
        (pe_lc (own := [("row", 3)]) (g := gName 3) (by rfl) scLots.nd (pi_list (pv 1)) (blkOk_by (own := [("row", 3)]) (N := ["many", "rows", "one", "row"]) (sc := defScope sLots) (by decide +kernel)) (fun _ _ _ _ _ => pg_name (i := 3) scLots.nd rfl (Or.inl rfl))
          (fun _ _ _ _ _ => pts_nil) (fun _ _ _ _ _ => pe_op (r := rCatA K) op_catA (pv 3) (pe_tup (pa_cons (pv 2) pa_nil))))))))
    (pss_one (ps_ret (pe_callB (cr_sortTup (Nat.lt_of_le_of_lt (Nat.add_le_add_left (by decide) _) hr.units)) (by rfl) T.sorted (by decide +kernel) (pa_cons (pv 1) pa_nil))))), ?_⟩
  refine ⟨Nat.zero_le _, fun t0 ht0 => ⟨(by show 1 ≤ sizeLine; decide), fun l hl => ?_⟩⟩
  have S0 : Same H (upd (upd H t0 (.tup [])) l (.lst [.ref t0])) := same_new (same_upd ht0) hl
  have n0 : H l = none := (same_upd ht0).free hl
  refine ⟨_, rfl, a, rfl, ⟨_, Same.sT S0 ha⟩, ?_⟩
  refine for_tup (K := K) (a := a) (xs := xs.map V.str) (fun i σ H2 => ∃ (l : Addr) (L : List (Addr × List Str)) (v2 : Option V), σ = [some (.ref a), some (.ref l), v2, none] ∧ Same H H2 ∧ H l = none ∧ H2 l = some (.lst ((((t0, []) : Addr × List Str) :: L).map rowV)) ∧
      (((t0, []) : Addr × List Str) :: L).map Prod.snd = built [[]] (xs.take i) ∧ RowsAt H H2 (((t0, []) : Addr × List Str) :: L)) ?_ (fun i σ H2 _ ⟨l, L, v2, _, s2, _⟩ => Same.sT s2 ha) ?_ ?_
  · refine ⟨l, [], none, rfl, S0, n0, upd_same, rfl, fun p hp => ?_⟩
    obtain rfl := List.mem_singleton.mp hp
    refine ⟨ht0, ?_⟩
    rw [upd_ne (ne_of_none upd_same hl)]
    exact upd_same
  · rintro i x σ H2 hx ⟨l, L, v2, rfl, s2, nl, hl2, eb, rows⟩
    obtain ⟨z, rfl, hz⟩ := str_nth hx
    have hi : i < xs.length := (List.getElem?_eq_some_iff.mp hz).1
    obtain ⟨L0, e0⟩ : ∃ L0, L0 = ((t0, []) : Addr × List Str) :: L := ⟨_, rfl⟩
    rw [← e0] at hl2 eb rows
    have len0 : L0.length ≤ 256 := by
      rw [← List.length_map (f := Prod.snd), eb, built_len, List.length_take]
      have : 2 ^ min i xs.length ≤ 2 ^ 8 := Nat.pow_le_pow_right (by decide) (by omega)
      simpa using this
    refine ⟨_, rfl, _, rfl, l, rfl, ⟨_, .of hl2⟩, fun D hD => ?_⟩
    refine lc_list (K := K) (a := l) (xs := L0.map rowV) (fun j H3 => ∃ N : List (Addr × List Str), Same H2 H3 ∧ H2 D = none ∧ H3 D = some (.lst (N.map rowV)) ∧ N.map Prod.snd = ((L0.take j).map Prod.snd).map (· ++ [z]) ∧ RowsAt H H3 N) ?_ (fun j H3 _ ⟨N, s3, _⟩ => .of (s3 _ _ hl2)) ?_ ?_
    · exact ⟨[], same_upd hD, hD, upd_same, rfl, fun p hp => by cases hp⟩
    · rintro j x H3 hx ⟨N, s3, nD, hD3, eN, rN⟩
      obtain ⟨p, rfl, hp⟩ : ∃ p, x = rowV p ∧ L0[j]? = some p := by
        rw [List.getElem?_map] at hx
        cases e : L0[j]? with
        | none =>
          rw [e] at hx
          cases hx
        | some p =>
          rw [e] at hx
          exact ⟨p, (Option.some.inj hx).symm, rfl⟩
      have hj : j < L0.length := (List.getElem?_eq_some_iff.mp hp).1
      have rp := rows p (List.mem_of_getElem? hp)
      have nl : N.length = j := by
        have q := congrArg List.length eN
        rw [List.length_map, List.length_map, List.length_map, List.length_take] at q
        omega
      have pl : p.2.length ≤ 8 := by
        have m : p.2 ∈ built [[]] (xs.take i) := by
          rw [← eb]
          exact List.mem_map.mpr ⟨p, List.mem_of_getElem? hp, rfl⟩
        exact Nat.le_trans (lots_short _ _ ((built_lots _).mem_iff.mp m)) (by rw [List.length_take]; omega)
      have fin : ∀ (c : Addr) (H5 : Hp), Same H3 H5 → H3 c = none → H5 c = some (.tup ((p.2 ++ [z]).map V.str)) → ∃ acc, H5 D = some (.lst acc) ∧ acc.length < sizeLine ∧ ∃ N : List (Addr × List Str), Same H2 (upd H5 D (.lst (acc ++ [V.ref c]))) ∧ H2 D = none ∧
          (upd H5 D (.lst (acc ++ [V.ref c]))) D = some (.lst (N.map rowV)) ∧ N.map Prod.snd = ((L0.take (j + 1)).map Prod.snd).map (· ++ [z]) ∧ RowsAt H (upd H5 D (.lst (acc ++ [V.ref c]))) N := by
        intro c H5 s5 nc hc
        refine ⟨N.map rowV, s5 _ _ hD3, ?_, N ++ [(c, p.2 ++ [z])], same_off (s3.trans s5) nD, nD, ?_, ?_, fun q hq => ?_⟩
        · rw [List.length_map, nl]
          have big : (1000 : Nat) ≤ sizeLine := by decide
          omega
        · rw [upd_same, List.map_append]
          rfl
        · rw [List.map_append, eN, take_snoc hp, List.map_append, List.map_append]
          rfl
        · have tup : H q.1 = none ∧ H5 q.1 = some (.tup (q.2.map V.str)) := by
            rcases List.mem_append.mp hq with h | h
            · exact (rN.keep s5) q h
            · obtain rfl := List.mem_singleton.mp h
              exact ⟨(s2.trans s3).free nc, hc⟩
          refine ⟨tup.1, ?_⟩
          rw [upd_ne (ne_of tup.2 (s5 _ _ hD3) (by intro z; cases z))]
          exact tup.2
      refine ⟨rfl, _, rfl, _, rfl, by show 1 ≤ sizeLine; decide, fun t ht => ?_⟩
      have s4 : Same H3 (upd H3 t (.tup [.str z])) := same_upd ht
      refine ⟨p.1, t, p.2.map V.str, [.str z], rfl, rfl, .of (s4 _ _ (s3 _ _ rp.2)), .of upd_same, ?_, fun e => ?_, (fun _ e => nomatch e), fun _ _ c hc => ?_⟩
      · rw [List.length_map, sizeLine_eq]
        simp only [List.length_singleton]
        omega
      · have e : p.2 = [] := by simpa using e
        refine fin t _ s4 ht ?_
        rw [e]
        exact upd_same
      · refine fin c _ (s4.trans (same_upd hc)) (s4.free hc) ?_
        rw [List.map_append]
        exact upd_same
    · rintro H3 ⟨N, s3, nD, hD3, eN, rN⟩
      rw [List.length_map, List.take_length] at eN
      have nl : N.length = L0.length := by
        have q := congrArg List.length eN
        rw [List.length_map, List.length_map, List.length_map] at q
        exact q
      refine ⟨l, D, _, _, rfl, rfl, s3 _ _ hl2, hD3, ?_, fun q hq => ?_⟩
      · rw [List.length_map, List.length_map, nl, sizeLine_eq]
        omega
      refine ⟨q, L ++ N, some (.str z), rfl, same_new (s2.trans s3) hq, (s2.trans s3).free hq, ?_, ?_, fun r hr => ?_⟩
      · rw [upd_same, ← List.cons_append, ← e0, List.map_append]
      · rw [← List.cons_append, ← e0, List.map_append, eb, eN, take_snoc hz, built_snoc, eb]
      · rw [← List.cons_append, ← e0] at hr
        have k : RowsAt H H3 (L0 ++ N) := fun r hr => by
          rcases List.mem_append.mp hr with h | h
          · exact (rows.keep s3) r h
          · exact rN r h
        exact (k.keep (same_upd hq)) r hr
  · rintro σ H2 ⟨l, L, v2, rfl, s2, nl, hl2, eb, rows⟩
    rw [List.length_map, List.take_length] at eb
    refine ⟨_, rfl, l, t0, L, rfl, .of hl2, fun p hp => .of (rows p hp).2, fun out q pm srt hq => ?_⟩
    refine go _ q out (same_new s2 hq) (s2.free hq) upd_same (lots_only asc ?_ (List.pairwise_map.mpr srt)) fun p hp => ?_
    · exact (pm.map Prod.snd).trans (eb ▸ built_lots xs)
    · exact (rows.keep (same_upd hq)) p (pm.mem_iff.mp hp)
def isStr : PyData → Bool
  | .str _ => true
  | _ => false
theorem kit_str {K : PySem.W.Frag} (d : PyData) : PySem.W.kitOne K (.type (tyN d)) (.type "str") = some (isStr d) := by
  refine kit_ty ?_
  cases d with
  | none => exact (show kitB "NoneType" "str" = some false by decide +kernel)
  | bool _ => exact (show kitB "bool" "str" = some false by decide +kernel)
  | int _ => exact (show kitB "int" "str" = some false by decide +kernel)
  | str _ => exact (show kitB "str" "str" = some true by decide +kernel)
  | list _ => exact (show kitB "list" "str" = some false by decide +kernel)
  | tuple _ => exact (show kitB "tuple" "str" = some false by decide +kernel)
  | dict _ => exact (show kitB "dict" "str" = some false by decide +kernel)
def isInt : PyData → Bool
  | .int _ => true
  | .bool _ => true
  | _ => false
theorem kit_int {K : PySem.W.Frag} (d : PyData) : PySem.W.kitOne K (.type (tyN d)) (.type "int") = some (isInt d) := by
  refine kit_ty ?_
  cases d with
  | none => exact (show kitB "NoneType" "int" = some false by decide +kernel)
  | bool _ => exact (show kitB "bool" "int" = some true by decide +kernel)
  | int _ => exact (show kitB "int" "int" = some true by decide +kernel)
  | str _ => exact (show kitB "str" "int" = some false by decide +kernel)
  | list _ => exact (show kitB "list" "int" = some false by decide +kernel)
  | tuple _ => exact (show kitB "tuple" "int" = some false by decide +kernel)
  | dict _ => exact (show kitB "dict" "int" = some false by decide +kernel)
def isBoo : PyData → Bool
  | .bool _ => true
  | _ => false
theorem kit_bool {K : PySem.W.Frag} (d : PyData) : PySem.W.kitOne K (.type (tyN d)) (.type "bool") = some (isBoo d) := by
  refine kit_ty ?_
  cases d with
  | none => exact (show kitB "NoneType" "bool" = some false by decide +kernel)
  | bool _ => exact (show kitB "bool" "bool" = some true by decide +kernel)
  | int _ => exact (show kitB "int" "bool" = some false by decide +kernel)
  | str _ => exact (show kitB "str" "bool" = some false by decide +kernel)
  | list _ => exact (show kitB "list" "bool" = some false by decide +kernel)
  | tuple _ => exact (show kitB "tuple" "bool" = some false by decide +kernel)
  | dict _ => exact (show kitB "dict" "bool" = some false by decide +kernel)
def isTup : PyData → Bool
  | .tuple _ => true
  | _ => false
theorem kit_tuple {K : PySem.W.Frag} (d : PyData) : PySem.W.kitOne K (.type (tyN d)) (.type "tuple") = some (isTup d) := by
  refine kit_ty ?_
  cases d with
  | none => exact (show kitB "NoneType" "tuple" = some false by decide +kernel)
  | bool _ => exact (show kitB "bool" "tuple" = some false by decide +kernel)
  | int _ => exact (show kitB "int" "tuple" = some false by decide +kernel)
  | str _ => exact (show kitB "str" "tuple" = some false by decide +kernel)
  | list _ => exact (show kitB "list" "tuple" = some false by decide +kernel)
  | tuple _ => exact (show kitB "tuple" "tuple" = some true by decide +kernel)
  | dict _ => exact (show kitB "dict" "tuple" = some false by decide +kernel)

def nameB (z : Str) : Bool := decide (1 ≤ z.length ∧ z.length ≤ 8) && (cd z).all fun c => decide (c ∈ cd letters)
def isNm : PyData → Bool
  | .str z => nameB z
  | _ => false
theorem nameB_iff (z : Str) : nameB z = true ↔ IsName z := by
  unfold nameB IsName Low
  rw [Bool.and_eq_true, decide_eq_true_eq, List.all_eq_true, len_cd, and_assoc]
  refine and_congr_right fun _ => and_congr_right fun _ => ?_
  constructor
  · intro h c hc
    have q := of_decide_eq_true (h c hc)
    rw [cd_letters, List.mem_map] at q
    obtain ⟨i, hi, rfl⟩ := q
    rw [List.mem_range] at hi
    omega
  · intro h c hc
    refine decide_eq_true ?_
    rw [cd_letters, List.mem_map]
    exact ⟨c - 97, by rw [List.mem_range]; have := h c hc; omega, by have := h c hc; omega⟩
/-- no text is too long for the machine -/
def fits : PyData → Prop
  | .str z => z.length ≤ sizeLine ∧ ∀ c ∈ cd z, c < 1114112
  | _ => True
theorem dpAll_signs (K : PySem.W.Frag) (H : Hp) : ∀ bs : List Nat, DpAll K H (bs.map fun c => V.str (sign c)) (bs.map fun c => PyData.str (sign c))
  | [] => .nil
  | b :: bs => .cons (.str _) (dpAll_signs K H bs)
theorem lay_signs : ∀ {bs : List Nat}, (∀ c ∈ bs, c < 1114112) → PyData.canLayAll0 (bs.map fun c => PyData.str (sign c)) = true ∧ PyData.depthAll (bs.map fun c => PyData.str (sign c)) = 0
  | [], _ => ⟨rfl, rfl⟩
  | b :: bs, h => by
    obtain ⟨h1, h2⟩ := lay_signs fun c hc => h c (List.mem_cons_of_mem _ hc)
    have h3 := h b List.mem_cons_self
    constructor
    · have e : PyData.canLay0 (.str (sign b)) = true := by simp [PyData.canLay0, PyData.strOk, sign, h3]
      rw [List.map_cons, PyData.canLayAll0, e, h1]
      rfl
    · simp [PyData.depthAll, PyData.depth, h2]
theorem shaped_signs {bs : List Nat} (h : ∀ c ∈ bs, c < 1114112) : SeqAt.shaped (.list (bs.map fun c => PyData.str (sign c))) = true := by
  obtain ⟨h1, h2⟩ := lay_signs h
  unfold SeqAt.shaped
  simp [PyData.canLay0, PyData.depth, h1, h2]
def spIsName (K : PySem.W.Frag) : Sp := fun vs H Q _ => ∃ (x : V) (d : PyData), vs = [x] ∧ Dr K H x d ∧ fits d ∧ ∀ H2, Same H H2 → Q (.bl (isNm d)) H2
theorem walk_its (x : Str) : Walk (Its x) x.cps.size (fun _ => True) (YFn fun i => .str ⟨#[(cd x).getD i 0]⟩) :=
  ⟨fun _ _ h _ => h, fun _ _ => Nat.le_refl _, fun i H v H' h _ y => by
    obtain ⟨e, c, hc, rfl⟩ := y
    refine ⟨e, ?_⟩
    have q : (cd x)[i]? = some c := by rw [Array.getElem?_toList]; exact hc
    show V.str ⟨#[c]⟩ = V.str ⟨#[(cd x).getD i 0]⟩
    rw [List.getD_eq_getElem?_getD, q]
    rfl⟩
abbrev sIsName : Stmt := top 23
theorem scIsName : FnScope ["thing", "sign"] ["thing"] (defScope sIsName) := ⟨rfl, rfl, rfl, by decide +kernel, rfl, by decide +kernel, by decide +kernel⟩
theorem ok_isname {f : Addr} {fd : FuncData} (F : Fun K "_law_is_name" "_law_is_name" sIsName f fd) (T : Blt mg) : FnOk P w K mg base CX0 1 f fd ["thing"] (spIsName K) := by
  refine F.ok scIsName (fun vs H Q E h => ?_) (fun cdv A outer s H vs Q E hr h => ?_)
  · obtain ⟨x, d, rfl, _⟩ := h
    rfl
  obtain ⟨x, d, rfl, hx, ft, go⟩ := h
  refine ⟨_, pss_cons (ps_if (PW.pt (pw_or (pt_not (pt_val (pe_callB call_isi (by rfl) T.isinstance (by decide +kernel) (pa_cons (pv 0) (pa_cons (pe_bltn (v := .ty "str") (by rfl) T.str (by decide +kernel) rfl) pa_nil)))))
      (pw_or1 (pt_not (pt_chain op_le op_le pe_int (pe_callB call_len_str (by rfl) T.len PySem.boot_len (pa_cons (pv 0) pa_nil)) pe_int))))) (pss_one (ps_ret pe_bl)) pss_nil)
    (pss_one (ps_ret (pe_cmpR (op_eqD hr.units) (pe_lc (own := [("sign", 1)]) (g := gName 1) (by rfl) scIsName.nd (pi_str (pv 0)) (blkOk_by (own := [("sign", 1)]) (N := ["thing", "sign"]) (sc := defScope sIsName) (by decide +kernel)) (fun _ _ _ _ _ => pg_name (i := 1) scIsName.nd rfl (Or.inl rfl))
      (fun _ _ _ _ _ => pts_one (pt_cmpR op_notIn_sign (pv 1) pe_str (by rfl))) (fun _ _ _ _ _ => pv 1)) (pe_lst pa_nil) (nomark _)))), ?_⟩
  refine ⟨_, rfl, x, _, _, _, isStr d, rfl, .ty "str", hx.ty, kit_str d, _, rfl, ?_⟩
  cases hx with
  | str y =>
    refine iteF ⟨_, rfl, y, rfl, ft.1, _, _, rfl, rfl, _, rfl, ite2 (fun c1 => ⟨_, _, rfl, rfl, _, rfl, ?_⟩) (fun c1 => ⟨_, rfl, iteT ?_⟩)⟩
    · refine ite2 (fun c2 => ?_) (fun c2 => ?_)
      · have e : isNm (.str y) = false := by
          show (decide (1 ≤ y.length ∧ y.length ≤ 8) && _) = false
          rw [decide_eq_false (by simp at c2; omega), Bool.false_and]
        exact e ▸ go H (Same.refl _)
      have len : y.length ≤ 8 := by
        simp at c2
        omega
      have len1 : 1 ≤ y.length := by
        have := of_decide_eq_true c1
        omega
      refine ⟨_, rfl, y, rfl, fun D hD => ?_⟩
      refine lc_it (walk_its y) (fun i H2 => ∃ bs : List Nat, H2 = upd H D (.lst (bs.map fun c => V.str (sign c))) ∧ bs.length ≤ i ∧ (∀ c ∈ bs, c < 1114112) ∧ bs.isEmpty = ((cd y).take i).all fun c => decide (c ∈ cd letters)) ⟨[], rfl, Nat.le_refl _, (fun c h => nomatch h), rfl⟩ (fun _ _ _ _ => trivial) ?_ ?_
      · rintro i x H2 H3 hi ⟨bs, rfl, lb, ok, e⟩ ⟨rfl, rfl⟩
        have hi2 : i < (cd y).length := by simpa using hi
        obtain ⟨c, hc⟩ : ∃ c, (cd y)[i]? = some c := ⟨_, List.getElem?_eq_getElem hi2⟩
        have hg : (cd y).getD i 0 = c := by rw [List.getD_eq_getElem?_getD, hc]; rfl
        refine ⟨rfl, _, rfl, _, letters, rfl, rfl, _, rfl, ?_⟩
        rw [hg]
        refine ite2 (fun c3 => ?_) (fun c3 => ?_)
        · refine ⟨_, rfl, _, upd_same, ?_, bs ++ [c], ?_, ?_, ?_, ?_⟩
          · rw [List.length_map]
            exact small1000 (by rw [len_cd] at len; omega)
          · rw [upd_upd, List.map_append]
            show _ = upd H D (.lst (_ ++ [V.str ⟨#[c]⟩]))
            rw [← hg]
          · rw [List.length_append, List.length_singleton]
            omega
          · intro b hb
            rcases List.mem_append.mp hb with h | h
            · exact ok b h
            · rw [List.mem_singleton.mp h]
              exact ft.2 c (List.mem_of_getElem? hc)
          · rw [take_snoc hc, List.all_append]
            simp at c3
            simp [c3]
        · refine ⟨bs, rfl, by omega, ok, ?_⟩
          rw [take_snoc hc, List.all_append, ← e]
          simp at c3
          simp [c3]
      · rintro H2 ⟨bs, rfl, lb, ok, e⟩
        have e2 : bs.isEmpty = nameB y := by
          rw [e, show y.cps.size = (cd y).length by simp, List.take_length]
          unfold nameB
          rw [decide_eq_true ⟨len1, len⟩, Bool.true_and]
        refine ⟨Nat.zero_le _, fun t ht => ⟨.list (bs.map fun c => .str (sign c)), .list [], ?_, .lst (.of upd_same) .nil, shaped_signs ok, shaped_nil, ?_⟩⟩
        · exact .lst (.of (by rw [upd_ne (ne_of_none upd_same ht)]; exact upd_same)) (dpAll_signs K _ bs)
        · have q : PyData.eqv (.list (bs.map fun c => .str (sign c))) (.list []) = isNm (.str y) := by
            show _ = nameB y
            rw [← e2]
            cases bs <;> simp [PyData.eqv, PyData.eqvAll]
          rw [q]
          exact go _ (same_new (same_upd hD) ht)
    · have e : isNm (.str y) = false := by
        show (decide (1 ≤ y.length ∧ y.length ≤ 8) && _) = false
        rw [decide_eq_false (by simp at c1; omega), Bool.false_and]
      exact e ▸ go H (Same.refl _)
  | non => exact iteT (iteT (go H (Same.refl _)))
  | bl b => exact iteT (iteT (go H (Same.refl _)))
  | int i => exact iteT (iteT (go H (Same.refl _)))
  | lst at_ no all => exact iteT (iteT (go H (Same.refl _)))
  | tup at_ no all => exact iteT (iteT (go H (Same.refl _)))
  | dic at_ => exact iteT (iteT (go H (Same.refl _)))
def risB (zs : List Str) : Bool := (List.range (zs.length - 1)).all fun i => decide (Lt (zs.getD i "") (zs.getD (i + 1) ""))
def txtOf : PyData → Str
  | .str z => z
  | _ => ""
def isAscB : PyData → Bool
  | .tuple ds => ds.all isNm && risB (ds.map txtOf)
  | _ => false
/-- the items are not too long -/
def fits1 : PyData → Prop
  | .tuple ds => ds.length ≤ 1000 ∧ ∀ d ∈ ds, fits d
  | _ => True
def spAsc (K : PySem.W.Frag) : Sp := fun vs H Q _ => ∃ (x : V) (d : PyData), vs = [x] ∧ Dr K H x d ∧ fits1 d ∧ ∀ H2, Same H H2 → Q (.bl (isAscB d)) H2
theorem DrAll.nth {K : PySem.W.Frag} {H : Hp} : ∀ {xs : List V} {ds : List PyData}, DrAll K H xs ds → ∀ {i : Nat} {x : V}, xs[i]? = some x → ∃ d, ds[i]? = some d ∧ Dr K H x d
  | _, _, .nil, i, x, h => by cases h
  | _, _, .cons one more, i, x, h => by
    cases i with
    | zero =>
      cases h
      exact ⟨_, rfl, one⟩
    | succ i => exact DrAll.nth more h
theorem DrAll.len {K : PySem.W.Frag} {H : Hp} : ∀ {xs : List V} {ds : List PyData}, DrAll K H xs ds → xs.length = ds.length
  | _, _, .nil => rfl
  | _, _, .cons _ more => congrArg Nat.succ (DrAll.len more)
theorem walk_zipT {a b : Addr} {xs ys : List V} {n : Nat} (hn : n = min xs.length ys.length) : Walk (RZ.ItzT K a b) n (fun H => SqT K H a xs ∧ SqT K H b ys) (YPair (fun i => xs[i]?) (fun i => ys[i]?)) := by
  subst hn
  refine ⟨fun i H hi q => ?_, fun H q => ⟨xs, ys, q.1, q.2, by omega⟩, fun i H v H' _ q y => ?_⟩
  · have h1 : i < xs.length := by omega
    have h2 : i < ys.length := by omega
    exact ⟨xs, ys, xs[i], ys[i], q.1, q.2, List.getElem?_eq_getElem h1, List.getElem?_eq_getElem h2⟩
  · obtain ⟨t, x, y, e1, e2, e3, f1, f2⟩ := y
    exact ⟨t, x, y, e1, e2, e3, f1 xs q.1, f2 ys q.2⟩
theorem txts_of {K : PySem.W.Frag} {H : Hp} : ∀ {xs : List V} {ds : List PyData}, DrAll K H xs ds → ds.all isNm = true → ∃ zs : List Str, ds.map txtOf = zs ∧ xs = zs.map V.str
  | _, _, .nil, _ => ⟨[], rfl, rfl⟩
  | _, _, .cons one more, h => by
    rw [List.all_cons, Bool.and_eq_true] at h
    obtain ⟨zs, e1, e2⟩ := txts_of more h.2
    cases one with
    | str z => exact ⟨z :: zs, by rw [List.map_cons, e1]; rfl, by rw [e2]; rfl⟩
    | _ => exact absurd h.1 Bool.false_ne_true
theorem cut1 {H H3 : Hp} {zs : List Str} {a : Addr} {R : V → Hp → Prop} (s3 : Same H H3) (ha : SqT K H3 a (zs.map V.str)) (fin : ∀ H4 b, Same H H4 → SqT K H4 b ((zs.drop 1).map V.str) → SqT K H4 a (zs.map V.str) → R (.ref b) H4) :
    (HT.sIx (zs.map V.str).length 0 (some 1) = 0 ∧ HT.sIx (zs.map V.str).length (zs.map V.str).length none = (zs.map V.str).length → R (.ref a) H3) ∧
    (¬ (HT.sIx (zs.map V.str).length 0 (some 1) = 0 ∧ HT.sIx (zs.map V.str).length (zs.map V.str).length none = (zs.map V.str).length) → ∀ p, H3 p = none → R (.ref p) (upd H3 p (.tup (cutV (zs.map V.str) (some 1) none)))) := by
  have e1 : HT.sIx (zs.map V.str).length 0 (some 1) = min 1 (zs.map V.str).length := HT.sIx_nat _ _ 1
  refine ⟨fun h => fin H3 a s3 ?_ ha, fun h p hp => fin _ p (same_new s3 hp) (.of ?_) (Same.sT (same_upd hp) ha)⟩
  · have h := h.1
    rw [e1] at h
    cases zs with
    | nil => exact ha
    | cons z zs =>
      rw [List.map_cons, List.length_cons] at h
      omega
  · rw [upd_same]
    have q : cutV (zs.map V.str) (some 1) none = (zs.drop 1).map V.str := by
      unfold cutV
      rw [e1, HT.sIx_none, List.map_drop]
      cases zs with
      | nil => rfl
      | cons z zs =>
        rw [show min 1 ((z :: zs).map V.str).length = 1 by rw [List.map_cons, List.length_cons]; omega]
        exact List.take_of_length_le (by rw [List.length_drop]; exact Nat.le_refl _)
    rw [q]
theorem ris_take (zs : List Str) : risB zs = ((List.range (zs.length - 1)).all fun i => decide (Lt (zs.getD i "") (zs.getD (i + 1) ""))) := rfl
abbrev sAsc : Stmt := top 33
theorem scAsc : FnScope ["thing", "one", "other"] ["thing"] (defScope sAsc) := ⟨rfl, rfl, rfl, by decide +kernel, rfl, by decide +kernel, by decide +kernel⟩
theorem ok_asc {f fN : Addr} {fd fdN : FuncData} (F : Fun K "_law_are_ascending" "_law_are_ascending" sAsc f fd) (T : Blt mg)
    (FN : FnOk P w K mg base CX0 1 fN fdN ["thing"] (spIsName K)) (gN : mg "_law_is_name" = some (.ref fN)) (kN : PySem.W.keepIn K (.ref fN) = true) (bN : Binds K fdN ["thing"] []) : FnOk P w K mg base CX0 3 f fd ["thing"] (spAsc K) := by
  refine F.ok scAsc (fun vs H Q E h => ?_) (fun cdv A outer s H vs Q E hr h => ?_)
  · obtain ⟨x, d, rfl, _⟩ := h
    rfl
  obtain ⟨x, d, rfl, hx, ft, go⟩ := h
  have hr1 : Room 1 (A.deeper (envOfC "_law_are_ascending" (defScope sAsc) s.heap.objs.size f cdv)) := hr.mono (by decide)
  refine ⟨_, pss_cons (ps_if (PW.pt (pw_or (pt_not (pt_val (pe_callB call_isi (by rfl) T.isinstance (by decide +kernel) (pa_cons (pv 0) (pa_cons (pe_bltn (v := .ty "tuple") (by rfl) T.tuple (by decide +kernel) rfl) pa_nil)))))
      (pw_or1 (pt_cmpR (op_neNil hr.units0) (pe_lc (own := [("one", 1)]) (g := gName 1) (by rfl) scAsc.nd (pi_tup (pv 0)) (blkOk_by (own := [("one", 1)]) (N := ["thing", "one", "other"]) (sc := defScope sAsc) (by decide +kernel)) (fun _ _ _ _ _ => pg_name (i := 1) scAsc.nd rfl (Or.inl rfl))
        (fun _ _ _ _ _ => pts_one (pt_not (pt_val (pe_call FN hr1 (by rfl) gN kN bN .nil pass0 (pa_cons (pv 1) pa_nil))))) (fun _ _ _ _ _ => pv 1)) (pe_lst pa_nil) (nomark _))))) (pss_one (ps_ret pe_bl)) pss_nil)
    (pss_one (ps_ret (pe_cmpR (op_eqNil hr.units0) (pe_lc (own := [("one", 1), ("other", 2)]) (g := gTup K 2 (gCons (gName 1) (gCons (gName 2) gNil))) (by rfl) scAsc.nd (RZ.pi_zipA (by rfl) T.zip (pa_cons (pv 0) (pa_cons (pe_slice sl_tupA (pv 0) (po_some pe_int) po_none) pa_nil))) (blkOk_by (own := [("one", 1), ("other", 2)]) (N := ["thing", "one", "other"]) (sc := defScope sAsc) (by decide +kernel)) (fun _ _ _ _ _ => pg_tup rfl (pgs_cons (pg_name (i := 1) scAsc.nd rfl (Or.inl rfl)) (pgs_cons (pg_name (i := 2) scAsc.nd rfl (Or.inl rfl)) pgs_nil)))
      (fun _ _ _ _ _ => pts_one (pt_not (pt_cmpR op_lt_str (pv 1) (pv 2) (nomark _)))) (fun _ _ _ _ _ => pe_int)) (pe_lst pa_nil) (nomark _)))), ?_⟩
  refine ⟨_, rfl, x, _, _, _, isTup d, rfl, .ty "tuple", hx.ty, kit_tuple d, _, rfl, ?_⟩
  cases hx with
  | non => exact iteT (iteT (go H (Same.refl _)))
  | bl b => exact iteT (iteT (go H (Same.refl _)))
  | int i => exact iteT (iteT (go H (Same.refl _)))
  | str y => exact iteT (iteT (go H (Same.refl _)))
  | lst at_ no all => exact iteT (iteT (go H (Same.refl _)))
  | dic at_ => exact iteT (iteT (go H (Same.refl _)))
  | @tup a xs ds at_ no all =>
    refine iteF ?_
    refine ⟨_, rfl, a, rfl, ⟨_, .inl at_⟩, fun D hD => ?_⟩
    refine lc_tup (K := K) (a := a) (xs := xs) (fun i H2 => Same H H2 ∧ ∃ ys : List V, H2 D = some (.lst ys) ∧ ys.length ≤ i ∧ ys.isEmpty = (ds.take i).all isNm) ⟨same_upd hD, [], upd_same, Nat.le_refl _, rfl⟩ (fun i H2 _ q => Same.sT q.1 (.inl at_)) ?_ ?_
    · rintro i x H2 hx ⟨s2, ys, hy, ly, e⟩
      obtain ⟨d, hd, hxd⟩ := all.nth hx
      have hi : i < ds.length := (List.getElem?_eq_some_iff.mp hd).1
      refine ⟨rfl, _, rfl, x, d, rfl, Dr.same s2 hxd, ft.2 d (List.mem_of_getElem? hd), fun H3 s3 => ⟨_, rfl, ?_⟩⟩
      refine ite2 (fun c => ?_) (fun c => ?_)
      · refine ⟨_, rfl, ys, s3 _ _ hy, ?_, same_off (s2.trans s3) hD, ys ++ [x], upd_same, ?_, ?_⟩
        · have big : (2000 : Nat) ≤ sizeLine := by decide
          have q := ft.1
          omega
        · rw [List.length_append, List.length_singleton]
          omega
        · rw [take_snoc hd, List.all_append]
          simp at c
          simp [c]
      · refine ⟨s2.trans s3, ys, s3 _ _ hy, by omega, ?_⟩
        rw [take_snoc hd, List.all_append, ← e]
        simp at c
        simp [c]
    · rintro H2 ⟨s2, ys, hy, ly, e⟩
      rw [all.len, List.take_length] at e
      refine ⟨Nat.zero_le _, fun t ht => ⟨D, t, ys, rfl, rfl, .of (by rw [upd_ne (ne_of_none hy ht)]; exact hy), .of upd_same, _, rfl, ?_⟩⟩
      have s3 : Same H (upd H2 t (.lst [])) := same_new s2 ht
      refine ite2 (fun c => ?_) (fun c => ?_)
      · have q : isAscB (.tuple ds) = false := by
          show (ds.all isNm && _) = false
          rw [← e]
          simp at c
          simp [c]
        exact q ▸ go _ s3
      generalize upd H2 t (.lst []) = H3 at s3
      have nm : ds.all isNm = true := by
        rw [← e]
        simp at c
        simp [c]
      obtain ⟨zs, ez, ex⟩ := txts_of all nm
      rw [ex] at at_
      have ha3 : SqT K H3 a (zs.map V.str) := Same.sT s3 (.inl at_)
      have z1000 : zs.length ≤ 1000 := by
        rw [← ez, List.length_map]
        exact ft.1
      refine ⟨_, rfl, _, rfl, 1, rfl, a, zs.map V.str, rfl, ha3, fun c => ?_, fun c p hp => ?_⟩
      · have hb : SqT K H3 a ((zs.drop 1).map V.str) := (cut1 (R := fun v H4 => ∃ b, v = .ref b ∧ SqT K H4 b ((zs.drop 1).map V.str)) s3 ha3 (fun H4 b _ hb _ => ⟨b, rfl, hb⟩)).1 c |>.elim fun b q => by
          cases q.1
          exact q.2
        have ha := ha3
        have s4 := s3
        obtain ⟨H4, rfl⟩ : ∃ H4, H4 = H3 := ⟨_, rfl⟩
        refine ⟨_, _, zs.map V.str, (zs.drop 1).map V.str, rfl, .inr ⟨ha, hb, fun D2 hD2 => ?_⟩⟩
        refine lc_it (walk_zipT (n := zs.length - 1) (xs := zs.map V.str) (ys := (zs.drop 1).map V.str) (by rw [List.length_map, List.length_map, List.length_drop]; omega))
          (fun i H5 => Same H4 H5 ∧ ∃ n : Nat, H5 D2 = some (.lst (List.replicate n (V.int 1))) ∧ n ≤ i ∧ (n == 0) = ((List.range i).all fun i => decide (Lt (zs.getD i "") (zs.getD (i + 1) "")))) ⟨same_upd hD2, 0, upd_same, Nat.le_refl _, rfl⟩ (fun i H5 _ q => ⟨Same.sT q.1 ha, Same.sT q.1 hb⟩) ?_ ?_
        · rintro i x H5 H6 hi ⟨s5, n, hn, ln, e5⟩ ⟨T, u, v, rfl, hT, rfl, hu, hv⟩
          obtain ⟨z1, rfl, hz1⟩ := str_nth hu
          obtain ⟨z2, rfl, hz2⟩ := str_nth hv
          have g1 : zs.getD i "" = z1 := by rw [List.getD_eq_getElem?_getD, hz1]; rfl
          have g2 : zs.getD (i + 1) "" = z2 := by
            rw [List.getElem?_drop, Nat.add_comm] at hz2
            rw [List.getD_eq_getElem?_getD, hz2]
            rfl
          have s6 : Same H4 (upd H5 T (.tup [.str z1, .str z2])) := same_new s5 hT
          refine ⟨T, _, rfl, .of upd_same, rfl, _, _, rfl, _, _, rfl, rfl, rfl, _, rfl, _, rfl, z1, z2, rfl, rfl, _, rfl, ?_⟩
          refine ite2 (fun c => ?_) (fun c => ?_)
          · refine ⟨_, by rw [upd_ne (ne_of_none hn hT)]; exact hn, ?_, same_off s6 hD2, n + 1, ?_, ?_, ?_⟩
            · have big : (2000 : Nat) ≤ sizeLine := by decide
              rw [List.length_replicate]
              omega
            · rw [upd_same, List.replicate_succ']
            · omega
            · rw [List.range_succ, List.all_append, List.all_cons, List.all_nil, g1, g2]
              have c2 : decide (Lt z1 z2) = false := by simpa using c
              rw [c2]
              simp
          · refine ⟨s6, n, by rw [upd_ne (ne_of_none hn hT)]; exact hn, by omega, ?_⟩
            rw [List.range_succ, List.all_append, List.all_cons, List.all_nil, g1, g2, ← e5]
            have c2 : decide (Lt z1 z2) = true := by simpa using c
            rw [c2]
            simp
        · rintro H5 ⟨s5, n, hn, ln, e5⟩
          refine ⟨Nat.zero_le _, fun t2 ht2 => ⟨D2, t2, _, rfl, rfl, .of (by rw [upd_ne (ne_of_none hn ht2)]; exact hn), .of upd_same, ?_⟩⟩
          have q : (if (false : Bool) = true then !(List.replicate n (V.int 1)).isEmpty else (List.replicate n (V.int 1)).isEmpty) = isAscB (.tuple ds) := by
            show _ = (ds.all isNm && risB (ds.map txtOf))
            rw [nm, ez, Bool.true_and, ris_take, ← e5]
            cases n <;> simp
          rw [q]
          exact go _ (same_new (s4.trans s5) ht2)
      · have hb : SqT K (upd H3 p (.tup (cutV (zs.map V.str) (some 1) none))) p ((zs.drop 1).map V.str) := (cut1 (R := fun v H4 => ∃ b, v = .ref b ∧ SqT K H4 b ((zs.drop 1).map V.str)) s3 ha3 (fun H4 b _ hb _ => ⟨b, rfl, hb⟩)).2 c p hp |>.elim fun b q => by
          cases q.1
          exact q.2
        have ha : SqT K (upd H3 p (.tup (cutV (zs.map V.str) (some 1) none))) a (zs.map V.str) := Same.sT (same_upd hp) ha3
        have s4 : Same H (upd H3 p (.tup (cutV (zs.map V.str) (some 1) none))) := same_new s3 hp
        obtain ⟨H4, e4⟩ : ∃ H4, H4 = upd H3 p (.tup (cutV (zs.map V.str) (some 1) none)) := ⟨_, rfl⟩
        rw [← e4] at hb ha s4 ⊢
        refine ⟨_, _, zs.map V.str, (zs.drop 1).map V.str, rfl, .inr ⟨ha, hb, fun D2 hD2 => ?_⟩⟩
        refine lc_it (walk_zipT (n := zs.length - 1) (xs := zs.map V.str) (ys := (zs.drop 1).map V.str) (by rw [List.length_map, List.length_map, List.length_drop]; omega))
          (fun i H5 => Same H4 H5 ∧ ∃ n : Nat, H5 D2 = some (.lst (List.replicate n (V.int 1))) ∧ n ≤ i ∧ (n == 0) = ((List.range i).all fun i => decide (Lt (zs.getD i "") (zs.getD (i + 1) "")))) ⟨same_upd hD2, 0, upd_same, Nat.le_refl _, rfl⟩ (fun i H5 _ q => ⟨Same.sT q.1 ha, Same.sT q.1 hb⟩) ?_ ?_
        · rintro i x H5 H6 hi ⟨s5, n, hn, ln, e5⟩ ⟨T, u, v, rfl, hT, rfl, hu, hv⟩
          obtain ⟨z1, rfl, hz1⟩ := str_nth hu
          obtain ⟨z2, rfl, hz2⟩ := str_nth hv
          have g1 : zs.getD i "" = z1 := by rw [List.getD_eq_getElem?_getD, hz1]; rfl
          have g2 : zs.getD (i + 1) "" = z2 := by
            rw [List.getElem?_drop, Nat.add_comm] at hz2
            rw [List.getD_eq_getElem?_getD, hz2]
            rfl
          have s6 : Same H4 (upd H5 T (.tup [.str z1, .str z2])) := same_new s5 hT
          refine ⟨T, _, rfl, .of upd_same, rfl, _, _, rfl, _, _, rfl, rfl, rfl, _, rfl, _, rfl, z1, z2, rfl, rfl, _, rfl, ?_⟩
          refine ite2 (fun c => ?_) (fun c => ?_)
          · refine ⟨_, by rw [upd_ne (ne_of_none hn hT)]; exact hn, ?_, same_off s6 hD2, n + 1, ?_, ?_, ?_⟩
            · have big : (2000 : Nat) ≤ sizeLine := by decide
              rw [List.length_replicate]
              omega
            · rw [upd_same, List.replicate_succ']
            · omega
            · rw [List.range_succ, List.all_append, List.all_cons, List.all_nil, g1, g2]
              have c2 : decide (Lt z1 z2) = false := by simpa using c
              rw [c2]
              simp
          · refine ⟨s6, n, by rw [upd_ne (ne_of_none hn hT)]; exact hn, by omega, ?_⟩
            rw [List.range_succ, List.all_append, List.all_cons, List.all_nil, g1, g2, ← e5]
            have c2 : decide (Lt z1 z2) = true := by simpa using c
            rw [c2]
            simp
        · rintro H5 ⟨s5, n, hn, ln, e5⟩
          refine ⟨Nat.zero_le _, fun t2 ht2 => ⟨D2, t2, _, rfl, rfl, .of (by rw [upd_ne (ne_of_none hn ht2)]; exact hn), .of upd_same, ?_⟩⟩
          have q : (if (false : Bool) = true then !(List.replicate n (V.int 1)).isEmpty else (List.replicate n (V.int 1)).isEmpty) = isAscB (.tuple ds) := by
            show _ = (ds.all isNm && risB (ds.map txtOf))
            rw [nm, ez, Bool.true_and, ris_take, ← e5]
            cases n <;> simp
          rw [q]
          exact go _ (same_new (s4.trans s5) ht2)
abbrev sOdd : Stmt := top 24
def oddD : List PyData := [.none, .int 0, .int 1, .int 2, .int 9, .int (-1), .int 10, .int (-10), .bool true, .bool false, .str "", .str "a", .str "abcdefghi", .str "A", .str "all", .str "not", .tuple [], .tuple [.tuple []], .tuple [.str "a", .int 0],
  .list [], .dict [], .int (10 ^ 30), .tuple [.str "all", .tuple []], .tuple [.str "step", .tuple [], .str "a"], .str "a1", .tuple [.none], .tuple [.int 0], .tuple [.str "a"], .tuple [.str "a", .str "b"]]
/-- a thing of any kind -/
def spOdd (K : PySem.W.Frag) : Sp := fun vs H Q _ => ∃ (G : Hp) (p : Addr) (B : Int), vs = [.ref p] ∧ MOk G H p B ∧ B < 1000000000 ∧
  ∀ (G2 H2 : Hp) (x : V) (d : PyData), MOk G2 H2 p (B + 1) → Same G G2 → Dr K G2 x d → d ∈ oddD → Q x H2
theorem scOdd : FnScope ["m", "some"] ["m"] (defScope sOdd) := ⟨rfl, rfl, rfl, by decide +kernel, rfl, by decide +kernel, by decide +kernel⟩
theorem ok_odd {f fN : Addr} {fd fdN : FuncData} (F : Fun K "_law_odd" "_law_odd" sOdd f fd) (T : Blt mg)
    (FN : FnOk P w K mg base CX0 1 fN fdN ["m", "many"] spNext) (gN : mg "_law_next" = some (.ref fN)) (kN : PySem.W.keepIn K (.ref fN) = true) (bN : Binds K fdN ["m", "many"] []) : FnOk P w K mg base CX0 2 f fd ["m"] (spOdd K) := by
  refine F.ok scOdd (fun vs H Q E h => ?_) (fun cdv A outer s H vs Q E hr h => ?_)
  · obtain ⟨G, p, B, rfl, _⟩ := h
    rfl
  obtain ⟨G, p, B, rfl, M, hB, go⟩ := h
  refine ⟨_, pss_cons (ps_set (i := 1) scOdd.nd rfl (Or.inl rfl) (pe_lst (pa_cons pe_non (pa_cons pe_int (pa_cons pe_int (pa_cons pe_int (pa_cons pe_int (pa_cons (pe_un un_neg pe_int) (pa_cons pe_int (pa_cons (pe_un un_neg pe_int) (pa_cons pe_bl (pa_cons pe_bl (pa_cons pe_str (pa_cons pe_str (pa_cons pe_str (pa_cons pe_str (pa_cons pe_str (pa_cons pe_str (pa_cons (pe_tup pa_nil) (pa_cons (pe_tup (pa_cons (pe_tup pa_nil) pa_nil)) (pa_cons (pe_tup (pa_cons pe_str (pa_cons pe_int pa_nil))) pa_nil)))))))))))))))))))))
    (pss_cons (ps_set (i := 1) scOdd.nd rfl (Or.inl rfl) (pe_op op_cat (pv 1) (pe_lst (pa_cons (pe_lst pa_nil) (pa_cons pe_dnewK (pa_cons (pe_op op_pow pe_int pe_int) (pa_cons (pe_tup (pa_cons pe_str (pa_cons (pe_tup pa_nil) pa_nil))) (pa_cons (pe_tup (pa_cons pe_str (pa_cons (pe_tup pa_nil) (pa_cons pe_str pa_nil)))) (pa_cons pe_str (pa_cons (pe_tup (pa_cons pe_non pa_nil)) (pa_cons (pe_tup (pa_cons pe_int pa_nil)) (pa_cons (pe_tup (pa_cons pe_str pa_nil)) (pa_cons (pe_tup (pa_cons pe_str (pa_cons pe_str pa_nil))) pa_nil)))))))))))))
    (pss_one (ps_ret (pe_ix ix_list (pv 1) (pe_call FN hr (by rfl) gN kN bN .nil pass0 (pa_cons (pv 0) (pa_cons pe_int pa_nil))) (fun _ _ => rfl))))), ?_⟩
  refine ⟨1, rfl, 10, rfl, Nat.zero_le _, fun t1 h1 => ?_⟩
  have M1 := M.new (o := .tup []) h1
  have s1 : Same G (upd G t1 (.tup [])) := same_upd (M.same.free h1)
  have u1 : (upd G t1 (.tup [])) t1 = some (.tup []) := upd_same
  generalize upd G t1 (.tup []) = G1 at M1 s1 u1
  generalize upd H t1 (.tup []) = H1 at M1 ⊢
  refine ⟨Nat.zero_le _, fun t2 h2 => ?_⟩
  have M2 := M1.new (o := .tup []) h2
  have s2 : Same G1 (upd G1 t2 (.tup [])) := same_upd (M1.same.free h2)
  have u2 : (upd G1 t2 (.tup [])) t2 = some (.tup []) := upd_same
  generalize upd G1 t2 (.tup []) = G2 at M2 s2 u2
  generalize upd H1 t2 (.tup []) = H2 at M2 ⊢
  refine ⟨(by show 1 ≤ sizeLine; decide), fun t3 h3 => ?_⟩
  have M3 := M2.new (o := .tup [.ref t2]) h3
  have s3 : Same G2 (upd G2 t3 (.tup [.ref t2])) := same_upd (M2.same.free h3)
  have u3 : (upd G2 t3 (.tup [.ref t2])) t3 = some (.tup [.ref t2]) := upd_same
  generalize upd G2 t3 (.tup [.ref t2]) = G3 at M3 s3 u3
  generalize upd H2 t3 (.tup [.ref t2]) = H3 at M3 ⊢
  refine ⟨(by show 2 ≤ sizeLine; decide), fun t4 h4 => ?_⟩
  have M4 := M3.new (o := .tup [.str "a", .int 0]) h4
  have s4 : Same G3 (upd G3 t4 (.tup [.str "a", .int 0])) := same_upd (M3.same.free h4)
  have u4 : (upd G3 t4 (.tup [.str "a", .int 0])) t4 = some (.tup [.str "a", .int 0]) := upd_same
  generalize upd G3 t4 (.tup [.str "a", .int 0]) = G4 at M4 s4 u4
  generalize upd H3 t4 (.tup [.str "a", .int 0]) = H4 at M4 ⊢
  refine ⟨(by show 19 ≤ sizeLine; decide), fun l1 h5 => ?_⟩
  have M5 := M4.new (o := .lst [V.non, .int 0, .int 1, .int 2, .int 9, .int (-1), .int 10, .int (-10), .bl true, .bl false, .str "", .str "a", .str "abcdefghi", .str "A", .str "all", .str "not", .ref t1, .ref t3, .ref t4]) h5
  have s5 : Same G4 (upd G4 l1 (.lst [V.non, .int 0, .int 1, .int 2, .int 9, .int (-1), .int 10, .int (-10), .bl true, .bl false, .str "", .str "a", .str "abcdefghi", .str "A", .str "all", .str "not", .ref t1, .ref t3, .ref t4])) := same_upd (M4.same.free h5)
  have u5 : (upd G4 l1 (.lst [V.non, .int 0, .int 1, .int 2, .int 9, .int (-1), .int 10, .int (-10), .bl true, .bl false, .str "", .str "a", .str "abcdefghi", .str "A", .str "all", .str "not", .ref t1, .ref t3, .ref t4])) l1 = some (.lst [V.non, .int 0, .int 1, .int 2, .int 9, .int (-1), .int 10, .int (-10), .bl true, .bl false, .str "", .str "a", .str "abcdefghi", .str "A", .str "all", .str "not", .ref t1, .ref t3, .ref t4]) := upd_same
  generalize upd G4 l1 (.lst [V.non, .int 0, .int 1, .int 2, .int 9, .int (-1), .int 10, .int (-10), .bl true, .bl false, .str "", .str "a", .str "abcdefghi", .str "A", .str "all", .str "not", .ref t1, .ref t3, .ref t4]) = G5 at M5 s5 u5
  generalize upd H4 l1 (.lst [V.non, .int 0, .int 1, .int 2, .int 9, .int (-1), .int 10, .int (-10), .bl true, .bl false, .str "", .str "a", .str "abcdefghi", .str "A", .str "all", .str "not", .ref t1, .ref t3, .ref t4]) = H5 at M5 ⊢
  refine ⟨_, rfl, Nat.zero_le _, fun t5 h6 => ?_⟩
  have M6 := M5.new (o := .lst []) h6
  have s6 : Same G5 (upd G5 t5 (.lst [])) := same_upd (M5.same.free h6)
  have u6 : (upd G5 t5 (.lst [])) t5 = some (.lst []) := upd_same
  generalize upd G5 t5 (.lst []) = G6 at M6 s6 u6
  generalize upd H5 t5 (.lst []) = H6 at M6 ⊢
  intro t6 h7
  have M7 := M6.new (o := .dK []) h7
  have s7 : Same G6 (upd G6 t6 (.dK [])) := same_upd (M6.same.free h7)
  have u7 : (upd G6 t6 (.dK [])) t6 = some (.dK []) := upd_same
  generalize upd G6 t6 (.dK []) = G7 at M7 s7 u7
  generalize upd H6 t6 (.dK []) = H7 at M7 ⊢
  refine ⟨10, 30, rfl, rfl, ⟨by decide, by decide, by decide⟩, Nat.zero_le _, fun t7 h8 => ?_⟩
  have M8 := M7.new (o := .tup []) h8
  have s8 : Same G7 (upd G7 t7 (.tup [])) := same_upd (M7.same.free h8)
  have u8 : (upd G7 t7 (.tup [])) t7 = some (.tup []) := upd_same
  generalize upd G7 t7 (.tup []) = G8 at M8 s8 u8
  generalize upd H7 t7 (.tup []) = H8 at M8 ⊢
  refine ⟨(by show 2 ≤ sizeLine; decide), fun t8 h9 => ?_⟩
  have M9 := M8.new (o := .tup [.str "all", .ref t7]) h9
  have s9 : Same G8 (upd G8 t8 (.tup [.str "all", .ref t7])) := same_upd (M8.same.free h9)
  have u9 : (upd G8 t8 (.tup [.str "all", .ref t7])) t8 = some (.tup [.str "all", .ref t7]) := upd_same
  generalize upd G8 t8 (.tup [.str "all", .ref t7]) = G9 at M9 s9 u9
  generalize upd H8 t8 (.tup [.str "all", .ref t7]) = H9 at M9 ⊢
  refine ⟨Nat.zero_le _, fun t9 h10 => ?_⟩
  have M10 := M9.new (o := .tup []) h10
  have s10 : Same G9 (upd G9 t9 (.tup [])) := same_upd (M9.same.free h10)
  have u10 : (upd G9 t9 (.tup [])) t9 = some (.tup []) := upd_same
  generalize upd G9 t9 (.tup []) = G10 at M10 s10 u10
  generalize upd H9 t9 (.tup []) = H10 at M10 ⊢
  refine ⟨(by show 3 ≤ sizeLine; decide), fun t10 h11 => ?_⟩
  have M11 := M10.new (o := .tup [.str "step", .ref t9, .str "a"]) h11
  have s11 : Same G10 (upd G10 t10 (.tup [.str "step", .ref t9, .str "a"])) := same_upd (M10.same.free h11)
  have u11 : (upd G10 t10 (.tup [.str "step", .ref t9, .str "a"])) t10 = some (.tup [.str "step", .ref t9, .str "a"]) := upd_same
  generalize upd G10 t10 (.tup [.str "step", .ref t9, .str "a"]) = G11 at M11 s11 u11
  generalize upd H10 t10 (.tup [.str "step", .ref t9, .str "a"]) = H11 at M11 ⊢
  refine ⟨(by show 1 ≤ sizeLine; decide), fun t11 h12 => ?_⟩
  have M12 := M11.new (o := .tup [.non]) h12
  have s12 : Same G11 (upd G11 t11 (.tup [.non])) := same_upd (M11.same.free h12)
  have u12 : (upd G11 t11 (.tup [.non])) t11 = some (.tup [.non]) := upd_same
  generalize upd G11 t11 (.tup [.non]) = G12 at M12 s12 u12
  generalize upd H11 t11 (.tup [.non]) = H12 at M12 ⊢
  refine ⟨(by show 1 ≤ sizeLine; decide), fun t12 h13 => ?_⟩
  have M13 := M12.new (o := .tup [.int 0]) h13
  have s13 : Same G12 (upd G12 t12 (.tup [.int 0])) := same_upd (M12.same.free h13)
  have u13 : (upd G12 t12 (.tup [.int 0])) t12 = some (.tup [.int 0]) := upd_same
  generalize upd G12 t12 (.tup [.int 0]) = G13 at M13 s13 u13
  generalize upd H12 t12 (.tup [.int 0]) = H13 at M13 ⊢
  refine ⟨(by show 1 ≤ sizeLine; decide), fun t13 h14 => ?_⟩
  have M14 := M13.new (o := .tup [.str "a"]) h14
  have s14 : Same G13 (upd G13 t13 (.tup [.str "a"])) := same_upd (M13.same.free h14)
  have u14 : (upd G13 t13 (.tup [.str "a"])) t13 = some (.tup [.str "a"]) := upd_same
  generalize upd G13 t13 (.tup [.str "a"]) = G14 at M14 s14 u14
  generalize upd H13 t13 (.tup [.str "a"]) = H14 at M14 ⊢
  refine ⟨(by show 2 ≤ sizeLine; decide), fun t14 h15 => ?_⟩
  have M15 := M14.new (o := .tup [.str "a", .str "b"]) h15
  have s15 : Same G14 (upd G14 t14 (.tup [.str "a", .str "b"])) := same_upd (M14.same.free h15)
  have u15 : (upd G14 t14 (.tup [.str "a", .str "b"])) t14 = some (.tup [.str "a", .str "b"]) := upd_same
  generalize upd G14 t14 (.tup [.str "a", .str "b"]) = G15 at M15 s15 u15
  generalize upd H14 t14 (.tup [.str "a", .str "b"]) = H15 at M15 ⊢
  refine ⟨(by show 10 ≤ sizeLine; decide), fun l2 h16 => ?_⟩
  have M16 := M15.new (o := .lst [V.ref t5, .ref t6, (fun i j : Int => V.int (i ^ j.toNat)) 10 30, .ref t8, .ref t10, .str "a1", .ref t11, .ref t12, .ref t13, .ref t14]) h16
  have s16 : Same G15 (upd G15 l2 (.lst [V.ref t5, .ref t6, (fun i j : Int => V.int (i ^ j.toNat)) 10 30, .ref t8, .ref t10, .str "a1", .ref t11, .ref t12, .ref t13, .ref t14])) := same_upd (M15.same.free h16)
  have u16 : (upd G15 l2 (.lst [V.ref t5, .ref t6, (fun i j : Int => V.int (i ^ j.toNat)) 10 30, .ref t8, .ref t10, .str "a1", .ref t11, .ref t12, .ref t13, .ref t14])) l2 = some (.lst [V.ref t5, .ref t6, (fun i j : Int => V.int (i ^ j.toNat)) 10 30, .ref t8, .ref t10, .str "a1", .ref t11, .ref t12, .ref t13, .ref t14]) := upd_same
  generalize upd G15 l2 (.lst [V.ref t5, .ref t6, (fun i j : Int => V.int (i ^ j.toNat)) 10 30, .ref t8, .ref t10, .str "a1", .ref t11, .ref t12, .ref t13, .ref t14]) = G16 at M16 s16 u16
  generalize upd H15 l2 (.lst [V.ref t5, .ref t6, (fun i j : Int => V.int (i ^ j.toNat)) 10 30, .ref t8, .ref t10, .str "a1", .ref t11, .ref t12, .ref t13, .ref t14]) = H16 at M16 ⊢
  have s6_16 : Same G5 G16 := s6.trans (s7.trans (s8.trans (s9.trans (s10.trans (s11.trans (s12.trans (s13.trans (s14.trans (s15.trans (s16))))))))))
  refine ⟨l1, l2, _, _, rfl, rfl, M16.same _ _ (s6_16 _ _ u5), M16.same _ _ u16, (by show 29 ≤ sizeLine; decide), fun l3 h17 => ?_⟩
  have M17 := M16.new (o := .lst ([V.non, .int 0, .int 1, .int 2, .int 9, .int (-1), .int 10, .int (-10), .bl true, .bl false, .str "", .str "a", .str "abcdefghi", .str "A", .str "all", .str "not", .ref t1, .ref t3, .ref t4] ++ [V.ref t5, .ref t6, (fun i j : Int => V.int (i ^ j.toNat)) 10 30, .ref t8, .ref t10, .str "a1", .ref t11, .ref t12, .ref t13, .ref t14])) h17
  have s17 : Same G16 (upd G16 l3 (.lst ([V.non, .int 0, .int 1, .int 2, .int 9, .int (-1), .int 10, .int (-10), .bl true, .bl false, .str "", .str "a", .str "abcdefghi", .str "A", .str "all", .str "not", .ref t1, .ref t3, .ref t4] ++ [V.ref t5, .ref t6, (fun i j : Int => V.int (i ^ j.toNat)) 10 30, .ref t8, .ref t10, .str "a1", .ref t11, .ref t12, .ref t13, .ref t14]))) := same_upd (M16.same.free h17)
  have u17 : (upd G16 l3 (.lst ([V.non, .int 0, .int 1, .int 2, .int 9, .int (-1), .int 10, .int (-10), .bl true, .bl false, .str "", .str "a", .str "abcdefghi", .str "A", .str "all", .str "not", .ref t1, .ref t3, .ref t4] ++ [V.ref t5, .ref t6, (fun i j : Int => V.int (i ^ j.toNat)) 10 30, .ref t8, .ref t10, .str "a1", .ref t11, .ref t12, .ref t13, .ref t14]))) l3 = some (.lst ([V.non, .int 0, .int 1, .int 2, .int 9, .int (-1), .int 10, .int (-10), .bl true, .bl false, .str "", .str "a", .str "abcdefghi", .str "A", .str "all", .str "not", .ref t1, .ref t3, .ref t4] ++ [V.ref t5, .ref t6, (fun i j : Int => V.int (i ^ j.toNat)) 10 30, .ref t8, .ref t10, .str "a1", .ref t11, .ref t12, .ref t13, .ref t14])) := upd_same
  generalize upd G16 l3 (.lst ([V.non, .int 0, .int 1, .int 2, .int 9, .int (-1), .int 10, .int (-10), .bl true, .bl false, .str "", .str "a", .str "abcdefghi", .str "A", .str "all", .str "not", .ref t1, .ref t3, .ref t4] ++ [V.ref t5, .ref t6, (fun i j : Int => V.int (i ^ j.toNat)) 10 30, .ref t8, .ref t10, .str "a1", .ref t11, .ref t12, .ref t13, .ref t14])) = G17 at M17 s17 u17
  generalize upd H16 l3 (.lst ([V.non, .int 0, .int 1, .int 2, .int 9, .int (-1), .int 10, .int (-10), .bl true, .bl false, .str "", .str "a", .str "abcdefghi", .str "A", .str "all", .str "not", .ref t1, .ref t3, .ref t4] ++ [V.ref t5, .ref t6, (fun i j : Int => V.int (i ^ j.toNat)) 10 30, .ref t8, .ref t10, .str "a1", .ref t11, .ref t12, .ref t13, .ref t14])) = H17 at M17 ⊢
  have f17 : Same G17 G17 := Same.refl _
  have f16 : Same G16 G17 := s17.trans f17
  have f15 : Same G15 G17 := s16.trans f16
  have f14 : Same G14 G17 := s15.trans f15
  have f13 : Same G13 G17 := s14.trans f14
  have f12 : Same G12 G17 := s13.trans f13
  have f11 : Same G11 G17 := s12.trans f12
  have f10 : Same G10 G17 := s11.trans f11
  have f9 : Same G9 G17 := s10.trans f10
  have f8 : Same G8 G17 := s9.trans f9
  have f7 : Same G7 G17 := s8.trans f8
  have f6 : Same G6 G17 := s7.trans f7
  have f5 : Same G5 G17 := s6.trans f6
  have f4 : Same G4 G17 := s5.trans f5
  have f3 : Same G3 G17 := s4.trans f4
  have f2 : Same G2 G17 := s3.trans f3
  have f1 : Same G1 G17 := s2.trans f2
  have f0 : Same G G17 := s1.trans f1
  have all : DrAll K G17 ([V.non, .int 0, .int 1, .int 2, .int 9, .int (-1), .int 10, .int (-10), .bl true, .bl false, .str "", .str "a", .str "abcdefghi", .str "A", .str "all", .str "not", .ref t1, .ref t3, .ref t4] ++ [V.ref t5, .ref t6, (fun i j : Int => V.int (i ^ j.toNat)) 10 30, .ref t8, .ref t10, .str "a1", .ref t11, .ref t12, .ref t13, .ref t14]) oddD := (.cons .non (.cons (.int _) (.cons (.int _) (.cons (.int _) (.cons (.int _) (.cons (.int _) (.cons (.int _) (.cons (.int _) (.cons (.bl _) (.cons (.bl _) (.cons (.str _) (.cons (.str _) (.cons (.str _) (.cons (.str _) (.cons (.str _) (.cons (.str _) (.cons (.tup (Rd.of (f1 _ _ u1)) rfl .nil) (.cons (.tup (Rd.of (f3 _ _ u3)) rfl (.cons (.tup (Rd.of (f2 _ _ u2)) rfl .nil) .nil)) (.cons (.tup (Rd.of (f4 _ _ u4)) rfl (.cons (.str _) (.cons (.int _) .nil))) (.cons (.lst (Rd.of (f6 _ _ u6)) rfl .nil) (.cons (.dic (f7 _ _ u7)) (.cons (.int _) (.cons (.tup (Rd.of (f9 _ _ u9)) rfl (.cons (.str _) (.cons (.tup (Rd.of (f8 _ _ u8)) rfl .nil) .nil))) (.cons (.tup (Rd.of (f11 _ _ u11)) rfl (.cons (.str _) (.cons (.tup (Rd.of (f10 _ _ u10)) rfl .nil) (.cons (.str _) .nil)))) (.cons (.str _) (.cons (.tup (Rd.of (f12 _ _ u12)) rfl (.cons .non .nil)) (.cons (.tup (Rd.of (f13 _ _ u13)) rfl (.cons (.int _) .nil)) (.cons (.tup (Rd.of (f14 _ _ u14)) rfl (.cons (.str _) .nil)) (.cons (.tup (Rd.of (f15 _ _ u15)) rfl (.cons (.str _) (.cons (.str _) .nil))) .nil)))))))))))))))))))))))))))))
  refine ⟨_, rfl, _, rfl, G17, p, 29, B, rfl, M17, by decide, by decide, by omega, fun H18 r M18 r0 r1 => ?_⟩
  obtain ⟨r, rfl⟩ := Int.eq_ofNat_of_zero_le r0
  have len : ([V.non, .int 0, .int 1, .int 2, .int 9, .int (-1), .int 10, .int (-10), .bl true, .bl false, .str "", .str "a", .str "abcdefghi", .str "A", .str "all", .str "not", .ref t1, .ref t3, .ref t4] ++ [V.ref t5, .ref t6, (fun i j : Int => V.int (i ^ j.toNat)) 10 30, .ref t8, .ref t10, .str "a1", .ref t11, .ref t12, .ref t13, .ref t14]).length = 29 := rfl
  generalize [V.non, .int 0, .int 1, .int 2, .int 9, .int (-1), .int 10, .int (-10), .bl true, .bl false, .str "", .str "a", .str "abcdefghi", .str "A", .str "all", .str "not", .ref t1, .ref t3, .ref t4] ++ [V.ref t5, .ref t6, (fun i j : Int => V.int (i ^ j.toNat)) 10 30, .ref t8, .ref t10, .str "a1", .ref t11, .ref t12, .ref t13, .ref t14] = xs at u17 all len
  have lt : r < xs.length := by omega
  have hx : xs[r]? = some xs[r] := List.getElem?_eq_getElem lt
  obtain ⟨d, hd, hxd⟩ := all.nth hx
  exact ⟨l3, xs, r, xs[r], rfl, rfl, .of (M18.same _ _ u17), atI_nat hx, go G17 H18 _ d M18 f0 hxd (List.mem_of_getElem? hd)⟩
abbrev sRise : Stmt := top 7
/-- whether texts ascend -/
def spRise (K : PySem.W.Frag) : Sp := fun vs H Q _ => ∃ (a : Addr) (zs : List Str), vs = [.ref a] ∧ SqT K H a (zs.map V.str) ∧ zs.length ≤ 1000 ∧ ∀ H2, Same H H2 → Q (.bl (risB zs)) H2
theorem scRise : FnScope ["words", "one", "other"] ["words"] (defScope sRise) := ⟨rfl, rfl, rfl, by decide +kernel, rfl, by decide +kernel, by decide +kernel⟩
theorem ok_rise {f : Addr} {fd : FuncData} (F : Fun K "is_ascending" "is_ascending" sRise f fd) (T : Blt mg) : FnOk P w K mg base CX0 1 f fd ["words"] (spRise K) := by
  refine F.ok scRise (fun vs H Q E h => ?_) (fun cdv A outer s H vs Q E hr h => ?_)
  · obtain ⟨a, zs, rfl, _⟩ := h
    rfl
  obtain ⟨a, zs, rfl, ha, z1000, go⟩ := h
  refine ⟨_, pss_one (ps_ret (pe_callB (cr_all (by rfl)) (by rfl) T.all (by decide +kernel) (pa_cons (pe_lc (own := [("one", 1), ("other", 2)]) (g := gTup K 2 (gCons (gName 1) (gCons (gName 2) gNil))) (by rfl) scRise.nd (RZ.pi_zipA (by rfl) T.zip (pa_cons (pv 0) (pa_cons (pe_slice sl_tupA (pv 0) (po_some pe_int) po_none) pa_nil))) (blkOk_by (own := [("one", 1), ("other", 2)]) (N := ["words", "one", "other"]) (sc := defScope sRise) (by decide +kernel)) (fun _ _ _ _ _ => pg_tup rfl (pgs_cons (pg_name (i := 1) scRise.nd rfl (Or.inl rfl)) (pgs_cons (pg_name (i := 2) scRise.nd rfl (Or.inl rfl)) pgs_nil)))
      (fun _ _ _ _ _ => pts_nil) (fun _ _ _ _ _ => pe_cmpR op_lt_str (pv 1) (pv 2) (nomark _))) pa_nil))), ?_⟩
  refine ⟨_, rfl, _, rfl, 1, rfl, a, zs.map V.str, rfl, ha, fun c => ?_, fun c p hp => ?_⟩
  · have hb : SqT K H a ((zs.drop 1).map V.str) := (cut1 (R := fun v H4 => ∃ b, v = .ref b ∧ SqT K H4 b ((zs.drop 1).map V.str)) (Same.refl H) ha (fun H4 b _ hb _ => ⟨b, rfl, hb⟩)).1 c |>.elim fun b q => by
      cases q.1
      exact q.2
    obtain ⟨H4, e4⟩ : ∃ H4, H4 = H := ⟨_, rfl⟩
    have s4 : Same H H4 := e4 ▸ Same.refl H
    rw [← e4] at hb ha ⊢
    refine ⟨_, _, zs.map V.str, (zs.drop 1).map V.str, rfl, .inr ⟨ha, hb, fun D2 hD2 => ?_⟩⟩
    refine lc_it (walk_zipT (n := zs.length - 1) (xs := zs.map V.str) (ys := (zs.drop 1).map V.str) (by rw [List.length_map, List.length_map, List.length_drop]; omega))
      (fun i H5 => Same H4 H5 ∧ H5 D2 = some (.lst (((List.range i).map fun i => decide (Lt (zs.getD i "") (zs.getD (i + 1) ""))).map V.bl))) ⟨same_upd hD2, upd_same⟩ (fun i H5 _ q => ⟨Same.sT q.1 ha, Same.sT q.1 hb⟩) ?_ ?_
    · rintro i x H5 H6 hi ⟨s5, hn⟩ ⟨T, u, v, rfl, hT, rfl, hu, hv⟩
      obtain ⟨z1, rfl, hz1⟩ := str_nth hu
      obtain ⟨z2, rfl, hz2⟩ := str_nth hv
      have g1 : zs.getD i "" = z1 := by rw [List.getD_eq_getElem?_getD, hz1]; rfl
      have g2 : zs.getD (i + 1) "" = z2 := by
        rw [List.getElem?_drop, Nat.add_comm] at hz2
        rw [List.getD_eq_getElem?_getD, hz2]
        rfl
      have s6 : Same H4 (upd H5 T (.tup [.str z1, .str z2])) := same_new s5 hT
      refine ⟨T, _, rfl, .of upd_same, rfl, _, _, rfl, _, _, rfl, rfl, rfl, _, rfl, _, rfl, z1, z2, rfl, rfl, _, by rw [upd_ne (ne_of_none hn hT)]; exact hn, ?_, same_off s6 hD2, ?_⟩
      · have big : (2000 : Nat) ≤ sizeLine := by decide
        rw [List.length_map, List.length_map, List.length_range]
        omega
      · rw [upd_same, List.range_succ, List.map_append, List.map_append, List.map_cons, List.map_nil, List.map_cons, List.map_nil, g1, g2]
    · rintro H5 ⟨s5, hn⟩
      refine ⟨D2, _, rfl, .of hn, ?_⟩
      have q : (((List.range (zs.length - 1)).map fun i => decide (Lt (zs.getD i "") (zs.getD (i + 1) ""))).all id) = risB zs := by
        rw [List.all_map, ris_take]
        rfl
      rw [q]
      exact go _ (s4.trans s5)
  · have hb : SqT K (upd H p (.tup (cutV (zs.map V.str) (some 1) none))) p ((zs.drop 1).map V.str) := (cut1 (R := fun v H4 => ∃ b, v = .ref b ∧ SqT K H4 b ((zs.drop 1).map V.str)) (Same.refl H) ha (fun H4 b _ hb _ => ⟨b, rfl, hb⟩)).2 c p hp |>.elim fun b q => by
      cases q.1
      exact q.2
    have ha : SqT K (upd H p (.tup (cutV (zs.map V.str) (some 1) none))) a (zs.map V.str) := Same.sT (same_upd hp) ha
    have s4 : Same H (upd H p (.tup (cutV (zs.map V.str) (some 1) none))) := same_upd hp
    obtain ⟨H4, e4⟩ : ∃ H4, H4 = upd H p (.tup (cutV (zs.map V.str) (some 1) none)) := ⟨_, rfl⟩
    rw [← e4] at hb ha s4 ⊢
    refine ⟨_, _, zs.map V.str, (zs.drop 1).map V.str, rfl, .inr ⟨ha, hb, fun D2 hD2 => ?_⟩⟩
    refine lc_it (walk_zipT (n := zs.length - 1) (xs := zs.map V.str) (ys := (zs.drop 1).map V.str) (by rw [List.length_map, List.length_map, List.length_drop]; omega))
      (fun i H5 => Same H4 H5 ∧ H5 D2 = some (.lst (((List.range i).map fun i => decide (Lt (zs.getD i "") (zs.getD (i + 1) ""))).map V.bl))) ⟨same_upd hD2, upd_same⟩ (fun i H5 _ q => ⟨Same.sT q.1 ha, Same.sT q.1 hb⟩) ?_ ?_
    · rintro i x H5 H6 hi ⟨s5, hn⟩ ⟨T, u, v, rfl, hT, rfl, hu, hv⟩
      obtain ⟨z1, rfl, hz1⟩ := str_nth hu
      obtain ⟨z2, rfl, hz2⟩ := str_nth hv
      have g1 : zs.getD i "" = z1 := by rw [List.getD_eq_getElem?_getD, hz1]; rfl
      have g2 : zs.getD (i + 1) "" = z2 := by
        rw [List.getElem?_drop, Nat.add_comm] at hz2
        rw [List.getD_eq_getElem?_getD, hz2]
        rfl
      have s6 : Same H4 (upd H5 T (.tup [.str z1, .str z2])) := same_new s5 hT
      refine ⟨T, _, rfl, .of upd_same, rfl, _, _, rfl, _, _, rfl, rfl, rfl, _, rfl, _, rfl, z1, z2, rfl, rfl, _, by rw [upd_ne (ne_of_none hn hT)]; exact hn, ?_, same_off s6 hD2, ?_⟩
      · have big : (2000 : Nat) ≤ sizeLine := by decide
        rw [List.length_map, List.length_map, List.length_range]
        omega
      · rw [upd_same, List.range_succ, List.map_append, List.map_append, List.map_cons, List.map_nil, List.map_cons, List.map_nil, g1, g2]
    · rintro H5 ⟨s5, hn⟩
      refine ⟨D2, _, rfl, .of hn, ?_⟩
      have q : (((List.range (zs.length - 1)).map fun i => decide (Lt (zs.getD i "") (zs.getD (i + 1) ""))).all id) = risB zs := by
        rw [List.all_map, ris_take]
        rfl
      rw [q]
      exact go _ (s4.trans s5)
end
end Lots

namespace Lots
open PySem PySem.Spec PyProof.Rows L2
/-! Data that is small: how long its text can be. -/
mutual
def tame (z : Nat) : PyData → Bool
  | .none => true
  | .bool _ => true
  | .int i => decide (i.natAbs ≤ z)
  | .str x => (cd x).all fun c => decide (c < 1114112)
  | .list ds => tames z ds
  | .tuple ds => tames z ds
  | .dict kvs => kvs.isEmpty
def tames (z : Nat) : List PyData → Bool
  | [] => true
  | d :: ds => tame z d && tames z ds
end
mutual
theorem tame_mono {z y : Nat} (h : z ≤ y) : ∀ d : PyData, tame z d = true → tame y d = true
  | .none, _ => rfl
  | .bool _, _ => rfl
  | .int i, q => by
    simp only [tame, decide_eq_true_eq] at q ⊢
    omega
  | .str x, q => by simpa only [tame] using q
  | .list ds, q => by
    simp only [tame] at q ⊢
    exact tames_mono h ds q
  | .tuple ds, q => by
    simp only [tame] at q ⊢
    exact tames_mono h ds q
  | .dict kvs, q => by simpa only [tame] using q
theorem tames_mono {z y : Nat} (h : z ≤ y) : ∀ ds : List PyData, tames z ds = true → tames y ds = true
  | [], _ => rfl
  | d :: ds, q => by
    simp only [tames, Bool.and_eq_true] at q ⊢
    exact ⟨tame_mono h d q.1, tames_mono h ds q.2⟩
end
mutual
theorem tame_leaves {z : Nat} (h : z < 10 ^ 40) : ∀ d : PyData, tame z d = true → d.leavesShort 41 = true
  | .none, _ => rfl
  | .bool _, _ => rfl
  | .int i, q => by
    simp only [tame, decide_eq_true_eq] at q
    simp only [PyData.leavesShort, decide_eq_true_eq]
    have e := int_text_length_le10 (a := i) (k := 40) (by decide) (by omega)
    show (Str.ofString (toString i)).length ≤ 41
    rw [PySem.ofString_length]
    exact e
  | .str x, q => by
    simp only [tame, List.all_eq_true, decide_eq_true_eq] at q
    simp only [PyData.leavesShort, List.all_eq_true, decide_eq_true_eq]
    intro c hc
    have := q c hc
    have e : (16 : Nat) ^ 8 = 4294967296 := by decide
    omega
  | .list ds, q => by
    simp only [tame] at q
    simp only [PyData.leavesShort]
    exact tames_leaves h ds q
  | .tuple ds, q => by
    simp only [tame] at q
    simp only [PyData.leavesShort]
    exact tames_leaves h ds q
  | .dict kvs, q => by
    simp only [tame, List.isEmpty_iff] at q
    subst q
    simp [PyData.leavesShort, PyData.leavesShortKv]
theorem tames_leaves {z : Nat} (h : z < 10 ^ 40) : ∀ ds : List PyData, tames z ds = true → PyData.leavesShortAll 41 ds = true
  | [], _ => rfl
  | d :: ds, q => by
    simp only [tames, Bool.and_eq_true] at q
    simp only [PyData.leavesShortAll, Bool.and_eq_true]
    exact ⟨tame_leaves h d q.1, tames_leaves h ds q.2⟩
end
theorem log_small {n : Nat} (h : n < 10 ^ 40) : n.log2 < 140 := by
  by_cases e : n = 0
  · subst e
    decide
  · rw [Nat.log2_lt e]
    exact Nat.lt_of_lt_of_le h (by decide)
mutual
theorem tame_show {z : Nat} (h : z < 10 ^ 40) : ∀ d : PyData, tame z d = true → d.showable = true
  | .none, _ => by simp [PyData.showable]
  | .bool _, _ => by simp [PyData.showable]
  | .int i, q => by
    simp only [tame, decide_eq_true_eq] at q
    simp only [PyData.showable, decide_eq_true_eq]
    have := log_small (n := i.natAbs) (by omega)
    omega
  | .str x, q => by simp [PyData.showable]
  | .list ds, q => by
    simp only [tame] at q
    simp only [PyData.showable]
    exact tames_show h ds q
  | .tuple ds, q => by
    simp only [tame] at q
    simp only [PyData.showable]
    exact tames_show h ds q
  | .dict kvs, q => by
    simp only [tame, List.isEmpty_iff] at q
    subst q
    simp [PyData.showable, PyData.showableKv]
theorem tames_show {z : Nat} (h : z < 10 ^ 40) : ∀ ds : List PyData, tames z ds = true → PyData.showableAll ds = true
  | [], _ => by simp [PyData.showableAll]
  | d :: ds, q => by
    simp only [tames, Bool.and_eq_true] at q
    simp only [PyData.showableAll, Bool.and_eq_true]
    exact ⟨tame_show h d q.1, tames_show h ds q.2⟩
end
/-- weight, depth, ints -/
def Bd (w k z : Nat) (d : PyData) : Prop := d.weight ≤ w ∧ d.depth ≤ k ∧ tame z d = true
theorem Bd.mono {w k z w' k' z' : Nat} {d : PyData} (b : Bd w k z d) (hw : w ≤ w') (hk : k ≤ k') (hz : z ≤ z') : Bd w' k' z' d := ⟨Nat.le_trans b.1 hw, Nat.le_trans b.2.1 hk, tame_mono hz d b.2.2⟩
/-- what repr asks -/
theorem Bd.repr {w k z : Nat} {d : PyData} (b : Bd w k z d) (hw : w ≤ 100000) (hk : k ≤ 60) (hz : z < 10 ^ 40) : d.showable = true ∧ d.shown.length ≤ sizeLine ∧ d.depth ≤ 60 := by
  refine ⟨tame_show hz d b.2.2, ?_, Nat.le_trans b.2.1 hk⟩
  have h := PyData.shown_le 41 (by decide) d (tame_leaves hz d b.2.2)
  have h2 : (41 + 2) * d.weight ≤ 43 * 100000 := Nat.mul_le_mul (by decide) (Nat.le_trans b.1 hw)
  rw [sizeLine_eq]
  omega
theorem tames_app {z : Nat} : ∀ ds es : List PyData, tames z (ds ++ es) = (tames z ds && tames z es)
  | [], es => by simp [tames]
  | d :: ds, es => by
    have h := tames_app (z := z) ds es
    simp only [List.cons_append, tames, h, Bool.and_assoc]
theorem weights_app : ∀ ds es : List PyData, PyData.weightAll (ds ++ es) = PyData.weightAll ds + PyData.weightAll es
  | [], es => by simp [PyData.weightAll]
  | d :: ds, es => by
    have h := weights_app ds es
    simp only [List.cons_append, PyData.weightAll, h]
    omega
theorem depths_app : ∀ ds es : List PyData, PyData.depthAll (ds ++ es) = max (PyData.depthAll ds) (PyData.depthAll es)
  | [], es => by simp [PyData.depthAll]
  | d :: ds, es => by
    have h := depths_app ds es
    simp only [List.cons_append, PyData.depthAll, h]
    omega
theorem len_weight : ∀ ds : List PyData, ds.length ≤ PyData.weightAll ds
  | [] => Nat.zero_le _
  | d :: ds => by
    have h := len_weight ds
    simp only [List.length_cons, PyData.weightAll]
    omega
theorem mem_weight : ∀ {ds : List PyData} {d : PyData}, d ∈ ds → d.weight + 1 ≤ PyData.weightAll ds
  | e :: ds, d, h => by
    simp only [PyData.weightAll]
    rcases List.mem_cons.mp h with h | h
    · subst h
      omega
    · have := mem_weight h
      omega
theorem mem_depth : ∀ {ds : List PyData} {d : PyData}, d ∈ ds → d.depth ≤ PyData.depthAll ds
  | e :: ds, d, h => by
    simp only [PyData.depthAll]
    rcases List.mem_cons.mp h with h | h
    · subst h
      omega
    · have := mem_depth h
      omega
theorem mem_tame {z : Nat} : ∀ {ds : List PyData} {d : PyData}, tames z ds = true → d ∈ ds → tame z d = true
  | e :: ds, d, q, h => by
    simp only [tames, Bool.and_eq_true] at q
    rcases List.mem_cons.mp h with h | h
    · subst h
      exact q.1
    · exact mem_tame q.2 h
/-- items of a tuple or list -/
def Bds (w k z : Nat) (ds : List PyData) : Prop := PyData.weightAll ds ≤ w ∧ PyData.depthAll ds ≤ k ∧ tames z ds = true
theorem Bd.tup {w k z : Nat} {ds : List PyData} (b : Bds w k z ds) : Bd w (k + 1) z (.tuple ds) := ⟨by simp only [PyData.weight]; exact b.1, by simp only [PyData.depth]; exact Nat.succ_le_succ b.2.1, by simp only [tame]; exact b.2.2⟩
theorem Bd.lst {w k z : Nat} {ds : List PyData} (b : Bds w k z ds) : Bd w (k + 1) z (.list ds) := ⟨by simp only [PyData.weight]; exact b.1, by simp only [PyData.depth]; exact Nat.succ_le_succ b.2.1, by simp only [tame]; exact b.2.2⟩
theorem Bd.items {w k z : Nat} {ds : List PyData} (b : Bd w k z (.tuple ds)) : Bds w (k - 1) z ds := by
  obtain ⟨b1, b2, b3⟩ := b
  simp only [PyData.weight] at b1
  simp only [PyData.depth] at b2
  simp only [tame] at b3
  exact ⟨b1, by omega, b3⟩
theorem Bds.app {w k z w' : Nat} {ds es : List PyData} (a : Bds w k z ds) (b : Bds w' k z es) : Bds (w + w') k z (ds ++ es) :=
  ⟨by rw [weights_app]; exact Nat.add_le_add a.1 b.1, by rw [depths_app]; exact Nat.max_le.mpr ⟨a.2.1, b.2.1⟩, by rw [tames_app, a.2.2, b.2.2]; rfl⟩
theorem Bds.one {w k z : Nat} {d : PyData} (b : Bd w k z d) : Bds (w + 1) k z [d] :=
  ⟨by simp only [PyData.weightAll]; have := b.1; omega, by simp only [PyData.depthAll]; have := b.2.1; omega, by simp only [tames, b.2.2]; rfl⟩
theorem Bds.mono {w k z w' k' z' : Nat} {ds : List PyData} (b : Bds w k z ds) (hw : w ≤ w') (hk : k ≤ k') (hz : z ≤ z') : Bds w' k' z' ds := ⟨Nat.le_trans b.1 hw, Nat.le_trans b.2.1 hk, tames_mono hz ds b.2.2⟩
theorem take_weight (ds : List PyData) (i : Nat) : PyData.weightAll (ds.take i) + PyData.weightAll (ds.drop i) = PyData.weightAll ds := by
  rw [← weights_app, List.take_append_drop]
theorem Bds.take {w k z : Nat} {ds : List PyData} (b : Bds w k z ds) (i : Nat) : Bds (PyData.weightAll (ds.take i)) k z (ds.take i) := by
  refine ⟨Nat.le_refl _, ?_, ?_⟩
  · have h := depths_app (ds.take i) (ds.drop i)
    rw [List.take_append_drop] at h
    have := b.2.1
    omega
  · have h := tames_app (z := z) (ds.take i) (ds.drop i)
    rw [List.take_append_drop, b.2.2] at h
    exact (Bool.and_eq_true _ _ ▸ h.symm : tames z (ds.take i) = true ∧ _).1
theorem Bds.drop {w k z : Nat} {ds : List PyData} (b : Bds w k z ds) (i : Nat) : Bds (PyData.weightAll (ds.drop i)) k z (ds.drop i) := by
  refine ⟨Nat.le_refl _, ?_, ?_⟩
  · have h := depths_app (ds.take i) (ds.drop i)
    rw [List.take_append_drop] at h
    have := b.2.1
    omega
  · have h := tames_app (z := z) (ds.take i) (ds.drop i)
    rw [List.take_append_drop, b.2.2] at h
    exact (Bool.and_eq_true _ _ ▸ h.symm : _ ∧ tames z (ds.drop i) = true).2
theorem rev_bds {w k z : Nat} : ∀ {ds : List PyData}, Bds w k z ds → Bds w k z ds.reverse
  | [], b => b
  | d :: ds, b => by
    have ih := rev_bds (w := PyData.weightAll ds) (k := k) (z := z) (ds := ds) ⟨Nat.le_refl _, by have h := b.2.1; simp only [PyData.depthAll] at h; omega, by have h := b.2.2; simp only [tames, Bool.and_eq_true] at h; exact h.2⟩
    have one : Bds (d.weight + 1) k z [d] := Bds.one ⟨Nat.le_refl _, by have h := b.2.1; simp only [PyData.depthAll] at h; omega, by have h := b.2.2; simp only [tames, Bool.and_eq_true] at h; exact h.1⟩
    have q := ih.app one
    rw [List.reverse_cons]
    refine q.mono ?_ (Nat.le_refl _) (Nat.le_refl _)
    have h := b.1
    simp only [PyData.weightAll] at h
    omega
theorem Bd.fits {w k z : Nat} {d : PyData} (b : Bd w k z d) (hw : w ≤ 100000) : fits d := by
  cases d with
  | str y =>
    refine ⟨?_, fun c hc => ?_⟩
    · have h := b.1
      simp only [PyData.weight] at h
      show y.cps.size ≤ sizeLine
      rw [sizeLine_eq]
      omega
    · have h := b.2.2
      simp only [tame, List.all_eq_true, decide_eq_true_eq] at h
      exact h c hc
  | _ => trivial
theorem Bd.fits1 {w k z : Nat} {d : PyData} (b : Bd w k z d) (hw : w ≤ 1000) : fits1 d := by
  cases d with
  | tuple ds =>
    have q := b.items
    refine ⟨Nat.le_trans (len_weight ds) (Nat.le_trans q.1 hw), fun e he => ?_⟩
    exact Bd.fits (w := w) (k := k - 1) (z := z) ⟨by have := mem_weight he; have := q.1; omega, Nat.le_trans (mem_depth he) q.2.1, mem_tame q.2.2 he⟩ (by omega)
  | _ => trivial
theorem odd_bd : ∀ d ∈ oddD, Bd 200 2 (10 ^ 30) d := by
  intro d hd
  have key : (oddD.all fun d => decide (d.weight ≤ 200) && (decide (d.depth ≤ 2) && tame (10 ^ 30) d)) = true := by decide +kernel
  have q := List.all_eq_true.mp key d hd
  rw [Bool.and_eq_true, Bool.and_eq_true, decide_eq_true_eq, decide_eq_true_eq] at q
  exact ⟨q.1, q.2.1, q.2.2⟩
end Lots

namespace Lots
open PySem PySem.Spec PyProof.Rows L2
/-! t[a:b], t + u where what is passed lies in a part G of the heap: so does what is returned. -/
/-- nothing new, or one new thing in both -/
def Step (G H G2 H2 : Hp) : Prop := (G2 = G ∧ H2 = H) ∨ ∃ q o, H q = none ∧ G2 = upd G q o ∧ H2 = upd H q o
theorem Step.same {G H G2 H2 : Hp} (s : Step G H G2 H2) (e : Same G H) : Same G G2 := by
  rcases s with ⟨rfl, rfl⟩ | ⟨q, o, h, rfl, rfl⟩
  · exact Same.refl _
  · exact same_upd (e.free h)
theorem Step.both {G H G2 H2 : Hp} (s : Step G H G2 H2) (e : Same G H) : Same G2 H2 := by
  rcases s with ⟨rfl, rfl⟩ | ⟨q, o, h, rfl, rfl⟩
  · exact e
  · exact same_both e
theorem MOk.step {G H G2 H2 : Hp} {p : Addr} {B : Int} (m : MOk G H p B) (s : Step G H G2 H2) : MOk G2 H2 p B := by
  rcases s with ⟨rfl, rfl⟩ | ⟨q, o, h, rfl, rfl⟩
  · exact m
  · exact m.new h
theorem Same.seqT {K : PySem.W.Frag} {H H' : Hp} {a : Addr} {xs : List V} (e : Same H H') (h : SqT K H a xs) : SqT K H' a xs := by
  rcases h with h | h
  · rcases h with h | ⟨o, h⟩
    · exact .inl (.inl (e _ _ h))
    · exact .inl (.inr ⟨o, e _ _ h⟩)
  · exact .inr h
def rSlG (K : PySem.W.Frag) : V → Option Int → Option Int → Hp → VK → Prop := fun x lo hi H Q => ∃ G a xs, x = .ref a ∧ Same G H ∧ Rd G a (.tup xs) ∧ ∀ (G2 H2 : Hp) (b : Addr), Step G H G2 H2 → Rd G2 b (.tup (cutV xs lo hi)) → Q (.ref b) H2
theorem rd_same {H H' : Hp} {a : Addr} {u : HO} (e : Same H H') (h : Rd H a u) : Rd H' a u := by
  rcases h with h | ⟨o, h⟩
  · exact .inl (e _ _ h)
  · exact .inr ⟨o, e _ _ h⟩
theorem sl_tupG {X : Cx} : SlR X (rSlG X.K) := by
  intro pins s σ H x v vl vu lo hi sl Q I rx hs pl pu h
  obtain ⟨G, a, xs, rfl, e, ha, q⟩ := h
  refine sl_tupA pins s σ H _ v vl vu lo hi sl Q I rx hs pl pu ⟨a, xs, rfl, .inl (rd_same e ha), fun hw => q G H a (.inl ⟨rfl, rfl⟩) ?_, fun hw p hp => q (upd G p (.tup (cutV xs lo hi))) _ p (.inr ⟨p, _, hp, rfl, rfl⟩) (.inl upd_same)⟩
  unfold cutV
  rw [hw.1, hw.2, List.drop_zero, Nat.sub_zero, List.take_length]
  exact ha
def rCatG (K : PySem.W.Frag) : R2 := fun x y H Q => ∃ G a b xs ys, x = .ref a ∧ y = .ref b ∧ Same G H ∧ Rd G a (.tup xs) ∧ Rd G b (.tup ys) ∧ xs.length + ys.length ≤ sizeLine ∧
  ∀ (G2 H2 : Hp) (c : Addr), Step G H G2 H2 → Rd G2 c (.tup (xs ++ ys)) → Q (.ref c) H2
theorem op_catG {X : Cx} : OpR X (binaryOp .Add) (rCatG X.K) := by
  intro pins s σ H x y v u Q I rx ry h
  obtain ⟨G, a, b, xs, ys, rfl, rfl, e, ha, hb, hz, q⟩ := h
  refine op_catA pins s σ H _ _ v u Q I rx ry ⟨a, b, xs, ys, rfl, rfl, .inl (rd_same e ha), .inl (rd_same e hb), hz, fun n => q G H b (.inl ⟨rfl, rfl⟩) ?_, fun _ n => q G H a (.inl ⟨rfl, rfl⟩) ?_, fun _ _ p hp => q (upd G p (.tup (xs ++ ys))) _ p (.inr ⟨p, _, hp, rfl, rfl⟩) (.inl upd_same)⟩
  · rw [n]
    exact hb
  · rw [n, List.append_nil]
    exact ha
/-- a tuple of any items == () -/
def rEqNilT (K : PySem.W.Frag) : R2 := fun x y H Q => ∃ (a b : Addr) (xs : List V), x = .ref a ∧ y = .ref b ∧ SqT K H a xs ∧ SqT K H b [] ∧ Q (.bl xs.isEmpty) H
theorem op_eqNilT {X : Cx} (room : X.A.units < cLine) : OpR X (compareOp .Eq) (rEqNilT X.K) := by
  intro pins s σ H x y v u Q I rx ry h
  obtain ⟨a, b, xs, rfl, rfl, ha, hb, go⟩ := h
  cases rx
  cases ry
  obtain ⟨its, r1, p1, _⟩ := I.tuple ha
  obtain ⟨jts, r2, p2, _⟩ := I.tuple hb
  cases r2
  have e : (xs.isEmpty) = ((List.range (min its.toArray.size ([] : List Value).toArray.size)).all (fun _ => true) && its.toArray.size == ([] : List Value).toArray.size) := by
    cases r1 with
    | nil => rfl
    | cons q1 q2 => simp
  refine SeqAt.eq_tupleAt p1 p2 room (e := fun _ => true) (fun j _ h2 => absurd h2 (by simp)) ⟨.bl xs.isEmpty, H, I, ?_, go⟩
  rw [e]
  rfl
end Lots

namespace Lots
open PySem PySem.Spec PyProof.Rows L2
theorem cutv_from (xs : List V) (k : Nat) : cutV xs (some (k : Int)) none = xs.drop k := by
  unfold cutV
  rw [HT.sIx_nat, HT.sIx_none]
  by_cases h : k ≤ xs.length
  · rw [Nat.min_eq_left h]
    exact List.take_of_length_le (by rw [List.length_drop]; exact Nat.le_refl _)
  · rw [Nat.min_eq_right (by omega), List.drop_of_length_le (Nat.le_refl _), List.drop_of_length_le (by omega), List.take_nil]
theorem cutv_to (xs : List V) (k : Nat) : cutV xs none (some (k : Int)) = xs.take k := by
  unfold cutV
  rw [HT.sIx_nat, HT.sIx_none, List.drop_zero, Nat.sub_zero]
  by_cases h : k ≤ xs.length
  · rw [Nat.min_eq_left h]
  · rw [Nat.min_eq_right (by omega), List.take_of_length_le (Nat.le_refl _), List.take_of_length_le (by omega)]
theorem cutv_one (xs : List V) (k : Nat) (h : k < xs.length) : cutV xs (some (k : Int)) (some ((k : Int) + 1)) = (xs.drop k).take 1 := by
  unfold cutV
  rw [show (k : Int) + 1 = ((k + 1 : Nat) : Int) by omega, HT.sIx_nat, HT.sIx_nat, Nat.min_eq_left (by omega), Nat.min_eq_left (by omega), show k + 1 - k = 1 by omega]
section
variable {K : PySem.W.Frag} {H : Hp}
theorem DrAll.take : ∀ {xs : List V} {ds : List PyData}, DrAll K H xs ds → ∀ k : Nat, DrAll K H (xs.take k) (ds.take k)
  | _, _, .nil, k => by
    rw [List.take_nil, List.take_nil]
    exact .nil
  | _, _, .cons one more, 0 => .nil
  | _, _, .cons one more, k + 1 => .cons one (DrAll.take more k)
theorem DrAll.drop : ∀ {xs : List V} {ds : List PyData}, DrAll K H xs ds → ∀ k : Nat, DrAll K H (xs.drop k) (ds.drop k)
  | _, _, .nil, k => by
    rw [List.drop_nil, List.drop_nil]
    exact .nil
  | _, _, .cons one more, 0 => .cons one more
  | _, _, .cons one more, k + 1 => DrAll.drop more k
theorem DrAll.rev : ∀ {xs : List V} {ds : List PyData}, DrAll K H xs ds → DrAll K H xs.reverse ds.reverse
  | _, _, .nil => .nil
  | _, _, .cons one more => by
    rw [List.reverse_cons, List.reverse_cons]
    exact (DrAll.rev more).app (.cons one .nil)
theorem DrAll.one {v : V} {d : PyData} (h : Dr K H v d) : DrAll K H [v] [d] := .cons h .nil
end
theorem split_weight {ds : List PyData} {k : Nat} {d : PyData} (h : ds[k]? = some d) : PyData.weightAll (ds.take k) + (d.weight + 1) + PyData.weightAll (ds.drop (k + 1)) = PyData.weightAll ds := by
  have a := take_weight ds (k + 1)
  rw [take_snoc h, weights_app] at a
  simp only [PyData.weightAll] at a
  omega
end Lots

namespace Lots
open PySem PySem.Spec PyProof.Rows L2
open Sem (wp)
open AutoSeq1 (wpAny_loadPart')
theorem tuple_mul_nil (l : Addr) (n : Nat) (dd : Option Addr) (sl : Array (Option Value)) (u : Tok) :
    Meets (Builtin.«tuple.__mul__» ⟨[.ref l, .int 2 u], []⟩) (fun _ R s => s.heap.get? l = some { cls := .type "tuple", dict := dd, data := .seq #[] n, slots := sl } ∧ R (.ok (.ret (.ref l))) s) :=
  .of_wp fun prog w A R s h => by
    obtain ⟨hp, g, d, tk, os⟩ := s
    obtain ⟨hl, h⟩ := h
    have f1 := AutoSeq1.idx_int
    wp_walk using wpAny_loadPart' hl
    exact ⟨_, rfl, h⟩
/-- t * 2 -/
def rRepG (K : PySem.W.Frag) : R2 := fun x y H Q => ∃ G l xs, x = .ref l ∧ y = .int 2 ∧ Same G H ∧ Rd G l (.tup xs) ∧ xs.length ≤ 1000 ∧ ∀ (G2 H2 : Hp) (c : Addr), Step G H G2 H2 → Rd G2 c (.tup (xs ++ xs)) → Q (.ref c) H2
theorem op_repG {X : Cx} : OpR X (binaryOp .Mult) (rRepG X.K) := by
  intro pins s σ H x y v u Q I rx ry h
  obtain ⟨G, l, xs, rfl, rfl, e, hl, hz, q⟩ := h
  have hT : SqT X.K H l xs := .inl (rd_same e hl)
  by_cases hne : xs = []
  · subst hne
    cases rx
    obtain ⟨t, rfl⟩ := ry
    obtain ⟨its, r, ⟨⟨cls, dd, data, sl⟩, ho, hc, n, hd⟩, hs⟩ := I.tuple hT
    simp only at hc hd
    subst hc hd
    cases r
    refine wpAny_binaryOp_repeat_ref (T := "tuple") (U := "int") (by decide) ⟨_, ho, rfl⟩ (fun s' => typeIs_int s' 2 t) noFill_tuple_mul F.fills_int_mul F.slot_int_rmul repeat_tuple F.slot_int_index.lookup
      (call_meets F.slot_int_rmul (typeIs_int s 2 t) F.entry_int_rmul (F.args_int_rmul_2 _ _) (int_rmul_tuple 2 t l _ n dd sl)
        ⟨ho, rfl, ⟨_, ho, rfl⟩, call_meets F.slot_tuple_mul ⟨_, ho, rfl⟩ F.entry_tuple_mul (F.args_tuple_mul_2 _ _) (tuple_mul_nil l n dd sl t) ⟨ho, ?_⟩⟩)
    exact ⟨.ref l, H, I, rfl, q G H l (.inl ⟨rfl, rfl⟩) hl⟩
  · refine op_repT pins s σ H _ _ v u Q I rx ry ⟨l, 2, xs, rfl, rfl, hT, hne, by decide, by decide, hz, fun p hp => ?_⟩
    have e2 : (List.replicate (2 : Int).toNat xs).flatten = xs ++ xs := by
      show xs ++ (xs ++ []) = _
      rw [List.append_nil]
    rw [e2]
    exact q (upd G p (.tup (xs ++ xs))) _ p (.inr ⟨p, _, hp, rfl, rfl⟩) (.inl upd_same)
/-- two tuples of the same texts and Nones are not unlike -/
def rNeSame (K : PySem.W.Frag) : R2 := fun x y H Q => ∃ (a b : Addr) (xs : List V), x = .ref a ∧ y = .ref b ∧ SqT K H a xs ∧ SqT K H b xs ∧ (∀ v ∈ xs, v = .non ∨ ∃ z, v = .str z) ∧ Q (.bl false) H
theorem op_neSame {X : Cx} (room : X.A.units < cLine) : OpR X (compareOp .NotEq) (rNeSame X.K) := by
  intro pins s σ H x y v u Q I rx ry h
  obtain ⟨a, b, xs, rfl, rfl, ha, hb, all, go⟩ := h
  cases rx
  cases ry
  obtain ⟨its, r1, p1, _⟩ := I.tuple ha
  obtain ⟨jts, r2, p2, _⟩ := I.tuple hb
  have l1 := r1.length
  have l2 := r2.length
  refine SeqAt.RcNeAt.tuples p1 p2 room (e := fun _ => true) (fun j h1 h2 => ?_) _ _ _ _ ⟨.bl false, H, I, ?_, go⟩
  · have j1 : j < xs.length := by
      rw [List.size_toArray] at h1
      omega
    have hx : xs[j]? = some xs[j] := List.getElem?_eq_getElem j1
    obtain ⟨u1, e1, q1⟩ := r1.get hx
    obtain ⟨u2, e2, q2⟩ := r2.get hx
    have f1 : its.toArray[j] = u1 := by
      have q := (List.getElem?_eq_some_iff.mp e1).2
      simpa using q
    have f2 : jts.toArray[j] = u2 := by
      have q := (List.getElem?_eq_some_iff.mp e2).2
      simpa using q
    rw [f1, f2]
    rcases all _ (List.mem_of_getElem? hx) with z | ⟨z, ez⟩
    · rw [z] at q1 q2
      cases q1
      cases q2
      exact SeqAt.EqAt.same _
    · rw [ez] at q1 q2
      obtain ⟨t1, rfl⟩ := q1
      obtain ⟨t2, rfl⟩ := q2
      have q := SeqAt.EqAt.str_str (A := X.A.in1) (s := s) z t1 z t2
      rw [beq_self_eq_true] at q
      exact q
  · have e : (!((List.range (min its.toArray.size jts.toArray.size)).all (fun _ => true) && its.toArray.size == jts.toArray.size)) = false := by
      rw [List.size_toArray, List.size_toArray, show its.length = jts.length by omega]
      simp
    rw [e]
    rfl
end Lots

namespace Lots
open PySem PySem.Spec PyProof.Rows L2
section
variable {P : Program} {w : World} {K : PySem.W.Frag} {mg : Str → Option Value} {base : Heap}
/-- all lots, as a tuple -/
def spAll (K : PySem.W.Frag) : Sp := fun vs H Q _ => ∃ (a : Addr) (xs : List Str), vs = [.ref a] ∧ SqT K H a (xs.map V.str) ∧ xs.length ≤ 8 ∧
  ∀ (H2 : Hp) (t : Addr) (L : List (Addr × List Str)), Same H H2 → H t = none → H2 t = some (.tup (L.map rowV)) → L.map Prod.snd = lots xs → RowsAt H H2 L → Q (.ref t) H2
abbrev sAll : Stmt := top 14
theorem scAll : FnScope ["things", "lots", "first", "lot"] ["things"] (defScope sAll) := ⟨rfl, rfl, rfl, by decide +kernel, rfl, by decide +kernel, by decide +kernel⟩
theorem ok_all {f : Addr} {fd : FuncData} (F : Fun K "all_lots" "all_lots" sAll f fd) (T : Blt mg) : FnOk P w K mg base CX0 1 f fd ["things"] (spAll K) := by
  refine F.ok scAll (fun vs H Q E h => ?_) (fun cdv A outer s H vs Q E hr h => ?_)
  · obtain ⟨a, xs, rfl, _⟩ := h
    rfl
  obtain ⟨a, xs, rfl, ha, len, go⟩ := h
  refine ⟨_, pss_cons (ps_set (i := 1) scAll.nd rfl (Or.inl rfl) (pe_lst (pa_cons (pe_tup pa_nil) pa_nil)))
    (pss_cons (ps_for PassesOwn.never rfl (pi_tup (pe_revT (pv 0))) (pg_name (i := 2) scAll.nd rfl (Or.inr rfl))
      (pss_one (ps_set (i := 1) scAll.nd rfl (Or.inl rfl) (pe_op op_cat (pe_op op_cat (pe_lst (pa_cons (pe_tup pa_nil) pa_nil))
        (pe_lc (own := [("lot", 3)]) (g := gName 3) (by rfl) scAll.nd (pi_list (pv 1)) (blkOk_by (own := [("lot", 3)]) (N := ["things", "lots", "first", "lot"]) (sc := defScope sAll) (by decide +kernel)) (fun _ _ _ _ _ => pg_name (i := 3) scAll.nd rfl (Or.inl rfl))
          (fun _ _ _ _ _ => pts_nil) (fun _ _ _ _ _ => pe_op (r := rCatA K) op_catA (pe_tup (pa_cons (pv 2) pa_nil)) (pv 3)))) (pe_slice sl_list (pv 1) (po_some pe_int) po_none)))))
    (pss_one (ps_ret (pe_callTy call_tuple_of (by rfl) T.tuple (by decide +kernel) (pa_cons (pv 1) pa_nil))))), ?_⟩
  refine ⟨Nat.zero_le _, fun t0 ht0 => ⟨(by show 1 ≤ sizeLine; decide), fun l hl => ?_⟩⟩
  have S0 : Same H (upd (upd H t0 (.tup [])) l (.lst [.ref t0])) := same_new (same_upd ht0) hl
  have n0 : H l = none := (same_upd ht0).free hl
  have ut0 : (upd (upd H t0 (.tup [])) l (.lst [.ref t0])) t0 = some (.tup []) := by
    rw [upd_ne (ne_of_none upd_same hl)]
    exact upd_same
  have ul : (upd (upd H t0 (.tup [])) l (.lst [.ref t0])) l = some (.lst [.ref t0]) := upd_same
  generalize upd (upd H t0 (.tup [])) l (.lst [.ref t0]) = H0 at S0 ut0 ul
  refine ⟨_, rfl, a, _, rfl, Same.sT S0 ha, fun q hq => ?_⟩
  have Sq : Same H0 (upd H0 q (.tup (xs.map V.str).reverse)) := same_upd hq
  refine ⟨q, rfl, ⟨_, .of upd_same⟩, ?_⟩
  have uq : (upd H0 q (.tup (xs.map V.str).reverse)) q = some (.tup (xs.reverse.map V.str)) := by
    rw [upd_same, List.map_reverse]
  have S1 : Same H (upd H0 q (.tup (xs.map V.str).reverse)) := S0.trans Sq
  have ut1 := Sq _ _ ut0
  have ul1 := Sq _ _ ul
  generalize upd H0 q (.tup (xs.map V.str).reverse) = H1 at S1 uq ut1 ul1 ⊢
  have nq : H q = none := S0.free hq
  refine for_tup (K := K) (a := q) (xs := xs.reverse.map V.str) (fun i σ H2 => ∃ (l : Addr) (L : List (Addr × List Str)) (v2 : Option V), σ = [some (.ref a), some (.ref l), v2, none] ∧ Same H H2 ∧ H l = none ∧ H2 l = some (.lst (L.map rowV)) ∧
      L.map Prod.snd = lots (xs.drop (xs.length - i)) ∧ RowsAt H H2 L ∧ H2 q = some (.tup (xs.reverse.map V.str))) ?_ (fun i σ H2 _ ⟨l, L, v2, _, s2, _, _, _, _, hq2⟩ => .of hq2) ?_ ?_
  · refine ⟨l, [(t0, [])], none, rfl, S1, n0, ul1, ?_, fun p hp => ?_, uq⟩
    · rw [Nat.sub_zero, List.drop_length]
      rfl
    · obtain rfl := List.mem_singleton.mp hp
      exact ⟨ht0, ut1⟩
  · rintro i x σ H2 hx ⟨l, L0, v2, rfl, s2, nl, hl2, eb, rows, hq2⟩
    obtain ⟨z, rfl, hz⟩ := str_nth hx
    have hi : i < xs.length := by
      have h := (List.getElem?_eq_some_iff.mp hz).1
      rwa [List.length_reverse] at h
    have hz2 : xs[xs.length - 1 - i]? = some z := by
      rw [List.getElem?_reverse hi] at hz
      exact hz
    have dz : xs.drop (xs.length - (i + 1)) = z :: xs.drop (xs.length - i) := by
      have h := List.getElem?_eq_some_iff.mp hz2
      obtain ⟨hlt, hv⟩ := h
      rw [show xs.length - (i + 1) = xs.length - 1 - i by omega, List.drop_eq_getElem_cons hlt, hv, show xs.length - 1 - i + 1 = xs.length - i by omega]
    have len0 : L0.length ≤ 256 := by
      rw [← List.length_map (f := Prod.snd), eb, lots_len, List.length_drop]
      exact Nat.le_trans (Nat.pow_le_pow_right (by decide) (show xs.length - (xs.length - i) ≤ 8 by omega)) (by decide)
    have short : ∀ p ∈ L0, p.2.length ≤ 8 := fun p hp => by
      have m : p.2 ∈ lots (xs.drop (xs.length - i)) := by
        rw [← eb]
        exact List.mem_map.mpr ⟨p, hp, rfl⟩
      exact Nat.le_trans (lots_short _ _ m) (by rw [List.length_drop]; omega)
    refine ⟨Nat.zero_le _, fun t1 ht1 => ⟨(by show 1 ≤ sizeLine; decide), fun l1 hl1 => ?_⟩⟩
    have s3 : Same H2 (upd (upd H2 t1 (.tup [])) l1 (.lst [.ref t1])) := same_new (same_upd ht1) hl1
    have ut : (upd (upd H2 t1 (.tup [])) l1 (.lst [.ref t1])) t1 = some (.tup []) := by
      rw [upd_ne (ne_of_none upd_same hl1)]
      exact upd_same
    have ul1' : (upd (upd H2 t1 (.tup [])) l1 (.lst [.ref t1])) l1 = some (.lst [.ref t1]) := upd_same
    generalize upd (upd H2 t1 (.tup [])) l1 (.lst [.ref t1]) = H3 at s3 ut ul1'
    have nt1 : H t1 = none := s2.free ht1
    refine ⟨_, rfl, l, rfl, ⟨_, .of (s3 _ _ hl2)⟩, fun D hD => ?_⟩
    refine lc_list (K := K) (a := l) (xs := L0.map rowV) (fun j H4 => ∃ N : List (Addr × List Str), Same H3 H4 ∧ H3 D = none ∧ H4 D = some (.lst (N.map rowV)) ∧ N.map Prod.snd = ((L0.take j).map Prod.snd).map (z :: ·) ∧ RowsAt H H4 N) ?_ (fun j H4 _ ⟨N, s4, _⟩ => .of (s4 _ _ (s3 _ _ hl2))) ?_ ?_
    · exact ⟨[], same_upd hD, hD, upd_same, rfl, fun p hp => by cases hp⟩
    · rintro j x H4 hx ⟨N, s4, nD, hD4, eN, rN⟩
      obtain ⟨p, rfl, hp⟩ : ∃ p, x = rowV p ∧ L0[j]? = some p := by
        rw [List.getElem?_map] at hx
        cases e : L0[j]? with
        | none =>
          rw [e] at hx
          cases hx
        | some p =>
          rw [e] at hx
          exact ⟨p, (Option.some.inj hx).symm, rfl⟩
      have hj : j < L0.length := (List.getElem?_eq_some_iff.mp hp).1
      have rp := rows p (List.mem_of_getElem? hp)
      have pl := short p (List.mem_of_getElem? hp)
      have nl : N.length = j := by
        have q := congrArg List.length eN
        rw [List.length_map, List.length_map, List.length_map, List.length_take] at q
        omega
      have fin : ∀ (c : Addr) (H5 : Hp), Same H4 H5 → H4 c = none → H5 c = some (.tup ((z :: p.2).map V.str)) → ∃ acc, H5 D = some (.lst acc) ∧ acc.length < sizeLine ∧ ∃ N : List (Addr × List Str), Same H3 (upd H5 D (.lst (acc ++ [V.ref c]))) ∧ H3 D = none ∧
          (upd H5 D (.lst (acc ++ [V.ref c]))) D = some (.lst (N.map rowV)) ∧ N.map Prod.snd = ((L0.take (j + 1)).map Prod.snd).map (z :: ·) ∧ RowsAt H (upd H5 D (.lst (acc ++ [V.ref c]))) N := by
        intro c H5 s5 nc hc
        refine ⟨N.map rowV, s5 _ _ hD4, ?_, N ++ [(c, z :: p.2)], same_off (s4.trans s5) nD, nD, ?_, ?_, fun q hq => ?_⟩
        · rw [List.length_map, nl]
          have big : (1000 : Nat) ≤ sizeLine := by decide
          omega
        · rw [upd_same, List.map_append]
          rfl
        · rw [List.map_append, eN, take_snoc hp, List.map_append, List.map_append]
          rfl
        · have tup : H q.1 = none ∧ H5 q.1 = some (.tup (q.2.map V.str)) := by
            rcases List.mem_append.mp hq with h | h
            · exact (rN.keep s5) q h
            · obtain rfl := List.mem_singleton.mp h
              exact ⟨((s2.trans s3).trans s4).free nc, hc⟩
          refine ⟨tup.1, ?_⟩
          rw [upd_ne (ne_of tup.2 (s5 _ _ hD4) (by intro z; cases z))]
          exact tup.2
      refine ⟨rfl, _, rfl, (by show 1 ≤ sizeLine; decide), fun t ht => ⟨_, rfl, ?_⟩⟩
      have s5 : Same H4 (upd H4 t (.tup [.str z])) := same_upd ht
      refine ⟨t, p.1, [.str z], p.2.map V.str, rfl, rfl, .of upd_same, .of (s5 _ _ (s4 _ _ (s3 _ _ rp.2))), ?_, (fun e => nomatch e), fun _ e => ?_, fun _ _ c hc => ?_⟩
      · rw [List.length_map, sizeLine_eq]
        simp only [List.length_singleton]
        omega
      · have e : p.2 = [] := by simpa using e
        refine fin t _ s5 ht ?_
        rw [e]
        exact upd_same
      · refine fin c _ (s5.trans (same_upd hc)) (s5.free hc) ?_
        exact upd_same
    · rintro H4 ⟨N, s4, nD, hD4, eN, rN⟩
      rw [List.length_map, List.take_length] at eN
      have nl : N.length = L0.length := by
        have q := congrArg List.length eN
        rw [List.length_map, List.length_map, List.length_map] at q
        exact q
      refine ⟨l1, D, _, _, rfl, rfl, s4 _ _ ul1', hD4, ?_, fun l2 hl2' => ?_⟩
      · rw [List.length_map, nl, sizeLine_eq, List.length_singleton]
        omega
      have s5 : Same H4 (upd H4 l2 (.lst ([.ref t1] ++ N.map rowV))) := same_upd hl2'
      have ul2 : (upd H4 l2 (.lst ([.ref t1] ++ N.map rowV))) l2 = some (.lst ([.ref t1] ++ N.map rowV)) := upd_same
      generalize upd H4 l2 (.lst ([.ref t1] ++ N.map rowV)) = H5 at s5 ul2
      refine ⟨_, rfl, 1, rfl, l, L0.map rowV, rfl, .of (s5 _ _ (s4 _ _ (s3 _ _ hl2))), fun l3 hl3 => ?_⟩
      have e3 : cutV (L0.map rowV) (some 1) none = (L0.drop 1).map rowV := by
        unfold cutV
        rw [HT.sIx_none, show (1 : Int) = ((1 : Nat) : Int) from rfl, HT.sIx_nat, List.map_drop]
        cases L0 with
        | nil => rfl
        | cons z zs =>
          rw [show min 1 ((z :: zs).map rowV).length = 1 by rw [List.map_cons, List.length_cons]; omega]
          exact List.take_of_length_le (by rw [List.length_drop]; exact Nat.le_refl _)
      rw [e3]
      have s6 : Same H5 (upd H5 l3 (.lst ((L0.drop 1).map rowV))) := same_upd hl3
      have ul3 : (upd H5 l3 (.lst ((L0.drop 1).map rowV))) l3 = some (.lst ((L0.drop 1).map rowV)) := upd_same
      generalize upd H5 l3 (.lst ((L0.drop 1).map rowV)) = H6 at s6 ul3
      refine ⟨l2, l3, _, _, rfl, rfl, s6 _ _ ul2, ul3, ?_, fun l4 hl4 => ?_⟩
      · simp only [List.length_append, List.length_map, List.length_singleton, List.length_drop, nl]
        rw [sizeLine_eq]
        omega
      have all : Same H2 H6 := ((s3.trans s4).trans s5).trans s6
      have fall : Same H H6 := s2.trans all
      refine ⟨l4, (t1, []) :: N ++ L0.drop 1, some (.str z), rfl, same_new fall hl4, fall.free hl4, ?_, ?_, fun r hr => ?_, same_upd hl4 _ _ (all _ _ hq2)⟩
      · rw [upd_same, List.map_append, List.map_cons]
        rfl
      · rw [List.map_append, List.map_cons, eN, dz, eb, List.map_drop, eb]
        show _ = [] :: (lots (xs.drop (xs.length - i))).map (z :: ·) ++ (lots (xs.drop (xs.length - i))).tail
        rw [List.drop_one]
      · have k : RowsAt H H6 ((t1, []) :: N ++ L0.drop 1) := fun r hr => by
          rcases List.mem_append.mp hr with h | h
          · rcases List.mem_cons.mp h with h | h
            · subst h
              exact ⟨nt1, s6 _ _ (s5 _ _ (s4 _ _ ut))⟩
            · exact (rN.keep (s5.trans s6)) r h
          · exact (rows.keep all) r (List.mem_of_mem_drop h)
        exact (k.keep (same_upd hl4)) r hr
  · rintro σ H2 ⟨l, L, v2, rfl, s2, nl, hl2, eb, rows, hq2⟩
    rw [List.length_map, List.length_reverse, Nat.sub_self, List.drop_zero] at eb
    refine ⟨_, rfl, l, _, rfl, .inl ⟨.of hl2, fun t ht => ?_⟩⟩
    exact go _ t L (same_new s2 ht) (s2.free ht) upd_same eb (rows.keep (same_upd ht))
def inT (ts : List Str) : PyData → Bool
  | .str z => decide (z ∈ ts)
  | _ => false
def isLotB (ts : List Str) : PyData → Bool
  | .tuple ds => ds.all (inT ts) && risB (ds.map txtOf)
  | _ => false
theorem asc_nth {ts : List Str} (h : Asc ts) {i j : Nat} {a b : Str} (hi : ts[i]? = some a) (hj : ts[j]? = some b) (lt : i < j) : Lt a b := by
  obtain ⟨hi1, hi2⟩ := List.getElem?_eq_some_iff.mp hi
  obtain ⟨hj1, hj2⟩ := List.getElem?_eq_some_iff.mp hj
  have q := List.pairwise_iff_getElem.mp h i j hi1 hj1 lt
  rw [hi2, hj2] at q
  exact q
theorem asc_lt {ts : List Str} (h : Asc ts) {i j : Nat} {a b : Str} (hi : ts[i]? = some a) (hj : ts[j]? = some b) : Lt a b ↔ i < j := by
  refine ⟨fun l => ?_, asc_nth h hi hj⟩
  rcases Nat.lt_trichotomy i j with q | q | q
  · exact q
  · subst q
    rw [hi] at hj
    cases hj
    exact absurd l (lt_irr _)
  · exact absurd l (lt_asym (asc_nth h hj hi q))
theorem ris_snoc (zs : List Str) (z : Str) : risB (zs ++ [z]) = (risB zs && (zs.isEmpty || decide (Lt (zs.getD (zs.length - 1) "") z))) := by
  cases zs with
  | nil => rfl
  | cons y ys =>
    have e1 : ((y :: ys) ++ [z]).length - 1 = ((y :: ys).length - 1) + 1 := by simp
    have g1 : ∀ i, i < (y :: ys).length → ((y :: ys) ++ [z]).getD i "" = (y :: ys).getD i "" := fun i hi => by
      rw [List.getD_eq_getElem?_getD, List.getD_eq_getElem?_getD, List.getElem?_append_left hi]
    have g2 : ((y :: ys) ++ [z]).getD ((y :: ys).length - 1 + 1) "" = z := by
      rw [show (y :: ys).length - 1 + 1 = (y :: ys).length by simp, List.getD_eq_getElem?_getD, List.getElem?_append_right (Nat.le_refl _), Nat.sub_self]
      rfl
    unfold risB
    rw [e1, List.range_succ, List.all_append, List.all_cons, List.all_nil, g2, g1 _ (by simp), Bool.and_true]
    congr 1
    have : ∀ l : List Nat, (∀ i ∈ l, i < (y :: ys).length - 1) → (l.all fun i => decide (Lt (((y :: ys) ++ [z]).getD i "") (((y :: ys) ++ [z]).getD (i + 1) ""))) = l.all fun i => decide (Lt ((y :: ys).getD i "") ((y :: ys).getD (i + 1) "")) := by
      intro l
      induction l with
      | nil => intro _; rfl
      | cons a l ih =>
        intro h
        have ha := h a (List.mem_cons_self ..)
        rw [List.all_cons, List.all_cons, ih fun i hi => h i (List.mem_cons_of_mem _ hi), g1 a (by omega), g1 (a + 1) (by omega)]
    exact this _ fun i hi => List.mem_range.mp hi
theorem ris_cut {zs : List Str} (h : risB zs = true) : ∀ k, risB (zs.take k) = true
  | 0 => rfl
  | k + 1 => by
    unfold risB at h ⊢
    rw [List.all_eq_true] at h ⊢
    intro i hi
    rw [List.mem_range, List.length_take] at hi
    have q := h i (List.mem_range.mpr (by omega))
    have g : ∀ j, j < k + 1 → (zs.take (k + 1)).getD j "" = zs.getD j "" := fun j hj => by
      rw [List.getD_eq_getElem?_getD, List.getD_eq_getElem?_getD, List.getElem?_take_of_lt hj]
    rw [g i (by omega), g (i + 1) (by omega)]
    exact q
abbrev sPlace : Stmt := top 13
/-- the place of a lot (here: some number), or None -/
def spPlace (K : PySem.W.Frag) : Sp := fun vs H Q _ => ∃ (t : Addr) (ts : List Str) (x : V) (d : PyData), vs = [.ref t, x] ∧ (∃ o : Obj, H t = some (.frz o (.tup (ts.map V.str))) ∧ o.dict = none) ∧ Asc ts ∧ ts.length ≤ 8 ∧ Dr K H x d ∧ fits1 d ∧
  (isLotB ts d = false → Q .non H) ∧ (isLotB ts d = true → ∀ n : Int, Q (.int n) H)
theorem scPlace : FnScope ["things", "thing", "many", "place", "least", "word", "at"] ["things", "thing"] (defScope sPlace) := ⟨rfl, rfl, rfl, by decide +kernel, rfl, by decide +kernel, by decide +kernel⟩
theorem ok_place {f : Addr} {fd : FuncData} (F : Fun K "place_of" "place_of" sPlace f fd) (T : Blt mg) : FnOk P w K mg base CX0 1 f fd ["things", "thing"] (spPlace K) := by
  refine F.ok scPlace (fun vs H Q E h => ?_) (fun cdv A outer s H vs Q E hr h => ?_)
  · obtain ⟨t, ts, x, d, rfl, _⟩ := h
    rfl
  obtain ⟨t, ts, x, d, rfl, ⟨o, hto, hdn⟩, asc, len, hx, ft, goN, goI⟩ := h
  have ht : SqT K H t (ts.map V.str) := .inl (.inr ⟨o, hto⟩)
  refine ⟨_, pss_cons (ps_if (pt_not (pt_val (pe_callB call_isi (by rfl) T.isinstance (by decide +kernel) (pa_cons (pv 1) (pa_cons (pe_bltn (v := .ty "tuple") (by rfl) T.tuple (by decide +kernel) rfl) pa_nil))))) (pss_one (ps_ret pe_non)) pss_nil)
    (pss_cons (ps_set (i := 2) scPlace.nd rfl (Or.inl rfl) (pe_op op_shl pe_int (pe_callB call_len_seq (by rfl) T.len PySem.boot_len (pa_cons (pv 0) pa_nil))))
    (pss_cons (ps_set (i := 3) scPlace.nd rfl (Or.inl rfl) pe_int)
    (pss_cons (ps_set (i := 4) scPlace.nd rfl (Or.inl rfl) pe_int)
    (pss_cons (ps_for PassesOwn.never rfl (pi_tup (pv 1)) (pg_name (i := 5) scPlace.nd rfl (Or.inl rfl))
      (pss_cons (ps_if (PW.pt (pw_or (pt_not (pt_val (pe_callB call_isi (by rfl) T.isinstance (by decide +kernel) (pa_cons (pv 5) (pa_cons (pe_bltn (v := .ty "str") (by rfl) T.str (by decide +kernel) rfl) pa_nil)))))
        (pw_or1 (pt_cmpR (r := rIn K true) op_notIn_seq (pv 5) (pv 0) (by rfl))))) (pss_one (ps_ret pe_non)) pss_nil)
      (pss_cons (ps_set (i := 6) scPlace.nd rfl (Or.inl rfl) (pe_bmB PySem.F.plainAttrs_tuple PySem.F.slot_tuple_index PySem.F.type_tuple_index mt_tup_index (pv 0) (pa_cons (pv 5) pa_nil)))
      (pss_cons (ps_if (pt_cmpR op_lt (pv 6) (pv 4) (nomark _)) (pss_one (ps_ret pe_non)) pss_nil)
      (pss_cons (ps_set (i := 3) scPlace.nd rfl (Or.inl rfl) (pe_op op_sub (pe_op op_add (pe_op op_add (pv 3) pe_int) (pe_op op_shr (pv 2) (pv 4))) (pe_op op_shr (pv 2) (pv 6))))
      (pss_one (ps_set (i := 4) scPlace.nd rfl (Or.inl rfl) (pe_op op_add (pv 6) pe_int))))))))
    (pss_one (ps_ret (pv 3))))))), ?_⟩
  refine ⟨_, rfl, x, _, _, _, isTup d, rfl, .ty "tuple", hx.ty, kit_tuple d, _, rfl, ?_⟩
  cases hx with
  | non => exact iteT (goN rfl)
  | bl b => exact iteT (goN rfl)
  | int i => exact iteT (goN rfl)
  | str y => exact iteT (goN rfl)
  | lst at_ no all => exact iteT (goN rfl)
  | dic at_ => exact iteT (goN rfl)
  | @tup a xs ds at_ no all =>
    refine iteF ?_
    refine ⟨_, rfl, t, _, rfl, .inr ht, _, _, rfl, rfl, ⟨by omega, ?_, by decide⟩, ?_⟩
    · rw [List.length_map]
      omega
    refine ⟨_, rfl, a, rfl, ⟨_, .inl at_⟩, ?_⟩
    refine for_tup (K := K) (a := a) (xs := xs) (fun i σ H2 => H2 = H ∧ ∃ (mn pl : Int) (le : Nat) (v5 v6 : Option V), σ = [some (.ref t), some (.ref a), some (.int mn), some (.int pl), some (.int (le : Nat)), v5, v6] ∧ (ds.take i).all (inT ts) = true ∧ risB ((ds.take i).map txtOf) = true ∧
      ((i = 0 ∧ le = 0) ∨ ∃ k z, ts[k]? = some z ∧ (((ds.take i).map txtOf).getD (((ds.take i).map txtOf).length - 1) "") = z ∧ 0 < i ∧ le = k + 1)) ?_ (fun i σ H2 _ q => q.1 ▸ .inl at_) ?_ ?_
    · exact ⟨rfl, _, _, 0, none, none, rfl, rfl, rfl, .inl ⟨rfl, rfl⟩⟩
    · rintro i x σ H2 hx ⟨rfl, mn, pl, le, v5, v6, rfl, al, ri, rel⟩
      obtain ⟨d, hd, hxd⟩ := all.nth hx
      have hi : i < ds.length := (List.getElem?_eq_some_iff.mp hd).1
      have bad : inT ts d = false → isLotB ts (.tuple ds) = false := fun e => by
        show (ds.all (inT ts) && _) = false
        have q : ds.all (inT ts) = false := by
          rw [List.all_eq_false]
          exact ⟨d, List.mem_of_getElem? hd, by rw [e]; simp⟩
        rw [q, Bool.false_and]
      refine ⟨_, rfl, x, _, _, _, isStr d, rfl, .ty "str", hxd.ty, kit_str d, _, rfl, ?_⟩
      cases hxd with
      | str z =>
        refine iteF ⟨_, rfl, _, rfl, t, _, rfl, .inr ht, rfl, flat_strs ts, ?_⟩
        rw [inV_str, if_pos rfl]
        by_cases mem : z ∈ ts
        · rw [decide_eq_true mem]
          refine ⟨false, rfl, iteF ?_⟩
          obtain ⟨k, hk⟩ := List.getElem?_of_mem mem
          refine ⟨_, rfl, ⟨t, o, _, rfl, hto, hdn⟩, _, rfl, t, ts, z, k, rfl, rfl, ht, hk, fun m hm e => lt_irr _ (asc_nth asc e hk hm), ?_⟩
          refine ⟨_, rfl, _, rfl, _, _, rfl, rfl, _, rfl, ?_⟩
          have ed : (ds.take (i + 1)).map txtOf = (ds.take i).map txtOf ++ [z] := by
            rw [take_snoc hd, List.map_append]
            rfl
          have li : ((ds.take i).map txtOf).length = i := by
            rw [List.length_map, List.length_take]
            omega
          have key : risB ((ds.take (i + 1)).map txtOf) = decide (le ≤ k) := by
            rw [ed, ris_snoc, ri, Bool.true_and]
            rcases rel with ⟨i0, l0⟩ | ⟨k', z', hk', hz', i0, rfl⟩
            · rw [show ((ds.take i).map txtOf).isEmpty = true by rw [List.isEmpty_iff_length_eq_zero, li, i0]]
              rw [Bool.true_or, decide_eq_true (by omega)]
            · rw [show ((ds.take i).map txtOf).isEmpty = false by
                cases e : ((ds.take i).map txtOf).isEmpty with
                | false => rfl
                | true =>
                  rw [List.isEmpty_iff_length_eq_zero, li] at e
                  omega]
              rw [Bool.false_or, hz']
              exact decide_eq_decide.mpr (asc_lt asc hk' hk)
          refine ite2 (fun c => ?_) (fun c => ?_)
          · refine goN ?_
            have c2 : ((k : Nat) : Int) < ((le : Nat) : Int) := of_decide_eq_true c
            show (_ && risB (ds.map txtOf)) = false
            cases e : risB (ds.map txtOf) with
            | false => rw [Bool.and_false]
            | true =>
              have q := ris_cut e (i + 1)
              rw [← List.map_take, key] at q
              have q2 := of_decide_eq_true q
              omega
          · have c2 : ¬ ((k : Nat) : Int) < ((le : Nat) : Int) := fun h => c (decide_eq_true h)
            refine ⟨_, rfl, _, _, rfl, rfl, _, rfl, _, rfl, _, _, rfl, rfl, by omega, _, _, rfl, rfl, _, rfl, _, rfl, _, _, rfl, rfl, by omega, _, _, rfl, rfl, ?_⟩
            refine ⟨_, rfl, _, _, rfl, rfl, ?_⟩
            refine ⟨rfl, _, _, k + 1, _, _, rfl, ?_, ?_, .inr ⟨k, z, hk, ?_, by omega, rfl⟩⟩
            · rw [take_snoc hd, List.all_append, al]
              simp [inT, mem]
            · rw [key]
              exact decide_eq_true (by omega)
            · rw [ed, List.length_append, li, List.length_singleton, List.getD_eq_getElem?_getD, List.getElem?_append_right (by omega), li]
              simp
        · rw [decide_eq_false mem]
          exact ⟨true, rfl, iteT (goN (bad (decide_eq_false mem)))⟩
      | non => exact iteT (goN (bad rfl))
      | bl b => exact iteT (goN (bad rfl))
      | int i => exact iteT (goN (bad rfl))
      | lst at_ no all => exact iteT (goN (bad rfl))
      | dic at_ => exact iteT (goN (bad rfl))
      | tup at_ no all => exact iteT (goN (bad rfl))
    · rintro σ H2 ⟨rfl, mn, pl, le, v5, v6, rfl, al, ri, rel⟩
      rw [all.len, List.take_length] at al ri
      refine ⟨_, rfl, goI ?_ _⟩
      show (ds.all (inT ts) && risB (ds.map txtOf)) = true
      rw [al, ri]
      rfl
theorem tab_sign : ∀ c, c < 128 → (Unicode.isAlpha c = decide ((65 ≤ c ∧ c ≤ 90) ∨ (97 ≤ c ∧ c ≤ 122)) ∧ Unicode.isLower c = decide (97 ≤ c ∧ c ≤ 122) ∧ (Unicode.isUpper c || Unicode.isTitle c) = decide (65 ≤ c ∧ c ≤ 90)) := by decide +kernel
theorem mem_letters (c : Nat) : (c ∈ cd letters) ↔ 97 ≤ c ∧ c ≤ 122 := by
  rw [cd_letters, List.mem_map]
  constructor
  · rintro ⟨j, hj, rfl⟩
    rw [List.mem_range] at hj
    omega
  · intro h
    exact ⟨c - 97, by rw [List.mem_range]; omega, by omega⟩
theorem word_bool (y : Str) (h1 : 1 ≤ y.length) : (if Txt.isascii y = true then if Txt.isalpha y = true then Txt.islower y else false else false) = (cd y).all fun c => decide (c ∈ cd letters) := by
  have e1 : Txt.isascii y = (cd y).all fun c => decide (c < 128) := by
    unfold Txt.isascii
    rw [← Array.all_toList]
  have e2 : Txt.isalpha y = (cd y).all Unicode.isAlpha := by
    unfold Txt.isalpha
    rw [← Array.all_toList, decide_eq_true (show y.length > 0 by omega), Bool.true_and]
  have e3 : Txt.islower y = ((cd y).any Unicode.isLower && !(cd y).any fun c => Unicode.isUpper c || Unicode.isTitle c) := by
    unfold Txt.islower
    rw [← Array.any_toList, ← Array.any_toList]
  have ne : cd y ≠ [] := fun e => by
    rw [len_cd, e] at h1
    simp at h1
  rw [e1, e2, e3]
  generalize cd y = l at ne
  by_cases a : (l.all fun c => decide (c < 128)) = true
  · rw [if_pos a]
    have a2 : ∀ c ∈ l, c < 128 := fun c hc => of_decide_eq_true (List.all_eq_true.mp a c hc)
    by_cases b : (l.all fun c => decide (c ∈ cd letters)) = true
    · have b2 : ∀ c ∈ l, 97 ≤ c ∧ c ≤ 122 := fun c hc => (mem_letters c).1 (of_decide_eq_true (List.all_eq_true.mp b c hc))
      rw [b, if_pos ?_]
      · have p1 : l.any Unicode.isLower = true := by
          cases l with
          | nil => exact absurd rfl ne
          | cons c l =>
            have q := b2 c (List.mem_cons_self ..)
            rw [List.any_cons, (tab_sign c (by omega)).2.1, decide_eq_true q, Bool.true_or]
        have p2 : (l.any fun c => Unicode.isUpper c || Unicode.isTitle c) = false := by
          rw [List.any_eq_false]
          intro c hc
          have q := b2 c hc
          rw [(tab_sign c (by omega)).2.2, decide_eq_false (by omega)]
          exact Bool.false_ne_true
        rw [p1, p2]
        rfl
      · rw [List.all_eq_true]
        intro c hc
        have q := b2 c hc
        rw [(tab_sign c (by omega)).1]
        exact decide_eq_true (by omega)
    · have b3 : (l.all fun c => decide (c ∈ cd letters)) = false := by simpa using b
      rw [b3]
      obtain ⟨c, hc, hn⟩ := List.all_eq_false.mp b3
      have hn2 : ¬ (97 ≤ c ∧ c ≤ 122) := fun q => hn (decide_eq_true ((mem_letters c).2 q))
      have t := tab_sign c (a2 c hc)
      by_cases d : l.all Unicode.isAlpha = true
      · rw [if_pos d]
        have q := List.all_eq_true.mp d c hc
        rw [t.1] at q
        have q2 := of_decide_eq_true q
        have up : (l.any fun c => Unicode.isUpper c || Unicode.isTitle c) = true := by
          rw [List.any_eq_true]
          exact ⟨c, hc, by rw [t.2.2]; exact decide_eq_true (by omega)⟩
        rw [up]
        simp
      · rw [if_neg d]
  · rw [if_neg a]
    obtain ⟨c, hc, hn⟩ := List.all_eq_false.mp (by simpa using a : (l.all fun c => decide (c < 128)) = false)
    symm
    rw [List.all_eq_false]
    refine ⟨c, hc, fun q => hn ?_⟩
    have q2 := (mem_letters c).1 (of_decide_eq_true q)
    exact decide_eq_true (by omega)
abbrev sWord : Stmt := top 6
theorem scWord : FnScope ["value"] ["value"] (defScope sWord) := ⟨rfl, rfl, rfl, by decide +kernel, rfl, by decide +kernel, by decide +kernel⟩
theorem ok_word {f : Addr} {fd : FuncData} {tk : Tok} (gL : mg "_LONGEST_WORD" = some (.int 8 tk)) (F : Fun K "is_word" "is_word" sWord f fd) (T : Blt mg) : FnOk P w K mg base CX0 1 f fd ["value"] (spIsName K) := by
  refine F.ok scWord (fun vs H Q E h => ?_) (fun cdv A outer s H vs Q E hr h => ?_)
  · obtain ⟨x, d, rfl, _⟩ := h
    rfl
  obtain ⟨x, d, rfl, hx, ft, go⟩ := h
  refine ⟨_, pss_cons (ps_if (PW.pt (pw_or (pt_not (pt_val (pe_callB call_isi (by rfl) T.isinstance (by decide +kernel) (pa_cons (pv 0) (pa_cons (pe_bltn (v := .ty "str") (by rfl) T.str (by decide +kernel) rfl) pa_nil)))))
      (pw_or1 (pt_not (pt_chain op_le op_le pe_int (pe_callB call_len_str (by rfl) T.len PySem.boot_len (pa_cons (pv 0) pa_nil)) (pe_glob (v := .int 8) (by rfl) gL ⟨_, rfl⟩)))))) (pss_one (ps_ret pe_bl)) pss_nil)
    (pss_one (ps_ret (pe_and (pe_bm0 PySem.F.plainAttrs_str PySem.F.slot_str_isascii PySem.F.type_str_isascii mt_isascii (pv 0)) (pe_and (pe_bm0 PySem.F.plainAttrs_str PySem.F.slot_str_isalpha PySem.F.type_str_isalpha mt_isalpha (pv 0)) (pe_one (pe_bm0 PySem.F.plainAttrs_str PySem.F.slot_str_islower PySem.F.type_str_islower mt_islower (pv 0))))))), ?_⟩
  refine ⟨_, rfl, x, _, _, _, isStr d, rfl, .ty "str", hx.ty, kit_str d, _, rfl, ?_⟩
  cases hx with
  | str y =>
    refine iteF ⟨_, rfl, y, rfl, ft.1, _, _, rfl, rfl, _, rfl, ite2 (fun c1 => ⟨_, _, rfl, rfl, _, rfl, ?_⟩) (fun c1 => ⟨_, rfl, iteT ?_⟩)⟩
    · refine ite2 (fun c2 => ?_) (fun c2 => ?_)
      · have e : isNm (.str y) = false := by
          show (decide (1 ≤ y.length ∧ y.length ≤ 8) && _) = false
          rw [decide_eq_false (by simp at c2; omega), Bool.false_and]
        exact e ▸ go H (Same.refl _)
      have len : y.length ≤ 8 := by
        simp at c2
        omega
      have len1 : 1 ≤ y.length := by
        have := of_decide_eq_true c1
        omega
      have q : isNm (.str y) = (cd y).all fun c => decide (c ∈ cd letters) := by
        show (decide (1 ≤ y.length ∧ y.length ≤ 8) && (cd y).all fun c => decide (c ∈ cd letters)) = _
        rw [decide_eq_true ⟨len1, len⟩, Bool.true_and]
      have wb := word_bool y len1
      refine ⟨_, rfl, rfl, y, rfl, rfl, trivial, _, rfl, ?_⟩
      refine ite2 (fun c3 => ?_) (fun c3 => ?_)
      · rw [if_pos c3] at wb
        refine ⟨_, rfl, rfl, y, rfl, rfl, trivial, _, rfl, ?_⟩
        refine ite2 (fun c4 => ?_) (fun c4 => ?_)
        · rw [if_pos c4] at wb
          refine ⟨_, rfl, rfl, y, rfl, rfl, trivial, ?_⟩
          rw [wb, ← q]
          exact go H (Same.refl _)
        · rw [if_neg c4] at wb
          have e : isNm (.str y) = false := q.trans wb.symm
          exact e ▸ go H (Same.refl _)
      · rw [if_neg c3] at wb
        have e : isNm (.str y) = false := q.trans wb.symm
        exact e ▸ go H (Same.refl _)
    · have e : isNm (.str y) = false := by
        show (decide (1 ≤ y.length ∧ y.length ≤ 8) && _) = false
        rw [decide_eq_false (by simp at c1; omega), Bool.false_and]
      exact e ▸ go H (Same.refl _)
  | non => exact iteT (iteT (go H (Same.refl _)))
  | bl b => exact iteT (iteT (go H (Same.refl _)))
  | int i => exact iteT (iteT (go H (Same.refl _)))
  | lst at_ no all => exact iteT (iteT (go H (Same.refl _)))
  | tup at_ no all => exact iteT (iteT (go H (Same.refl _)))
  | dic at_ => exact iteT (iteT (go H (Same.refl _)))
abbrev sIsLot : Stmt := top 12
/-- whether any value is a lot of things -/
def spIsLot (K : PySem.W.Frag) : Sp := fun vs H Q _ => ∃ (t : Addr) (ts : List Str) (x : V) (d : PyData), vs = [.ref t, x] ∧ (∃ o : Obj, H t = some (.frz o (.tup (ts.map V.str))) ∧ o.dict = none) ∧ Asc ts ∧ ts.length ≤ 8 ∧ Dr K H x d ∧ fits1 d ∧ Q (.bl (isLotB ts d)) H
theorem scIsLot : FnScope ["things", "thing"] ["things", "thing"] (defScope sIsLot) := ⟨rfl, rfl, rfl, by decide +kernel, rfl, by decide +kernel, by decide +kernel⟩
theorem ok_islot {f fN : Addr} {fd fdN : FuncData} (F : Fun K "is_lot" "is_lot" sIsLot f fd) (T : Blt mg)
    (FN : FnOk P w K mg base CX0 1 fN fdN ["things", "thing"] (spPlace K)) (gN : mg "place_of" = some (.ref fN)) (kN : PySem.W.keepIn K (.ref fN) = true) (bN : Binds K fdN ["things", "thing"] []) : FnOk P w K mg base CX0 2 f fd ["things", "thing"] (spIsLot K) := by
  refine F.ok scIsLot (fun vs H Q E h => ?_) (fun cdv A outer s H vs Q E hr h => ?_)
  · obtain ⟨t, ts, x, d, rfl, _⟩ := h
    rfl
  obtain ⟨t, ts, x, d, rfl, ht, asc, len, hx, ft, go⟩ := h
  refine ⟨_, pss_one (ps_ret (pe_cmpR op_notN (pe_call FN hr (by rfl) gN kN bN .nil pass0 (pa_cons (pv 0) (pa_cons (pv 1) pa_nil))) pe_non (nomark _))), ?_⟩
  refine ⟨_, rfl, _, rfl, t, ts, x, d, rfl, ht, asc, len, hx, ft, fun e => ?_, fun e n => ?_⟩
  · rw [e] at go
    exact ⟨rfl, go⟩
  · rw [e] at go
    exact ⟨rfl, go⟩
end
end Lots

namespace Lots
open PySem PySem.Spec PyProof.Rows L2
section
variable {P : Program} {w : World} {K : PySem.W.Frag} {mg : Str → Option Value} {base : Heap}
abbrev sRules : Stmt := top 17
/-- the names of the rules, as a tuple -/
def spRules (K : PySem.W.Frag) : Sp := fun vs H Q _ => ∃ (a : Addr) (xs : List Str), vs = [.ref a] ∧ SqT K H a (xs.map V.str) ∧ xs.length ≤ 8 ∧
  ∀ (H2 : Hp) (t : Addr), Same H H2 → Dr K H2 (.ref t) (.tuple (rulesD xs)) → Q (.ref t) H2
/-- the data of a list -/
theorem Acc.list {K : PySem.W.Frag} {H H2 : Hp} {f : Addr} {ds : List PyData} (A : Acc K H H2 f ds) : Dr K H2 (.ref f) (.list ds) :=
  let ⟨vs, h, all⟩ := A.at_
  .lst (Rd.of h) rfl all
theorem lots_mem_len {xs l : List Str} (h : l ∈ lots xs) : l.length ≤ xs.length := lots_short xs l h
theorem lots256 {xs : List Str} (h : xs.length ≤ 8) : (lots xs).length ≤ 256 := by
  rw [lots_len]
  exact Nat.le_trans (Nat.pow_le_pow_right (by decide) h) (by decide)
theorem take_lots {xs : List Str} (h : xs.length ≤ 8) (i : Nat) : ((lots xs).take i).length ≤ 256 := by
  rw [List.length_take]
  have := lots256 h
  omega
theorem steps_small {xs : List Str} (h : xs.length ≤ 8) (i : Nat) : (stepsD xs ((lots xs).take i)).length ≤ 2048 := by
  have a := steps_len xs ((lots xs).take i)
  have b := take_lots h i
  have c := Nat.mul_le_mul b h
  omega
theorem pairs_small {xs : List Str} (h : xs.length ≤ 8) (i : Nat) : (pairsD xs ((lots xs).take i)).length ≤ 16384 := by
  have a := pairs_len xs ((lots xs).take i)
  have b := take_lots h i
  have c := Nat.mul_le_mul b (Nat.mul_le_mul h h)
  omega
theorem cut_from {zs : List Str} (k : Nat) : cutV (zs.map V.str) (some (k : Int)) none = (zs.drop k).map V.str := by
  unfold cutV
  rw [HT.sIx_nat, HT.sIx_none, List.map_drop]
  by_cases h : k ≤ (zs.map V.str).length
  · rw [Nat.min_eq_left h]
    exact List.take_of_length_le (by rw [List.length_drop]; exact Nat.le_refl _)
  · rw [Nat.min_eq_right (by omega), List.drop_of_length_le (Nat.le_refl _), List.drop_of_length_le (by omega), List.take_nil]
theorem scRules : FnScope ["things", "steps", "pairs", "lot", "beside", "number", "first", "second"] ["things"] (defScope sRules) := ⟨rfl, rfl, rfl, by decide +kernel, rfl, by decide +kernel, by decide +kernel⟩
theorem ok_rules {f fN fM : Addr} {fd fdN fdM : FuncData} (F : Fun K "rules" "rules" sRules f fd) (T : Blt mg)
    (FN : FnOk P w K mg base CX0 1 fN fdN ["things"] (spAll K)) (gN : mg "all_lots" = some (.ref fN)) (kN : PySem.W.keepIn K (.ref fN) = true) (bN : Binds K fdN ["things"] [])
    (FM : FnOk P w K mg base CX0 1 fM fdM ["one", "other"] (spLess K)) (gM : mg "without" = some (.ref fM)) (kM : PySem.W.keepIn K (.ref fM) = true) (bM : Binds K fdM ["one", "other"] []) : FnOk P w K mg base CX0 2 f fd ["things"] (spRules K) := by
  refine F.ok scRules (fun vs H Q E h => ?_) (fun cdv A outer s H vs Q E hr h => ?_)
  · obtain ⟨a, xs, rfl, _⟩ := h
    rfl
  obtain ⟨a, xs, rfl, ha, len, go⟩ := h
  refine ⟨_, pss_cons (ps_set (i := 1) scRules.nd rfl (Or.inl rfl) (pe_lst pa_nil))
    (pss_cons (ps_set (i := 2) scRules.nd rfl (Or.inl rfl) (pe_lst pa_nil))
    (pss_cons (ps_for PassesOwn.never rfl (pi_tup (pe_call FN hr (by rfl) gN kN bN .nil pass0 (pa_cons (pv 0) pa_nil))) (pg_name (i := 3) scRules.nd rfl (Or.inl rfl))
      (pss_cons (ps_set (i := 4) scRules.nd rfl (Or.inl rfl) (pe_call FM hr (by rfl) gM kM bM .nil pass0 (pa_cons (pv 0) (pa_cons (pv 3) pa_nil))))
      (pss_one (ps_for PassesOwn.never rfl (pi_enumT (by rfl) T.enumerate (pa_cons (pv 4) pa_nil)) (pg_tup rfl (pgs_cons (pg_name (i := 5) scRules.nd rfl (Or.inl rfl)) (pgs_cons (pg_name (i := 6) scRules.nd rfl (Or.inl rfl)) pgs_nil)))
        (pss_cons (ps_expr (pe_bm PySem.F.plainAttrs_list PySem.F.slot_list_append PySem.F.type_list_append mt_append (pv 1) (pa_cons (pe_tup (pa_cons pe_str (pa_cons (pv 3) (pa_cons (pv 6) pa_nil)))) pa_nil)))
        (pss_one (ps_for PassesOwn.never rfl (pi_tup (pe_slice sl_tupW (pv 4) (po_some (pe_op op_add (pv 5) pe_int)) po_none)) (pg_name (i := 7) scRules.nd rfl (Or.inl rfl))
          (pss_one (ps_expr (pe_bm PySem.F.plainAttrs_list PySem.F.slot_list_append PySem.F.type_list_append mt_append (pv 2) (pa_cons (pe_tup (pa_cons pe_str (pa_cons (pv 3) (pa_cons (pv 6) (pa_cons (pv 7) pa_nil))))) pa_nil)))))))))))
    (pss_one (ps_ret (pe_callTy call_tuple_of (by rfl) T.tuple (by decide +kernel) (pa_cons (pe_op op_cat (pe_op op_cat (pe_lst (pa_cons (pe_tup (pa_cons pe_str pa_nil)) pa_nil)) (pv 1)) (pv 2)) pa_nil)))))), ?_⟩
  refine ⟨Nat.zero_le _, fun S hS => ⟨Nat.zero_le _, fun R hR => ?_⟩⟩
  have s0 : Same H (upd (upd H S (.lst [])) R (.lst [])) := same_new (same_upd hS) hR
  have aS : Acc K H (upd (upd H S (.lst [])) R (.lst [])) S [] := ⟨hS, ⟨[], by rw [upd_ne (ne_of_none upd_same hR)]; exact upd_same, .nil⟩, rfl⟩
  have aR : Acc K H (upd (upd H S (.lst [])) R (.lst [])) R [] := ⟨(same_upd hS).free hR, ⟨[], upd_same, .nil⟩, rfl⟩
  have neSR : S ≠ R := ne_of_none upd_same hR
  generalize upd (upd H S (.lst [])) R (.lst []) = H0 at s0 aS aR ⊢
  refine ⟨_, rfl, a, xs, rfl, Same.sT s0 ha, len, fun H1 t L s1 nt ht eL rows => ?_⟩
  refine ⟨t, rfl, ⟨_, .of ht⟩, ?_⟩
  have aS1 := aS.grow s1
  have aR1 := aR.grow s1
  have s01 := s0.trans s1
  have nt0 : H t = none := s0.free nt
  refine for_tup (K := K) (a := t) (xs := L.map rowV) (fun i σ H2 => ∃ v3 v4 v5 v6 v7, σ = [some (.ref a), some (.ref S), some (.ref R), v3, v4, v5, v6, v7] ∧ Same H H2 ∧ SameT H1 H2 ∧
    Acc K H H2 S (stepsD xs ((lots xs).take i)) ∧ Acc K H H2 R (pairsD xs ((lots xs).take i))) ?_ (fun i σ H2 _ ⟨v3, v4, v5, v6, v7, _, _, k, _⟩ => .of (k.1 _ _ ht)) ?_ ?_
  · exact ⟨_, _, _, _, _, rfl, s01, .of (Same.refl _), aS1, aR1⟩
  · rintro i x σ H2 hx ⟨v3, v4, v5, v6, v7, rfl, s2, k2, cS, cR⟩
    obtain ⟨p, rfl, hp⟩ : ∃ p, x = rowV p ∧ L[i]? = some p := by
      rw [List.getElem?_map] at hx
      cases e : L[i]? with
      | none =>
        rw [e] at hx
        cases hx
      | some p =>
        rw [e] at hx
        exact ⟨p, (Option.some.inj hx).symm, rfl⟩
    have hl : (lots xs)[i]? = some p.2 := by
      rw [← eL, List.getElem?_map, hp]
      rfl
    have rp := (rows p (List.mem_of_getElem? hp)).2
    have rp2 : H2 p.1 = some (.tup (p.2.map V.str)) := k2.1 _ _ rp
    have l8 : p.2.length ≤ 8 := Nat.le_trans (lots_mem_len (List.mem_of_getElem? hl)) len
    refine ⟨_, rfl, _, rfl, a, p.1, xs, p.2, rfl, Same.sT s2 ha, .of rp2, by omega, fun H3 b s3 nb hb => ?_⟩
    obtain ⟨rest, er⟩ : ∃ rest, rest = restL xs p.2 := ⟨_, rfl⟩
    have hb : H3 b = some (.tup (rest.map V.str)) := by
      rw [er]
      exact hb
    have r8 : rest.length ≤ 8 := by
      rw [er]
      exact Nat.le_trans (restL_len _ _) len
    have s13 : SameT H1 H3 := ⟨fun c u z => s3 _ _ (k2.1 c u z), fun c o u z => s3 _ _ (k2.2 c o u z)⟩
    refine ⟨_, rfl, b, _, rfl, .of hb, ?_⟩
    refine for_it (walk_enumT (K := K) (a := b) (xs := rest.map V.str)) (fun j σ H4 => ∃ v5 v6 v7, σ = [some (.ref a), some (.ref S), some (.ref R), some (.ref p.1), some (.ref b), v5, v6, v7] ∧ Same H H4 ∧ SameT H3 H4 ∧
      Acc K H H4 S (stepsD xs ((lots xs).take i) ++ (rest.take j).map (stepD p.2)) ∧ Acc K H H4 R (pairsD xs ((lots xs).take i) ++ pairsTo p.2 rest j)) ?_ (fun j σ H4 _ ⟨v5, v6, v7, _, _, k, _⟩ => .of (k.1 _ _ hb)) ?_ ?_
    · refine ⟨_, _, _, rfl, s2.trans s3, .of (Same.refl _), ?_, ?_⟩
      · rw [List.take_zero, List.map_nil, List.append_nil]
        exact cS.grow s3
      · rw [show pairsTo p.2 rest 0 = [] from rfl, List.append_nil]
        exact cR.grow s3
    · rintro j x σ H4 H5 hj ⟨v5, v6, v7, rfl, s4, k4, dS, dR⟩ ⟨T1, u, v, rfl, hT, rfl, hu, hv⟩
      cases hu
      obtain ⟨z, rfl, hz⟩ := str_nth hv
      have s5 : Same H4 (upd H4 T1 (.tup [.int (j : Nat), .str z])) := same_upd hT
      have eS := dS.grow s5
      have eR := dR.grow s5
      have k5 : SameT H3 (upd H4 T1 (.tup [.int (j : Nat), .str z])) := ⟨fun c u q => s5 _ _ (k4.1 c u q), fun c o u q => s5 _ _ (k4.2 c o u q)⟩
      have s45 := s4.trans s5
      refine ⟨T1, _, rfl, .of upd_same, rfl, _, _, rfl, _, _, rfl, rfl, ?_⟩
      generalize upd H4 T1 (.tup [.int (j : Nat), .str z]) = H5 at s5 eS eR k5 s45 ⊢
      obtain ⟨vS, hvS, allS⟩ := eS.at_
      refine ⟨_, rfl, .inl ⟨rfl, _, .of hvS⟩, _, rfl, _, rfl, (by show 3 ≤ sizeLine; decide), fun T2 hT2 => ?_⟩
      have s6 : Same H5 (upd H5 T2 (.tup [.str "step", .ref p.1, .str z])) := same_upd hT2
      have lS := eS.len hvS
      have ll : vS.length ≤ 4000 := by
        rw [lS, List.length_append, List.length_map, List.length_take]
        have := steps_small len i
        omega
      have uT : (upd H5 T2 (.tup [.str "step", .ref p.1, .str z])) T2 = some (.tup [.str "step", .ref p.1, .str z]) := upd_same
      have fS := eS.grow s6
      have fR := eR.grow s6
      have k6 : SameT H3 (upd H5 T2 (.tup [.str "step", .ref p.1, .str z])) := ⟨fun c u q => s6 _ _ (k5.1 c u q), fun c o u q => s6 _ _ (k5.2 c o u q)⟩
      have s56 := s45.trans s6
      have hvS6 := s6 _ _ hvS
      generalize upd H5 T2 (.tup [.str "step", .ref p.1, .str z]) = H6 at s6 uT fS fR k6 s56 hvS6 ⊢
      refine ⟨S, vS, _, rfl, rfl, hvS6, Nat.lt_of_le_of_lt ll (by decide), ?_⟩
      have rp6 : H6 p.1 = some (.tup (p.2.map V.str)) := k6.1 _ _ (s13.1 _ _ rp)
      have gS := fS.push hvS6 (dr_step uT rp6) (flat_step _ _)
      have gR := fR.other (Ne.symm neSR) hvS6 (ys := vS ++ [V.ref T2])
      have k7 : SameT H3 (upd H6 S (.lst (vS ++ [V.ref T2]))) := k6.lst hvS6
      have s7 : Same H (upd H6 S (.lst (vS ++ [V.ref T2]))) := same_off s56 fS.free
      generalize upd H6 S (.lst (vS ++ [V.ref T2])) = H7 at gS gR k7 s7 ⊢
      have ez : rest.getD j "" = z := by
        rw [List.getD_eq_getElem?_getD, hz]
        rfl
      have eSt : stepsD xs ((lots xs).take i) ++ (rest.take j).map (stepD p.2) ++ [stepD p.2 z] = stepsD xs ((lots xs).take i) ++ (rest.take (j + 1)).map (stepD p.2) := by
        rw [take_snoc hz, List.map_append, List.append_assoc]
        rfl
      rw [eSt] at gS
      have hb7 : SqT K H7 b (rest.map V.str) := .of (k7.1 _ _ hb)
      refine ⟨_, rfl, _, rfl, _, _, rfl, rfl, _, rfl, b, _, rfl, hb7, fun H8 c s8 hc => ?_⟩
      rw [show (j : Int) + 1 = ((j + 1 : Nat) : Int) by omega, cut_from] at hc
      refine ⟨c, rfl, ⟨_, hc⟩, ?_⟩
      have gS8 := gS.grow s8
      have gR8 := gR.grow s8
      refine for_tup (K := K) (a := c) (xs := (rest.drop (j + 1)).map V.str) (fun m σ H9 => ∃ v7, σ = [some (.ref a), some (.ref S), some (.ref R), some (.ref p.1), some (.ref b), some (.int (j : Nat)), some (.str z), v7] ∧ Same H H9 ∧ SameT H8 H9 ∧
        Acc K H H9 S (stepsD xs ((lots xs).take i) ++ (rest.take (j + 1)).map (stepD p.2)) ∧ Acc K H H9 R (pairsD xs ((lots xs).take i) ++ pairsTo p.2 rest j ++ ((rest.drop (j + 1)).take m).map (pairD p.2 z))) ?_ (fun m σ H9 _ ⟨v7, _, _, k, _⟩ => ?_) ?_ ?_
      · refine ⟨_, rfl, s7.trans s8, .of (Same.refl _), gS8, ?_⟩
        rw [List.take_zero, List.map_nil, List.append_nil]
        exact gR8
      · exact Same.sT (Same.refl _) (by
          rcases hc with q | q
          · rcases q with q | ⟨o, q⟩
            · exact .inl (.inl (k.1 _ _ q))
            · exact .inl (.inr ⟨o, k.2 _ _ _ q⟩)
          · exact .inr q)
      · rintro m x σ H9 hx ⟨v7, rfl, s9, k9, hS9, hR9⟩
        obtain ⟨y, rfl, hy⟩ := str_nth hx
        obtain ⟨vR, hvR, allR⟩ := hR9.at_
        have lR := hR9.len hvR
        have lr : vR.length ≤ 20000 := by
          rw [lR, List.length_append, List.length_append, List.length_map, List.length_take, List.length_drop]
          have q1 := pairs_small len i
          have q2 := pairsTo_len p.2 rest j
          have hj8 : j < rest.length := by
            rw [List.length_map] at hj
            exact hj
          have q3 : j * rest.length ≤ 8 * 8 := Nat.mul_le_mul (by omega) r8
          omega
        refine ⟨_, rfl, .inl ⟨rfl, _, .of hvR⟩, _, rfl, _, rfl, _, rfl, (by show 4 ≤ sizeLine; decide), fun T3 hT3 => ?_⟩
        have s10 : Same H9 (upd H9 T3 (.tup [.str "pair", .ref p.1, .str z, .str y])) := same_upd hT3
        have uT3 : (upd H9 T3 (.tup [.str "pair", .ref p.1, .str z, .str y])) T3 = some (.tup [.str "pair", .ref p.1, .str z, .str y]) := upd_same
        have iS := hS9.grow s10
        have iR := hR9.grow s10
        have s90 := s9.trans s10
        have k10 : SameT H8 (upd H9 T3 (.tup [.str "pair", .ref p.1, .str z, .str y])) := ⟨fun c u q => s10 _ _ (k9.1 c u q), fun c o u q => s10 _ _ (k9.2 c o u q)⟩
        have hvR10 := s10 _ _ hvR
        generalize upd H9 T3 (.tup [.str "pair", .ref p.1, .str z, .str y]) = H10 at s10 uT3 iS iR s90 k10 hvR10 ⊢
        refine ⟨R, vR, _, rfl, rfl, hvR10, Nat.lt_of_le_of_lt lr (by decide), ?_⟩
        have rp10 : H10 p.1 = some (.tup (p.2.map V.str)) := k10.1 _ _ (s8 _ _ (k7.1 _ _ (s13.1 _ _ rp)))
        refine ⟨_, rfl, same_off s90 iR.free, k10.lst hvR10, iS.other neSR hvR10, ?_⟩
        have q := iR.push hvR10 (dr_pair uT3 rp10) (flat_pair p.2 z y)
        rw [take_snoc hy, List.map_append, ← List.append_assoc]
        exact q
      · rintro σ H9 ⟨v7, rfl, s9, k9, hS9, hR9⟩
        rw [List.length_map, List.take_length, List.append_assoc, ← ez, ← pairsTo_succ] at hR9
        refine ⟨_, _, _, rfl, s9, ⟨fun c u q => k9.1 _ _ (s8 _ _ (k7.1 c u q)), fun c o u q => k9.2 _ _ _ (s8 _ _ (k7.2 c o u q))⟩, hS9, hR9⟩
    · rintro σ H4 ⟨v5, v6, v7, rfl, s4, k4, dS, dR⟩
      rw [List.length_map, List.take_length, er, ← stepsD_snoc, ← take_snoc hl] at dS
      rw [List.length_map, er, ← pairsD_snoc, ← take_snoc hl] at dR
      exact ⟨_, _, _, _, _, rfl, s4, ⟨fun c u q => k4.1 _ _ (s13.1 c u q), fun c o u q => k4.2 _ _ _ (s13.2 c o u q)⟩, dS, dR⟩
  · rintro σ H2 ⟨v3, v4, v5, v6, v7, rfl, s2, k2, cS, cR⟩
    have lL : (L.map rowV).length = (lots xs).length := by
      rw [← eL, List.length_map, List.length_map]
    rw [lL] at cS cR
    have mS := steps_small len (lots xs).length
    have mR := pairs_small len (lots xs).length
    rw [List.take_length] at cS cR mS mR
    obtain ⟨vS, hvS, allS⟩ := cS.at_
    obtain ⟨vR, hvR, allR⟩ := cR.at_
    have lS := cS.len hvS
    have lR := cR.len hvR
    refine ⟨(by show 1 ≤ sizeLine; decide), fun t1 ht1 => ⟨(by show 1 ≤ sizeLine; decide), fun l1 hl1 => ?_⟩⟩
    have s3 : Same H2 (upd (upd H2 t1 (.tup [.str "none"])) l1 (.lst [.ref t1])) := same_new (same_upd ht1) hl1
    have u1 : (upd (upd H2 t1 (.tup [.str "none"])) l1 (.lst [.ref t1])) t1 = some (.tup [.str "none"]) := by
      rw [upd_ne (ne_of_none upd_same hl1)]
      exact upd_same
    have ul : (upd (upd H2 t1 (.tup [.str "none"])) l1 (.lst [.ref t1])) l1 = some (.lst [.ref t1]) := upd_same
    have nl1 : H l1 = none := s2.free ((same_upd ht1).free hl1)
    have a1 : Acc K H (upd (upd H2 t1 (.tup [.str "none"])) l1 (.lst [.ref t1])) l1 [noneD] :=
      ⟨nl1, ⟨_, ul, .cons (.tup (Rd.of u1) rfl (.cons (.str _) .nil)) .nil⟩, by simp [noneD, flatDs, flatD]⟩
    have s23 := s2.trans s3
    have bS := cS.grow s3
    have bR := cR.grow s3
    have hvS3 := s3 _ _ hvS
    have hvR3 := s3 _ _ hvR
    generalize upd (upd H2 t1 (.tup [.str "none"])) l1 (.lst [.ref t1]) = H3 at s3 u1 ul a1 s23 bS bR hvS3 hvR3 ⊢
    refine ⟨_, rfl, l1, S, _, _, rfl, rfl, ul, hvS3, ?_, fun l2 hl2 => ?_⟩
    · rw [List.length_singleton, lS, sizeLine_eq]
      omega
    have a2 := Acc.cat a1 bS ul hvS3 hl2 (s23.free hl2)
    have s4 : Same H3 (upd H3 l2 (.lst ([.ref t1] ++ vS))) := same_upd hl2
    have u2 : (upd H3 l2 (.lst ([.ref t1] ++ vS))) l2 = some (.lst ([.ref t1] ++ vS)) := upd_same
    have s24 := s23.trans s4
    have bR4 := bR.grow s4
    have hvR4 := s4 _ _ hvR3
    generalize upd H3 l2 (.lst ([.ref t1] ++ vS)) = H4 at a2 s4 u2 s24 bR4 hvR4 ⊢
    refine ⟨_, rfl, l2, R, _, _, rfl, rfl, u2, hvR4, ?_, fun l3 hl3 => ?_⟩
    · rw [List.length_append, List.length_singleton, lS, lR, sizeLine_eq]
      omega
    have a3 := Acc.cat a2 bR4 u2 hvR4 hl3 (s24.free hl3)
    have s5 : Same H4 (upd H4 l3 (.lst ([.ref t1] ++ vS ++ vR))) := same_upd hl3
    have u3 : (upd H4 l3 (.lst ([.ref t1] ++ vS ++ vR))) l3 = some (.lst ([.ref t1] ++ vS ++ vR)) := upd_same
    have s25 := s24.trans s5
    generalize upd H4 l3 (.lst ([.ref t1] ++ vS ++ vR)) = H5 at a3 s5 u3 s25 ⊢
    refine ⟨l3, _, rfl, .inl ⟨.of u3, fun t4 ht4 => ?_⟩⟩
    obtain ⟨ws, hws, allW⟩ := a3.at_
    rw [u3] at hws
    cases hws
    refine go _ t4 (same_new s25 ht4) (.tup (Rd.of upd_same) rfl (allW.same (same_upd ht4)))
end
end Lots

namespace Lots
open PySem PySem.Spec PyProof.Rows L2
section
variable {P : Program} {w : World} {K : PySem.W.Frag} {mg : Str → Option Value} {base : Heap}
abbrev sLRules : Stmt := top 30
/-- the names of the rules, as a list -/
def spLRules (K : PySem.W.Frag) : Sp := fun vs H Q _ => ∃ (a : Addr) (xs : List Str), vs = [.ref a] ∧ SqT K H a (xs.map V.str) ∧ Asc xs ∧ xs.length ≤ 8 ∧
  ∀ (H2 : Hp) (t : Addr) (us : List V), Same H H2 → H2 t = some (.lst us) → DrAll K H2 us (rulesD xs) → flatDs (rulesD xs) = true → Q (.ref t) H2
theorem scLRules : FnScope ["many", "found", "more", "lot", "rest", "at", "one", "other"] ["many"] (defScope sLRules) := ⟨rfl, rfl, rfl, by decide +kernel, rfl, by decide +kernel, by decide +kernel⟩
theorem ok_lrules {f fN fM : Addr} {fd fdN fdM : FuncData} (F : Fun K "_law_rules" "_law_rules" sLRules f fd) (T : Blt mg)
    (FN : FnOk P w K mg base CX0 1 fN fdN ["many"] (spLots K)) (gN : mg "_law_lots" = some (.ref fN)) (kN : PySem.W.keepIn K (.ref fN) = true) (bN : Binds K fdN ["many"] [])
    (FM : FnOk P w K mg base CX0 1 fM fdM ["one", "other"] (spLess K)) (gM : mg "_law_less" = some (.ref fM)) (kM : PySem.W.keepIn K (.ref fM) = true) (bM : Binds K fdM ["one", "other"] []) : FnOk P w K mg base CX0 2 f fd ["many"] (spLRules K) := by
  refine F.ok scLRules (fun vs H Q E h => ?_) (fun cdv A outer s H vs Q E hr h => ?_)
  · obtain ⟨a, xs, rfl, _⟩ := h
    rfl
  obtain ⟨a, xs, rfl, ha, asc, len, go⟩ := h
  refine ⟨_, pss_cons (ps_par (i := 1) (j := 2) (by rfl) scLRules.nd rfl rfl (by decide) (by rfl) (by rfl) (pa_cons (pe_lst (pa_cons (pe_tup (pa_cons pe_str pa_nil)) pa_nil)) (pa_cons (pe_lst pa_nil) pa_nil)) (by rfl))
    (pss_cons (ps_for PassesOwn.never rfl (pi_list (pe_call FN hr (by rfl) gN kN bN .nil pass0 (pa_cons (pv 0) pa_nil))) (pg_name (i := 3) scLRules.nd rfl (Or.inr rfl))
      (pss_cons (ps_set (i := 4) scLRules.nd rfl (Or.inl rfl) (pe_call FM hr (by rfl) gM kM bM .nil pass0 (pa_cons (pv 0) (pa_cons (pv 3) pa_nil))))
      (pss_one (ps_for PassesOwn.never rfl (pi_enumT (by rfl) T.enumerate (pa_cons (pv 4) pa_nil)) (pg_tup rfl (pgs_cons (pg_name (i := 5) scLRules.nd rfl (Or.inl rfl)) (pgs_cons (pg_name (i := 6) scLRules.nd rfl (Or.inr rfl)) pgs_nil)))
        (pss_cons (ps_expr (pe_bm PySem.F.plainAttrs_list PySem.F.slot_list_append PySem.F.type_list_append mt_append (pv 1) (pa_cons (pe_tup (pa_cons pe_str (pa_cons (pv 3) (pa_cons (pv 6) pa_nil)))) pa_nil)))
        (pss_one (ps_set (i := 2) scLRules.nd rfl (Or.inl rfl) (pe_op op_cat (pv 2)
          (pe_lc (own := [("other", 7)]) (g := gName 7) (by rfl) scLRules.nd (pi_tup (pe_slice sl_tupW (pv 4) (po_some (pe_op op_add (pv 5) pe_int)) po_none)) (blkOk_by (own := [("other", 7)]) (N := ["many", "found", "more", "lot", "rest", "at", "one", "other"]) (sc := defScope sLRules) (by decide +kernel)) (fun _ _ _ _ _ => pg_name (i := 7) scLRules.nd rfl (Or.inl rfl))
            (fun _ _ _ _ _ => pts_nil) (fun _ _ _ _ _ => pe_tup (pa_cons pe_str (pa_cons (pv 3) (pa_cons (pv 6) (pa_cons (pv 7) pa_nil))))))))))))))
    (pss_one (ps_ret (pe_op op_cat (pv 1) (pv 2))))), ?_⟩
  refine ⟨(by show 1 ≤ sizeLine; decide), fun t0 ht0 => ⟨(by show 1 ≤ sizeLine; decide), fun S hS => ⟨Nat.zero_le _, fun R hR => ?_⟩⟩⟩
  have z1 : Same H (upd H t0 (.tup [.str "none"])) := same_upd ht0
  have v1 : (upd H t0 (.tup [.str "none"])) t0 = some (.tup [.str "none"]) := upd_same
  generalize upd H t0 (.tup [.str "none"]) = Ha at z1 v1 hS hR ⊢
  have z2 : Same Ha (upd Ha S (.lst [.ref t0])) := same_upd hS
  have v2 : (upd Ha S (.lst [.ref t0])) S = some (.lst [.ref t0]) := upd_same
  generalize upd Ha S (.lst [.ref t0]) = Hb at z2 v2 hR ⊢
  have z3 : Same Hb (upd Hb R (.lst [])) := same_upd hR
  have v3' : (upd Hb R (.lst [])) R = some (.lst []) := upd_same
  generalize upd Hb R (.lst []) = H0 at z3 v3' ⊢
  have z24 := z2.trans z3
  have s0 : Same H H0 := z1.trans z24
  have aS : Acc K H H0 S [noneD] := ⟨z1.free hS, ⟨_, z3 _ _ v2, .cons (.tup (Rd.of (z24 _ _ v1)) rfl (.cons (.str _) .nil)) .nil⟩, by simp [noneD, flatDs, flatD]⟩
  have aR : Acc K H H0 R [] := ⟨(z1.trans z2).free hR, ⟨[], v3', .nil⟩, rfl⟩
  have neSR : S ≠ R := ne_of_none v2 hR
  refine ⟨_, _, rfl, ?_⟩
  refine ⟨_, rfl, a, xs, rfl, Same.sT s0 ha, asc, len, fun H1 t L s1 nt ht eL rows => ?_⟩
  refine ⟨t, rfl, ⟨_, .of ht⟩, ?_⟩
  have aS1 := aS.grow s1
  have aR1 := aR.grow s1
  have s01 := s0.trans s1
  have nt0 : H t = none := s0.free nt
  have neSt : S ≠ t := ne_of_none (z3 _ _ v2) nt
  refine for_list (K := K) (a := t) (xs := L.map rowV) (fun i σ H2 => ∃ R v3 v4 v5 v6 v7, σ = [some (.ref a), some (.ref S), some (.ref R), v3, v4, v5, v6, v7] ∧ Same H H2 ∧ SameT H1 H2 ∧ H2 t = some (.lst (L.map rowV)) ∧ S ≠ R ∧
    Acc K H H2 S (noneD :: stepsD xs ((lots xs).take i)) ∧ Acc K H H2 R (pairsD xs ((lots xs).take i))) ?_ (fun i σ H2 _ ⟨R, v3, v4, v5, v6, v7, _, _, _, k, _⟩ => .of k) ?_ ?_
  · exact ⟨R, _, _, _, _, _, rfl, s01, .of (Same.refl _), ht, neSR, aS1, aR1⟩
  · rintro i x σ H2 hx ⟨R, v3, v4, v5, v6, v7, rfl, s2, k2, ht2, neSR, cS, cR⟩
    obtain ⟨p, rfl, hp⟩ : ∃ p, x = rowV p ∧ L[i]? = some p := by
      rw [List.getElem?_map] at hx
      cases e : L[i]? with
      | none =>
        rw [e] at hx
        cases hx
      | some p =>
        rw [e] at hx
        exact ⟨p, (Option.some.inj hx).symm, rfl⟩
    have hl : (lots xs)[i]? = some p.2 := by
      rw [← eL, List.getElem?_map, hp]
      rfl
    have rp := (rows p (List.mem_of_getElem? hp)).2
    have rp2 : H2 p.1 = some (.tup (p.2.map V.str)) := k2.1 _ _ rp
    have l8 : p.2.length ≤ 8 := Nat.le_trans (lots_mem_len (List.mem_of_getElem? hl)) len
    refine ⟨_, rfl, _, rfl, a, p.1, xs, p.2, rfl, Same.sT s2 ha, .of rp2, by omega, fun H3 b s3 nb hb => ?_⟩
    obtain ⟨rest, er⟩ : ∃ rest, rest = restL xs p.2 := ⟨_, rfl⟩
    have hb : H3 b = some (.tup (rest.map V.str)) := by
      rw [er]
      exact hb
    have r8 : rest.length ≤ 8 := by
      rw [er]
      exact Nat.le_trans (restL_len _ _) len
    have s13 : SameT H1 H3 := ⟨fun c u z => s3 _ _ (k2.1 c u z), fun c o u z => s3 _ _ (k2.2 c o u z)⟩
    refine ⟨_, rfl, b, _, rfl, .of hb, ?_⟩
    refine for_it (walk_enumT (K := K) (a := b) (xs := rest.map V.str)) (fun j σ H4 => ∃ R v5 v6 v7, σ = [some (.ref a), some (.ref S), some (.ref R), some (.ref p.1), some (.ref b), v5, v6, v7] ∧ Same H H4 ∧ SameT H3 H4 ∧ H4 t = some (.lst (L.map rowV)) ∧ S ≠ R ∧
      Acc K H H4 S (noneD :: stepsD xs ((lots xs).take i) ++ (rest.take j).map (stepD p.2)) ∧ Acc K H H4 R (pairsD xs ((lots xs).take i) ++ pairsTo p.2 rest j)) ?_ (fun j σ H4 _ ⟨R, v5, v6, v7, _, _, k, _⟩ => .of (k.1 _ _ hb)) ?_ ?_
    · refine ⟨R, _, _, _, rfl, s2.trans s3, .of (Same.refl _), s3 _ _ ht2, neSR, ?_, ?_⟩
      · rw [List.take_zero, List.map_nil, List.append_nil]
        exact cS.grow s3
      · rw [show pairsTo p.2 rest 0 = [] from rfl, List.append_nil]
        exact cR.grow s3
    · rintro j x σ H4 H5 hj ⟨R, v5, v6, v7, rfl, s4, k4, ht4, neSR, dS, dR⟩ ⟨T1, u, v, rfl, hT, rfl, hu, hv⟩
      cases hu
      obtain ⟨z, rfl, hz⟩ := str_nth hv
      have s5 : Same H4 (upd H4 T1 (.tup [.int (j : Nat), .str z])) := same_upd hT
      have eS := dS.grow s5
      have eR := dR.grow s5
      have k5 : SameT H3 (upd H4 T1 (.tup [.int (j : Nat), .str z])) := ⟨fun c u q => s5 _ _ (k4.1 c u q), fun c o u q => s5 _ _ (k4.2 c o u q)⟩
      have s45 := s4.trans s5
      have ht5 := s5 _ _ ht4
      refine ⟨T1, _, rfl, .of upd_same, rfl, _, _, rfl, _, _, rfl, rfl, ?_⟩
      generalize upd H4 T1 (.tup [.int (j : Nat), .str z]) = H5 at s5 eS eR k5 s45 ht5 ⊢
      obtain ⟨vS, hvS, allS⟩ := eS.at_
      refine ⟨_, rfl, .inl ⟨rfl, _, .of hvS⟩, _, rfl, _, rfl, (by show 3 ≤ sizeLine; decide), fun T2 hT2 => ?_⟩
      have s6 : Same H5 (upd H5 T2 (.tup [.str "step", .ref p.1, .str z])) := same_upd hT2
      have lS := eS.len hvS
      have ll : vS.length ≤ 4000 := by
        rw [lS, List.length_append, List.length_cons, List.length_map, List.length_take]
        have := steps_small len i
        omega
      have uT : (upd H5 T2 (.tup [.str "step", .ref p.1, .str z])) T2 = some (.tup [.str "step", .ref p.1, .str z]) := upd_same
      have fS := eS.grow s6
      have fR := eR.grow s6
      have k6 : SameT H3 (upd H5 T2 (.tup [.str "step", .ref p.1, .str z])) := ⟨fun c u q => s6 _ _ (k5.1 c u q), fun c o u q => s6 _ _ (k5.2 c o u q)⟩
      have s56 := s45.trans s6
      have hvS6 := s6 _ _ hvS
      have ht6 := s6 _ _ ht5
      generalize upd H5 T2 (.tup [.str "step", .ref p.1, .str z]) = H6 at s6 uT fS fR k6 s56 hvS6 ht6 ⊢
      refine ⟨S, vS, _, rfl, rfl, hvS6, Nat.lt_of_le_of_lt ll (by decide), ?_⟩
      have rp6 : H6 p.1 = some (.tup (p.2.map V.str)) := k6.1 _ _ (s13.1 _ _ rp)
      have gS := fS.push hvS6 (dr_step uT rp6) (flat_step _ _)
      have gR := fR.other (Ne.symm neSR) hvS6 (ys := vS ++ [V.ref T2])
      have k7 : SameT H3 (upd H6 S (.lst (vS ++ [V.ref T2]))) := k6.lst hvS6
      have s7 : Same H (upd H6 S (.lst (vS ++ [V.ref T2]))) := same_off s56 fS.free
      have ht7 : (upd H6 S (.lst (vS ++ [V.ref T2]))) t = some (.lst (L.map rowV)) := by
        rw [upd_ne (Ne.symm neSt)]
        exact ht6
      generalize upd H6 S (.lst (vS ++ [V.ref T2])) = H7 at gS gR k7 s7 ht7 ⊢
      have ez : rest.getD j "" = z := by
        rw [List.getD_eq_getElem?_getD, hz]
        rfl
      have eSt : noneD :: stepsD xs ((lots xs).take i) ++ (rest.take j).map (stepD p.2) ++ [stepD p.2 z] = noneD :: stepsD xs ((lots xs).take i) ++ (rest.take (j + 1)).map (stepD p.2) := by
        rw [take_snoc hz, List.map_append, List.append_assoc]
        rfl
      rw [eSt] at gS
      have hb7 : SqT K H7 b (rest.map V.str) := .of (k7.1 _ _ hb)
      refine ⟨_, rfl, _, rfl, _, rfl, _, _, rfl, rfl, _, rfl, b, _, rfl, hb7, fun H8 c s8 hc => ?_⟩
      rw [show (j : Int) + 1 = ((j + 1 : Nat) : Int) by omega, cut_from] at hc
      refine ⟨c, rfl, ⟨_, hc⟩, fun D hD => ?_⟩
      have gS8 := gS.grow s8
      have gR8 := gR.grow s8
      have ht8 := s8 _ _ ht7
      have rp8 : H8 p.1 = some (.tup (p.2.map V.str)) := s8 _ _ (k7.1 _ _ (s13.1 _ _ rp))
      have s78 := s7.trans s8
      have nD : H D = none := s78.free hD
      refine lc_tup (K := K) (a := c) (xs := (rest.drop (j + 1)).map V.str) (fun m H9 => Same H8 H9 ∧ Acc K H8 H9 D (((rest.drop (j + 1)).take m).map (pairD p.2 z)) ∧ ∃ vD, H9 D = some (.lst vD) ∧ vD.length ≤ m) ?_ (fun m H9 _ q => Same.sT q.1 hc) ?_ ?_
      · exact ⟨same_upd hD, ⟨hD, ⟨[], upd_same, .nil⟩, rfl⟩, [], upd_same, Nat.le_refl _⟩
      · rintro m x H9 hx ⟨s9, hD9, vD, uD, lD⟩
        obtain ⟨y, rfl, hy⟩ := str_nth hx
        have hm : m < 8 := by
          have q := (List.getElem?_eq_some_iff.mp hy).1
          rw [List.length_drop] at q
          omega
        refine ⟨rfl, _, rfl, _, rfl, _, rfl, (by show 4 ≤ sizeLine; decide), fun T3 hT3 => ?_⟩
        have s10 : Same H9 (upd H9 T3 (.tup [.str "pair", .ref p.1, .str z, .str y])) := same_upd hT3
        have uT3 : (upd H9 T3 (.tup [.str "pair", .ref p.1, .str z, .str y])) T3 = some (.tup [.str "pair", .ref p.1, .str z, .str y]) := upd_same
        have iD := hD9.grow s10
        have uD10 := s10 _ _ uD
        have s90 := s9.trans s10
        generalize upd H9 T3 (.tup [.str "pair", .ref p.1, .str z, .str y]) = H10 at s10 uT3 iD uD10 s90 ⊢
        refine ⟨vD, uD10, Nat.lt_of_le_of_lt (show vD.length ≤ 8 by omega) (by decide), same_off s90 hD, ?_, _, upd_same, ?_⟩
        · have q := iD.push uD10 (dr_pair uT3 (s90 _ _ rp8)) (flat_pair p.2 z y)
          rw [take_snoc hy, List.map_append]
          exact q
        · rw [List.length_append, List.length_singleton]
          omega
      · rintro H9 ⟨s9, hD9, vD, uD, lD⟩
        rw [List.length_map, List.take_length] at hD9
        have gS9 := gS8.grow s9
        have gR9 := gR8.grow s9
        obtain ⟨vR, hvR, allR⟩ := gR9.at_
        have lR := gR9.len hvR
        have lD2 := hD9.len uD
        have lr : vR.length ≤ 20000 := by
          rw [lR, List.length_append]
          have q1 := pairs_small len i
          have q2 := pairsTo_len p.2 rest j
          have hj8 : j < rest.length := by
            rw [List.length_map] at hj
            exact hj
          have q3 : j * rest.length ≤ 8 * 8 := Nat.mul_le_mul (by omega) r8
          omega
        refine ⟨R, D, vR, vD, rfl, rfl, hvR, uD, ?_, fun q hq => ?_⟩
        · rw [lD2, List.length_map, List.length_drop, sizeLine_eq]
          omega
        have s89 := s78.trans s9
        have hDH : Acc K H H9 D ((rest.drop (j + 1)).map (pairD p.2 z)) := ⟨nD, hD9.at_, hD9.flat⟩
        have cat := Acc.cat gR9 hDH hvR uD hq (s89.free hq)
        obtain ⟨vS9, hvS9, _⟩ := gS9.at_
        rw [List.append_assoc, ← ez, ← pairsTo_succ] at cat
        refine ⟨q, _, _, _, rfl, same_new s89 hq, ⟨fun c u z => same_upd hq _ _ (s9 _ _ (s8 _ _ (k7.1 c u z))), fun c o u z => same_upd hq _ _ (s9 _ _ (s8 _ _ (k7.2 c o u z)))⟩, same_upd hq _ _ (s9 _ _ ht8), ne_of_none hvS9 hq, gS9.grow (same_upd hq), cat⟩
    · rintro σ H4 ⟨R, v5, v6, v7, rfl, s4, k4, ht4, neSR, dS, dR⟩
      rw [List.length_map, List.take_length, er, List.cons_append, ← stepsD_snoc, ← take_snoc hl] at dS
      rw [List.length_map, er, ← pairsD_snoc, ← take_snoc hl] at dR
      exact ⟨R, _, _, _, _, _, rfl, s4, ⟨fun c u q => k4.1 _ _ (s13.1 c u q), fun c o u q => k4.2 _ _ _ (s13.2 c o u q)⟩, ht4, neSR, dS, dR⟩
  · rintro σ H2 ⟨R, v3, v4, v5, v6, v7, rfl, s2, k2, ht2, neSR, cS, cR⟩
    have lL : (L.map rowV).length = (lots xs).length := by
      rw [← eL, List.length_map, List.length_map]
    rw [lL] at cS cR
    have mS := steps_small len (lots xs).length
    have mR := pairs_small len (lots xs).length
    rw [List.take_length] at cS cR mS mR
    obtain ⟨vS, hvS, allS⟩ := cS.at_
    obtain ⟨vR, hvR, allR⟩ := cR.at_
    have lS := cS.len hvS
    have lR := cR.len hvR
    refine ⟨_, rfl, _, rfl, S, R, _, _, rfl, rfl, hvS, hvR, ?_, fun q hq => ?_⟩
    · rw [lS, lR, List.length_cons, sizeLine_eq]
      omega
    have cat := Acc.cat cS cR hvS hvR hq (s2.free hq)
    obtain ⟨us, hus, all⟩ := cat.at_
    rw [upd_same] at hus
    cases hus
    exact go _ q _ (same_new s2 hq) upd_same all cat.flat
end
end Lots

namespace Lots
open PySem PySem.Spec PyProof.Rows L2
section
variable {P : Program} {w : World} {K : PySem.W.Frag} {mg : Str → Option Value} {base : Heap}
abbrev sPass : Stmt := top 1
theorem scPass : FnScope ["value", "key"] ["value"] (defScope sPass) := ⟨rfl, rfl, rfl, by decide +kernel, rfl, by decide +kernel, by decide +kernel⟩
theorem ok_pass {f : Addr} {fd : FuncData} (F : Fun K "_as_passed" "_as_passed" sPass f fd) (T : Blt mg) : FnOk P w K mg base CX0 1 f fd ["value"] (spPass K) := by
  refine F.ok scPass (fun vs H Q E h => ?_) (fun cdv A outer s H vs Q E hr h => ?_)
  · obtain ⟨x, d, rfl, _⟩ := h
    rfl
  obtain ⟨x, d, rfl, hx, go⟩ := h
  refine ⟨_, pss_cons (ps_if (pt_val (pe_callB call_isi (by rfl) T.isinstance (by decide +kernel) (pa_cons (pv 0) (pa_cons (pe_bltn (v := .ty "list") (by rfl) T.list (by decide +kernel) rfl) pa_nil))))
      (pss_one (ps_ret (pe_callTy call_list_of (by rfl) T.list (by decide +kernel) (pa_cons (pv 0) pa_nil)))) pss_nil)
    (pss_cons (ps_if (pt_val (pe_callB call_isi (by rfl) T.isinstance (by decide +kernel) (pa_cons (pv 0) (pa_cons (pe_bltn (v := .ty "dict") (by rfl) T.dict (by decide +kernel) rfl) pa_nil))))
      (pss_one (ps_ret (pe_lock (pe_dc (own := [("key", 1)]) (g := gName 1) (by rfl) scPass.nd (pi_keys (pv 0)) (blkOk_by (own := [("key", 1)]) (N := ["value", "key"]) (sc := defScope sPass) (by decide +kernel))
        (fun _ _ _ _ _ => pg_name (i := 1) scPass.nd rfl (Or.inl rfl)) (fun _ _ _ _ _ => pts_nil) (fun _ _ _ _ _ => pv 1) (fun _ _ _ _ _ => pe_dget (hu_of hr) (pv 0) (pv 1) (fun _ _ => rfl)))))) pss_nil)
    (pss_one (ps_ret (pv 0)))), ?_⟩
  refine ⟨_, rfl, x, _, _, _, isLst d, rfl, .ty "list", hx.ty, kit_lst d, _, rfl, ?_⟩
  cases hx with
  | lst at_ no all =>
    refine iteT ?_
    refine ⟨_, rfl, _, _, rfl, .inl (.inl at_), fun l hl => ?_⟩
    exact go _ _ (same_upd hl) (.lst (Rd.of upd_same) no (DrAll.same (same_upd hl) all))
  | dic at_ =>
    refine iteF ?_
    refine ⟨_, rfl, _, _, _, _, true, rfl, .ty "dict", (Dr.dic at_).ty, kit_dic _, _, rfl, iteT ?_⟩
    rename_i a
    refine ⟨a, _, at_, True.intro, fun od => ?_⟩
    refine ⟨_, rfl, a, od, rfl, .inl ⟨[], upd_same, fun D hD => ?_⟩⟩
    have aD : a ≠ D := ne_of_none upd_same hD
    have hD0 : H D = none := by
      rw [upd_ne aD.symm] at hD
      exact hD
    refine ⟨fun _ _ H2 => H2 = upd (upd H a (.frz od (.dK []))) D (.dK []), ⟨0, rfl⟩, ?_⟩
    rintro i m H2 rfl
    have lock : upd (upd H a (.frz od (.dK []))) D (.dK []) a = some (.frz od (.dK [])) := by
      rw [upd_ne aD, upd_same]
    refine .inl ⟨⟨lock, Nat.zero_le _⟩, lock, ?_⟩
    refine go _ _ (fun b o z => ?_) (.dic (by rw [upd_ne aD.symm, upd_same]))
    by_cases hb : b = a
    · rw [hb, upd_same, ← at_, hb.symm]
      exact z
    · rw [upd_ne hb, upd_ne (ne_of_none z hD0), upd_ne hb]
      exact z
  | non => exact iteF ⟨_, rfl, _, _, _, _, false, rfl, .ty "dict", Dr.non.ty, kit_dic _, _, rfl, iteF ⟨_, rfl, go _ _ (Same.refl _) .non⟩⟩
  | bl b => exact iteF ⟨_, rfl, _, _, _, _, false, rfl, .ty "dict", (Dr.bl b).ty, kit_dic _, _, rfl, iteF ⟨_, rfl, go _ _ (Same.refl _) (.bl b)⟩⟩
  | int i => exact iteF ⟨_, rfl, _, _, _, _, false, rfl, .ty "dict", (Dr.int i).ty, kit_dic _, _, rfl, iteF ⟨_, rfl, go _ _ (Same.refl _) (.int i)⟩⟩
  | str y => exact iteF ⟨_, rfl, _, _, _, _, false, rfl, .ty "dict", (Dr.str y).ty, kit_dic _, _, rfl, iteF ⟨_, rfl, go _ _ (Same.refl _) (.str y)⟩⟩
  | tup at_ no all => exact iteF ⟨_, rfl, _, _, _, _, false, rfl, .ty "dict", (Dr.tup at_ no all).ty, kit_dic _, _, rfl, iteF ⟨_, rfl, go _ _ (Same.refl _) (.tup at_ no all)⟩⟩
theorem made_end2 {K : PySem.W.Frag} {G H2 : Hp} {a C dx : Addr} {fld : Str} {y : V} {d : PyData} (ga : G a = none) (s : Same (upd G a (exo a C none)) H2) (hy : Dr K H2 y d) (hd : H2 dx = none) (ne : dx ≠ a) :
    Same G (upd (upd H2 a (exo a C (some dx))) dx (exd dx [(fld, y)])) ∧ (upd (upd H2 a (exo a C (some dx))) dx (exd dx [(fld, y)])) a = some (exo a C (some dx)) ∧ (upd (upd H2 a (exo a C (some dx))) dx (exd dx [(fld, y)])) dx = some (exd dx [(fld, y)]) ∧
      Dr K (upd (upd H2 a (exo a C (some dx))) dx (exd dx [(fld, y)])) y d := by
  have ha : H2 a = some (exo a C none) := s _ _ upd_same
  refine ⟨(made_end ga s hy hd ne).1, by rw [upd_ne ne.symm, upd_same], upd_same, hy.keep fun b o z nx => ?_⟩
  have nb : b ≠ a := fun q => by
    rw [q, ha] at z
    have z3 := Option.some.inj z
    subst z3
    rw [exo_ext] at nx
    cases nx
  rw [upd_ne (ne_of_none z hd), upd_ne nb]
  exact z
abbrev sI_BadThings : Stmt := inClass (top 3) 0
theorem scI_BadThings : FnScope ["self", "value"] ["self", "value"] (defScope sI_BadThings) := ⟨rfl, rfl, rfl, by decide +kernel, rfl, by decide +kernel, by decide +kernel⟩
theorem okI_BadThings {f fP C D : Addr} {fd fdP : FuncData} (F : Fun K "__init__" "BadThings.__init__" sI_BadThings f fd) (S : BaseT K mg D) (E1 : ErrC K C "ValueError" "ValueError.__new__" "ValueError.__init__" bmVE) (no : PySem.W.findIn K (.ref C) "value" = some none)
    (FP : FnOk P w K mg base CX0 1 fP fdP ["value"] (spPass K)) (gP : mg "_as_passed" = some (.ref fP)) (kP : PySem.W.keepIn K (.ref fP) = true) (bP : Binds K fdP ["value"] []) : FnOk P w K mg base CX0 2 f fd ["self", "value"] (spInitR K C "value") := by
  refine F.ok scI_BadThings (fun vs H Q E h => ?_) (fun cdv A outer s H vs Q E hr h => ?_)
  · obtain ⟨G, a, x, d, rfl, _⟩ := h
    rfl
  obtain ⟨G, a, x, d, rfl, ga, rfl, hx, go⟩ := h
  refine ⟨_, pss_cons (ps_expr (pe_ownbase (B := "ValueError") (newId := "ValueError.__new__") (initId := "ValueError.__init__") (bmB := bmVE) (by rfl) S.g S.sp S.rd S.fc (by decide +kernel) (pa_cons (pv 0) (pa_cons pe_str pa_nil))))
    (pss_one (ps_put (pv 0) (pe_call FP hr (by rfl) gP kP bP .nil pass0 (pa_cons (pv 1) pa_nil)))), ?_⟩
  refine ⟨_, rfl, a, C, _, rfl, (by show 1 ≤ 1000; decide), E1, upd_same, ?_⟩
  refine ⟨_, rfl, x, d, rfl, hx.same (same_upd ga), fun H2 y s2 hy => ?_⟩
  refine ⟨_, rfl, a, C, _, _, _, _, rfl, E1, no, s2 _ _ upd_same, fun dx hd ne => ?_⟩
  obtain ⟨h1, q1, q2, q3⟩ := made_end2 (fld := "value") ga s2 hy hd ne
  have gd : G dx = none := by
    have q := s2.free hd
    rw [upd_ne ne] at q
    exact q
  exact go _ dx y h1 gd ne q1 q2 q3
def isThB : PyData → Bool
  | .tuple ds => decide (1 ≤ ds.length ∧ ds.length ≤ 5) && (ds.all isNm && risB (ds.map txtOf))
  | _ => false
abbrev sIsTh : Stmt := top 11
/-- whether any value is things -/
def spIsTh (K : PySem.W.Frag) : Sp := fun vs H Q _ => ∃ (x : V) (d : PyData), vs = [x] ∧ Dr K H x d ∧ fits1 d ∧ ∀ H2, Same H H2 → Q (.bl (isThB d)) H2
theorem scIsTh : FnScope ["value", "word"] ["value"] (defScope sIsTh) := ⟨rfl, rfl, rfl, by decide +kernel, rfl, by decide +kernel, by decide +kernel⟩
theorem ok_isth {f fN fM : Addr} {fd fdN fdM : FuncData} {tk : Tok} (g5 : mg "MOST_THINGS" = some (.int 5 tk)) (F : Fun K "is_things" "is_things" sIsTh f fd) (T : Blt mg)
    (FN : FnOk P w K mg base CX0 1 fN fdN ["value"] (spIsName K)) (gN : mg "is_word" = some (.ref fN)) (kN : PySem.W.keepIn K (.ref fN) = true) (bN : Binds K fdN ["value"] [])
    (FM : FnOk P w K mg base CX0 1 fM fdM ["words"] (spRise K)) (gM : mg "is_ascending" = some (.ref fM)) (kM : PySem.W.keepIn K (.ref fM) = true) (bM : Binds K fdM ["words"] []) :
    FnOk P w K mg base CX0 2 f fd ["value"] (spIsTh K) := by
  refine F.ok scIsTh (fun vs H Q E h => ?_) (fun cdv A outer s H vs Q E hr h => ?_)
  · obtain ⟨x, d, rfl, _⟩ := h
    rfl
  obtain ⟨x, d, rfl, hx, ft, go⟩ := h
  have hr1 : Room 1 (A.deeper (envOfC "is_things" (defScope sIsTh) s.heap.objs.size f cdv)) := hr.mono (by decide)
  refine ⟨_, pss_cons (ps_if (PW.pt (pw_or (pt_not (pt_val (pe_callB call_isi (by rfl) T.isinstance (by decide +kernel) (pa_cons (pv 0) (pa_cons (pe_bltn (v := .ty "tuple") (by rfl) T.tuple (by decide +kernel) rfl) pa_nil)))))
      (pw_or1 (pt_not (pt_chain op_le op_le pe_int (pe_callB call_len_seq (by rfl) T.len PySem.boot_len (pa_cons (pv 0) pa_nil)) (pe_glob (v := .int 5) (by rfl) g5 ⟨_, rfl⟩)))))) (pss_one (ps_ret pe_bl)) pss_nil)
    (pss_one (ps_ret (pe_and (pe_callB (cr_all (by rfl)) (by rfl) T.all (by decide +kernel) (pa_cons (pe_lc (own := [("word", 1)]) (g := gName 1) (by rfl) scIsTh.nd (pi_tup (pv 0)) (blkOk_by (own := [("word", 1)]) (N := ["value", "word"]) (sc := defScope sIsTh) (by decide +kernel)) (fun _ _ _ _ _ => pg_name (i := 1) scIsTh.nd rfl (Or.inl rfl))
        (fun _ _ _ _ _ => pts_nil) (fun _ _ _ _ _ => pe_call FN hr1 (by rfl) gN kN bN .nil pass0 (pa_cons (pv 1) pa_nil))) pa_nil))
      (pe_one (pe_call FM hr1 (by rfl) gM kM bM .nil pass0 (pa_cons (pv 0) pa_nil)))))), ?_⟩
  refine ⟨_, rfl, x, _, _, _, isTup d, rfl, .ty "tuple", hx.ty, kit_tuple d, _, rfl, ?_⟩
  have out : isThB d = false → Q (.bl false) H := fun e => by
    have z := go H (Same.refl _)
    rw [e] at z
    exact z
  cases hx with
  | non => exact iteT (iteT (out rfl))
  | bl b => exact iteT (iteT (out rfl))
  | int i => exact iteT (iteT (out rfl))
  | str y => exact iteT (iteT (out rfl))
  | lst at_ no all => exact iteT (iteT (out rfl))
  | dic at_ => exact iteT (iteT (out rfl))
  | @tup a xs ds at_ no all =>
    have el : xs.length = ds.length := all.len
    refine iteF ⟨_, rfl, a, xs, rfl, .inr (.inl at_), _, _, rfl, rfl, _, rfl, ite2 (fun c1 => ⟨_, _, rfl, rfl, _, rfl, ?_⟩) (fun c1 => ⟨_, rfl, iteT ?_⟩)⟩
    · refine ite2 (fun c2 => ?_) (fun c2 => ?_)
      · refine out ?_
        show (decide (1 ≤ ds.length ∧ ds.length ≤ 5) && _) = false
        rw [decide_eq_false (by simp at c2; omega), Bool.false_and]
      have len5 : ds.length ≤ 5 := by
        simp at c2
        omega
      have len1 : 1 ≤ ds.length := by
        have := of_decide_eq_true c1
        omega
      have lenOk : isThB (.tuple ds) = (ds.all isNm && risB (ds.map txtOf)) := by
        show (decide (1 ≤ ds.length ∧ ds.length ≤ 5) && _) = _
        rw [decide_eq_true ⟨len1, len5⟩, Bool.true_and]
      refine ⟨_, rfl, a, rfl, ⟨_, .inl at_⟩, fun D hD => ?_⟩
      refine lc_tup (K := K) (a := a) (xs := xs) (fun i H2 => Same H H2 ∧ H2 D = some (.lst (((ds.take i).map isNm).map V.bl))) ⟨same_upd hD, upd_same⟩ (fun i H2 _ q => Same.sT q.1 (.inl at_)) ?_ ?_
      · rintro i x H2 hx ⟨s2, h2⟩
        obtain ⟨d, hd, hxd⟩ := all.nth hx
        have hi : i < ds.length := (List.getElem?_eq_some_iff.mp hd).1
        refine ⟨rfl, _, rfl, x, d, rfl, hxd.same s2, ft.2 d (List.mem_of_getElem? hd), fun H3 s3 => ?_⟩
        refine ⟨_, s3 _ _ h2, ?_, same_off (s2.trans s3) hD, ?_⟩
        · rw [List.length_map, List.length_map, List.length_take]
          have big : (2000 : Nat) ≤ sizeLine := by decide
          omega
        · rw [upd_same, take_snoc hd, List.map_append, List.map_append]
          rfl
      · rintro H2 ⟨s2, h2⟩
        rw [el, List.take_length] at h2
        refine ⟨D, _, rfl, .of h2, _, rfl, ?_⟩
        have e : ((ds.map isNm).all id) = ds.all isNm := by
          rw [List.all_map]
          rfl
        rw [e]
        have fin : isThB (.tuple ds) = false → ∀ H3, Same H H3 → Q (.bl false) H3 := fun e H3 s3 => by
          have z := go H3 s3
          rw [e] at z
          exact z
        refine ite2 (fun c2 => ?_) (fun c => ?_)
        · obtain ⟨zs, ez, ex⟩ := txts_of all c2
          rw [ex] at at_
          refine ⟨_, rfl, a, zs, rfl, Same.sT s2 (.inl at_), ?_, fun H3 s3 => ?_⟩
          · rw [← ez, List.length_map]
            omega
          · have z := go H3 (s2.trans s3)
            rw [lenOk, c2, ez, Bool.true_and] at z
            exact z
        · have c2 : ds.all isNm = false := by simpa using c
          exact fin (by rw [lenOk, c2, Bool.false_and]) H2 s2
    · refine out ?_
      show (decide (1 ≤ ds.length ∧ ds.length ≤ 5) && _) = false
      rw [decide_eq_false (by simp at c1; omega), Bool.false_and]
abbrev sNeed : Stmt := top 10
/-- the value itself, if it is things; else BadThings of it -/
def spNeed (K : PySem.W.Frag) (C : Addr) : Sp := fun vs H Q E => ∃ (x : V) (d : PyData), vs = [x] ∧ Dr K H x d ∧ fits1 d ∧ (isThB d = true → ∀ H2, Same H H2 → Q x H2) ∧
  (isThB d = false → ∀ (H2 : Hp) (dx : Addr), Same H H2 → H dx = none → RaisedD K H2 dx "value" d → E (.ref C) (some dx) H2)
theorem scNeed : FnScope ["thing"] ["thing"] (defScope sNeed) := ⟨rfl, rfl, rfl, by decide +kernel, rfl, by decide +kernel, by decide +kernel⟩
theorem ok_need {f fT fI C : Addr} {fd fdT fdI : FuncData} (F : Fun K "need_things" "need_things" sNeed f fd)
    (FT : FnOk P w K mg base CX0 2 fT fdT ["value"] (spIsTh K)) (gT : mg "is_things" = some (.ref fT)) (kT : PySem.W.keepIn K (.ref fT) = true) (bT : Binds K fdT ["value"] [])
    (E1 : ErrC K C "ValueError" "ValueError.__new__" "ValueError.__init__" bmVE) (J : ErrI K C fI) (FI : FnOk P w K mg base CX0 2 fI fdI ["self", "value"] (spInitR K C "value")) (bI : Binds K fdI ["self", "value"] []) (gC : mg "BadThings" = some (.ref C)) :
    FnOk P w K mg base (L2.CX P w) 4 f fd ["thing"] (spNeed K C) := by
  refine F.okX scNeed (fun vs H Q E h => ?_) (fun cdv A outer s H vs Q E hr h => ?_)
  · obtain ⟨x, d, rfl, _⟩ := h
    rfl
  obtain ⟨x, d, rfl, hx, ft, goY, goN⟩ := h
  have hr2 : Room 2 (A.deeper (envOfC "need_things" (defScope sNeed) s.heap.objs.size f cdv)) := hr.mono (by decide)
  refine ⟨_, pss_cons (ps_if (pt_not (pt_val (pe_call FT hr2 (by rfl) gT kT bT .nil pass0 (pa_cons (pv 0) pa_nil)))) (pss_one (ps_raise (W := fun cls d _ H => E cls d H) rfl (takes_of rfl rfl rfl rfl) (pmk_err E1 J FI hr bI (by rfl) gC (pa_cons (pv 0) pa_nil)))) pss_nil)
    (pss_one (ps_ret (pv 0))), ?_⟩
  refine ⟨_, rfl, x, d, rfl, hx, ft, fun H2 s2 => ⟨_, rfl, ?_⟩⟩
  cases e : isThB d with
  | true => exact iteF ⟨_, rfl, goY e H2 s2⟩
  | false => exact iteT (raise_rd (i := 0) rfl (hx.same s2) fun H3 dx s3 n3 r3 => goN e H3 dx (s2.trans s3) (s2.free n3) r3)
end
end Lots

namespace Lots
open PySem PySem.Spec PyProof.Rows L2
section
variable {P : Program} {w : World} {K : PySem.W.Frag} {mg : Str → Option Value} {base : Heap}
abbrev sBent : Stmt := top 25
/-- the same with something otherwise -/
def spBent (K : PySem.W.Frag) (n : Nat) : Sp := fun vs H Q _ => ∃ (G : Hp) (p : Addr) (B : Int) (x : V) (d : PyData) (wt z : Nat), vs = [.ref p, x] ∧ MOk G H p B ∧ B + 10 * (n + 1) < 1000000000 ∧ Dr K G x d ∧ Bd wt n z d ∧ wt ≤ 400 ∧ 10 ^ 30 ≤ z ∧ z ≤ 10 ^ 35 ∧
  ∀ (G2 H2 : Hp) (y : V) (e : PyData), MOk G2 H2 p (B + 10 * (n + 1)) → Same G G2 → Dr K G2 y e → Bd (2 * wt + 200) (n + 2) (z + 10) e → Q y H2
theorem scBent : FnScope ["m", "thing", "at", "pick"] ["m", "thing"] (defScope sBent) := ⟨rfl, rfl, rfl, by decide +kernel, rfl, by decide +kernel, by decide +kernel⟩
theorem ok_bent {f fN fO : Addr} {fd fdN fdO : FuncData} (F : Fun K "_law_bent" "_law_bent" sBent f fd) (T : Blt mg)
    (FN : FnOk P w K mg base CX0 1 fN fdN ["m", "many"] spNext) (gN : mg "_law_next" = some (.ref fN)) (kN : PySem.W.keepIn K (.ref fN) = true) (bN : Binds K fdN ["m", "many"] [])
    (FO : FnOk P w K mg base CX0 2 fO fdO ["m"] (spOdd K)) (gO : mg "_law_odd" = some (.ref fO)) (kO : PySem.W.keepIn K (.ref fO) = true) (bO : Binds K fdO ["m"] [])
    (gB : mg "_law_bent" = some (.ref f)) (kB : PySem.W.keepIn K (.ref f) = true) (bB : Binds K fd ["m", "thing"] []) : ∀ n : Nat, n ≤ 20 → FnOk P w K mg base CX0 (3 + n) f fd ["m", "thing"] (spBent K n) := by
  have step : ∀ n : Nat, n ≤ 20 → (∀ k, k < n → FnOk P w K mg base CX0 (3 + k) f fd ["m", "thing"] (spBent K k)) → FnOk P w K mg base CX0 (3 + n) f fd ["m", "thing"] (spBent K n) := by
    intro n hn ih
    obtain ⟨FR⟩ : Nonempty (FnOk P w K mg base CX0 (2 + n) f fd ["m", "thing"] (fun vs H Q E => 0 < n ∧ spBent K (n - 1) vs H Q E)) := by
      refine ⟨⟨fun vs H Q E h => ?_, fun A outer s H args us vs Q E hr he hb hv h => ?_⟩⟩
      · obtain ⟨_, G, p, B, x, d, wt, z, rfl, _⟩ := h
        rfl
      · have q := ih (n - 1) (by omega)
        rw [show 3 + (n - 1) = 2 + n by omega] at q
        exact q.run A outer s H args us vs Q E hr he hb hv h.2
    rw [show 3 + n = 2 + n + 1 by omega]
    refine F.ok scBent (fun vs H Q E h => ?_) (fun cdv A outer s H vs Q E hr h => ?_)
    · obtain ⟨G, p, B, x, d, wt, z, rfl, _⟩ := h
      rfl
    obtain ⟨G, p, B, x, d, wt, z, rfl, M, hB, hx, bd, hw, z0, z1, go⟩ := h
    have hr1 : Room 1 (A.deeper (envOfC "_law_bent" (defScope sBent) s.heap.objs.size f cdv)) := hr.mono (by omega)
    have hr2 : Room 2 (A.deeper (envOfC "_law_bent" (defScope sBent) s.heap.objs.size f cdv)) := hr.mono (by omega)
    refine ⟨_, pss_cons (ps_if (PW.pt (pw_and (pt_val (pe_callB call_isi (by rfl) T.isinstance (by decide +kernel) (pa_cons (pv 1) (pa_cons (pe_bltn (v := .ty "str") (by rfl) T.str (by decide +kernel) rfl) pa_nil))))
        (pw_and1 (pt_cmpR op_eq (pe_call FN hr1 (by rfl) gN kN bN .nil pass0 (pa_cons (pv 0) (pa_cons pe_int pa_nil))) pe_int (nomark _)))))
        (pss_one (ps_ret (pe_ix ix_list (pe_lst (pa_cons (pe_op op_add_str (pv 1) pe_str) (pa_cons (pe_slice sl_str (pv 1) (po_some pe_int) po_none) (pa_cons (pe_op op_add_str (pv 1) pe_str) (pa_cons (pe_op op_add_str (pv 1) pe_str) (pa_cons (pe_op op_repS (pv 1) pe_int) (pa_cons (pe_op op_add_str (pv 1) pe_str) pa_nil)))))))
          (pe_call FN hr1 (by rfl) gN kN bN .nil pass0 (pa_cons (pv 0) (pa_cons pe_int pa_nil))) (fun _ _ => rfl)))) pss_nil)
      (pss_cons (ps_if (PW.pt (pw_and (pt_val (pe_callB call_isi (by rfl) T.isinstance (by decide +kernel) (pa_cons (pv 1) (pa_cons (pe_bltn (v := .ty "int") (by rfl) T.int (by decide +kernel) rfl) pa_nil))))
        (pw_and (pt_not (pt_val (pe_callB call_isi (by rfl) T.isinstance (by decide +kernel) (pa_cons (pv 1) (pa_cons (pe_bltn (v := .ty "bool") (by rfl) T.bool (by decide +kernel) rfl) pa_nil)))))
        (pw_and1 (pt_cmpR op_eq (pe_call FN hr1 (by rfl) gN kN bN .nil pass0 (pa_cons (pv 0) (pa_cons pe_int pa_nil))) pe_int (nomark _))))))
        (pss_one (ps_ret (pe_op op_add (pv 1) (pe_ix ix_list (pe_lst (pa_cons pe_int (pa_cons (pe_un un_neg pe_int) (pa_cons pe_int (pa_cons (pe_un un_neg pe_int) (pa_cons pe_int (pa_cons (pe_un un_neg pe_int) pa_nil)))))))
          (pe_call FN hr1 (by rfl) gN kN bN .nil pass0 (pa_cons (pv 0) (pa_cons pe_int pa_nil))) (fun _ _ => rfl))))) pss_nil)
      (pss_cons (ps_if (PW.pt (pw_or (pt_not (pt_val (pe_callB call_isi (by rfl) T.isinstance (by decide +kernel) (pa_cons (pv 1) (pa_cons (pe_bltn (v := .ty "tuple") (by rfl) T.tuple (by decide +kernel) rfl) pa_nil)))))
        (pw_or (pt_cmpR (op_eqNilT hr.units0) (pv 1) (pe_tup pa_nil) (nomark _))
        (pw_or1 (pt_cmpR op_eq (pe_call FN hr1 (by rfl) gN kN bN .nil pass0 (pa_cons (pv 0) (pa_cons pe_int pa_nil))) pe_int (nomark _))))))
        (pss_one (ps_ret (pe_call FO hr2 (by rfl) gO kO bO .nil pass0 (pa_cons (pv 0) pa_nil)))) pss_nil)
      (pss_cons (ps_par (i := 2) (j := 3) (by rfl) scBent.nd rfl rfl (by decide) (by rfl) (by rfl) (pa_cons (pe_call FN hr1 (by rfl) gN kN bN .nil pass0 (pa_cons (pv 0) (pa_cons (pe_callB call_len_seq (by rfl) T.len PySem.boot_len (pa_cons (pv 1) pa_nil)) pa_nil)))
        (pa_cons (pe_call FN hr1 (by rfl) gN kN bN .nil pass0 (pa_cons (pv 0) (pa_cons pe_int pa_nil))) pa_nil)) (by rfl))
      (pss_cons (ps_if (pt_cmpR op_eq (pv 3) pe_int (nomark _)) (pss_one (ps_ret (pe_op op_catG (pe_slice sl_tupG (pv 1) po_none (po_some (pv 2))) (pe_slice sl_tupG (pv 1) (po_some (pe_op op_add (pv 2) pe_int)) po_none)))) pss_nil)
      (pss_cons (ps_if (pt_cmpR op_eq (pv 3) pe_int (nomark _)) (pss_one (ps_ret (pe_op op_catG (pv 1) (pe_slice sl_tupG (pv 1) (po_some (pv 2)) (po_some (pe_op op_add (pv 2) pe_int)))))) pss_nil)
      (pss_cons (ps_if (pt_cmpR op_eq (pv 3) pe_int (nomark _)) (pss_one (ps_ret (pe_callTy call_list_of (by rfl) T.list (by decide +kernel) (pa_cons (pv 1) pa_nil)))) pss_nil)
      (pss_cons (ps_if (pt_cmpR op_eq (pv 3) pe_int (nomark _)) (pss_one (ps_ret (pe_op op_catG (pe_op op_catG (pe_slice sl_tupG (pv 1) po_none (po_some (pv 2))) (pe_tup (pa_cons (pe_call FO hr2 (by rfl) gO kO bO .nil pass0 (pa_cons (pv 0) pa_nil)) pa_nil))) (pe_slice sl_tupG (pv 1) (po_some (pv 2)) po_none)))) pss_nil)
      (pss_cons (ps_if (pt_cmpR op_eq (pv 3) pe_int (nomark _)) (pss_one (ps_ret (pe_revT (pv 1)))) pss_nil)
      (pss_one (ps_ret (pe_op op_catG (pe_op op_catG (pe_slice sl_tupG (pv 1) po_none (po_some (pv 2))) (pe_tup (pa_cons (pe_call FR hr (by rfl) gB kB bB .nil pass0 (pa_cons (pv 0) (pa_cons (pe_ix ix_tup (pv 1) (pv 2) (fun _ _ => rfl)) pa_nil))) pa_nil))) (pe_slice sl_tupG (pv 1) (po_some (pe_op op_add (pv 2) pe_int)) po_none)))))))))))), ?_⟩
    have fin : ∀ (G2 H2 : Hp) (B2 : Int) (y : V) (e : PyData), MOk G2 H2 p B2 → B2 ≤ B + 10 * (n + 1) → Same G G2 → Dr K G2 y e → Bd (2 * wt + 200) (n + 2) (z + 10) e → Q y H2 := fun G2 H2 B2 y e m h s2 hy b => go G2 H2 y e (m.more h) s2 hy b
    have oddE : ∀ (H1 : Hp) (B1 : Int) (Ex : XK), MOk G H1 p B1 → B1 ≤ B + 5 → spOdd K [.ref p] H1 Q Ex := fun H1 B1 Ex m h => ⟨G, p, B1, rfl, m, by omega, fun G2 H2 y e M2 s2 hy he => fin G2 H2 (B1 + 1) y e M2 (by omega) s2 hy ((odd_bd e he).mono (by omega) (by omega) (by omega))⟩
    have hxH := hx.same M.same
    refine ⟨_, rfl, x, _, _, _, isStr d, rfl, .ty "str", hxH.ty, kit_str d, _, rfl, ?_⟩
    cases hx with
    | non => exact iteF (iteF ⟨_, rfl, _, _, _, _, false, rfl, .ty "int", hxH.ty, kit_int _, _, rfl, iteF (iteF ⟨_, rfl, _, _, _, _, false, rfl, .ty "tuple", hxH.ty, kit_tuple _, _, rfl, iteT (iteT ⟨_, rfl, oddE H B E0 M (by omega)⟩)⟩)⟩)
    | dic at_ => exact iteF (iteF ⟨_, rfl, _, _, _, _, false, rfl, .ty "int", hxH.ty, kit_int _, _, rfl, iteF (iteF ⟨_, rfl, _, _, _, _, false, rfl, .ty "tuple", hxH.ty, kit_tuple _, _, rfl, iteT (iteT ⟨_, rfl, oddE H B E0 M (by omega)⟩)⟩)⟩)
    | lst at_ no all => exact iteF (iteF ⟨_, rfl, _, _, _, _, false, rfl, .ty "int", hxH.ty, kit_int _, _, rfl, iteF (iteF ⟨_, rfl, _, _, _, _, false, rfl, .ty "tuple", hxH.ty, kit_tuple _, _, rfl, iteT (iteT ⟨_, rfl, oddE H B E0 M (by omega)⟩)⟩)⟩)
    | bl b => exact iteF (iteF ⟨_, rfl, _, _, _, _, true, rfl, .ty "int", hxH.ty, kit_int _, _, rfl, iteT ⟨_, rfl, _, _, _, _, true, rfl, .ty "bool", hxH.ty, kit_bool _, _, rfl, iteF (iteF ⟨_, rfl, _, _, _, _, false, rfl, .ty "tuple", hxH.ty, kit_tuple _, _, rfl, iteT (iteT ⟨_, rfl, oddE H B E0 M (by omega)⟩)⟩)⟩⟩)
    | int i =>
      refine iteF (iteF ⟨_, rfl, _, _, _, _, true, rfl, .ty "int", hxH.ty, kit_int _, _, rfl, iteT ⟨_, rfl, _, _, _, _, false, rfl, .ty "bool", hxH.ty, kit_bool _, _, rfl, iteT ?_⟩⟩)
      refine ⟨_, rfl, G, p, 2, B, rfl, M, by decide, by decide, by omega, fun H1 r M1 r0 r1 => ⟨rfl, _, rfl, ite2 (fun c => ?_) (fun c => ?_)⟩⟩
      · have iz : i.natAbs ≤ z := by
          have q := bd.2.2
          simp only [tame, decide_eq_true_eq] at q
          exact q
        refine ⟨_, rfl, 1, rfl, 2, rfl, 10, rfl, (by show 6 ≤ sizeLine; decide), fun l hl => ?_⟩
        have M2 := M1.new (o := .lst [.int 1, .int (-1), .int 2, .int (-2), .int 10, .int (-10)]) hl
        have sG : Same G (upd G l (.lst [.int 1, .int (-1), .int 2, .int (-2), .int 10, .int (-10)])) := same_upd (M1.same.free hl)
        have ul : (upd G l (.lst [.int 1, .int (-1), .int 2, .int (-2), .int 10, .int (-10)])) l = some (.lst [.int 1, .int (-1), .int 2, .int (-2), .int 10, .int (-10)]) := upd_same
        generalize upd G l (.lst [.int 1, .int (-1), .int 2, .int (-2), .int 10, .int (-10)]) = G2 at M2 sG ul
        refine ⟨_, rfl, G2, p, 6, B + 1, rfl, M2, by decide, by decide, by omega, fun H2 r2 M3 a0 a1 => ?_⟩
        obtain ⟨r2, rfl⟩ := Int.eq_ofNat_of_zero_le a0
        have lt : r2 < 6 := by omega
        obtain ⟨k, hk, hk2⟩ : ∃ k : Int, ([V.int 1, .int (-1), .int 2, .int (-2), .int 10, .int (-10)] : List V)[r2]? = some (.int k) ∧ k.natAbs ≤ 10 := by
          have key : ∀ j, j < 6 → ∃ k : Int, ([V.int 1, .int (-1), .int 2, .int (-2), .int 10, .int (-10)] : List V)[j]? = some (.int k) ∧ k.natAbs ≤ 10 := by
            intro j hj
            match j, hj with
            | 0, _ => exact ⟨1, rfl, by decide⟩
            | 1, _ => exact ⟨-1, rfl, by decide⟩
            | 2, _ => exact ⟨2, rfl, by decide⟩
            | 3, _ => exact ⟨-2, rfl, by decide⟩
            | 4, _ => exact ⟨10, rfl, by decide⟩
            | 5, _ => exact ⟨-10, rfl, by decide⟩
          exact key r2 lt
        refine ⟨l, _, r2, _, rfl, rfl, .of (M3.same _ _ ul), atI_nat hk, _, _, rfl, rfl, ?_⟩
        refine fin G2 H2 (B + 1 + 1) _ (.int (i + k)) M3 (by omega) sG (.int _) ⟨?_, by show 0 ≤ n + 2; omega, ?_⟩
        · show (if (i + k) == 0 then 0 else (i + k).natAbs.log2 + 1) ≤ _
          have q := log_small (n := (i + k).natAbs) (by
            have e : (10 : Nat) ^ 35 + 10 < 10 ^ 40 := by decide
            omega)
          split <;> omega
        · simp only [tame, decide_eq_true_eq]
          omega
      · refine ⟨_, rfl, _, _, _, _, false, rfl, .ty "tuple", (Dr.int i : Dr K H1 _ _).ty, kit_tuple _, _, rfl, iteT (iteT ⟨_, rfl, oddE H1 (B + 1) E0 M1 (by omega)⟩)⟩
    | str y =>
      refine iteT ⟨_, rfl, G, p, 2, B, rfl, M, by decide, by decide, by omega, fun H1 r M1 r0 r1 => ⟨rfl, _, rfl, ite2 (fun c => ?_) (fun c => ?_)⟩⟩
      · have ly : y.length ≤ 400 := by
          have q := bd.1
          simp only [PyData.weight] at q
          exact Nat.le_trans q hw
        have lw : (cd y).length ≤ wt := by
          have q := bd.1
          simp only [PyData.weight] at q
          rw [← len_cd]
          exact q
        have cy : ∀ c ∈ cd y, c < 1114112 := by
          have q := bd.2.2
          simp only [tame, List.all_eq_true, decide_eq_true_eq] at q
          exact q
        have sz : ∀ e : Str, e.length ≤ 10 → y.length + e.length ≤ sizeLine := fun e h => by
          rw [sizeLine_eq]
          omega
        have ly2 : y.length ≤ sizeLine := by
          rw [sizeLine_eq]
          omega
        refine ⟨_, rfl, _, _, rfl, rfl, sz _ (by decide), _, rfl, 1, rfl, y, rfl, ly2, _, rfl, _, _, rfl, rfl, sz _ (by decide), _, rfl, _, _, rfl, rfl, sz _ (by decide), _, rfl, y, 2, rfl, rfl, mulOk_small (by omega) (by decide) (by decide), _, rfl, _, _, rfl, rfl, sz _ (by decide), (by show 6 ≤ sizeLine; decide), fun l hl => ?_⟩
        obtain ⟨ss, hss⟩ : ∃ ss : List Str, ss = [y ++ "b", cutS y (some 1) none, y ++ "A", y ++ " ", Txt.mul y 2, y ++ "1"] := ⟨_, rfl⟩
        have add : ∀ e : Str, (cd e).length ≤ 10 → (∀ c ∈ cd e, c < 1114112) → (cd (y ++ e)).length ≤ 2 * wt + 200 ∧ ∀ c ∈ cd (y ++ e), c < 1114112 := fun e h1 h2 => by
          rw [cd_app, List.length_append]
          exact ⟨by omega, fun c hc => (List.mem_append.mp hc).elim (cy c) (h2 c)⟩
        have good : ∀ s ∈ ss, (cd s).length ≤ 2 * wt + 200 ∧ ∀ c ∈ cd s, c < 1114112 := by
          intro s hs
          rw [hss] at hs
          simp only [List.mem_cons, List.not_mem_nil, or_false] at hs
          rcases hs with rfl | rfl | rfl | rfl | rfl | rfl
          · exact add _ (by decide) (by decide)
          · have e : cd (cutS y (some 1) none) = (cd y).drop 1 := cd_cutFrom y 1
            rw [e]
            exact ⟨by rw [List.length_drop]; omega, fun c hc => cy c (List.mem_of_mem_drop hc)⟩
          · exact add _ (by decide) (by decide)
          · exact add _ (by decide) (by decide)
          · have e : cd (Txt.mul y 2) = cd y ++ (cd y ++ []) := cd_mul (by decide)
            rw [e, List.append_nil, List.length_append]
            exact ⟨by omega, fun c hc => (List.mem_append.mp hc).elim (cy c) (cy c)⟩
          · exact add _ (by decide) (by decide)
        have el : ([V.str (y ++ "b"), .str (cutS y (some 1) none), .str (y ++ "A"), .str (y ++ " "), .str (Txt.mul y 2), .str (y ++ "1")] : List V) = ss.map V.str := by
          rw [hss]
          rfl
        rw [el]
        have l6 : ss.length = 6 := by
          rw [hss]
          rfl
        have M2 := M1.new (o := .lst (ss.map V.str)) hl
        have sG : Same G (upd G l (.lst (ss.map V.str))) := same_upd (M1.same.free hl)
        have ul : (upd G l (.lst (ss.map V.str))) l = some (.lst (ss.map V.str)) := upd_same
        generalize upd G l (.lst (ss.map V.str)) = G2 at M2 sG ul
        refine ⟨_, rfl, G2, p, 6, B + 1, rfl, M2, by decide, by decide, by omega, fun H2 r2 M3 a0 a1 => ?_⟩
        obtain ⟨r2, rfl⟩ := Int.eq_ofNat_of_zero_le a0
        have lt : r2 < ss.length := by omega
        have hs : ss[r2]? = some ss[r2] := List.getElem?_eq_getElem lt
        have hs2 : (ss.map V.str)[r2]? = some (.str ss[r2]) := by
          rw [List.getElem?_map, hs]
          rfl
        obtain ⟨g1, g2⟩ := good _ (List.mem_of_getElem? hs)
        refine ⟨l, _, r2, _, rfl, rfl, .of (M3.same _ _ ul), atI_nat hs2, ?_⟩
        refine fin G2 H2 (B + 1 + 1) _ (.str ss[r2]) M3 (by omega) sG (.str _) ⟨?_, by show 0 ≤ n + 2; omega, ?_⟩
        · simp only [PyData.weight]
          have q := len_cd ss[r2]
          show ss[r2].length ≤ _
          omega
        · simp only [tame, List.all_eq_true, decide_eq_true_eq]
          exact g2
      · exact ⟨_, rfl, _, _, _, _, false, rfl, .ty "int", (Dr.str y : Dr K H1 _ _).ty, kit_int _, _, rfl, iteF (iteF ⟨_, rfl, _, _, _, _, false, rfl, .ty "tuple", (Dr.str y : Dr K H1 _ _).ty, kit_tuple _, _, rfl, iteT (iteT ⟨_, rfl, oddE H1 (B + 1) E0 M1 (by omega)⟩)⟩)⟩
    | @tup a xs ds at_ no all =>
      have el : xs.length = ds.length := all.size
      have n1 : 1 ≤ n := by
        have q := bd.2.1
        simp only [PyData.depth] at q
        omega
      have wl : ds.length ≤ 400 := by
        have q := bd.items.1
        have q2 := len_weight ds
        omega
      refine iteF (iteF ⟨_, rfl, _, _, _, _, false, rfl, .ty "int", hxH.ty, kit_int _, _, rfl, iteF (iteF ⟨_, rfl, _, _, _, _, true, rfl, .ty "tuple", hxH.ty, kit_tuple _, _, rfl, iteF ?_⟩)⟩)
      refine ⟨_, rfl, Nat.zero_le _, fun t ht => ⟨a, t, xs, rfl, rfl, .inl (rd_same (same_new M.same ht) at_), .of upd_same, _, rfl, ite2 (fun c => ?_) (fun c => ?_)⟩⟩
      · exact iteT ⟨_, rfl, oddE _ B E0 (M.garbage ht) (by omega)⟩
      have Mt := M.garbage (o := .tup []) ht
      generalize upd H t (.tup []) = H0 at Mt ⊢
      refine ⟨_, rfl, G, p, 6, B, rfl, Mt, by decide, by decide, by omega, fun H1 r M1 r0 r1 => ⟨rfl, _, rfl, ite2 (fun c2 => ?_) (fun c2 => ?_)⟩⟩
      · exact ⟨_, rfl, oddE H1 (B + 1) E0 M1 (by omega)⟩
      have x0 : 0 < xs.length := by
        cases xs with
        | nil => exact absurd rfl c
        | cons u us => simp
      have bb : Bds wt (n - 1) z ds := bd.items
      refine ⟨_, rfl, _, rfl, a, xs, rfl, .inr (.inl (rd_same M1.same at_)), G, p, (xs.length : Nat), B + 1, rfl, M1, by omega, by omega, by omega, fun H2 k M2 k0 k1 => ⟨_, rfl, G, p, 11, B + 1 + 1, rfl, M2, by decide, by decide, by omega, fun H3 pk M3 p0 p1 => ⟨_, _, rfl, ?_⟩⟩⟩
      obtain ⟨k, rfl⟩ := Int.eq_ofNat_of_zero_le k0
      have kx : k < xs.length := by omega
      have hxk : xs[k]? = some xs[k] := List.getElem?_eq_getElem kx
      obtain ⟨dk, hdk, hxdk⟩ := all.nth hxk
      have sw := split_weight hdk
      have wk : dk.weight + 1 ≤ PyData.weightAll ds := mem_weight (List.mem_of_getElem? hdk)
      have bb1 := bb.1
      have ek : (k : Int) + 1 = ((k + 1 : Nat) : Int) := by omega
      have big : ∀ i : Nat, i ≤ 2000 → i ≤ sizeLine := fun i h => by
        rw [sizeLine_eq]
        omega
      have finT : ∀ (G7 H7 : Hp) (B7 : Int) (c : Addr) (ys : List V) (es : List PyData), MOk G7 H7 p B7 → B7 ≤ B + 10 * (n + 1) → Same G G7 → Rd G7 c (.tup ys) → DrAll K G7 ys es → Bds (2 * wt + 200) (n + 1) (z + 10) es → Q (.ref c) H7 :=
        fun G7 H7 B7 c ys es m h s r q b => fin G7 H7 B7 _ (.tuple es) m h s (.tup r rfl q) (Bd.tup b)
      refine ⟨_, rfl, rfl, _, rfl, ite2 (fun c0 => ?_) (fun c0 => ?_)⟩
      · refine ⟨_, rfl, _, rfl, _, rfl, G, a, xs, rfl, M3.same, at_, fun G4 H4 b1 st4 r4 => ?_⟩
        have e4 := st4.both M3.same
        have g4 := st4.same M3.same
        refine ⟨_, rfl, _, rfl, _, _, rfl, rfl, _, rfl, G4, a, xs, rfl, e4, rd_same g4 at_, fun G5 H5 b2 st5 r5 => ?_⟩
        have e5 := st5.both e4
        have g5 := st5.same e4
        rw [cutv_to] at r4
        rw [ek, cutv_from] at r5
        refine ⟨G5, b1, b2, _, _, rfl, rfl, e5, rd_same g5 r4, r5, big _ (by rw [List.length_take, List.length_drop]; omega), fun G6 H6 c6 st6 r6 => ?_⟩
        have g6 := g4.trans (g5.trans (st6.same e5))
        refine finT G6 H6 (B + 1 + 1 + 1) c6 _ _ (((M3.step st4).step st5).step st6) (by omega) g6 r6 (((all.take k).app (all.drop (k + 1))).same g6) (((bb.take k).app (bb.drop (k + 1))).mono (by omega) (by omega) (by omega))
      refine ⟨_, rfl, rfl, _, rfl, ite2 (fun c1 => ?_) (fun c1 => ?_)⟩
      · refine ⟨_, rfl, _, rfl, _, rfl, _, rfl, _, rfl, _, _, rfl, rfl, _, rfl, G, a, xs, rfl, M3.same, at_, fun G5 H5 b2 st5 r5 => ?_⟩
        have e5 := st5.both M3.same
        have g5 := st5.same M3.same
        rw [cutv_one xs k kx] at r5
        refine ⟨G5, a, b2, _, _, rfl, rfl, e5, rd_same g5 at_, r5, big _ (by rw [List.length_take, List.length_drop]; omega), fun G6 H6 c6 st6 r6 => ?_⟩
        have g6 := g5.trans (st6.same e5)
        have b2 := ((bb.drop k).take 1)
        have w2 := take_weight (ds.drop k) 1
        have w3 := take_weight ds k
        refine finT G6 H6 (B + 1 + 1 + 1) c6 _ _ ((M3.step st5).step st6) (by omega) g6 r6 ((all.app ((all.drop k).take 1)).same g6) ((bb.app b2).mono (by omega) (by omega) (by omega))
      refine ⟨_, rfl, rfl, _, rfl, ite2 (fun c2 => ?_) (fun c2 => ?_)⟩
      · refine ⟨_, rfl, a, xs, rfl, .inr (.inl (rd_same M3.same at_)), fun l hl => ?_⟩
        have sl := same_upd (o := .lst xs) (M3.same.free hl)
        exact fin (upd G l (.lst xs)) _ (B + 1 + 1 + 1) _ (.list ds) (M3.new hl) (by omega) sl (.lst (.inl upd_same) rfl (all.same sl)) ((Bd.lst bb).mono (by omega) (by omega) (by omega))
      refine ⟨_, rfl, rfl, _, rfl, ite2 (fun c3 => ?_) (fun c3 => ?_)⟩
      · refine ⟨_, rfl, _, rfl, _, rfl, G, a, xs, rfl, M3.same, at_, fun G4 H4 b1 st4 r4 => ?_⟩
        have e4 := st4.both M3.same
        have g4 := st4.same M3.same
        rw [cutv_to] at r4
        refine ⟨_, rfl, G4, p, B + 1 + 1 + 1, rfl, M3.step st4, by omega, fun G5 H5 y e M5 s5 hy he => ⟨(by show 1 ≤ sizeLine; decide), fun t ht => ?_⟩⟩
        have Mt := M5.new (o := .tup [y]) ht
        have st := same_upd (o := .tup [y]) (M5.same.free ht)
        refine ⟨upd G5 t (.tup [y]), b1, t, _, _, rfl, rfl, same_both M5.same, rd_same (s5.trans st) r4, .inl upd_same, big _ (by rw [List.length_take, List.length_singleton]; omega), fun G6 H6 c6 st6 r6 => ?_⟩
        have e6 := st6.both Mt.same
        have g56 := st.trans (st6.same Mt.same)
        have g6 := g4.trans (s5.trans g56)
        refine ⟨_, rfl, _, rfl, _, rfl, G6, a, xs, rfl, e6, rd_same g6 at_, fun G7 H7 b7 st7 r7 => ?_⟩
        have e7 := st7.both e6
        have g7 := st7.same e6
        rw [cutv_from] at r7
        refine ⟨G7, c6, b7, _, _, rfl, rfl, e7, rd_same g7 r6, r7, big _ (by rw [List.length_append, List.length_take, List.length_drop, List.length_singleton]; omega), fun G8 H8 c8 st8 r8 => ?_⟩
        have g78 := g7.trans (st8.same e7)
        have g8 := g6.trans g78
        have be := (odd_bd e he).mono (w' := 200) (k' := n + 1) (z' := z + 10) (by omega) (by omega) (by omega)
        have w3 := take_weight ds k
        refine finT G8 H8 (B + 1 + 1 + 1 + 1) c8 _ _ (((Mt.step st6).step st7).step st8) (by omega) g8 r8 ((((all.take k).same g8).app (.one (hy.same (g56.trans g78)))).app ((all.drop k).same g8))
          (((((bb.take k).mono (Nat.le_refl _) (show n - 1 ≤ n + 1 by omega) (show z ≤ z + 10 by omega)).app (Bds.one be)).app ((bb.drop k).mono (Nat.le_refl _) (show n - 1 ≤ n + 1 by omega) (show z ≤ z + 10 by omega))).mono (by omega) (Nat.le_refl _) (Nat.le_refl _))
      refine ⟨_, rfl, rfl, _, rfl, ite2 (fun c4 => ?_) (fun c4 => ?_)⟩
      · refine ⟨_, rfl, a, xs, rfl, .inl (rd_same M3.same at_), fun q hq => ?_⟩
        have sq := same_upd (o := .tup xs.reverse) (M3.same.free hq)
        exact finT (upd G q (.tup xs.reverse)) _ (B + 1 + 1 + 1) q _ _ (M3.new hq) (by omega) sq (.inl upd_same) (all.rev.same sq) ((rev_bds bb).mono (by omega) (by omega) (by omega))
      refine ⟨_, rfl, _, rfl, _, rfl, G, a, xs, rfl, M3.same, at_, fun G4 H4 b1 st4 r4 => ?_⟩
      have e4 := st4.both M3.same
      have g4 := st4.same M3.same
      rw [cutv_to] at r4
      have en : ((n - 1 : Nat) : Int) + 1 = (n : Nat) := by omega
      refine ⟨_, rfl, _, rfl, _, rfl, a, xs, k, xs[k], rfl, rfl, .inl (rd_same e4 (rd_same g4 at_)), atI_nat hxk, by omega, G4, p, B + 1 + 1 + 1, xs[k], dk, dk.weight, z, rfl, M3.step st4, by rw [en]; omega, hxdk.same g4,
        ⟨Nat.le_refl _, Nat.le_trans (mem_depth (List.mem_of_getElem? hdk)) bb.2.1, mem_tame bb.2.2 (List.mem_of_getElem? hdk)⟩, by omega, z0, z1, fun G5 H5 y e M5 s5 hy he => ⟨(by show 1 ≤ sizeLine; decide), fun t ht => ?_⟩⟩
      rw [en] at M5
      have Mt := M5.new (o := .tup [y]) ht
      have st := same_upd (o := .tup [y]) (M5.same.free ht)
      refine ⟨upd G5 t (.tup [y]), b1, t, _, _, rfl, rfl, same_both M5.same, rd_same (s5.trans st) r4, .inl upd_same, big _ (by rw [List.length_take, List.length_singleton]; omega), fun G6 H6 c6 st6 r6 => ?_⟩
      have e6 := st6.both Mt.same
      have g56 := st.trans (st6.same Mt.same)
      have g6 := g4.trans (s5.trans g56)
      refine ⟨_, rfl, _, rfl, _, _, rfl, rfl, _, rfl, G6, a, xs, rfl, e6, rd_same g6 at_, fun G7 H7 b7 st7 r7 => ?_⟩
      have e7 := st7.both e6
      have g7 := st7.same e6
      rw [ek, cutv_from] at r7
      refine ⟨G7, c6, b7, _, _, rfl, rfl, e7, rd_same g7 r6, r7, big _ (by rw [List.length_append, List.length_take, List.length_drop, List.length_singleton]; omega), fun G8 H8 c8 st8 r8 => ?_⟩
      have g78 := g7.trans (st8.same e7)
      have g8 := g6.trans g78
      have be := he.mono (w' := 2 * dk.weight + 200) (k' := n + 1) (z' := z + 10) (Nat.le_refl _) (by omega) (Nat.le_refl _)
      refine finT G8 H8 (B + 1 + 1 + 1 + 10 * (n : Nat)) c8 _ _ (((Mt.step st6).step st7).step st8) (by omega) g8 r8 ((((all.take k).same g8).app (.one (hy.same (g56.trans g78)))).app ((all.drop (k + 1)).same g8))
        (((((bb.take k).mono (Nat.le_refl _) (show n - 1 ≤ n + 1 by omega) (show z ≤ z + 10 by omega)).app (Bds.one be)).app ((bb.drop (k + 1)).mono (Nat.le_refl _) (show n - 1 ≤ n + 1 by omega) (show z ≤ z + 10 by omega))).mono (by omega) (Nat.le_refl _) (Nat.le_refl _))
  intro n
  induction n using Nat.strongRecOn with
  | ind n ih => exact fun hn => step n hn fun k hk => ih k hk (by omega)
end
end Lots

namespace Lots
open PySem PySem.Spec PyProof.Rows L2
section
variable {P : Program} {w : World} {K : PySem.W.Frag} {mg : Str → Option Value} {base : Heap}
abbrev sLaw : Stmt := top 34
abbrev NL : List Str := ["script", "m", "turn", "many", "lots", "some", "thing", "kept", "found", "caught", "e", "is_so", "one", "other", "far"]
theorem scLaw : FnScope NL ["script"] (defScope sLaw) := ⟨rfl, rfl, rfl, by decide +kernel, rfl, by decide +kernel, by decide +kernel⟩
def forBody (s : Stmt) : List Stmt := match s with
  | .For _ _ b _ _ => b
  | _ => []
abbrev sTurns : Stmt := (defBody sLaw).getD 1 (.Pass ⟨0, 0, 0, 0⟩)
abbrev inT_ (i : Nat) : Stmt := (forBody sTurns).getD i (.Pass ⟨0, 0, 0, 0⟩)
theorem ite_no {v : V} {A B : Prop} (h : B) : if (!decide (v = v)) = true then A else B := by
  rw [decide_eq_true rfl]
  exact iteF h
theorem MOk.on {G H H2 : Hp} {p : Addr} {B : Int} (m : MOk G H p B) (e : Same H H2) : MOk G H2 p B := (m.grow e).less (same_grow m.same)
/-- rows as data -/
theorem drAll_rows {K : PySem.W.Frag} {H : Hp} : ∀ {L : List (Addr × List Str)}, (∀ p ∈ L, H p.1 = some (.tup (p.2.map V.str))) → DrAll K H (L.map rowV) ((L.map Prod.snd).map tupD)
  | [], _ => .nil
  | p :: L, h => .cons (dr_tup (h p (List.mem_cons_self ..))) (drAll_rows fun q hq => h q (List.mem_cons_of_mem _ hq))
theorem strs_bds (z : Nat) : ∀ (zs : List Str) (b : Nat), (∀ y ∈ zs, y.length ≤ b ∧ ∀ c ∈ cd y, c < 1114112) → Bds (zs.length * (b + 1)) 0 z (zs.map PyData.str)
  | [], b, _ => ⟨Nat.zero_le _, Nat.le_refl _, rfl⟩
  | y :: zs, b, h => by
    have ih := strs_bds z zs b fun x hx => h x (List.mem_cons_of_mem _ hx)
    obtain ⟨h1, h2⟩ := h y (List.mem_cons_self ..)
    have one : Bd b 0 z (.str y) := ⟨by simp only [PyData.weight]; exact h1, Nat.zero_le _, by simp only [tame, List.all_eq_true, decide_eq_true_eq]; exact h2⟩
    have q := (Bds.one one).app ih
    rw [List.length_cons, Nat.succ_mul]
    exact q.mono (by omega) (Nat.le_refl _) (Nat.le_refl _)
theorem map_bds {α : Type} {w k z : Nat} {f : α → PyData} : ∀ {ls : List α}, (∀ a ∈ ls, Bd w k z (f a)) → Bds (ls.length * (w + 1)) k z (ls.map f)
  | [], _ => ⟨Nat.zero_le _, Nat.zero_le _, rfl⟩
  | a :: ls, h => by
    have ih := map_bds (w := w) (k := k) (z := z) (f := f) (ls := ls) fun b hb => h b (List.mem_cons_of_mem _ hb)
    have q := (Bds.one (h a (List.mem_cons_self ..))).app ih
    rw [List.length_cons, Nat.succ_mul]
    exact q.mono (by omega) (Nat.le_refl _) (Nat.le_refl _)
theorem all_bds {w k z : Nat} : ∀ {ds : List PyData}, (∀ d ∈ ds, Bd w k z d) → Bds (ds.length * (w + 1)) k z ds
  | [], _ => ⟨Nat.zero_le _, Nat.zero_le _, rfl⟩
  | d :: ds, h => by
    have ih := all_bds (w := w) (k := k) (z := z) (ds := ds) fun b hb => h b (List.mem_cons_of_mem _ hb)
    have q := (Bds.one (h d (List.mem_cons_self ..))).app ih
    rw [List.length_cons, Nat.succ_mul]
    exact q.mono (by omega) (Nat.le_refl _) (Nat.le_refl _)
/-- names are short and of letters -/
theorem name_ok {y : Str} (h : IsName y) : y.length ≤ 8 ∧ ∀ c ∈ cd y, c < 1114112 := by
  obtain ⟨h1, h2, h3⟩ := h
  refine ⟨h2, fun c hc => ?_⟩
  have q := h3 c hc
  omega
theorem lot_bds {zs l : List Str} (T : Things zs) (len : zs.length ≤ 5) (h : l ∈ lots zs) (z : Nat) : Bd 45 1 z (tupD l) := by
  have l5 : l.length ≤ 5 := Nat.le_trans (lots_mem_len h) len
  have q := strs_bds z l 8 fun y hy => name_ok (T.2 y (lots_from zs l h y hy))
  have m : l.length * (8 + 1) ≤ 45 := by omega
  exact Bd.tup (q.mono m (Nat.le_refl _) (Nat.le_refl _))
theorem lots32 {xs : List Str} (h : xs.length ≤ 5) : (lots xs).length ≤ 32 := by
  rw [lots_len]
  exact Nat.le_trans (Nat.pow_le_pow_right (by decide) h) (by decide)
theorem lots_bds {zs : List Str} (T : Things zs) (len : zs.length ≤ 5) (z : Nat) : Bds 1472 1 z ((lots zs).map tupD) := by
  have q := map_bds (w := 45) (k := 1) (z := z) (f := tupD) (ls := lots zs) fun l hl => lot_bds T len hl z
  have m := lots32 len
  exact q.mono (by omega) (Nat.le_refl _) (Nat.le_refl _)
theorem str_bd {y : Str} {b : Nat} (h1 : y.length ≤ b) (h2 : ∀ c ∈ cd y, c < 1114112) (k z : Nat) : Bd b k z (.str y) :=
  ⟨by simp only [PyData.weight]; exact h1, Nat.zero_le _, by simp only [tame, List.all_eq_true, decide_eq_true_eq]; exact h2⟩
theorem step_bd {zs l : List Str} {x : Str} (T : Things zs) (len : zs.length ≤ 5) (h : l ∈ lots zs) (hx : x ∈ zs) (z : Nat) : Bd 69 2 z (stepD l x) := by
  have a := Bds.one (str_bd (y := "step") (b := 4) (by decide) (by decide) 1 z)
  have b := Bds.one (lot_bds T len h z)
  obtain ⟨x1, x2⟩ := name_ok (T.2 x hx)
  have c := Bds.one (str_bd (b := 8) x1 x2 1 z)
  exact Bd.tup ((a.app (b.app c)).mono (by decide) (Nat.le_refl _) (Nat.le_refl _))
theorem pair_bd {zs l : List Str} {x y : Str} (T : Things zs) (len : zs.length ≤ 5) (h : l ∈ lots zs) (hx : x ∈ zs) (hy : y ∈ zs) (z : Nat) : Bd 69 2 z (pairD l x y) := by
  have a := Bds.one (str_bd (y := "pair") (b := 4) (by decide) (by decide) 1 z)
  have b := Bds.one (lot_bds T len h z)
  obtain ⟨x1, x2⟩ := name_ok (T.2 x hx)
  have c := Bds.one (str_bd (b := 8) x1 x2 1 z)
  obtain ⟨y1, y2⟩ := name_ok (T.2 y hy)
  have d := Bds.one (str_bd (b := 8) y1 y2 1 z)
  exact Bd.tup ((a.app (b.app (c.app d))).mono (by decide) (Nat.le_refl _) (Nat.le_refl _))
theorem rule_bds {zs : List Str} (T : Things zs) (len : zs.length ≤ 5) (z : Nat) : Bds 100000 2 z (rulesD zs) := by
  have key : ∀ d ∈ rulesD zs, Bd 69 2 z d := by
    intro d hd
    rcases List.mem_append.mp hd with hd | hd
    · rcases List.mem_cons.mp hd with hd | hd
      · subst hd
        exact Bd.tup ((Bds.one (str_bd (y := "none") (b := 4) (by decide) (by decide) 1 z)).mono (by decide) (Nat.le_refl _) (Nat.le_refl _))
      · obtain ⟨l, hl, hd⟩ := List.mem_flatMap.mp hd
        obtain ⟨x, hx, rfl⟩ := List.mem_map.mp hd
        exact step_bd T len hl (List.mem_filter.mp hx).1 z
    · obtain ⟨l, hl, hd⟩ := List.mem_flatMap.mp hd
      obtain ⟨j, hj, hd⟩ := List.mem_flatMap.mp hd
      obtain ⟨y, hy, rfl⟩ := List.mem_map.mp hd
      rw [List.mem_range] at hj
      have g : (restL zs l).getD j "" = (restL zs l)[j] := by
        rw [List.getD_eq_getElem?_getD, List.getElem?_eq_getElem hj]
        rfl
      rw [g]
      exact pair_bd T len hl (List.mem_filter.mp (List.getElem_mem hj)).1 (List.mem_filter.mp (List.mem_of_mem_drop hy)).1 z
  have m := lots32 len
  have a := steps_len zs (lots zs)
  have b := pairs_len zs (lots zs)
  have a2 := Nat.mul_le_mul m len
  have b2 := Nat.mul_le_mul m (Nat.mul_le_mul len len)
  have n : (rulesD zs).length ≤ 961 := by
    show (noneD :: stepsD zs (lots zs) ++ pairsD zs (lots zs)).length ≤ 961
    rw [List.length_append, List.length_cons]
    omega
  exact (all_bds key).mono (by omega) (Nat.le_refl _) (Nat.le_refl _)
abbrev z30 : Nat := 10 ^ 30 + 100
theorem z30_lt : z30 < 10 ^ 40 := by decide
/-- what repr of such data asks and gives -/
theorem rd_repr {K : PySem.W.Frag} {H : Hp} {x : V} {d : PyData} {w k : Nat} {Q : VK} (hS : Sys H) (hx : Dr K H x d) (b : Bd w k z30 d) (hw : w ≤ 100000) (hk : k ≤ 60) (h : Q (.str d.shown) H) : rRepr K [x] H Q :=
  let ⟨r1, r2, r3⟩ := b.repr hw hk z30_lt
  ⟨x, d, rfl, hS, hx, r1, r2, r3, h⟩
/-- the lots and the rules agree -/
theorem look_ok {f fA fR fQ : Addr} {fdA fdR fdQ : FuncData} {cdv : Value} {A : Around} {outer : List Env} {s : Shared} {H : Hp} {E : XK} (T : Blt mg)
    (FA : FnOk P w K mg base CX0 1 fA fdA ["things"] (spAll K)) (gA : mg "all_lots" = some (.ref fA)) (kA : PySem.W.keepIn K (.ref fA) = true) (bA : Binds K fdA ["things"] [])
    (FR : FnOk P w K mg base CX0 2 fR fdR ["things"] (spRules K)) (gR : mg "rules" = some (.ref fR)) (kR : PySem.W.keepIn K (.ref fR) = true) (bR : Binds K fdR ["things"] [])
    (FQ : FnOk P w K mg base CX0 2 fQ fdQ ["many"] (spLRules K)) (gQ : mg "_law_rules" = some (.ref fQ)) (kQ : PySem.W.keepIn K (.ref fQ) = true) (bQ : Binds K fdQ ["many"] [])
    (hr : Room 12 (A.deeper (envOfC "law" (defScope sLaw) s.heap.objs.size f cdv))) (gd : (A.deeper (envOfC "law" (defScope sLaw) s.heap.objs.size f cdv)).guards = some []) :
    ∃ tb, PS (cxOf CX0 P w K mg base NL "law" (defScope sLaw) f cdv A outer s H E).nox (inT_ 2) tb ∧
      ∀ (En : Ends) (Hc : Hp) (a0 p t l : Addr) (zs : List Str) (L : List (Addr × List Str)) (tn v5 v6 v7 v8 v9 v10 v11 v12 v13 v14 : Option V), Sys Hc → SqT K Hc t (zs.map V.str) → Things zs → zs.length ≤ 5 → Hc l = some (.lst (L.map rowV)) → L.map Prod.snd = lots zs → (∀ p ∈ L, Hc p.1 = some (.tup (p.2.map V.str))) →
        (∀ H2, Same Hc H2 → En.nx [some (.ref a0), some (.ref p), tn, some (.ref t), some (.ref l), v5, v6, v7, v8, v9, v10, v11, v12, v13, v14] H2) →
        tb En [some (.ref a0), some (.ref p), tn, some (.ref t), some (.ref l), v5, v6, v7, v8, v9, v10, v11, v12, v13, v14] Hc := by
  have hr1 : Room 1 _ := hr.mono (by decide)
  have hr2 : Room 2 _ := hr.mono (by decide)
  refine ⟨_, (ps_if (PW.pt (pw_or (pt_cmpR op_ne (pe_callB (call_repr gd hr.units) (by rfl) T.repr (by decide +kernel) (pa_cons (pe_call FA hr1 (by rfl) gA kA bA .nil pass0 (pa_cons (pv 3) pa_nil)) pa_nil)) (pe_callB (call_repr gd hr.units) (by rfl) T.repr (by decide +kernel) (pa_cons (pe_callTy call_tuple_of (by rfl) T.tuple (by decide +kernel) (pa_cons (pv 4) pa_nil)) pa_nil)) (nomark _))
      (pw_or1 (pt_cmpR op_ne (pe_callB (call_repr gd hr.units) (by rfl) T.repr (by decide +kernel) (pa_cons (pe_call FR hr2 (by rfl) gR kR bR .nil pass0 (pa_cons (pv 3) pa_nil)) pa_nil)) (pe_callB (call_repr gd hr.units) (by rfl) T.repr (by decide +kernel) (pa_cons (pe_callTy call_tuple_of (by rfl) T.tuple (by decide +kernel) (pa_cons (pe_call FQ hr2 (by rfl) gQ kQ bQ .nil pass0 (pa_cons (pv 3) pa_nil)) pa_nil)) pa_nil)) (nomark _))))) (pss_one (ps_ret pe_bl)) pss_nil), ?_⟩
  intro En Hc a0 p t l zs L tn v5 v6 v7 v8 v9 v10 v11 v12 v13 v14 hS ht Tz len hl eL rows fin
  have lb : Bd 1472 2 z30 (.tuple ((lots zs).map tupD)) := Bd.tup (lots_bds Tz len z30)
  have rb : Bd 100000 3 z30 (.tuple (rulesD zs)) := Bd.tup (rule_bds Tz len z30)
  obtain ⟨a1, a2, a3⟩ := lb.repr (by decide) (by decide) z30_lt
  obtain ⟨b1, b2, b3⟩ := rb.repr (by decide) (by decide) z30_lt
  refine ⟨_, rfl, t, zs, rfl, ht, by omega, fun H2 t2 L2 s2 n2 h2 e2 r2 => ⟨_, .tuple ((lots zs).map tupD), rfl, hS.same s2, ?_, a1, a2, a3, ?_⟩⟩
  · refine .tup (.inl h2) rfl ?_
    rw [← e2]
    exact drAll_rows fun q hq => (r2 q hq).2
  refine ⟨_, rfl, l, _, rfl, .inl ⟨.of (s2 _ _ hl), fun t3 n3 => ?_⟩⟩
  have s3 := s2.trans (same_upd (o := .tup (L.map rowV)) n3)
  refine ⟨_, .tuple ((lots zs).map tupD), rfl, hS.same s3, ?_, a1, a2, a3, ?_⟩
  · refine .tup (.inl upd_same) rfl ?_
    rw [← eL]
    exact drAll_rows fun q hq => s3 _ _ (rows q hq)
  refine ⟨rfl, _, rfl, ite_no ?_⟩
  generalize upd H2 t3 (.tup (L.map rowV)) = H3 at s3 ⊢
  refine ⟨_, rfl, t, zs, rfl, Same.seqT s3 ht, by omega, fun H4 t4 s4 d4 => ⟨_, _, rfl, hS.same (s3.trans s4), d4, b1, b2, b3, ?_⟩⟩
  have s34 := s3.trans s4
  refine ⟨_, rfl, t, zs, rfl, Same.seqT s34 ht, Tz.1, by omega, fun H5 t5 us s5 u5 d5 f5 => ⟨t5, us, rfl, .inl ⟨.of u5, fun t6 n6 => ?_⟩⟩⟩
  have s6 := same_upd (o := .tup us) n6
  refine ⟨_, .tuple (rulesD zs), rfl, hS.same ((s34.trans s5).trans s6), .tup (.inl upd_same) rfl (d5.same s6), b1, b2, b3, ?_⟩
  exact ⟨rfl, _, rfl, ite_no (fin _ ((s34.trans s5).trans s6))⟩
end
end Lots

namespace Lots
open PySem PySem.Spec PyProof.Rows L2
section
variable {P : Program} {w : World} {K : PySem.W.Frag} {mg : Str → Option Value} {base : Heap}
abbrev sTry : Stmt := (forBody (inT_ 5)).getD 1 (.Pass ⟨0, 0, 0, 0⟩)
def foundD (d : PyData) : PyData := if isThB d = true then d else .none
def cauV (d : PyData) : V := if isThB d = true then .non else .str d.shown
/-- try: found = need_things(thing), except BadThings as e: caught = repr(e.value) -/
theorem try_ok {f fN C : Addr} {fdN : FuncData} {cdv : Value} {A : Around} {outer : List Env} {s : Shared} {H : Hp} {E : XK} (T : Blt mg)
    (FN : FnOk P w K mg base (L2.CX P w) 4 fN fdN ["thing"] (spNeed K C)) (gN : mg "need_things" = some (.ref fN)) (kN : PySem.W.keepIn K (.ref fN) = true) (bN : Binds K fdN ["thing"] [])
    (gC : mg "BadThings" = some (.ref C)) (te : PySem.W.exmOne K (.ref C) (.ref C) = some true) (XF : XfC K C) (no : PySem.W.findIn K (.ref C) "value" = some none)
    (hr : Room 12 (A.deeper (envOfC "law" (defScope sLaw) s.heap.objs.size f cdv))) (gd : (A.deeper (envOfC "law" (defScope sLaw) s.heap.objs.size f cdv)).guards = some []) :
    ∃ tb, PS (cxOf CX0 P w K mg base NL "law" (defScope sLaw) f cdv A outer s H E).nox sTry tb ∧
      ∀ (En : Ends) (Hc : Hp) (x : V) (d : PyData) (v0 v1 v2 v3 v4 v5 v7 v11 v12 v13 v14 : Option V), Sys Hc → Dr K Hc x d → Bd 1000 10 z30 d →
        (∀ (H2 : Hp) (v8 : V), Same Hc H2 → Dr K H2 v8 (foundD d) → En.nx [v0, v1, v2, v3, v4, v5, some x, v7, some v8, some (cauV d), none, v11, v12, v13, v14] H2) →
        tb En [v0, v1, v2, v3, v4, v5, some x, v7, some .non, some .non, none, v11, v12, v13, v14] Hc := by
  have hr4 : Room 4 _ := hr.mono (by decide)
  refine ⟨_, (ps_try_as (i := 10) (tb := fun W => tAsg (tCallS (spNeed K C) (WE W) (tCons (tVar 6) tNil)) (gName 8)) (ts := fun a cls d => tAsg (tCB (rRepr K) (tCons (tXf a cls d C "value" (tVar 10)) tNil)) (gName 9)) (Wout := fun _ _ _ _ => False) rfl rfl scLaw.nd rfl rfl ⟨rfl, by decide, Or.inl gC⟩ takes0
          (fun W pn xe tk _ => pss_one (ps_set (i := 8) scLaw.nd rfl (Or.inl rfl) (by exact (pe_callS FN hr4 rfl gN kN bN (fun σ => passAt tk σ) (by exact (pa_cons (pv 6) pa_nil))))))
          (fun a oe cls d pn hz hf => pss_one (ps_set (i := 9) scLaw.nd rfl (Or.inl rfl) (by exact (pe_callB (call_repr gd hr.units) (by rfl) T.repr (by decide +kernel) (pa_cons (pe_xf XF no hz hf (pv 10)) pa_nil)))))), ?_⟩
  intro En Hc x d v0 v1 v2 v3 v4 v5 v7 v11 v12 v13 v14 hS hx bd fin
  obtain ⟨r1, r2, r3⟩ := bd.repr (by decide) (by decide) z30_lt
  refine ⟨_, rfl, x, d, rfl, hx, bd.fits1 (by decide), fun yes H2 s2 => ?_, fun nay H2 dx s2 nd rd => ?_⟩
  · have e1 : foundD d = d := if_pos yes
    have e2 : cauV d = .non := if_pos yes
    have q := fin H2 x s2 (by rw [e1]; exact hx.same s2)
    rw [e2] at q
    exact q
  · obtain ⟨y, hy, dy⟩ := rd
    have e1 : foundD d = .none := if_neg (by rw [nay]; exact Bool.false_ne_true)
    have e2 : cauV d = .str d.shown := if_neg (by rw [nay]; exact Bool.false_ne_true)
    refine ⟨true, te, fun _ a1 _ => ?_, fun q => Bool.noConfusion q⟩
    refine ⟨_, rfl, rfl, rfl, dx, _, y, rfl, hy, rfl, y, d, rfl, hS.same s2, dy, r1, r2, r3, ?_⟩
    have q := fin H2 .non s2 (by rw [e1]; exact .non)
    rw [e2] at q
    exact q
abbrev sChk : Stmt := (forBody (inT_ 5)).getD 3 (.Pass ⟨0, 0, 0, 0⟩)
/-- if (repr(found), caught) != .. or repr(thing) != kept -/
theorem chk_ok {f : Addr} {cdv : Value} {A : Around} {outer : List Env} {s : Shared} {H : Hp} {E : XK} (T : Blt mg)
    (hr : Room 12 (A.deeper (envOfC "law" (defScope sLaw) s.heap.objs.size f cdv))) (gd : (A.deeper (envOfC "law" (defScope sLaw) s.heap.objs.size f cdv)).guards = some []) :
    ∃ tb, PS (cxOf CX0 P w K mg base NL "law" (defScope sLaw) f cdv A outer s H E).nox sChk tb ∧
      ∀ (En : Ends) (Hc : Hp) (x v8 : V) (d : PyData) (v0 v1 v2 v3 v4 v5 v10 v12 v13 v14 : Option V), Sys Hc → Dr K Hc x d → Bd 1000 10 z30 d → Dr K Hc v8 (foundD d) →
        (∀ (H2 : Hp), Same Hc H2 → En.nx [v0, v1, v2, v3, v4, v5, some x, some (.str d.shown), some v8, some (cauV d), v10, some (.bl (isThB d)), v12, v13, v14] H2) →
        tb En [v0, v1, v2, v3, v4, v5, some x, some (.str d.shown), some v8, some (cauV d), v10, some (.bl (isThB d)), v12, v13, v14] Hc := by
  refine ⟨_, (ps_if (PW.pt (pw_or (pt_cmpR (op_neSame hr.units0) (pe_tup (pa_cons (pe_callB (call_repr gd hr.units) (by rfl) T.repr (by decide +kernel) (pa_cons (pv 8) pa_nil)) (pa_cons (pv 9) pa_nil))) (pe_ifExp (pt_val (pv 11)) (pe_tup (pa_cons (pv 7) (pa_cons pe_non pa_nil))) (pe_tup (pa_cons pe_str (pa_cons (pv 7) pa_nil)))) (nomark _))
      (pw_or1 (pt_cmpR op_ne (pe_callB (call_repr gd hr.units) (by rfl) T.repr (by decide +kernel) (pa_cons (pv 6) pa_nil)) (pv 7) (nomark _))))) (pss_one (ps_ret pe_bl)) pss_nil), ?_⟩
  intro En Hc x v8 d v0 v1 v2 v3 v4 v5 v10 v12 v13 v14 hS hx bd h8 fin
  obtain ⟨r1, r2, r3⟩ := bd.repr (by decide) (by decide) z30_lt
  have bf : Bd 1000 10 z30 (foundD d) := by
    unfold foundD
    split
    · exact bd
    · exact ⟨Nat.zero_le _, Nat.zero_le _, rfl⟩
  obtain ⟨q1, q2, q3⟩ := bf.repr (by decide) (by decide) z30_lt
  refine ⟨_, rfl, v8, foundD d, rfl, hS, h8, q1, q2, q3, _, rfl, (by show 2 ≤ sizeLine; decide), fun t1 n1 => ?_⟩
  have s1 := same_upd (o := .tup [.str (foundD d).shown, cauV d]) n1
  have u1 : (upd Hc t1 (.tup [.str (foundD d).shown, cauV d])) t1 = some (.tup [.str (foundD d).shown, cauV d]) := upd_same
  generalize upd Hc t1 (.tup [.str (foundD d).shown, cauV d]) = H1 at s1 u1 ⊢
  refine ⟨_, rfl, _, rfl, ite2 (fun c => ?_) (fun c => ?_)⟩
  · have e1 : foundD d = d := if_pos c
    have e2 : cauV d = .non := if_pos c
    refine ⟨_, rfl, (by show 2 ≤ sizeLine; decide), fun t2 n2 => ?_⟩
    have s2 := s1.trans (same_upd (o := .tup [.str d.shown, .non]) n2)
    refine ⟨t1, t2, [.str d.shown, .non], rfl, rfl, .of ?_, .of upd_same, ?_, _, rfl, iteF ⟨_, rfl, x, d, rfl, hS.same s2, hx.same s2, r1, r2, r3, _, rfl, rfl, _, rfl, ite_no (fin _ s2)⟩⟩
    · rw [upd_ne (ne_of_none u1 n2), u1, e1, e2]
    · intro v hv
      simp only [List.mem_cons, List.not_mem_nil, or_false] at hv
      rcases hv with rfl | rfl
      · exact .inr ⟨_, rfl⟩
      · exact .inl rfl
  · have e1 : foundD d = .none := if_neg c
    have e2 : cauV d = .str d.shown := if_neg c
    refine ⟨_, rfl, (by show 2 ≤ sizeLine; decide), fun t2 n2 => ?_⟩
    have s2 := s1.trans (same_upd (o := .tup [.str "None", .str d.shown]) n2)
    refine ⟨t1, t2, [.str "None", .str d.shown], rfl, rfl, .of ?_, .of upd_same, ?_, _, rfl, iteF ⟨_, rfl, x, d, rfl, hS.same s2, hx.same s2, r1, r2, r3, _, rfl, rfl, _, rfl, ite_no (fin _ s2)⟩⟩
    · rw [upd_ne (ne_of_none u1 n2), u1, e1, e2]
      rfl
    · intro v hv
      simp only [List.mem_cons, List.not_mem_nil, or_false] at hv
      rcases hv with rfl | rfl
      · exact .inr ⟨_, rfl⟩
      · exact .inr ⟨_, rfl⟩
end
end Lots

namespace Lots
open PySem PySem.Spec PyProof.Rows L2
section
variable {P : Program} {w : World} {K : PySem.W.Frag} {mg : Str → Option Value} {base : Heap}
/-- for thing in some: need_things tells the very thing, or refuses it -/
theorem tell_ok {f fN fM C : Addr} {fdN fdM : FuncData} {cdv : Value} {A : Around} {outer : List Env} {s : Shared} {H : Hp} {E : XK} (T : Blt mg)
    (FN : FnOk P w K mg base (L2.CX P w) 4 fN fdN ["thing"] (spNeed K C)) (gN : mg "need_things" = some (.ref fN)) (kN : PySem.W.keepIn K (.ref fN) = true) (bN : Binds K fdN ["thing"] [])
    (FM : FnOk P w K mg base CX0 3 fM fdM ["thing"] (spAsc K)) (gM : mg "_law_are_ascending" = some (.ref fM)) (kM : PySem.W.keepIn K (.ref fM) = true) (bM : Binds K fdM ["thing"] [])
    (gC : mg "BadThings" = some (.ref C)) (te : PySem.W.exmOne K (.ref C) (.ref C) = some true) (XF : XfC K C) (no : PySem.W.findIn K (.ref C) "value" = some none)
    (hr : Room 12 (A.deeper (envOfC "law" (defScope sLaw) s.heap.objs.size f cdv))) (gd : (A.deeper (envOfC "law" (defScope sLaw) s.heap.objs.size f cdv)).guards = some []) :
    ∃ tb, PS (cxOf CX0 P w K mg base NL "law" (defScope sLaw) f cdv A outer s H E).nox (inT_ 5) tb ∧
      ∀ (En : Ends) (Hc : Hp) (S : Addr) (xs : List V) (ds : List PyData) (v0 v1 v2 v3 v4 v6 v7 v8 v9 v11 v12 v13 v14 : Option V), Sys Hc → Hc S = some (.lst xs) → DrAll K Hc xs ds → (∀ d ∈ ds, Bd 1000 10 z30 d) →
        (∀ (H2 : Hp) (v6 v7 v8 v9 v11 : Option V), Same Hc H2 → En.nx [v0, v1, v2, v3, v4, some (.ref S), v6, v7, v8, v9, none, v11, v12, v13, v14] H2) →
        tb En [v0, v1, v2, v3, v4, some (.ref S), v6, v7, v8, v9, none, v11, v12, v13, v14] Hc := by
  have hr3 : Room 3 _ := hr.mono (by decide)
  obtain ⟨tT, dT, hT⟩ := try_ok (P := P) (w := w) (base := base) (f := f) (cdv := cdv) (A := A) (outer := outer) (s := s) (H := H) (E := E) T FN gN kN bN gC te XF no hr gd
  obtain ⟨tK, dK, hK⟩ := chk_ok (P := P) (w := w) (K := K) (base := base) (f := f) (cdv := cdv) (A := A) (outer := outer) (s := s) (H := H) (E := E) T hr gd
  refine ⟨_, (ps_for PassesOwn.never rfl (pi_list (pv 5)) (pg_name (i := 6) scLaw.nd rfl (Or.inl rfl))
    (pss_cons (ps_par3 (i := 7) (j := 8) (l := 9) (by rfl) scLaw.nd rfl rfl rfl (by decide) (by decide) (by decide) (by rfl) (by rfl) (by rfl) (pa_cons (pe_callB (call_repr gd hr.units) (by rfl) T.repr (by decide +kernel) (pa_cons (pv 6) pa_nil)) (pa_cons pe_non (pa_cons pe_non pa_nil))) (by rfl))
    (pss_cons dT
    (pss_cons (ps_set (i := 11) scLaw.nd rfl (Or.inl rfl) (pe_and (pe_call FM hr3 (by rfl) gM kM bM .nil pass0 (pa_cons (pv 6) pa_nil)) (pe_one (pe_chain op_le op_le pe_int (pe_callB call_len_seq (by rfl) T.len PySem.boot_len (pa_cons (pv 6) pa_nil)) pe_int))))
    (pss_one dK))))), ?_⟩
  intro En Hc S xs ds v0 v1 v2 v3 v4 v6 v7 v8 v9 v11 v12 v13 v14 hS hl all bds fin
  refine ⟨_, rfl, S, rfl, ⟨_, .of hl⟩, ?_⟩
  refine for_list (K := K) (a := S) (xs := xs) (fun i σ H2 => Same Hc H2 ∧ ∃ v6 v7 v8 v9 v11, σ = [v0, v1, v2, v3, v4, some (.ref S), v6, v7, v8, v9, none, v11, v12, v13, v14]) ⟨Same.refl _, _, _, _, _, _, rfl⟩ (fun i σ H2 _ q => .of (q.1 _ _ hl)) ?_ ?_
  · rintro i x σ H2 hx ⟨s2, w6, w7, w8, w9, w11, rfl⟩
    obtain ⟨d, hd, hxd⟩ := all.nth hx
    have bd := bds d (List.mem_of_getElem? hd)
    obtain ⟨r1, r2, r3⟩ := bd.repr (by decide) (by decide) z30_lt
    have hx2 := hxd.same s2
    refine ⟨_, rfl, x, d, rfl, hS.same s2, hx2, r1, r2, r3, _, _, _, rfl, ?_⟩
    refine hT _ H2 x d _ _ _ _ _ _ _ _ _ _ _ (hS.same s2) hx2 bd fun H3 u8 s3 d8 => ?_
    have s23 := s2.trans s3
    have hx3 := hxd.same s23
    refine ⟨_, rfl, x, d, rfl, hx3, bd.fits1 (by decide), fun H4 s4 => ?_⟩
    have s24 := s23.trans s4
    have hx4 := hxd.same s24
    have fin4 : ∀ (b : Bool) (En2 : Ends), b = isThB d → (∀ σ' H5, (Same Hc H5 ∧ ∃ v6 v7 v8 v9 v11, σ' = [v0, v1, v2, v3, v4, some (.ref S), v6, v7, v8, v9, none, v11, v12, v13, v14]) → En2.nx σ' H5) → tK En2 [v0, v1, v2, v3, v4, some (.ref S), some x, some (.str d.shown), some u8, some (cauV d), none, some (.bl b), v12, v13, v14] H4 := fun b En2 e h => by
      subst e
      exact hK En2 H4 x u8 d _ _ _ _ _ _ _ _ _ _ (hS.same s24) hx4 bd (d8.same s4) fun H5 s5 => h _ _ ⟨s24.trans s5, _, _, _, _, _, rfl⟩
    refine ⟨_, rfl, ite2 (fun c => ?_) (fun c => ?_)⟩
    · cases hx4 with
      | @tup a ys es at_ no al =>
        have el : ys.length = es.length := al.size
        have e : isThB (.tuple es) = decide (1 ≤ es.length ∧ es.length ≤ 5) := by
          have q : (es.all isNm && risB (es.map txtOf)) = true := c
          show (decide _ && (es.all isNm && risB (es.map txtOf))) = _
          rw [q, Bool.and_true]
        refine ⟨_, rfl, a, ys, rfl, .inr (.inl at_), _, _, rfl, rfl, _, rfl, ite2 (fun c1 => ⟨_, _, rfl, rfl, ?_⟩) (fun c1 => ?_)⟩
        · refine fin4 _ _ ?_ (fun _ _ z => z)
          rw [e]
          have q := of_decide_eq_true c1
          rw [Bool.eq_iff_iff]
          simp
          omega
        · refine fin4 _ _ ?_ (fun _ _ z => z)
          rw [e]
          symm
          refine decide_eq_false ?_
          have q : ¬ _ := fun z => c1 (decide_eq_true z)
          omega
      | _ => exact absurd c Bool.false_ne_true
    · have e : isThB d = false := by
        cases d with
        | tuple es =>
          have q : (es.all isNm && risB (es.map txtOf)) = false := (Bool.not_eq_true _).mp c
          show (decide _ && (es.all isNm && risB (es.map txtOf))) = _
          rw [q, Bool.and_false]
        | _ => rfl
      exact fin4 false _ e.symm (fun _ _ z => z)
  · rintro σ H2 ⟨s2, w6, w7, w8, w9, w11, rfl⟩
    exact fin H2 _ _ _ _ _ s2
end
end Lots

namespace Lots
open PySem PySem.Spec PyProof.Rows L2
section
variable {P : Program} {w : World} {K : PySem.W.Frag} {mg : Str → Option Value} {base : Heap}
theorem nodup_len {α : Type} [DecidableEq α] : ∀ {l m : List α}, l.Nodup → (∀ x ∈ l, x ∈ m) → l.length ≤ m.length
  | [], m, _, _ => Nat.zero_le _
  | x :: l, m, nd, h => by
    have hx := h x (List.mem_cons_self ..)
    have nd2 := List.nodup_cons.mp nd
    have ih := nodup_len (m := m.erase x) nd2.2 fun y hy => (List.mem_erase_of_ne (fun e : y = x => nd2.1 (e ▸ hy))).mpr (h y (List.mem_cons_of_mem _ hy))
    rw [List.length_erase_of_mem hx] at ih
    have := List.length_pos_of_mem hx
    rw [List.length_cons]
    omega
/-- some of the things -/
theorem part_bd {zs l : List Str} (T : Things zs) (h : ∀ y ∈ l, y ∈ zs) {n : Nat} (len : l.length ≤ n) (z : Nat) : Bd (n * 9) 1 z (tupD l) := by
  have q := strs_bds z l 8 fun y hy => name_ok (T.2 y (h y hy))
  have m : l.length * (8 + 1) ≤ n * 9 := Nat.mul_le_mul_right 9 len
  exact Bd.tup (q.mono m (Nat.le_refl _) (Nat.le_refl _))
/-- joined and without agree with the law's -/
theorem same_ok {f fJ fW fB fL : Addr} {fdJ fdW fdB fdL : FuncData} {cdv : Value} {A : Around} {outer : List Env} {s : Shared} {H : Hp} {E : XK} (T : Blt mg)
    (FJ : FnOk P w K mg base CX0 1 fJ fdJ ["one", "other"] (spBoth K)) (gJ : mg "joined" = some (.ref fJ)) (kJ : PySem.W.keepIn K (.ref fJ) = true) (bJ : Binds K fdJ ["one", "other"] [])
    (FW : FnOk P w K mg base CX0 1 fW fdW ["one", "other"] (spLess K)) (gW : mg "without" = some (.ref fW)) (kW : PySem.W.keepIn K (.ref fW) = true) (bW : Binds K fdW ["one", "other"] [])
    (FB : FnOk P w K mg base CX0 1 fB fdB ["one", "other"] (spBoth K)) (gB : mg "_law_both" = some (.ref fB)) (kB : PySem.W.keepIn K (.ref fB) = true) (bB : Binds K fdB ["one", "other"] [])
    (FL : FnOk P w K mg base CX0 1 fL fdL ["one", "other"] (spLess K)) (gL : mg "_law_less" = some (.ref fL)) (kL : PySem.W.keepIn K (.ref fL) = true) (bL : Binds K fdL ["one", "other"] [])
    (hr : Room 12 (A.deeper (envOfC "law" (defScope sLaw) s.heap.objs.size f cdv))) (gd : (A.deeper (envOfC "law" (defScope sLaw) s.heap.objs.size f cdv)).guards = some []) :
    ∃ tb, PS (cxOf CX0 P w K mg base NL "law" (defScope sLaw) f cdv A outer s H E).nox (inT_ 7) tb ∧
      ∀ (En : Ends) (Hc : Hp) (a1 a2 : Addr) (zs l1 l2 : List Str) (v0 v1 v2 v3 v4 v5 v6 v7 v8 v9 v10 v11 v14 : Option V), Sys Hc → Things zs → zs.length ≤ 5 → SqT K Hc a1 (l1.map V.str) → SqT K Hc a2 (l2.map V.str) → l1 ∈ lots zs → l2 ∈ lots zs →
        (∀ (H2 : Hp), Same Hc H2 → En.nx [v0, v1, v2, v3, v4, v5, v6, v7, v8, v9, v10, v11, some (.ref a1), some (.ref a2), v14] H2) →
        tb En [v0, v1, v2, v3, v4, v5, v6, v7, v8, v9, v10, v11, some (.ref a1), some (.ref a2), v14] Hc := by
  have hr1 : Room 1 _ := hr.mono (by decide)
  refine ⟨_, (ps_if (pt_cmpR op_ne (pe_callB (call_repr gd hr.units) (by rfl) T.repr (by decide +kernel) (pa_cons (pe_lst (pa_cons (pe_call FJ hr1 (by rfl) gJ kJ bJ .nil pass0 (pa_cons (pv 12) (pa_cons (pv 13) pa_nil))) (pa_cons (pe_call FW hr1 (by rfl) gW kW bW .nil pass0 (pa_cons (pv 12) (pa_cons (pv 13) pa_nil))) pa_nil))) pa_nil))
    (pe_callB (call_repr gd hr.units) (by rfl) T.repr (by decide +kernel) (pa_cons (pe_lst (pa_cons (pe_call FB hr1 (by rfl) gB kB bB .nil pass0 (pa_cons (pv 12) (pa_cons (pv 13) pa_nil))) (pa_cons (pe_call FL hr1 (by rfl) gL kL bL .nil pass0 (pa_cons (pv 12) (pa_cons (pv 13) pa_nil))) pa_nil))) pa_nil)) (nomark _)) (pss_one (ps_ret pe_bl)) pss_nil), ?_⟩
  intro En Hc a1 a2 zs l1 l2 v0 v1 v2 v3 v4 v5 v6 v7 v8 v9 v10 v11 v14 hS Tz len h1 h2 m1 m2 fin
  have n1 := lots_mem_len m1
  have n2 := lots_mem_len m2
  refine ⟨_, rfl, _, rfl, a1, a2, l1, l2, rfl, h1, h2, by omega, fun H2 t2 u s2 f2 e2 as2 me2 => ?_⟩
  refine ⟨_, rfl, _, rfl, a1, a2, l1, l2, rfl, Same.seqT s2 h1, Same.seqT s2 h2, by omega, fun H3 t3 s3 f3 e3 => ⟨(by show 2 ≤ sizeLine; decide), fun q4 f4 => ?_⟩⟩
  have sub : ∀ y ∈ u, y ∈ zs := fun y hy => ((me2 y).mp hy).elim (lots_from zs l1 m1 y) (lots_from zs l2 m2 y)
  have lu : u.length ≤ 5 := Nat.le_trans (nodup_len as2.nodup sub) len
  have bu := part_bd Tz sub lu z30
  have bl : Bd (5 * 9) 1 z30 (tupD (lessL l1 l2)) := part_bd Tz (fun y hy => lots_from zs l1 m1 y (List.mem_filter.mp hy).1) (Nat.le_trans (List.length_filter_le _ _) (by omega)) z30
  have bd : Bd 92 2 z30 (.list [tupD u, tupD (lessL l1 l2)]) := Bd.lst (((Bds.one bu).app (Bds.one bl)).mono (by decide) (Nat.le_refl _) (Nat.le_refl _))
  obtain ⟨r1, r2, r3⟩ := bd.repr (by decide) (by decide) z30_lt
  have s4 := same_upd (o := .lst [.ref t2, .ref t3]) f4
  have s24 := (s2.trans s3).trans s4
  refine ⟨_, .list [tupD u, tupD (lessL l1 l2)], rfl, hS.same s24, .lst (.inl upd_same) rfl (.cons (dr_tup (s4 _ _ (s3 _ _ e2))) (.cons (dr_tup (s4 _ _ e3)) .nil)), r1, r2, r3, ?_⟩
  generalize upd H3 q4 (.lst [.ref t2, .ref t3]) = H4 at s24 ⊢
  refine ⟨_, rfl, _, rfl, a1, a2, l1, l2, rfl, Same.seqT s24 h1, Same.seqT s24 h2, by omega, fun H5 t5 u5 s5 f5 e5 as5 me5 => ?_⟩
  have eu : u5 = u := asc_unique as5 as2 fun y => (me5 y).trans (me2 y).symm
  subst eu
  refine ⟨_, rfl, _, rfl, a1, a2, l1, l2, rfl, Same.seqT (s24.trans s5) h1, Same.seqT (s24.trans s5) h2, by omega, fun H6 t6 s6 f6 e6 => ⟨(by show 2 ≤ sizeLine; decide), fun q7 f7 => ?_⟩⟩
  have s7 := same_upd (o := .lst [.ref t5, .ref t6]) f7
  have s27 := ((s24.trans s5).trans s6).trans s7
  refine ⟨_, .list [tupD u5, tupD (lessL l1 l2)], rfl, hS.same s27, .lst (.inl upd_same) rfl (.cons (dr_tup (s7 _ _ (s6 _ _ e5))) (.cons (dr_tup (s7 _ _ e6)) .nil)), r1, r2, r3, ?_⟩
  exact ⟨rfl, _, rfl, ite_no (fin _ s27)⟩
end
end Lots

namespace Lots
open PySem PySem.Spec PyProof.Rows L2
section
variable {P : Program} {w : World} {K : PySem.W.Frag} {mg : Str → Option Value} {base : Heap}
abbrev sChk2 : Stmt := (forBody (inT_ 9)).getD 1 (.Pass ⟨0, 0, 0, 0⟩)
theorem bl_repr (b : Bool) : (PyData.bool b).showable = true ∧ (PyData.bool b).shown.length ≤ sizeLine ∧ (PyData.bool b).depth ≤ 60 :=
  Bd.repr (w := 0) (k := 0) (z := z30) ⟨Nat.le_refl _, Nat.le_refl _, rfl⟩ (by decide) (by decide) z30_lt
/-- if repr(is_lot(many, thing)) != repr(is_so) -/
theorem chk2_ok {f fI : Addr} {fdI : FuncData} {cdv : Value} {A : Around} {outer : List Env} {s : Shared} {H : Hp} {E : XK} (T : Blt mg)
    (FI : FnOk P w K mg base CX0 2 fI fdI ["things", "thing"] (spIsLot K)) (gI : mg "is_lot" = some (.ref fI)) (kI : PySem.W.keepIn K (.ref fI) = true) (bI : Binds K fdI ["things", "thing"] [])
    (hr : Room 12 (A.deeper (envOfC "law" (defScope sLaw) s.heap.objs.size f cdv))) (gd : (A.deeper (envOfC "law" (defScope sLaw) s.heap.objs.size f cdv)).guards = some []) :
    ∃ tb, PS (cxOf CX0 P w K mg base NL "law" (defScope sLaw) f cdv A outer s H E).nox sChk2 tb ∧
      ∀ (En : Ends) (Hc : Hp) (t : Addr) (o : Obj) (zs : List Str) (x : V) (d : PyData) (v0 v1 v2 v4 v5 v7 v8 v9 v10 v12 v13 v14 : Option V), Sys Hc → Hc t = some (.frz o (.tup (zs.map V.str))) → o.dict = none → Asc zs → zs.length ≤ 8 → Dr K Hc x d → Bd 1000 10 z30 d →
        En.nx [v0, v1, v2, some (.ref t), v4, v5, some x, v7, v8, v9, v10, some (.bl (isLotB zs d)), v12, v13, v14] Hc →
        tb En [v0, v1, v2, some (.ref t), v4, v5, some x, v7, v8, v9, v10, some (.bl (isLotB zs d)), v12, v13, v14] Hc := by
  have hr2 : Room 2 _ := hr.mono (by decide)
  refine ⟨_, (ps_if (pt_cmpR op_ne (pe_callB (call_repr gd hr.units) (by rfl) T.repr (by decide +kernel) (pa_cons (pe_call FI hr2 (by rfl) gI kI bI .nil pass0 (pa_cons (pv 3) (pa_cons (pv 6) pa_nil))) pa_nil)) (pe_callB (call_repr gd hr.units) (by rfl) T.repr (by decide +kernel) (pa_cons (pv 11) pa_nil)) (nomark _)) (pss_one (ps_ret pe_bl)) pss_nil), ?_⟩
  intro En Hc t o zs x d v0 v1 v2 v4 v5 v7 v8 v9 v10 v12 v13 v14 hS ht hd asc len hx bd fin
  obtain ⟨r1, r2, r3⟩ := bl_repr (isLotB zs d)
  exact ⟨_, rfl, _, rfl, t, zs, x, d, rfl, ⟨o, ht, hd⟩, asc, len, hx, bd.fits1 (by decide), _, .bool _, rfl, hS, .bl _, r1, r2, r3, _, rfl, _, .bool _, rfl, hS, .bl _, r1, r2, r3, rfl, _, rfl, ite_no fin⟩
theorem lot_asc {zs : List Str} (T : ∀ z ∈ zs, IsName z) (es : List PyData) : isLotB zs (.tuple es) = (isAscB (.tuple es) && es.all (inT zs)) := by
  show (es.all (inT zs) && risB (es.map txtOf)) = ((es.all isNm && risB (es.map txtOf)) && es.all (inT zs))
  by_cases c : es.all (inT zs) = true
  · have c2 : es.all isNm = true := by
      rw [List.all_eq_true] at c ⊢
      intro d hd
      have q := c d hd
      cases d with
      | str y => exact (nameB_iff y).mpr (T y (of_decide_eq_true q))
      | _ => exact absurd q Bool.false_ne_true
    rw [c, c2]
    simp
  · have c2 : es.all (inT zs) = false := (Bool.not_eq_true _).mp c
    rw [c2]
    simp
/-- for thing in some: is_lot tells -/
theorem ask_ok {f fI fM : Addr} {fdI fdM : FuncData} {cdv : Value} {A : Around} {outer : List Env} {s : Shared} {H : Hp} {E : XK} (T : Blt mg)
    (FI : FnOk P w K mg base CX0 2 fI fdI ["things", "thing"] (spIsLot K)) (gI : mg "is_lot" = some (.ref fI)) (kI : PySem.W.keepIn K (.ref fI) = true) (bI : Binds K fdI ["things", "thing"] [])
    (FM : FnOk P w K mg base CX0 3 fM fdM ["thing"] (spAsc K)) (gM : mg "_law_are_ascending" = some (.ref fM)) (kM : PySem.W.keepIn K (.ref fM) = true) (bM : Binds K fdM ["thing"] [])
    (hr : Room 12 (A.deeper (envOfC "law" (defScope sLaw) s.heap.objs.size f cdv))) (gd : (A.deeper (envOfC "law" (defScope sLaw) s.heap.objs.size f cdv)).guards = some []) :
    ∃ tb, PS (cxOf CX0 P w K mg base NL "law" (defScope sLaw) f cdv A outer s H E).nox (inT_ 9) tb ∧
      ∀ (En : Ends) (Hc : Hp) (S t : Addr) (o : Obj) (zs : List Str) (xs : List V) (ds : List PyData) (v0 v1 v2 v4 v6 v7 v8 v9 v10 v11 v12 v13 v14 : Option V), Sys Hc → Hc t = some (.frz o (.tup (zs.map V.str))) → o.dict = none → Things zs → zs.length ≤ 5 → Hc S = some (.lst xs) → DrAll K Hc xs ds → (∀ d ∈ ds, Bd 1000 10 z30 d) →
        (∀ (H2 : Hp) (v6 v11 v14 : Option V), Same Hc H2 → En.nx [v0, v1, v2, some (.ref t), v4, some (.ref S), v6, v7, v8, v9, v10, v11, v12, v13, v14] H2) →
        tb En [v0, v1, v2, some (.ref t), v4, some (.ref S), v6, v7, v8, v9, v10, v11, v12, v13, v14] Hc := by
  have hr3 : Room 3 _ := hr.mono (by decide)
  obtain ⟨tK, dK, hK⟩ := chk2_ok (P := P) (w := w) (base := base) (f := f) (cdv := cdv) (A := A) (outer := outer) (s := s) (H := H) (E := E) T FI gI kI bI hr gd
  refine ⟨_, (ps_for PassesOwn.never rfl (pi_list (pv 5)) (pg_name (i := 6) scLaw.nd rfl (Or.inl rfl))
    (pss_cons (ps_set (i := 11) scLaw.nd rfl (Or.inl rfl) (pe_and (pe_call FM hr3 (by rfl) gM kM bM .nil pass0 (pa_cons (pv 6) pa_nil)) (pe_one (pe_cmpR (op_eqNil hr.units0)
      (pe_lc (own := [("far", 14)]) (g := gName 14) (by rfl) scLaw.nd (pi_tup (pv 6)) (blkOk_by (own := [("far", 14)]) (N := NL) (sc := defScope sLaw) (by decide +kernel)) (fun _ _ _ _ _ => pg_name (i := 14) scLaw.nd rfl (Or.inl rfl))
        (fun _ _ _ _ _ => pts_one (pt_cmpR (r := rIn K true) op_notIn_seq (pv 14) (pv 3) (by rfl))) (fun _ _ _ _ _ => pv 14)) (pe_lst pa_nil) (nomark _)))))
    (pss_one dK))), ?_⟩
  intro En Hc S t o zs xs ds v0 v1 v2 v4 v6 v7 v8 v9 v10 v11 v12 v13 v14 hS ht hod Tz len hl all bds fin
  refine ⟨_, rfl, S, rfl, ⟨_, .of hl⟩, ?_⟩
  refine for_list (K := K) (a := S) (xs := xs) (fun i σ H2 => Same Hc H2 ∧ ∃ v6 v11 v14, σ = [v0, v1, v2, some (.ref t), v4, some (.ref S), v6, v7, v8, v9, v10, v11, v12, v13, v14]) ⟨Same.refl _, _, _, _, rfl⟩ (fun i σ H2 _ q => .of (q.1 _ _ hl)) ?_ ?_
  · rintro i x σ H2 hx ⟨s2, w6, w11, w14, rfl⟩
    obtain ⟨d, hd, hxd⟩ := all.nth hx
    have bd := bds d (List.mem_of_getElem? hd)
    refine ⟨_, rfl, x, d, rfl, hxd.same s2, bd.fits1 (by decide), fun H4 s4 => ?_⟩
    have s24 := s2.trans s4
    have hx4 := hxd.same s24
    have fin4 : ∀ (b : Bool) (En2 : Ends) (H5 : Hp) (u14 : Option V), Same H4 H5 → b = isLotB zs d → (∀ σ' H5, (Same Hc H5 ∧ ∃ v6 v11 v14, σ' = [v0, v1, v2, some (.ref t), v4, some (.ref S), v6, v7, v8, v9, v10, v11, v12, v13, v14]) → En2.nx σ' H5) →
        tK En2 [v0, v1, v2, some (.ref t), v4, some (.ref S), some x, v7, v8, v9, v10, some (.bl b), v12, v13, u14] H5 := fun b En2 H5 u14 s5 e h => by
      subst e
      exact hK En2 H5 t o zs x d _ _ _ _ _ _ _ _ _ _ _ _ (hS.same (s24.trans s5)) ((s24.trans s5) _ _ ht) hod Tz.1 (by omega) (hx4.same s5) bd (h _ _ ⟨s24.trans s5, _, _, _, rfl⟩)
    refine ⟨_, rfl, ite2 (fun c => ?_) (fun c => ?_)⟩
    · cases hx4 with
      | @tup a ys es at_ no al =>
        have el : ys.length = es.length := al.size
        have c2 : es.all isNm = true := by
          have q : (es.all isNm && risB (es.map txtOf)) = true := c
          rw [Bool.and_eq_true] at q
          exact q.1
        obtain ⟨us, eu, ey⟩ := txts_of al c2
        have lu : us.length ≤ 1000 := by
          rw [← eu, List.length_map]
          exact (bd.fits1 (by decide)).1
        have eall : es.all (inT zs) = us.all fun z => decide (z ∈ zs) := by
          rw [← eu, List.all_map]
          have : ∀ l : List PyData, l.all isNm = true → l.all (inT zs) = l.all ((fun z => decide (z ∈ zs)) ∘ txtOf) := by
            intro l
            induction l with
            | nil => intro _; rfl
            | cons e l ih =>
              intro h
              rw [List.all_cons, Bool.and_eq_true] at h
              rw [List.all_cons, List.all_cons, ih h.2]
              cases e with
              | str y => rfl
              | _ => exact absurd h.1 Bool.false_ne_true
          exact this es c2
        rw [ey] at at_
        refine ⟨_, rfl, a, rfl, ⟨_, .inl at_⟩, fun D hD => ?_⟩
        refine lc_tup (K := K) (a := a) (xs := us.map V.str) (fun j H5 => Same H4 H5 ∧ ∃ vs : List V, H5 D = some (.lst vs) ∧ vs.length ≤ j ∧ vs.isEmpty = (us.take j).all fun z => decide (z ∈ zs)) ⟨same_upd hD, [], upd_same, Nat.le_refl _, rfl⟩ (fun j H5 _ q => .inl (rd_same q.1 at_)) ?_ ?_
        · rintro j y H5 hy ⟨s5, vs, hv, lv, ev⟩
          obtain ⟨z, rfl, hz⟩ := str_nth hy
          have hj : j < us.length := (List.getElem?_eq_some_iff.mp hz).1
          refine ⟨rfl, _, rfl, _, rfl, t, _, rfl, .inr (.inl (.inr ⟨o, (s24.trans s5) _ _ ht⟩)), rfl, flat_strs zs, ?_⟩
          rw [inV_str, if_pos rfl]
          by_cases m : z ∈ zs
          · rw [decide_eq_true m]
            refine ⟨false, rfl, iteF ⟨s5, vs, hv, by omega, ?_⟩⟩
            rw [take_snoc hz, List.all_append, ← ev]
            simp [m]
          · rw [decide_eq_false m]
            refine ⟨true, rfl, iteT ⟨_, rfl, vs, hv, ?_, same_off s5 hD, vs ++ [.str z], upd_same, ?_, ?_⟩⟩
            · have big : (2000 : Nat) ≤ sizeLine := by decide
              omega
            · rw [List.length_append, List.length_singleton]
              omega
            · rw [take_snoc hz, List.all_append]
              simp [m]
        · rintro H5 ⟨s5, vs, hv, lv, ev⟩
          rw [List.length_map, List.take_length] at ev
          refine ⟨Nat.zero_le _, fun q hq => ⟨D, q, vs, rfl, rfl, .of (by rw [upd_ne (ne_of_none hv hq)]; exact hv), .of upd_same, ?_⟩⟩
          refine fin4 _ _ _ _ (same_new s5 hq) ?_ (fun _ _ z => z)
          rw [lot_asc Tz.2, show isAscB (.tuple es) = true from c, Bool.true_and, eall, ← ev]
          rfl
      | _ => exact absurd c Bool.false_ne_true
    · refine fin4 false _ H4 _ (Same.refl _) ?_ (fun _ _ z => z)
      symm
      cases d with
      | tuple es =>
        have q : isAscB (.tuple es) = false := (Bool.not_eq_true _).mp c
        rw [lot_asc Tz.2, q, Bool.false_and]
      | _ => rfl
  · rintro σ H2 ⟨s2, w6, w11, w14, rfl⟩
    exact fin H2 _ _ _ s2
end
end Lots

namespace Lots
open PySem PySem.Spec PyProof.Rows L2
section
variable {P : Program} {w : World} {K : PySem.W.Frag} {mg : Str → Option Value} {base : Heap}
abbrev z0 : Nat := 10 ^ 30
/-- some = [many, many[::-1], ..] -/
theorem some1_ok {f fB fO : Addr} {fdB fdO : FuncData} {cdv : Value} {A : Around} {outer : List Env} {s : Shared} {H : Hp} {E : XK} (T : Blt mg)
    (FB : FnOk P w K mg base CX0 4 fB fdB ["m", "thing"] (spBent K 1)) (gB : mg "_law_bent" = some (.ref fB)) (kB : PySem.W.keepIn K (.ref fB) = true) (bB : Binds K fdB ["m", "thing"] [])
    (FO : FnOk P w K mg base CX0 2 fO fdO ["m"] (spOdd K)) (gO : mg "_law_odd" = some (.ref fO)) (kO : PySem.W.keepIn K (.ref fO) = true) (bO : Binds K fdO ["m"] [])
    (hr : Room 12 (A.deeper (envOfC "law" (defScope sLaw) s.heap.objs.size f cdv))) :
    ∃ tb, PS (cxOf CX0 P w K mg base NL "law" (defScope sLaw) f cdv A outer s H E).nox (inT_ 3) tb ∧
      ∀ (En : Ends) (G Hc : Hp) (p t : Addr) (o : Obj) (zs : List Str) (B : Int) (v0 v2 v4 v5 v6 v7 v8 v9 v10 v11 v12 v13 v14 : Option V), MOk G Hc p B → B + 30 < 1000000000 → G t = some (.frz o (.tup (zs.map V.str))) → Things zs → zs.length ≤ 5 →
        (∀ (G2 H2 : Hp) (S : Addr) (xs : List V) (ds : List PyData), MOk G2 H2 p (B + 21) → Same G G2 → G2 S = some (.lst xs) → DrAll K G2 xs ds → (∀ d ∈ ds, Bd 1000 10 z30 d) → xs.length = 8 → En.nx [v0, some (.ref p), v2, some (.ref t), v4, some (.ref S), v6, v7, v8, v9, v10, v11, v12, v13, v14] H2) →
        tb En [v0, some (.ref p), v2, some (.ref t), v4, v5, v6, v7, v8, v9, v10, v11, v12, v13, v14] Hc := by
  have hr4 : Room 4 _ := hr.mono (by decide)
  have hr2 : Room 2 _ := hr.mono (by decide)
  refine ⟨_, (ps_set (i := 5) scLaw.nd rfl (Or.inl rfl) (pe_lst (pa_cons (pv 3) (pa_cons (pe_revT (pv 3)) (pa_cons (pe_op op_catG (pv 3) (pe_slice sl_tupG (pv 3) po_none (po_some pe_int))) (pa_cons (pe_op op_catG (pv 3) (pe_tup (pa_cons pe_str pa_nil))) (pa_cons (pe_tup pa_nil) (pa_cons (pe_callTy call_list_of (by rfl) T.list (by decide +kernel) (pa_cons (pv 3) pa_nil))
    (pa_cons (pe_call FB hr4 (by rfl) gB kB bB .nil pass0 (pa_cons (pv 1) (pa_cons (pv 3) pa_nil))) (pa_cons (pe_call FO hr2 (by rfl) gO kO bO .nil pass0 (pa_cons (pv 1) pa_nil)) pa_nil)))))))))), ?_⟩
  intro En G Hc p t o zs B v0 v2 v4 v5 v6 v7 v8 v9 v10 v11 v12 v13 v14 M hB ht Tz len fin
  have az : ∀ G', DrAll K G' (zs.map V.str) (zs.map PyData.str) := fun G' => drAll_strs K G' zs
  have bz : Bds 45 0 z0 (zs.map PyData.str) := by
    have q := strs_bds z0 zs 8 fun y hy => name_ok (Tz.2 y hy)
    exact q.mono (by omega) (Nat.le_refl _) (Nat.le_refl _)
  have big : ∀ i : Nat, i ≤ 2000 → i ≤ sizeLine := fun i h => by
    rw [sizeLine_eq]
    omega
  have rt : Rd G t (.tup (zs.map V.str)) := .inr ⟨o, ht⟩
  refine ⟨_, rfl, _, rfl, t, _, rfl, .inl (rd_same M.same rt), fun q1 n1 => ?_⟩
  have M1 := M.new (o := .tup (zs.map V.str).reverse) n1
  have g1 := same_upd (o := .tup (zs.map V.str).reverse) (M.same.free n1)
  have u1 : (upd G q1 (.tup (zs.map V.str).reverse)) q1 = some (.tup (zs.map V.str).reverse) := upd_same
  generalize upd G q1 (.tup (zs.map V.str).reverse) = G1 at M1 g1 u1
  generalize upd Hc q1 (.tup (zs.map V.str).reverse) = H1 at M1 ⊢
  refine ⟨_, rfl, _, rfl, 1, rfl, G1, t, _, rfl, M1.same, rd_same g1 rt, fun G2 H2 b2 st2 r2 => ?_⟩
  have M2 := M1.step st2
  have g2 := st2.same M1.same
  rw [show (1 : Int) = ((1 : Nat) : Int) from rfl, cutv_to] at r2
  refine ⟨G2, t, b2, _, _, rfl, rfl, M2.same, rd_same (g1.trans g2) rt, r2, big _ (by rw [List.length_take, List.length_map]; omega), fun G3 H3 b3 st3 r3 => ?_⟩
  have M3 := M2.step st3
  have g3 := st3.same M2.same
  refine ⟨_, rfl, (by show 1 ≤ sizeLine; decide), fun q4 n4 => ?_⟩
  have M4 := M3.new (o := .tup [.str "zz"]) n4
  have g4 := same_upd (o := .tup [.str "zz"]) (M3.same.free n4)
  have u4 : (upd G3 q4 (.tup [.str "zz"])) q4 = some (.tup [.str "zz"]) := upd_same
  generalize upd G3 q4 (.tup [.str "zz"]) = G4 at M4 g4 u4
  generalize upd H3 q4 (.tup [.str "zz"]) = H4 at M4 ⊢
  have g04 := g1.trans (g2.trans (g3.trans g4))
  refine ⟨G4, t, q4, _, _, rfl, rfl, M4.same, rd_same g04 rt, .inl u4, big _ (by rw [List.length_map, List.length_singleton]; omega), fun G5 H5 b5 st5 r5 => ?_⟩
  have M5 := M4.step st5
  have g5 := st5.same M4.same
  refine ⟨Nat.zero_le _, fun q6 n6 => ?_⟩
  have M6 := M5.new (o := .tup []) n6
  have g6 := same_upd (o := .tup []) (M5.same.free n6)
  have u6 : (upd G5 q6 (.tup [])) q6 = some (.tup []) := upd_same
  generalize upd G5 q6 (.tup []) = G6 at M6 g6 u6
  generalize upd H5 q6 (.tup []) = H6 at M6 ⊢
  have g06 := g04.trans (g5.trans g6)
  refine ⟨_, rfl, t, _, rfl, .inr (.inl (rd_same M6.same (rd_same g06 rt))), fun q7 n7 => ?_⟩
  have M7 := M6.new (o := .lst (zs.map V.str)) n7
  have g7 := same_upd (o := .lst (zs.map V.str)) (M6.same.free n7)
  have u7 : (upd G6 q7 (.lst (zs.map V.str))) q7 = some (.lst (zs.map V.str)) := upd_same
  generalize upd G6 q7 (.lst (zs.map V.str)) = G7 at M7 g7 u7
  generalize upd H6 q7 (.lst (zs.map V.str)) = H7 at M7 ⊢
  have g07 := g06.trans g7
  have bm : Bd 45 1 z0 (tupD zs) := Bd.tup bz
  refine ⟨_, rfl, _, rfl, G7, p, B, .ref t, tupD zs, 45, z0, rfl, M7, by omega, .tup (rd_same g07 rt) rfl (az G7), bm, by decide, by decide, by decide, fun G8 H8 y8 e8 M8 g8 d8 b8 => ?_⟩
  refine ⟨_, rfl, G8, p, B + 10 * (1 + 1), rfl, M8, by omega, fun G9 H9 y9 e9 M9 g9 d9 b9 => ⟨(by show 8 ≤ sizeLine; decide), fun S nS => ?_⟩⟩
  have M10 := M9.new (o := .lst [.ref t, .ref q1, .ref b3, .ref b5, .ref q6, .ref q7, y8, y9]) nS
  have g10 := same_upd (o := .lst [.ref t, .ref q1, .ref b3, .ref b5, .ref q6, .ref q7, y8, y9]) (M9.same.free nS)
  have f9 := g9.trans g10
  have f8 := g8.trans f9
  have f7 := g7.trans f8
  have f6 := g6.trans f7
  have f5 := g5.trans f6
  have f4 := g4.trans f5
  have f3 := g3.trans f4
  have f2 := g2.trans f3
  have f1 := g1.trans f2
  refine fin _ _ S _ [tupD zs, .tuple (zs.map PyData.str).reverse, .tuple (zs.map PyData.str ++ (zs.map PyData.str).take 1), .tuple (zs.map PyData.str ++ [.str "zz"]), .tuple [], .list (zs.map PyData.str), e8, e9] (M10.more (by omega)) f1 upd_same ?_ ?_ rfl
  · refine .cons (.tup (rd_same f1 rt) rfl (az _)) (.cons (.tup (rd_same f2 (.inl u1)) rfl (az _).rev) (.cons (.tup (rd_same f4 r3) rfl ((az _).app ((az _).take 1))) (.cons (.tup (rd_same f6 r5) rfl ((az _).app (.one (.str _)))) (.cons (.tup (rd_same f7 (.inl u6)) rfl .nil) (.cons (.lst (rd_same f8 (.inl u7)) rfl (az _)) (.cons (d8.same f9) (.cons (d9.same g10) .nil)))))))
  · have zz : Bds 3 0 z0 [.str "zz"] := Bds.one (str_bd (y := "zz") (b := 2) (by decide) (by decide) 0 z0)
    intro d hd
    simp only [List.mem_cons, List.not_mem_nil, or_false] at hd
    rcases hd with rfl | rfl | rfl | rfl | rfl | rfl | rfl | rfl
    · exact bm.mono (by decide) (by decide) (by decide)
    · exact (Bd.tup (rev_bds bz)).mono (by decide) (by decide) (by decide)
    · have q := bz.take 1
      have w := take_weight (zs.map PyData.str) 1
      have w2 := bz.1
      exact (Bd.tup (bz.app q)).mono (by omega) (by decide) (by decide)
    · exact (Bd.tup (bz.app zz)).mono (by decide) (by decide) (by decide)
    · exact ⟨Nat.zero_le _, by decide, rfl⟩
    · exact (Bd.lst bz).mono (by decide) (by decide) (by decide)
    · exact b8.mono (by decide) (by decide) (by decide)
    · exact (odd_bd _ b9).mono (by decide) (by decide) (by decide)
end
end Lots

namespace Lots
open PySem PySem.Spec PyProof.Rows L2
section
variable {P : Program} {w : World} {K : PySem.W.Frag} {mg : Str → Option Value} {base : Heap}
/-- some = some + [tuple(sorted(..)), ..] -/
theorem some2_ok {f fB fN : Addr} {fdB fdN : FuncData} {cdv : Value} {A : Around} {outer : List Env} {s : Shared} {H : Hp} {E : XK} (T : Blt mg)
    (FB : FnOk P w K mg base CX0 4 fB fdB ["m", "thing"] (spBent K 1)) (FB3 : FnOk P w K mg base CX0 6 fB fdB ["m", "thing"] (spBent K 3)) (gB : mg "_law_bent" = some (.ref fB)) (kB : PySem.W.keepIn K (.ref fB) = true) (bB : Binds K fdB ["m", "thing"] [])
    (FN : FnOk P w K mg base CX0 2 fN fdN ["m", "many"] spNames) (gN : mg "_law_names" = some (.ref fN)) (kN : PySem.W.keepIn K (.ref fN) = true) (bN : Binds K fdN ["m", "many"] [])
    (hr : Room 12 (A.deeper (envOfC "law" (defScope sLaw) s.heap.objs.size f cdv))) :
    ∃ tb, PS (cxOf CX0 P w K mg base NL "law" (defScope sLaw) f cdv A outer s H E).nox (inT_ 4) tb ∧
      ∀ (En : Ends) (G Hc : Hp) (p t S : Addr) (o : Obj) (zs : List Str) (xs : List V) (ds : List PyData) (B : Int) (v0 v2 v4 v6 v7 v8 v9 v10 v11 v12 v13 v14 : Option V), MOk G Hc p B → B + 200 < 800000000 → G t = some (.frz o (.tup (zs.map V.str))) → Things zs → zs.length ≤ 5 →
        G S = some (.lst xs) → DrAll K G xs ds → (∀ d ∈ ds, Bd 1000 10 z30 d) → xs.length = 8 →
        (∀ (G2 H2 : Hp) (S : Addr) (xs : List V) (ds : List PyData), MOk G2 H2 p (B + 80) → Same G G2 → G2 S = some (.lst xs) → DrAll K G2 xs ds → (∀ d ∈ ds, Bd 1000 10 z30 d) → En.nx [v0, some (.ref p), v2, some (.ref t), v4, some (.ref S), v6, v7, v8, v9, v10, v11, v12, v13, v14] H2) →
        tb En [v0, some (.ref p), v2, some (.ref t), v4, some (.ref S), v6, v7, v8, v9, v10, v11, v12, v13, v14] Hc := by
  have hr4 : Room 4 _ := hr.mono (by decide)
  have hr6 : Room 6 _ := hr.mono (by decide)
  have hr2 : Room 2 _ := hr.mono (by decide)
  refine ⟨_, (ps_set (i := 5) scLaw.nd rfl (Or.inl rfl) (pe_op op_cat (pv 5) (pe_lst (pa_cons (pe_callTy call_tuple_of (by rfl) T.tuple (by decide +kernel) (pa_cons (pe_callB cr_sortedS (by rfl) T.sorted (by decide +kernel) (pa_cons (pe_call FN hr2 (by rfl) gN kN bN .nil pass0 (pa_cons (pv 1) (pa_cons pe_int pa_nil))) pa_nil)) pa_nil))
    (pa_cons (pe_call FB3 hr6 (by rfl) gB kB bB .nil pass0 (pa_cons (pv 1) (pa_cons (pe_call FB hr4 (by rfl) gB kB bB .nil pass0 (pa_cons (pv 1) (pa_cons (pv 3) pa_nil))) pa_nil))) pa_nil))))), ?_⟩
  intro En G Hc p t S o zs xs ds B v0 v2 v4 v6 v7 v8 v9 v10 v11 v12 v13 v14 M hB ht Tz len hS all bds lx fin
  have bz : Bds 45 0 z0 (zs.map PyData.str) := by
    have q := strs_bds z0 zs 8 fun y hy => name_ok (Tz.2 y hy)
    exact q.mono (by omega) (Nat.le_refl _) (Nat.le_refl _)
  have bm : Bd 45 1 z0 (tupD zs) := Bd.tup bz
  have rt : Rd G t (.tup (zs.map V.str)) := .inr ⟨o, ht⟩
  refine ⟨_, rfl, _, rfl, G, p, 6, B, rfl, M, by decide, by decide, by omega, fun G2 H2 l us M2 g2 hl ul nd nm => ?_⟩
  refine ⟨l, us, rfl, SqL.of (M2.same _ _ hl), by omega, fun ys q perm srt hq => ?_⟩
  have M3 := M2.garbage (o := .lst (ys.map V.str)) hq
  refine ⟨q, _, rfl, .inl ⟨SqL.of upd_same, fun t3 n3 => ?_⟩⟩
  have M4 := M3.new (o := .tup (ys.map V.str)) n3
  have g4 := same_upd (o := .tup (ys.map V.str)) (M3.same.free n3)
  have u4 : (upd G2 t3 (.tup (ys.map V.str))) t3 = some (.tup (ys.map V.str)) := upd_same
  generalize upd G2 t3 (.tup (ys.map V.str)) = G4 at M4 g4 u4
  generalize upd (upd H2 q (.lst (ys.map V.str))) t3 (.tup (ys.map V.str)) = H4 at M4 ⊢
  have g04 := g2.trans g4
  refine ⟨_, rfl, _, rfl, _, rfl, G4, p, B + 20, .ref t, tupD zs, 45, z0, rfl, M4, by omega, .tup (rd_same g04 rt) rfl (drAll_strs K G4 zs), bm, by decide, by decide, by decide, fun G5 H5 y5 e5 M5 g5 d5 b5 => ?_⟩
  refine ⟨G5, p, B + 20 + 10 * (1 + 1), y5, e5, 290, z0 + 10, rfl, M5, by omega, d5, b5, by decide, by decide, by decide, fun G6 H6 y6 e6 M6 g6 d6 b6 => ?_⟩
  refine ⟨(by show 2 ≤ sizeLine; decide), fun l7 n7 => ?_⟩
  have M7 := M6.garbage (o := .lst [.ref t3, y6]) n7
  have g06 := g04.trans (g5.trans g6)
  refine ⟨S, l7, xs, _, rfl, rfl, M7.same _ _ (g06 _ _ hS), upd_same, ?_, fun q8 n8 => ?_⟩
  · rw [lx, sizeLine_eq]
    show 8 + 2 ≤ 16777216
    decide
  have M8 := M7.new (o := .lst (xs ++ [.ref t3, y6])) n8
  have g8 := same_upd (o := .lst (xs ++ [.ref t3, y6])) (M7.same.free n8)
  have f6 := g06.trans g8
  have f5 := (g5.trans g6).trans g8
  refine fin _ _ q8 _ (ds ++ [tupD ys, e6]) (M8.more (by omega)) f6 upd_same ((all.same f6).app (.cons (.tup (rd_same f5 (.inl u4)) rfl (drAll_strs K _ ys)) (.cons (d6.same g8) .nil))) ?_
  intro d hd
  rcases List.mem_append.mp hd with hd | hd
  · exact bds d hd
  · simp only [List.mem_cons, List.not_mem_nil, or_false] at hd
    rcases hd with rfl | rfl
    · have q := strs_bds z0 ys 8 fun y hy => name_ok (nm y (perm.mem_iff.mp hy))
      have ly := perm.length_eq
      exact (Bd.tup q).mono (by omega) (by decide) (by decide)
    · exact b6.mono (by decide) (by decide) (by decide)
/-- some = [one, other, ..] -/
theorem some3_ok {f fB fO : Addr} {fdB fdO : FuncData} {cdv : Value} {A : Around} {outer : List Env} {s : Shared} {H : Hp} {E : XK} (T : Blt mg)
    (FB : FnOk P w K mg base CX0 4 fB fdB ["m", "thing"] (spBent K 1)) (gB : mg "_law_bent" = some (.ref fB)) (kB : PySem.W.keepIn K (.ref fB) = true) (bB : Binds K fdB ["m", "thing"] [])
    (FO : FnOk P w K mg base CX0 2 fO fdO ["m"] (spOdd K)) (gO : mg "_law_odd" = some (.ref fO)) (kO : PySem.W.keepIn K (.ref fO) = true) (bO : Binds K fdO ["m"] [])
    (hr : Room 12 (A.deeper (envOfC "law" (defScope sLaw) s.heap.objs.size f cdv))) :
    ∃ tb, PS (cxOf CX0 P w K mg base NL "law" (defScope sLaw) f cdv A outer s H E).nox (inT_ 8) tb ∧
      ∀ (En : Ends) (G Hc : Hp) (p t a1 a2 : Addr) (o : Obj) (zs ws l1 l2 : List Str) (B : Int) (v0 v2 v4 v5 v6 v7 v8 v9 v10 v11 v14 : Option V), MOk G Hc p B → B + 30 < 1000000000 → G t = some (.frz o (.tup (ws.map V.str))) → Bd 45 1 z0 (tupD ws) → Rd G a1 (.tup (l1.map V.str)) → Rd G a2 (.tup (l2.map V.str)) → l1.length ≤ 5 → Bd 45 1 z0 (tupD l1) → Bd 45 1 z0 (tupD l2) →
        (∀ (G2 H2 : Hp) (S : Addr) (xs : List V) (ds : List PyData), MOk G2 H2 p (B + 21) → Same G G2 → G2 S = some (.lst xs) → DrAll K G2 xs ds → (∀ d ∈ ds, Bd 1000 10 z30 d) → En.nx [v0, some (.ref p), v2, some (.ref t), v4, some (.ref S), v6, v7, v8, v9, v10, v11, some (.ref a1), some (.ref a2), v14] H2) →
        tb En [v0, some (.ref p), v2, some (.ref t), v4, v5, v6, v7, v8, v9, v10, v11, some (.ref a1), some (.ref a2), v14] Hc := by
  have hr4 : Room 4 _ := hr.mono (by decide)
  have hr2 : Room 2 _ := hr.mono (by decide)
  refine ⟨_, (ps_set (i := 5) scLaw.nd rfl (Or.inl rfl) (pe_lst (pa_cons (pv 12) (pa_cons (pv 13) (pa_cons (pe_revT (pv 12)) (pa_cons (pe_callTy call_list_of (by rfl) T.list (by decide +kernel) (pa_cons (pv 12) pa_nil)) (pa_cons (pe_op op_catG (pv 12) (pe_tup (pa_cons pe_str pa_nil))) (pa_cons (pe_op op_repG (pv 12) pe_int)
    (pa_cons (pe_call FB hr4 (by rfl) gB kB bB .nil pass0 (pa_cons (pv 1) (pa_cons (pv 12) pa_nil))) (pa_cons (pe_call FO hr2 (by rfl) gO kO bO .nil pass0 (pa_cons (pv 1) pa_nil)) (pa_cons (pv 3) pa_nil))))))))))), ?_⟩
  intro En G Hc p t a1 a2 o zs ws l1 l2 B v0 v2 v4 v5 v6 v7 v8 v9 v10 v11 v14 M hB ht bw r1 r2 len b1 b2 fin
  have az : ∀ G', DrAll K G' (l1.map V.str) (l1.map PyData.str) := fun G' => drAll_strs K G' l1
  have bz : Bds 45 0 z0 (l1.map PyData.str) := b1.items
  have big : ∀ i : Nat, i ≤ 2000 → i ≤ sizeLine := fun i h => by
    rw [sizeLine_eq]
    omega
  refine ⟨_, rfl, _, rfl, _, rfl, a1, _, rfl, .inl (rd_same M.same r1), fun q1 n1 => ?_⟩
  have M1 := M.new (o := .tup (l1.map V.str).reverse) n1
  have g1 := same_upd (o := .tup (l1.map V.str).reverse) (M.same.free n1)
  have u1 : (upd G q1 (.tup (l1.map V.str).reverse)) q1 = some (.tup (l1.map V.str).reverse) := upd_same
  generalize upd G q1 (.tup (l1.map V.str).reverse) = G1 at M1 g1 u1
  generalize upd Hc q1 (.tup (l1.map V.str).reverse) = H1 at M1 ⊢
  refine ⟨_, rfl, a1, _, rfl, .inr (.inl (rd_same M1.same (rd_same g1 r1))), fun q2 n2 => ?_⟩
  have M2 := M1.new (o := .lst (l1.map V.str)) n2
  have g2 := same_upd (o := .lst (l1.map V.str)) (M1.same.free n2)
  have u2 : (upd G1 q2 (.lst (l1.map V.str))) q2 = some (.lst (l1.map V.str)) := upd_same
  generalize upd G1 q2 (.lst (l1.map V.str)) = G2 at M2 g2 u2
  generalize upd H1 q2 (.lst (l1.map V.str)) = H2 at M2 ⊢
  refine ⟨_, rfl, (by show 1 ≤ sizeLine; decide), fun q3 n3 => ?_⟩
  have M3 := M2.new (o := .tup [.str "zz"]) n3
  have g3 := same_upd (o := .tup [.str "zz"]) (M2.same.free n3)
  have u3 : (upd G2 q3 (.tup [.str "zz"])) q3 = some (.tup [.str "zz"]) := upd_same
  generalize upd G2 q3 (.tup [.str "zz"]) = G3 at M3 g3 u3
  generalize upd H2 q3 (.tup [.str "zz"]) = H3 at M3 ⊢
  have g03 := g1.trans (g2.trans g3)
  refine ⟨G3, a1, q3, _, _, rfl, rfl, M3.same, rd_same g03 r1, .inl u3, big _ (by rw [List.length_map, List.length_singleton]; omega), fun G4 H4 c4 st4 r4 => ?_⟩
  have M4 := M3.step st4
  have g4 := st4.same M3.same
  have g04 := g03.trans g4
  refine ⟨_, rfl, G4, a1, _, rfl, rfl, M4.same, rd_same g04 r1, by rw [List.length_map]; omega, fun G5 H5 c5 st5 r5 => ?_⟩
  have M5 := M4.step st5
  have g5 := st5.same M4.same
  have g05 := g04.trans g5
  refine ⟨_, rfl, _, rfl, G5, p, B, .ref a1, tupD l1, 45, z0, rfl, M5, by omega, .tup (rd_same g05 r1) rfl (az G5), b1, by decide, by decide, by decide, fun G6 H6 y6 e6 M6 g6 d6 b6 => ?_⟩
  refine ⟨_, rfl, G6, p, B + 10 * (1 + 1), rfl, M6, by omega, fun G7 H7 y7 e7 M7 g7 d7 b7 => ⟨_, rfl, (by show 9 ≤ sizeLine; decide), fun S nS => ?_⟩⟩
  have M8 := M7.new (o := .lst [.ref a1, .ref a2, .ref q1, .ref q2, .ref c4, .ref c5, y6, y7, .ref t]) nS
  have g8 := same_upd (o := .lst [.ref a1, .ref a2, .ref q1, .ref q2, .ref c4, .ref c5, y6, y7, .ref t]) (M7.same.free nS)
  have f7 := g7.trans g8
  have f6 := g6.trans f7
  have f5 := g5.trans f6
  have f4 := g4.trans f5
  have f3 := g3.trans f4
  have f2 := g2.trans f3
  have f1 := g1.trans f2
  refine fin _ _ S _ [tupD l1, tupD l2, .tuple (l1.map PyData.str).reverse, .list (l1.map PyData.str), .tuple (l1.map PyData.str ++ [.str "zz"]), .tuple (l1.map PyData.str ++ l1.map PyData.str), e6, e7, tupD ws] (M8.more (by omega)) f1 upd_same ?_ ?_
  · refine .cons (.tup (rd_same f1 r1) rfl (az _)) (.cons (.tup (rd_same f1 r2) rfl (drAll_strs K _ l2)) (.cons (.tup (rd_same f2 (.inl u1)) rfl (az _).rev) (.cons (.lst (rd_same f3 (.inl u2)) rfl (az _)) (.cons (.tup (rd_same f5 r4) rfl ((az _).app (.one (.str _)))) (.cons (.tup (rd_same f6 r5) rfl ((az _).app (az _))) (.cons (d6.same f7) (.cons (d7.same g8) (.cons (.tup (rd_same f1 (.inr ⟨o, ht⟩)) rfl (drAll_strs K _ ws)) .nil))))))))
  · have zz : Bds 3 0 z0 [.str "zz"] := Bds.one (str_bd (y := "zz") (b := 2) (by decide) (by decide) 0 z0)
    intro d hd
    simp only [List.mem_cons, List.not_mem_nil, or_false] at hd
    rcases hd with rfl | rfl | rfl | rfl | rfl | rfl | rfl | rfl | rfl
    · exact b1.mono (by decide) (by decide) (by decide)
    · exact b2.mono (by decide) (by decide) (by decide)
    · exact (Bd.tup (rev_bds bz)).mono (by decide) (by decide) (by decide)
    · exact (Bd.lst bz).mono (by decide) (by decide) (by decide)
    · exact (Bd.tup (bz.app zz)).mono (by decide) (by decide) (by decide)
    · exact (Bd.tup (bz.app bz)).mono (by decide) (by decide) (by decide)
    · exact b6.mono (by decide) (by decide) (by decide)
    · exact (odd_bd _ b7).mono (by decide) (by decide) (by decide)
    · exact bw.mono (by decide) (by decide) (by decide)
end
end Lots

namespace Lots
open PySem PySem.Spec PyProof.Rows L2
section
variable {P : Program} {w : World} {K : PySem.W.Frag} {mg : Str → Option Value} {base : Heap}
/-- the law -/
def spLaw (K : PySem.W.Frag) : Sp := fun vs H Q _ => ∃ (a : Addr) (ns : List Int), vs = [.ref a] ∧ Sys H ∧ SqL K H a (ns.map V.int) ∧ ns.length ≤ 63 ∧ ∀ H2 : Hp, Q (.bl true) H2
/-- what the law calls -/
structure Fns (P : Program) (w : World) (K : PySem.W.Frag) (mg : Str → Option Value) (base : Heap) (C : Addr) : Prop where
  begun : ∃ f fd, FnOk P w K mg base CX0 1 f fd ["script"] (spBegun K) ∧ mg "_law_begun" = some (.ref f) ∧ PySem.W.keepIn K (.ref f) = true ∧ Binds K fd ["script"] []
  next : ∃ f fd, FnOk P w K mg base CX0 1 f fd ["m", "many"] spNext ∧ mg "_law_next" = some (.ref f) ∧ PySem.W.keepIn K (.ref f) = true ∧ Binds K fd ["m", "many"] []
  names : ∃ f fd, FnOk P w K mg base CX0 2 f fd ["m", "many"] spNames ∧ mg "_law_names" = some (.ref f) ∧ PySem.W.keepIn K (.ref f) = true ∧ Binds K fd ["m", "many"] []
  things : ∃ f fd, FnOk P w K mg base CX0 3 f fd ["m", "most"] spThings ∧ mg "_law_things" = some (.ref f) ∧ PySem.W.keepIn K (.ref f) = true ∧ Binds K fd ["m", "most"] []
  lots : ∃ f fd, FnOk P w K mg base CX0 1 f fd ["many"] (spLots K) ∧ mg "_law_lots" = some (.ref f) ∧ PySem.W.keepIn K (.ref f) = true ∧ Binds K fd ["many"] []
  all : ∃ f fd, FnOk P w K mg base CX0 1 f fd ["things"] (spAll K) ∧ mg "all_lots" = some (.ref f) ∧ PySem.W.keepIn K (.ref f) = true ∧ Binds K fd ["things"] []
  rules : ∃ f fd, FnOk P w K mg base CX0 2 f fd ["things"] (spRules K) ∧ mg "rules" = some (.ref f) ∧ PySem.W.keepIn K (.ref f) = true ∧ Binds K fd ["things"] []
  lrules : ∃ f fd, FnOk P w K mg base CX0 2 f fd ["many"] (spLRules K) ∧ mg "_law_rules" = some (.ref f) ∧ PySem.W.keepIn K (.ref f) = true ∧ Binds K fd ["many"] []
  bent : ∃ f fd, (∀ n : Nat, n ≤ 20 → FnOk P w K mg base CX0 (3 + n) f fd ["m", "thing"] (spBent K n)) ∧ mg "_law_bent" = some (.ref f) ∧ PySem.W.keepIn K (.ref f) = true ∧ Binds K fd ["m", "thing"] []
  odd : ∃ f fd, FnOk P w K mg base CX0 2 f fd ["m"] (spOdd K) ∧ mg "_law_odd" = some (.ref f) ∧ PySem.W.keepIn K (.ref f) = true ∧ Binds K fd ["m"] []
  need : ∃ f fd, FnOk P w K mg base (L2.CX P w) 4 f fd ["thing"] (spNeed K C) ∧ mg "need_things" = some (.ref f) ∧ PySem.W.keepIn K (.ref f) = true ∧ Binds K fd ["thing"] []
  asc : ∃ f fd, FnOk P w K mg base CX0 3 f fd ["thing"] (spAsc K) ∧ mg "_law_are_ascending" = some (.ref f) ∧ PySem.W.keepIn K (.ref f) = true ∧ Binds K fd ["thing"] []
  joined : ∃ f fd, FnOk P w K mg base CX0 1 f fd ["one", "other"] (spBoth K) ∧ mg "joined" = some (.ref f) ∧ PySem.W.keepIn K (.ref f) = true ∧ Binds K fd ["one", "other"] []
  without : ∃ f fd, FnOk P w K mg base CX0 1 f fd ["one", "other"] (spLess K) ∧ mg "without" = some (.ref f) ∧ PySem.W.keepIn K (.ref f) = true ∧ Binds K fd ["one", "other"] []
  both : ∃ f fd, FnOk P w K mg base CX0 1 f fd ["one", "other"] (spBoth K) ∧ mg "_law_both" = some (.ref f) ∧ PySem.W.keepIn K (.ref f) = true ∧ Binds K fd ["one", "other"] []
  less : ∃ f fd, FnOk P w K mg base CX0 1 f fd ["one", "other"] (spLess K) ∧ mg "_law_less" = some (.ref f) ∧ PySem.W.keepIn K (.ref f) = true ∧ Binds K fd ["one", "other"] []
  islot : ∃ f fd, FnOk P w K mg base CX0 2 f fd ["things", "thing"] (spIsLot K) ∧ mg "is_lot" = some (.ref f) ∧ PySem.W.keepIn K (.ref f) = true ∧ Binds K fd ["things", "thing"] []
  gC : mg "BadThings" = some (.ref C)
  te : PySem.W.exmOne K (.ref C) (.ref C) = some true
  xf : XfC K C
  no : PySem.W.findIn K (.ref C) "value" = some none
theorem ok_law {f C : Addr} {fd : FuncData} (F : Fun K "law" "law" sLaw f fd) (T : Blt mg) (Z : Fns P w K mg base C) : FnG P w K mg base CX0 13 f fd ["script"] (spLaw K) := by
  obtain ⟨fBg, fdBg, FBg, gBg, kBg, bBg⟩ := Z.begun
  obtain ⟨fX, fdX, FX, gX, kX, bX⟩ := Z.next
  obtain ⟨fNm, fdNm, FNm, gNm, kNm, bNm⟩ := Z.names
  obtain ⟨fTh, fdTh, FTh, gTh, kTh, bTh⟩ := Z.things
  obtain ⟨fLo, fdLo, FLo, gLo, kLo, bLo⟩ := Z.lots
  obtain ⟨fA, fdA, FA, gA, kA, bA⟩ := Z.all
  obtain ⟨fR, fdR, FR, gR, kR, bR⟩ := Z.rules
  obtain ⟨fQ, fdQ, FQ, gQ, kQ, bQ⟩ := Z.lrules
  obtain ⟨fBe, fdBe, FBe, gBe, kBe, bBe⟩ := Z.bent
  obtain ⟨fO, fdO, FO, gO, kO, bO⟩ := Z.odd
  obtain ⟨fN, fdN, FN, gN, kN, bN⟩ := Z.need
  obtain ⟨fM, fdM, FM, gM, kM, bM⟩ := Z.asc
  obtain ⟨fJ, fdJ, FJ, gJ, kJ, bJ⟩ := Z.joined
  obtain ⟨fW, fdW, FW, gW, kW, bW⟩ := Z.without
  obtain ⟨fBo, fdBo, FBo, gBo, kBo, bBo⟩ := Z.both
  obtain ⟨fLe, fdLe, FLe, gLe, kLe, bLe⟩ := Z.less
  obtain ⟨fI, fdI, FI, gI, kI, bI⟩ := Z.islot
  refine okG F scLaw (fun vs H Q E h => ?_) (fun cdv A outer s H vs Q E hr gd h => ?_)
  · obtain ⟨a, ns, rfl, _⟩ := h
    rfl
  obtain ⟨a0, ns, rfl, hS0, hs0, hl, go⟩ := h
  have hr1 : Room 1 _ := hr.mono (by decide)
  have hr3 : Room 3 _ := hr.mono (by decide)
  obtain ⟨t2, d2, h2⟩ := look_ok (P := P) (w := w) (K := K) (mg := mg) (base := base) (f := f) (cdv := cdv) (A := A) (outer := outer) (s := s) (H := H) (E := E) T FA gA kA bA FR gR kR bR FQ gQ kQ bQ hr gd
  obtain ⟨t3, d3, h3⟩ := some1_ok (P := P) (w := w) (K := K) (mg := mg) (base := base) (f := f) (cdv := cdv) (A := A) (outer := outer) (s := s) (H := H) (E := E) T (FBe 1 (by decide)) gBe kBe bBe FO gO kO bO hr
  obtain ⟨t4, d4, h4⟩ := some2_ok (P := P) (w := w) (K := K) (mg := mg) (base := base) (f := f) (cdv := cdv) (A := A) (outer := outer) (s := s) (H := H) (E := E) T (FBe 1 (by decide)) (FBe 3 (by decide)) gBe kBe bBe FNm gNm kNm bNm hr
  obtain ⟨t5, d5, h5⟩ := tell_ok (P := P) (w := w) (K := K) (mg := mg) (base := base) (f := f) (cdv := cdv) (A := A) (outer := outer) (s := s) (H := H) (E := E) T FN gN kN bN FM gM kM bM Z.gC Z.te Z.xf Z.no hr gd
  obtain ⟨t7, d7, h7⟩ := same_ok (P := P) (w := w) (K := K) (mg := mg) (base := base) (f := f) (cdv := cdv) (A := A) (outer := outer) (s := s) (H := H) (E := E) T FJ gJ kJ bJ FW gW kW bW FBo gBo kBo bBo FLe gLe kLe bLe hr gd
  obtain ⟨t8, d8, h8⟩ := some3_ok (P := P) (w := w) (K := K) (mg := mg) (base := base) (f := f) (cdv := cdv) (A := A) (outer := outer) (s := s) (H := H) (E := E) T (FBe 1 (by decide)) gBe kBe bBe FO gO kO bO hr
  obtain ⟨t9, d9, h9⟩ := ask_ok (P := P) (w := w) (K := K) (mg := mg) (base := base) (f := f) (cdv := cdv) (A := A) (outer := outer) (s := s) (H := H) (E := E) T FI gI kI bI FM gM kM bM hr gd
  refine ⟨_, (pss_cons (ps_set (i := 1) scLaw.nd rfl (Or.inl rfl) (pe_call FBg hr1 (by rfl) gBg kBg bBg .nil pass0 (pa_cons (pv 0) pa_nil)))
      (pss_cons (ps_for PassesOwn.never rfl (pi_range1 (by rfl) T.range (pa_cons (pe_op op_add pe_int (pe_callB (call_min2 rfl) (by rfl) T.min (by decide +kernel) (pa_cons (pe_callB call_len_seq (by rfl) T.len PySem.boot_len (pa_cons (pv 0) pa_nil)) (pa_cons pe_int pa_nil)))) pa_nil)) (pg_name (i := 2) scLaw.nd rfl (Or.inl rfl))
        (pss_cons (ps_set (i := 3) scLaw.nd rfl (Or.inr rfl) (pe_call FTh hr3 (by rfl) gTh kTh bTh .nil pass0 (pa_cons (pv 1) (pa_cons pe_int pa_nil))))
        (pss_cons (ps_set (i := 4) scLaw.nd rfl (Or.inl rfl) (pe_call FLo hr1 (by rfl) gLo kLo bLo .nil pass0 (pa_cons (pv 3) pa_nil)))
        (pss_cons d2 (pss_cons d3 (pss_cons d4 (pss_cons d5
        (pss_cons (ps_par (i := 12) (j := 13) (by rfl) scLaw.nd rfl rfl (by decide) (by rfl) (by rfl) (pa_cons (pe_ix ix_list (pv 4) (pe_call FX hr1 (by rfl) gX kX bX .nil pass0 (pa_cons (pv 1) (pa_cons (pe_callB call_len_seq (by rfl) T.len PySem.boot_len (pa_cons (pv 4) pa_nil)) pa_nil))) (fun _ _ => rfl))
          (pa_cons (pe_ix ix_list (pv 4) (pe_call FX hr1 (by rfl) gX kX bX .nil pass0 (pa_cons (pv 1) (pa_cons (pe_callB call_len_seq (by rfl) T.len PySem.boot_len (pa_cons (pv 4) pa_nil)) pa_nil))) (fun _ _ => rfl)) pa_nil)) (by rfl))
        (pss_cons d7 (pss_cons d8 (pss_one d9)))))))))))
      (pss_one (ps_ret pe_bl)))), ?_⟩
  refine ⟨_, rfl, a0, ns, rfl, hs0, hl, fun H1 p M => ?_⟩
  have S1 := M.same
  refine ⟨_, rfl, a0, _, rfl, .inl (S1.seq hs0), _, _, rfl, ?_⟩
  have hn : ((ns.map V.int).length : Int) ≤ 63 := by
    rw [List.length_map]
    omega
  refine ⟨_, _, rfl, rfl, _, rfl, by split <;> omega, by split <;> omega, ?_⟩
  refine for_range (lo := 0) (n := _) (fun i σ H' => ∃ G, Sys G ∧ MOk G H' p (200 * (i : Nat)) ∧ ∃ w2 w3 w4 w5 w6 w7 w8 w9 w11 w12 w13 w14, σ = [some (.ref a0), some (.ref p), w2, w3, w4, w5, w6, w7, w8, w9, none, w11, w12, w13, w14]) ⟨H, hS0, M.more (by omega), _, _, _, _, _, _, _, _, _, _, _, _, rfl⟩ ?_ ?_
  · rintro i σ H2 hi ⟨G, hG, M, w2, w3, w4, w5, w6, w7, w8, w9, w11, w12, w13, w14, rfl⟩
    have hi8 : i < 13 := by
      revert hi
      split <;> omega
    refine ⟨_, rfl, G, p, 5, 200 * (i : Nat), rfl, M, by decide, by decide, by omega, fun G3 H3 t o zs M3 g3 ht ho l1 l5 Tz => ?_⟩
    have hS3 := hG.same g3
    refine ⟨_, rfl, t, zs, rfl, .inl (.inr ⟨o, M3.same _ _ ht⟩), Tz.1, by omega, fun H4 l L s4 nl hl4 eL rows => ?_⟩
    have M4 := M3.grow s4
    have g4 := same_grow (H2 := H4) M3.same
    have hl' : grow G3 H3 H4 l = some (.lst (L.map rowV)) := by
      rw [grow_new nl]
      exact hl4
    have rows' : ∀ q ∈ L, grow G3 H3 H4 q.1 = some (.tup (q.2.map V.str)) := fun q hq => by
      rw [grow_new (rows q hq).1]
      exact (rows q hq).2
    have ht4 := g4 _ _ ht
    have hS4 := hS3.same g4
    generalize grow G3 H3 H4 = G4 at M4 g4 hl' rows' ht4 hS4
    refine h2 _ H4 a0 p t l zs L _ _ _ _ _ _ _ _ _ _ _ (hS4.same M4.same) (.inl (.inr ⟨o, M4.same _ _ ht4⟩)) Tz l5 (M4.same _ _ hl') eL (fun q hq => M4.same _ _ (rows' q hq)) fun H5 s5 => ?_
    have M5 := M4.on s5
    refine h3 _ G4 H5 p t o zs _ _ _ _ _ _ _ _ _ _ _ _ _ _ M5 (by omega) ht4 Tz l5 fun G6 H6 S6 xs6 ds6 M6 g6 hS6 all6 bd6 len6 => ?_
    refine h4 _ G6 H6 p t S6 o zs xs6 ds6 _ _ _ _ _ _ _ _ _ _ _ _ _ M6 (by omega) (g6 _ _ ht4) Tz l5 hS6 all6 bd6 len6 fun G7 H7 S7 xs7 ds7 M7 g7 hS7 all7 bd7 => ?_
    have g47 := g6.trans g7
    refine h5 _ H7 S7 xs7 ds7 _ _ _ _ _ _ _ _ _ _ _ _ _ ((hS4.same g47).same M7.same) (M7.same _ _ hS7) (all7.same M7.same) bd7 fun H8 u6 u7 u8 u9 u11 s8 => ?_
    have M8 := M7.on s8
    have lL : (L.map rowV).length = 2 ^ zs.length := by
      rw [← lots_len, ← eL, List.length_map, List.length_map]
    have l32 : (L.map rowV).length ≤ 32 := by
      rw [lL]
      exact Nat.le_trans (Nat.pow_le_pow_right (by decide) l5) (by decide)
    have l0 : 0 < (L.map rowV).length := by
      rw [lL]
      exact Nat.pow_pos (by decide)
    have hl8 : G7 l = some (.lst (L.map rowV)) := g47 _ _ hl'
    have row : ∀ r : Nat, r < (L.map rowV).length → ∃ q ∈ L, (L.map rowV)[r]? = some (.ref q.1) ∧ q.2 ∈ lots zs := fun r hr => by
      have r2 : r < L.length := by
        rw [List.length_map] at hr
        exact hr
      refine ⟨L[r], List.getElem_mem r2, ?_, ?_⟩
      · rw [List.getElem?_map, List.getElem?_eq_getElem r2]
        rfl
      · rw [← eL]
        exact List.mem_map.mpr ⟨L[r], List.getElem_mem r2, rfl⟩
    refine ⟨_, rfl, _, rfl, _, rfl, l, _, rfl, .inl (.of (M8.same _ _ hl8)), G7, p, ((L.map rowV).length : Nat), _, rfl, M8, by omega, by omega, by omega, fun H9 r1 M9 a1 b1 => ?_⟩
    obtain ⟨r1, rfl⟩ := Int.eq_ofNat_of_zero_le a1
    obtain ⟨q1, m1, e1, in1⟩ := row r1 (by omega)
    refine ⟨l, _, r1, _, rfl, rfl, .of (M9.same _ _ hl8), atI_nat e1, _, rfl, _, rfl, _, rfl, l, _, rfl, .inl (.of (M9.same _ _ hl8)), G7, p, ((L.map rowV).length : Nat), _, rfl, M9, by omega, by omega, by omega, fun H10 r2 M10 a2 b2 => ?_⟩
    obtain ⟨r2, rfl⟩ := Int.eq_ofNat_of_zero_le a2
    obtain ⟨q2, m2, e2, in2⟩ := row r2 (by omega)
    refine ⟨l, _, r2, _, rfl, rfl, .of (M10.same _ _ hl8), atI_nat e2, _, _, rfl, ?_⟩
    have rd1 : Rd G7 q1.1 (.tup (q1.2.map V.str)) := .inl (g47 _ _ (rows' q1 m1))
    have rd2 : Rd G7 q2.1 (.tup (q2.2.map V.str)) := .inl (g47 _ _ (rows' q2 m2))
    have hS7' := hS4.same g47
    refine h7 _ H10 q1.1 q2.1 zs q1.2 q2.2 _ _ _ _ _ _ _ _ _ _ _ _ _ (hS7'.same M10.same) Tz l5 (.inl (rd_same M10.same rd1)) (.inl (rd_same M10.same rd2)) in1 in2 fun H11 s11 => ?_
    have M11 := M10.on s11
    refine h8 _ G7 H11 p t q1.1 q2.1 o zs zs q1.2 q2.2 _ _ _ _ _ _ _ _ _ _ _ _ M11 (by omega) (g47 _ _ ht4) ?_ rd1 rd2 (Nat.le_trans (lots_mem_len in1) l5) (lot_bds Tz l5 in1 _) (lot_bds Tz l5 in2 _) fun G12 H12 S12 xs12 ds12 M12 g12 hS12 all12 bd12 => ?_
    · have q := strs_bds z0 zs 8 fun y hy => name_ok (Tz.2 y hy)
      exact Bd.tup (q.mono (by omega) (Nat.le_refl _) (Nat.le_refl _))
    refine h9 _ H12 S12 t o zs xs12 ds12 _ _ _ _ _ _ _ _ _ _ _ _ _ ((hS7'.same g12).same M12.same) (M12.same _ _ (g12 _ _ (g47 _ _ ht4))) ho Tz l5 (M12.same _ _ hS12) (all12.same M12.same) bd12 fun H13 x6 x11 x14 s13 => ?_
    exact ⟨G12, hS7'.same g12, (M12.on s13).more (by omega), _, _, _, _, _, _, _, _, _, _, _, _, rfl⟩
  · rintro σ H2 _
    exact go H2
end
end Lots

namespace Lots
open PySem PySem.Spec PyProof.Rows L2
section
variable {P : Program} {w : World} {K : PySem.W.Frag} {mg : Str → Option Value} {base : Heap}
abbrev sBegun : Stmt := top 19
abbrev sNext : Stmt := top 20
theorem scNext : FnScope ["m", "many", "rest", "at", "bits", "cell", "blend"] ["m", "many"] (defScope sNext) := ⟨rfl, rfl, rfl, by decide +kernel, rfl, by decide +kernel, by decide +kernel⟩
theorem ok_next {f : Addr} {fd : FuncData} (F : Fun K "_law_next" "_law_next" sNext f fd) (T : Blt mg) : FnOk P w K mg base CX0 1 f fd ["m", "many"] spNext := by
  refine F.ok scNext (fun vs H Q E h => ?_) (fun cdv A outer s H vs Q E hr h => ?_)
  · obtain ⟨G, p, many, B, rfl, _⟩ := h
    rfl
  obtain ⟨G, p, many, B, rfl, ⟨c, l, cs, ls, k, M⟩, m0, m1, b1, go⟩ := h
  have m2 : many < 1073741824 := by omega
  -- the last two rows, whatever the cell is
  obtain ⟨t2, d2, fin⟩ : ∃ t, PSs (cxOf CX0 P w K mg base ["m", "many", "rest", "at", "bits", "cell", "blend"] "_law_next" (defScope sNext) f cdv A outer s H E).nox ((defBody sNext).drop 5) t ∧
      ∀ (H1 : Hp) (j x : Int) (v : Option V) (c : Addr), MOk G H1 p (B + 1) → 0 ≤ j → j ≤ B + 1 → t { nx := fun _ H' => Q .non H', rt := Q } [some (.ref p), some (.int many), none, some (.int j), some (.ref c), some (.int x), v] H1 := by
    refine ⟨_, (pss_cons (ps_set (i := 6) scNext.nd rfl (Or.inl rfl) (pe_op op_mod (pe_callTy call_int1 (by rfl) T.int (by decide +kernel) (pa_cons (pe_op op_add (pe_op op_add (pe_op op_mul (pv 5) pe_int) (pe_op op_mul (pv 3) pe_int)) (pe_op op_mul (pe_op op_mul pe_int (pv 3)) (pv 3))) pa_nil)) pe_int))
      (pss_one (ps_ret (pe_op op_mod (pe_callTy call_int1 (by rfl) T.int (by decide +kernel) (pa_cons (pe_op op_fdiv (pe_op op_mod (pe_callTy call_int1 (by rfl) T.int (by decide +kernel) (pa_cons (pe_op op_add (pe_op op_mul (pv 6) pe_int) (pe_op op_mul pe_int (pv 3))) pa_nil)) pe_int) pe_int) pa_nil)) (pv 1))))), fun H1 j x v c M h0 h1 => ?_⟩
    refine ⟨_, rfl, _, _, rfl, rfl, .inr (by constructor <;> decide), _, rfl, _, _, rfl, rfl, .inr (by constructor <;> decide), _, _, rfl, rfl, _, rfl, _, _, rfl, rfl, .inl (by constructor <;> decide), _, rfl, _, _, rfl, rfl, .inr (by constructor <;> omega), _, _, rfl, rfl, .inl ⟨_, rfl, ?_⟩⟩
    refine ⟨_, _, rfl, rfl, (by show (0 : Int) < 2147483399; decide), ?_⟩
    refine ⟨_, rfl, _, _, rfl, rfl, .inr (by constructor <;> decide), _, rfl, _, _, rfl, rfl, .inl (by constructor <;> decide), _, _, rfl, rfl, .inl ⟨_, rfl, ?_⟩⟩
    refine ⟨_, _, rfl, rfl, (by show (0 : Int) < 2147483647; decide), _, _, rfl, rfl, (by constructor <;> decide), .inl ⟨_, rfl, ?_⟩⟩
    refine ⟨_, rfl, _, _, rfl, rfl, m0, ?_⟩
    exact go _ _ M (Int.emod_nonneg _ (by omega)) (Int.emod_lt_of_pos _ m0)
  -- behind the loop
  obtain ⟨t1, d1, rest⟩ : ∃ t, PSs (cxOf CX0 P w K mg base ["m", "many", "rest", "at", "bits", "cell", "blend"] "_law_next" (defScope sNext) f cdv A outer s H E).nox ((defBody sNext).drop 1) t ∧
      ∀ H1 : Hp, MOk G H1 p B → t { nx := fun _ H' => Q .non H', rt := Q } [some (.ref p), some (.int many), none, none, none, none, none] H1 := by
    refine ⟨_, (pss_cons (ps_if (pt_cmpR (op_neD hr.units) (pe_dget (hu_of hr) (pv 0) pe_str (fun _ _ => rfl)) (pe_lst pa_nil) (nomark _)) (pss_cons (ps_set (i := 2) scNext.nd rfl (Or.inl rfl) (pe_ix ix_list (pe_dget (hu_of hr) (pv 0) pe_str (fun _ _ => rfl)) pe_int (fun _ _ => rfl)))
      (pss_cons (ps_asg (pe_op op_fdiv (pv 2) (pv 1)) (pg_sub (pe_dget (hu_of hr) (pv 0) pe_str (fun _ _ => rfl)) pe_int set_list))
      (pss_one (ps_ret (pe_op op_mod (pe_callTy call_int1 (by rfl) T.int (by decide +kernel) (pa_cons (pv 2) pa_nil)) (pv 1)))))) pss_nil)
      (pss_cons (ps_par (i := 3) (j := 4) (by rfl) scNext.nd rfl rfl (by decide) rfl rfl (pa_cons (pe_op op_add (pe_dget (hu_of hr) (pv 0) pe_str (fun _ _ => rfl)) pe_int) (pa_cons (pe_dget (hu_of hr) (pv 0) pe_str (fun _ _ => rfl)) pa_nil)) (by rfl))
      (pss_cons (ps_dput (hu_of hr) (pv 0) pe_str (pv 3) rfl)
      (pss_cons (ps_set (i := 5) scNext.nd rfl (Or.inl rfl) (pe_ifExp (pt_cmpR (op_neD hr.units) (pv 4) (pe_lst pa_nil) (nomark _)) (pe_callTy call_int1 (by rfl) T.int (by decide +kernel) (pa_cons (pe_ix ix_list (pv 4) (pe_op op_mod (pe_callTy call_int1 (by rfl) T.int (by decide +kernel) (pa_cons (pe_op op_add (pe_op op_mul (pv 3) (pv 3)) (pe_op op_fdiv (pv 3) pe_int)) pa_nil)) (pe_callB call_len_seq (by rfl) T.len PySem.boot_len (pa_cons (pv 4) pa_nil))) (fun _ _ => rfl)) pa_nil)) pe_int))
      d2)))), fun H1 ⟨c, l, cs, ls, k, M⟩ => ?_⟩
    refine ⟨_, rfl, p, _, rfl, M.getLeft, Nat.zero_le _, fun q hq => ?_⟩
    have M2 := M.garbage (o := .lst []) hq
    refine eqv_ne M2.hl upd_same ⟨_, rfl, ?_⟩
    cases ls with
    | cons n r =>
      refine iteT ?_
      refine ⟨_, rfl, p, _, rfl, M2.getLeft, l, _, 0, _, rfl, rfl, SqL.of M2.hl, atI_nat (j := 0) rfl, ?_⟩
      refine ⟨_, rfl, _, rfl, _, _, rfl, rfl, ⟨m0, m2⟩, ?_⟩
      refine ⟨_, rfl, p, _, rfl, M2.getLeft, l, _, 0, 0, rfl, rfl, M2.hl, (by simp [ixN]), ?_⟩
      have M3 := M2.leftSet (zs := (n / many) :: r) M2.ln
      refine ⟨_, rfl, .inl ⟨_, rfl, ?_⟩⟩
      refine ⟨_, rfl, _, _, rfl, rfl, m0, ?_⟩
      exact go _ _ ⟨_, _, _, _, _, M3.more (by omega)⟩ (Int.emod_nonneg _ (by omega)) (Int.emod_lt_of_pos _ m0)
    | nil =>
      refine iteF ?_
      have hk := M2.k0
      have hb := M2.kB
      refine ⟨_, rfl, p, _, rfl, M2.getAt, _, _, rfl, rfl, _, rfl, p, _, rfl, M2.getCells, _, _, rfl, ?_⟩
      refine ⟨_, rfl, _, rfl, p, _, rfl, DPut.k (k := kAt) M2.hp (by show 3 < sizeLine; decide), ?_⟩
      have M3 := M2.atSet (B2 := B + 1) (j := k + 1) (by omega) (by omega)
      refine ⟨_, rfl, Nat.zero_le _, fun q3 hq3 => ?_⟩
      have M4 := M3.garbage (o := .lst []) hq3
      refine eqv_ne M4.hc upd_same ⟨_, rfl, ?_⟩
      cases cs with
      | nil => exact iteF (fin _ _ _ _ _ ⟨_, _, _, _, _, M4⟩ (by omega) (by omega))
      | cons z zs =>
        refine iteT ?_
        have hlen : (0 : Int) < (((z :: zs).map V.int).length : Int) := by
          simp only [List.length_map, List.length_cons]
          omega
        refine ⟨_, rfl, _, rfl, _, rfl, _, _, rfl, rfl, .inl (by constructor <;> omega), _, rfl, _, _, rfl, rfl, (by constructor <;> decide), _, _, rfl, rfl, .inl ⟨_, rfl, ?_⟩⟩
        refine ⟨_, rfl, c, _, rfl, .inl (SqL.of M4.hc), _, _, rfl, rfl, hlen, ?_⟩
        obtain ⟨x, hx⟩ : ∃ x : Int, atI ((z :: zs).map V.int) (((k + 1) * (k + 1) + (k + 1) / 2) % (((z :: zs).map V.int).length : Int)) = some (.int x) := by
          have h0 := Int.emod_nonneg ((k + 1) * (k + 1) + (k + 1) / 2) (show (((z :: zs).map V.int).length : Int) ≠ 0 by omega)
          have h1 := Int.emod_lt_of_pos ((k + 1) * (k + 1) + (k + 1) / 2) hlen
          generalize ((k + 1) * (k + 1) + (k + 1) / 2) % (((z :: zs).map V.int).length : Int) = i at h0 h1
          obtain ⟨j, rfl⟩ := Int.eq_ofNat_of_zero_le h0
          have hj : j < (z :: zs).length := by
            rw [List.length_map] at h1
            omega
          exact ⟨(z :: zs)[j], atI_nat (by rw [List.getElem?_map, List.getElem?_eq_getElem hj]; rfl)⟩
        refine ⟨c, _, _, _, rfl, rfl, SqL.of M4.hc, hx, .inl ⟨_, rfl, ?_⟩⟩
        exact fin _ _ _ _ _ ⟨_, _, _, _, _, M4⟩ (by omega) (by omega)
  refine ⟨_, pss_cons (ps_while PassesOwn.never (PW.pt (pw_and (pt_cmpR (op_neD hr.units) (pe_dget (hu_of hr) (pv 0) pe_str (fun _ _ => rfl)) (pe_lst pa_nil) (nomark _)) (pw_and1 (pt_cmpR op_eq (pe_ix ix_list (pe_dget (hu_of hr) (pv 0) pe_str (fun _ _ => rfl)) pe_int (fun _ _ => rfl)) pe_int (nomark _))))) (pss_one (ps_dput (hu_of hr) (pv 0) pe_str (pe_slice sl_list (pe_dget (hu_of hr) (pv 0) pe_str (fun _ _ => rfl)) (po_some pe_int) po_none) rfl))) d1, ?_⟩
  refine ⟨fun m σ H1 => σ = [some (.ref p), some (.int many), none, none, none, none, none] ∧ ∃ c l cs ls k, MAt G H1 p B c l cs ls k ∧ m = ls.length, ⟨_, rfl, c, l, cs, ls, k, M, rfl⟩, ?_⟩
  clear M c l cs ls k
  rintro m σ H1 ⟨rfl, c, l, cs, ls, k, M, rfl⟩
  refine ⟨_, rfl, p, _, rfl, M.getLeft, Nat.zero_le _, fun q hq => ?_⟩
  have M2 := M.garbage (o := .lst []) hq
  refine eqv_ne M2.hl upd_same ⟨_, rfl, ?_⟩
  cases ls with
  | nil =>
    refine iteF ?_
    exact rest _ ⟨_, _, _, _, _, M2⟩
  | cons n r =>
    refine iteT ?_
    refine ⟨_, rfl, p, _, rfl, M2.getLeft, l, _, 0, _, rfl, rfl, SqL.of M2.hl, atI_nat (j := 0) rfl, rfl, _, rfl, ?_⟩
    refine ite2 (fun _ => ?_) (fun _ => rest _ ⟨_, _, _, _, _, M2⟩)
    refine ⟨fun σ H1 => σ = [some (.ref p), some (.int many), none, none, none, none, none] ∧ ∃ c l cs k, MAt G H1 p B c l cs r k, fun σ H1 ⟨e, c, l, cs, k, M⟩ => ⟨_, by simp, e, c, l, cs, r, k, M, rfl⟩, ?_⟩
    refine ⟨_, rfl, p, _, rfl, M2.getLeft, 1, rfl, l, _, rfl, SqL.of M2.hl, fun q3 hq3 => ?_⟩
    rw [cut_one]
    have hl1 := M2.ln
    rw [List.length_cons] at hl1
    exact ⟨_, rfl, p, _, rfl, DPut.k (k := kLeft) (M2.garbage hq3).hp (by show 3 < sizeLine; decide), rfl, c, q3, cs, k, M2.leftNew hq3 (by omega)⟩
theorem scBegun : FnScope ["script", "cell"] ["script"] (defScope sBegun) := ⟨rfl, rfl, rfl, by decide +kernel, rfl, by decide +kernel, by decide +kernel⟩
theorem ok_begun {f : Addr} {fd : FuncData} (F : Fun K "_law_begun" "_law_begun" sBegun f fd) (T : Blt mg) : FnOk P w K mg base CX0 1 f fd ["script"] (spBegun K) := by
  refine F.ok scBegun (fun vs H Q E h => ?_) (fun cdv A outer s H vs Q E hr h => ?_)
  · obtain ⟨a, ns, rfl, _⟩ := h
    rfl
  obtain ⟨a, ns, rfl, hS, hl, go⟩ := h
  refine ⟨_, pss_one (ps_ret (pe_disp (pps_cons pe_str (pe_callTy call_list_of (by rfl) T.list (by decide +kernel) (pa_cons (pv 0) pa_nil))
    (pps_cons pe_str (pe_lc (own := [("cell", 1)]) (g := gName 1) (by rfl) scBegun.nd (pi_list (pv 0)) (blkOk_by (own := [("cell", 1)]) (N := ["script", "cell"]) (sc := defScope sBegun) (by decide +kernel)) (fun _ _ _ _ _ => pg_name (i := 1) scBegun.nd rfl (Or.inl rfl))
        (fun _ _ _ _ _ => pts_one (pt_cmpR op_ge (pv 1) (pe_op op_pow pe_int pe_int) (nomark _))) (fun _ _ _ _ _ => pv 1))
    (pps_cons pe_str pe_int pps_nil))) (by rfl) (by rfl) (fun z => by cases z) (by decide))), ?_⟩
  intro p hp
  have S0 : Same H (upd H p (.dK [])) := same_upd hp
  refine ⟨_, rfl, a, _, rfl, .inl (S0.seq hS), fun c hc => ?_⟩
  have S1 : Same H (upd (upd H p (.dK [])) c (.lst (ns.map V.int))) := same_new S0 hc
  refine ⟨_, rfl, a, rfl, ⟨_, S1.seq hS⟩, fun D hD => ?_⟩
  have S2 : ∀ o, Same H (upd (upd (upd H p (.dK [])) c (.lst (ns.map V.int))) D o) := fun o => same_new S1 hD
  refine lc_list (K := K) (a := a) (xs := ns.map V.int) (fun i H2 => ∃ ls : List Int, H2 = upd (upd (upd H p (.dK [])) c (.lst (ns.map V.int))) D (.lst (ls.map V.int)) ∧ ls.length ≤ i) ⟨[], rfl, Nat.zero_le _⟩ (fun i H2 _ ⟨ls, e, _⟩ => ?_) ?_ ?_
  · rw [e]
    exact (S2 _).seq hS
  · rintro i x H2 hx ⟨ls, rfl, hls⟩
    have hi : i < ns.length := by
      have q := (List.getElem?_eq_some_iff.mp hx).1
      rw [List.length_map] at q
      exact q
    obtain ⟨n, rfl⟩ : ∃ n, x = V.int n := by
      rw [List.getElem?_map] at hx
      cases e : ns[i]? with
      | none =>
        rw [e] at hx
        cases hx
      | some n =>
        rw [e] at hx
        exact ⟨n, (Option.some.inj hx).symm⟩
    refine ⟨rfl, _, rfl, _, _, rfl, rfl, ⟨by decide, by decide, by decide⟩, _, _, rfl, rfl, _, rfl, ?_⟩
    refine ite2 (fun _ => ?_) (fun _ => ⟨ls, rfl, by omega⟩)
    refine ⟨_, rfl, ls.map V.int, upd_same, ?_, ls ++ [n], ?_, ?_⟩
    · rw [List.length_map]
      exact small1000 (by omega)
    · rw [upd_upd, List.map_append]
      rfl
    · rw [List.length_append, List.length_singleton]
      omega
  · rintro H2 ⟨ls, rfl, hls⟩
    rw [List.length_map] at hls
    have pc : p ≠ c := ne_of_none upd_same hc
    have pD : p ≠ D := ne_of_none (H := upd (upd H p (.dK [])) c (.lst (ns.map V.int))) (by rw [upd_ne pc]; exact upd_same) hD
    have cD : c ≠ D := ne_of_none upd_same hD
    have h1 : upd (upd (upd H p (.dK [])) c (.lst (ns.map V.int))) D (.lst (ls.map V.int)) p = some (.dK []) := by
      rw [upd_ne pD, upd_ne pc, upd_same]
    refine ⟨h1, [(kCells, .ref c), (kLeft, .ref D), (kAt, .int 0)], rfl, (by show 3 ≤ 15; decide), ?_⟩
    have mk : mergeK [] [(kCells, V.ref c), (kLeft, V.ref D), (kAt, V.int 0)] = mD c D 0 := by
      have n1 : valV [(kCells, V.ref c)] kLeft = none := (valV_neg (p := (kCells, V.ref c)) cl_ne).trans rfl
      have n2 : valV [(kCells, V.ref c), (kLeft, V.ref D)] kAt = none := (valV_neg (p := (kCells, V.ref c)) ca_ne).trans ((valV_neg (p := (kLeft, V.ref D)) la_ne).trans rfl)
      show putK (putK (putK [] kCells (V.ref c)) kLeft (V.ref D)) kAt (V.int 0) = mD c D 0
      rw [show putK [] kCells (V.ref c) = [(kCells, V.ref c)] from rfl, putK_new _ n1]
      show putK [(kCells, V.ref c), (kLeft, V.ref D)] kAt (V.int 0) = mD c D 0
      rw [putK_new _ n2]
      rfl
    rw [mk]
    refine go _ p ⟨c, D, ns, ls, 0, ?_⟩
    have Dn : H D = none := S1.free hD
    have pn : p ≠ c := pc
    exact { hp := upd_same
            hl := by rw [upd_ne pD.symm, upd_same]
            hc := by rw [upd_ne pc.symm, upd_ne cD, upd_same]
            gp := hp
            gl := Dn
            gc := S0.free hc
            lc := cD.symm
            same := same_off (S2 _) hp
            k0 := Int.le_refl _
            kB := Int.le_refl _
            ln := by omega
            cn := by omega }
/-! ### what the top has written -/
section
variable {C D X : Addr} {cn cq : Str} {N : Addr} {cb bm : List Value} {csn : List Str} {csub : List Value} {cab : Bool} {ccol : Option Bool} {cdd : Option Addr} {k0 k1 k2 k3 k5 : Option Value} {newId initId B : String} {bmB : List Value}
theorem cls_is (x : K.lookup C = some (excClassObj cn cq C N cb bm true csn csub cab ccol cdd k0 k1 k2 k3 k5 newId)) : PySem.W.clsIn K C = some { name := cn, bases := cb, mro := .ref C :: bm, ns := N, qualname := cq, hasDict := true, slotNames := csn, subclasses := csub, abstract := cab, collection := ccol, hasDel := false } := by
  unfold PySem.W.clsIn
  rw [x] <;> rfl
theorem sub_is (x : K.lookup C = some (excClassObj cn cq C N cb bm true csn csub cab ccol cdd k0 k1 k2 k3 k5 newId)) (v : Value) : PySem.W.subIn K (.ref C) v = some ((Value.ref C :: bm).contains v) := by
  show PySem.W.mroIn K C v = _
  unfold PySem.W.mroIn
  rw [cls_is x, Option.bind_some]
  rfl
theorem type_is (x : K.lookup C = some (excClassObj cn cq C N cb bm true csn csub cab ccol cdd k0 k1 k2 k3 k5 newId)) : PySem.W.typeIn K (.ref C) = some (.type "type") := by
  show (K.lookup C).map (·.cls) = _
  rw [x] <;> rfl
theorem errC_of (fb : ExcBaseFacts B newId initId bmB) (sf : StoreFacts B bmB "object.__setattr__" "object") (x : K.lookup C = some (excClassObj cn cq C N cb bm true csn csub cab ccol cdd k0 k1 k2 k3 k5 newId)) (ht : PySem.W.excTail bmB bm = true)
    (sa : PySem.W.findIn K (.ref C) "__setattr__" = some (some (.builtin "object.__setattr__"))) (ga : PySem.W.findIn K (.ref C) "__getattribute__" = some (some (.builtin "BaseException.__getattribute__"))) (gg : PySem.W.findIn K (.ref C) "__getattr__" = some none)
    (kp : PySem.W.keepIn K (.ref C) = true) (cc : PySem.W.findIn K (.ref C) "__class__" = some (some (.builtin "object.__class__"))) : ErrC K C B newId initId bmB := by
  have c1 : ∀ T : String, (Value.ref C :: bm).contains (.type T) = bmB.contains (.type T) := fun T => by
    rw [List.contains_cons, PySem.W.excTail_contains T bm ht]
    rfl
  refine { fb := fb, sf := sf, obj := ⟨_, _, _, _, _, _, _, _, _, _, _, _, _, _, _, x, ht⟩, ov := ?_, sa := sa, ga := ga, gg := gg, eb := ?_, tc := type_is x, kp := kp, hd := ?_, cc := cc, mo := ?_ }
  · unfold PySem.W.excOver
    rw [cls_is x]
    show ((C == C) && PySem.W.excTail bmB bm) = true
    rw [ht, beq_self_eq_true]
    rfl
  · rw [sub_is x, c1, fb.hasBase]
  · unfold PySem.W.hasDictIn
    rw [cls_is x]
    rfl
  · have z := sub_is x (.type "object")
    rw [c1, sf.hasOwner] at z
    exact z
theorem kit_ref (x : K.lookup C = some (excClassObj cn cq C N cb bm true csn csub cab ccol cdd k0 k1 k2 k3 k5 newId)) (hX : (PySem.W.clsIn K X).isSome = true) (tX : PySem.W.typeIn K (.ref X) = some (.type "type")) : PySem.W.kitOne K (.ref C) (.ref X) = some ((Value.ref C :: bm).contains (.ref X)) := by
  unfold PySem.W.kitOne
  by_cases h : C = X
  · subst h
    rw [if_pos (beq_self_eq_true _), List.contains_cons, beq_self_eq_true]
    rfl
  · rw [if_neg (by simpa using h)]
    show (if ((PySem.W.clsIn K X).isSome && PySem.W.typeIn K (.ref X) == some (.type "type")) = true then PySem.W.subIn K (.ref C) (.ref X) else none) = _
    rw [hX, tX, if_pos (by simp), sub_is x]
theorem kit_typ {T : String} (x : K.lookup C = some (excClassObj cn cq C N cb bm true csn csub cab ccol cdd k0 k1 k2 k3 k5 newId)) (hT : PySem.W.kitMeta T = true) : PySem.W.kitOne K (.ref C) (.type T) = some ((Value.ref C :: bm).contains (.type T)) := by
  unfold PySem.W.kitOne
  rw [if_neg (by simp)]
  show (if PySem.W.kitMeta T = true then PySem.W.subIn K (.ref C) (.type T) else none) = _
  rw [if_pos hT, sub_is x]
end
/-- the class at C, as the top left it -/
def ObjX (K : PySem.W.Frag) (C : Addr) (bm : List Value) (newId : String) : Prop := ∃ cn cq N cb csn csub cab ccol cdd k0 k1 k2 k3 k5, K.lookup C = some (excClassObj cn cq C N cb bm true csn csub cab ccol cdd k0 k1 k2 k3 k5 newId)
def bmO (D : Addr) (j : Nat) : List Value := if j < 9 then .ref D :: bmVE else if j = 9 then bmLE else bmOE
theorem has_ref {D X : Addr} {j : Nat} {C : Addr} : (Value.ref C :: bmO D j).contains (.ref X) = (decide (X = C) || (decide (j < 9) && decide (X = D))) := by
  unfold bmO
  by_cases h : j < 9
  · rw [if_pos h]
    simp [h, List.contains_cons]
  · rw [if_neg h]
    by_cases h2 : j = 9
    · rw [if_pos h2]
      simp [h, List.contains_cons]
    · rw [if_neg h2]
      simp [h, List.contains_cons]
/-- the eleven classes' questions -/
theorem asks {L : List Addr} {D : Addr} (hl : L.length = 11) (nd : (L ++ [D]).Nodup) (xD : ObjX K D bmVE "ValueError.__new__") (xs : ∀ (j : Nat) (C : Addr), L[j]? = some C → ∃ newId, ObjX K C (bmO D j) newId) :
    (∀ i j, i < 11 → j < 11 → PySem.W.kitOne K (.ref (L.getD j 0)) (.ref (L.getD i 0)) = some (decide (i = j))) ∧ (∀ j, j < 11 → PySem.W.kitOne K (.ref (L.getD j 0)) (.ref D) = some (decide (j < 9))) ∧
    (∀ j, j < 11 → PySem.W.kitOne K (.ref (L.getD j 0)) (.type "ValueError") = some (decide (j < 9))) ∧ (∀ j, j < 11 → PySem.W.kitOne K (.ref (L.getD j 0)) (.type "LookupError") = some (decide (j = 9))) ∧
    (∀ j, j < 11 → PySem.W.kitOne K (.ref (L.getD j 0)) (.type "OverflowError") = some (decide (j = 10))) ∧ (∀ j, j < 11 → PySem.W.kitAny K (.ref (L.getD j 0)) [.type "KeyError", .type "IndexError"] = some false) := by
  have get : ∀ j, j < 11 → L[j]? = some (L.getD j 0) := fun j hj => by
    rw [List.getD_eq_getElem?_getD, List.getElem?_eq_getElem (by omega)]
    rfl
  have x : ∀ j, j < 11 → ∃ newId, ObjX K (L.getD j 0) (bmO D j) newId := fun j hj => xs j _ (get j hj)
  have nl : L.Nodup := nd.sublist (List.sublist_append_left _ _)
  have nD : ∀ j, j < 11 → D ≠ L.getD j 0 := fun j hj z => by
    have m := List.mem_of_getElem? (get j hj)
    exact (List.nodup_append.mp nd).2.2 _ m D (by simp) z.symm
  have ne : ∀ i j, i < 11 → j < 11 → (L.getD i 0 = L.getD j 0 ↔ i = j) := fun i j hi hj => by
    constructor
    · intro z
      have a := get i hi
      rw [z, ← get j hj] at a
      exact (List.getElem?_inj (by omega) nl).mp a
    · rintro rfl
      rfl
  refine ⟨fun i j hi hj => ?_, fun j hj => ?_, fun j hj => ?_, fun j hj => ?_, fun j hj => ?_, fun j hj => ?_⟩
  · obtain ⟨n1, _, _, _, _, _, _, _, _, _, _, _, _, _, _, hx⟩ := x j hj
    obtain ⟨n2, _, _, _, _, _, _, _, _, _, _, _, _, _, _, hy⟩ := x i hi
    rw [kit_ref hx (by rw [cls_is hy]; rfl) (type_is hy), has_ref]
    have e : decide (L.getD i 0 = D) = false := decide_eq_false fun z => nD i hi z.symm
    rw [e, Bool.and_false, Bool.or_false]
    congr 1
    rw [decide_eq_decide]
    exact ne i j hi hj
  · obtain ⟨n1, _, _, _, _, _, _, _, _, _, _, _, _, _, _, hx⟩ := x j hj
    obtain ⟨_, _, _, _, _, _, _, _, _, _, _, _, _, _, hy⟩ := xD
    rw [kit_ref hx (by rw [cls_is hy]; rfl) (type_is hy), has_ref, decide_eq_false (nD j hj), decide_eq_true rfl]
    simp
  · obtain ⟨n1, _, _, _, _, _, _, _, _, _, _, _, _, _, _, hx⟩ := x j hj
    rw [kit_typ hx (by decide +kernel), List.contains_cons]
    rcases j with _ | _ | _ | _ | _ | _ | _ | _ | _ | _ | _ | j <;> first | (simp [bmO, List.contains_cons]; done) | omega
  · obtain ⟨n1, _, _, _, _, _, _, _, _, _, _, _, _, _, _, hx⟩ := x j hj
    rw [kit_typ hx (by decide +kernel), List.contains_cons]
    rcases j with _ | _ | _ | _ | _ | _ | _ | _ | _ | _ | _ | j <;> first | (simp [bmO, List.contains_cons]; done) | omega
  · obtain ⟨n1, _, _, _, _, _, _, _, _, _, _, _, _, _, _, hx⟩ := x j hj
    rw [kit_typ hx (by decide +kernel), List.contains_cons]
    rcases j with _ | _ | _ | _ | _ | _ | _ | _ | _ | _ | _ | j <;> first | (simp [bmO, List.contains_cons]; done) | omega
  · obtain ⟨n1, _, _, _, _, _, _, _, _, _, _, _, _, _, _, hx⟩ := x j hj
    have q1 : PySem.W.kitOne K (.ref (L.getD j 0)) (.type "KeyError") = some false := by
      rw [kit_typ hx (by decide +kernel), List.contains_cons]
      rcases j with _ | _ | _ | _ | _ | _ | _ | _ | _ | _ | _ | j <;> first | (simp [bmO, List.contains_cons]; done) | omega
    have q2 : PySem.W.kitOne K (.ref (L.getD j 0)) (.type "IndexError") = some false := by
      rw [kit_typ hx (by decide +kernel), List.contains_cons]
      rcases j with _ | _ | _ | _ | _ | _ | _ | _ | _ | _ | _ | j <;> first | (simp [bmO, List.contains_cons]; done) | omega
    exact kitAny_cons q1 (fun _ => kitAny_cons q2 (fun _ => kitAny_nil) (fun z => by cases z)) (fun z => by cases z)
/-- an except clause that names a class takes its own instances -/
theorem exm_own {K : PySem.W.Frag} {C : Addr} {cn cq : Str} {N : Addr} {cb bm : List Value} {csn : List Str} {csub : List Value} {cab : Bool} {ccol : Option Bool} {cdd : Option Addr} {k0 k1 k2 k3 k5 : Option Value} {newId : String}
    (x : K.lookup C = some (excClassObj cn cq C N cb bm true csn csub cab ccol cdd k0 k1 k2 k3 k5 newId)) (eb : PySem.W.subIn K (.ref C) (.type "BaseException") = some true) : PySem.W.exmOne K (.ref C) (.ref C) = some true := by
  have e1 : (PySem.W.subIn K (.ref C) (.type "BaseException") == some true) = true := by
    rw [eb]
    rfl
  have e2 : ((PySem.W.clsIn K C).isSome && PySem.W.typeIn K (.ref C) == some (.type "type")) = true := by
    rw [cls_is x, type_is x]
    rfl
  have e3 := sub_is x (.ref C)
  have e4 : (Value.ref C :: bm).contains (.ref C) = true := by
    rw [List.contains_cons, beq_self_eq_true, Bool.true_or]
  rw [e4] at e3
  show (if (PySem.W.subIn K (.ref C) (.type "BaseException") == some true) = true then (if ((PySem.W.clsIn K C).isSome && PySem.W.typeIn K (.ref C) == some (.type "type")) = true then PySem.W.subIn K (.ref C) (.ref C) else none) else none) = some true
  rw [if_pos e1, if_pos e2]
  exact e3
theorem all_mk {w : World} {K : PySem.W.Frag} {h : Heap} {mg : Str → Option Value} {fa : Addr} (X : K.In h) (G : h.Ns mainGlobals mg) (hfa : mg "law" = some (.ref fa))
    {D : Addr}
    {Cx0 fx0 : Addr} {nx0 qx0 : Str} {Nx0 : Addr} {bx0 : List Value} {sx0 : List Str} {ux0 : List Value} {abx0 : Bool} {ox0 : Option Bool} {ex0 : Option Addr} {mx00 mx01 mx02 mx03 mx05 : Option Value}
    {odx0 anx0 : Option Addr} {slx0 : Array (Option Value)} {kVx0 dcx0 pmx0 cdx0 ctx0 ocx0 : Value}
    {fnP : Addr}
    {odP anP : Option Addr} {slP : Array (Option Value)} {kVP dcP pmP cdP ctP ocP : Value}
    {fnWd : Addr}
    {odWd anWd : Option Addr} {slWd : Array (Option Value)} {kVWd dcWd pmWd cdWd ctWd ocWd : Value}
    {fnRi : Addr}
    {odRi anRi : Option Addr} {slRi : Array (Option Value)} {kVRi dcRi pmRi cdRi ctRi ocRi : Value}
    {fnIt : Addr}
    {odIt anIt : Option Addr} {slIt : Array (Option Value)} {kVIt dcIt pmIt cdIt ctIt ocIt : Value}
    {fnNd : Addr}
    {odNd anNd : Option Addr} {slNd : Array (Option Value)} {kVNd dcNd pmNd cdNd ctNd ocNd : Value}
    {fnIl : Addr}
    {odIl anIl : Option Addr} {slIl : Array (Option Value)} {kVIl dcIl pmIl cdIl ctIl ocIl : Value}
    {fnPl : Addr}
    {odPl anPl : Option Addr} {slPl : Array (Option Value)} {kVPl dcPl pmPl cdPl ctPl ocPl : Value}
    {fnAl : Addr}
    {odAl anAl : Option Addr} {slAl : Array (Option Value)} {kVAl dcAl pmAl cdAl ctAl ocAl : Value}
    {fnJo : Addr}
    {odJo anJo : Option Addr} {slJo : Array (Option Value)} {kVJo dcJo pmJo cdJo ctJo ocJo : Value}
    {fnWo : Addr}
    {odWo anWo : Option Addr} {slWo : Array (Option Value)} {kVWo dcWo pmWo cdWo ctWo ocWo : Value}
    {fnRu : Addr}
    {odRu anRu : Option Addr} {slRu : Array (Option Value)} {kVRu dcRu pmRu cdRu ctRu ocRu : Value}
    {fnB : Addr}
    {odB anB : Option Addr} {slB : Array (Option Value)} {kVB dcB pmB cdB ctB ocB : Value}
    {fnN : Addr}
    {odN anN : Option Addr} {slN : Array (Option Value)} {kVN dcN pmN cdN ctN ocN : Value}
    {fnNm : Addr}
    {odNm anNm : Option Addr} {slNm : Array (Option Value)} {kVNm dcNm pmNm cdNm ctNm ocNm : Value}
    {fnIn : Addr}
    {odIn anIn : Option Addr} {slIn : Array (Option Value)} {kVIn dcIn pmIn cdIn ctIn ocIn : Value}
    {fnO : Addr}
    {odO anO : Option Addr} {slO : Array (Option Value)} {kVO dcO pmO cdO ctO ocO : Value}
    {fnBe : Addr}
    {odBe anBe : Option Addr} {slBe : Array (Option Value)} {kVBe dcBe pmBe cdBe ctBe ocBe : Value}
    {fnLo : Addr}
    {odLo anLo : Option Addr} {slLo : Array (Option Value)} {kVLo dcLo pmLo cdLo ctLo ocLo : Value}
    {fnTh : Addr}
    {odTh anTh : Option Addr} {slTh : Array (Option Value)} {kVTh dcTh pmTh cdTh ctTh ocTh : Value}
    {fnBo : Addr}
    {odBo anBo : Option Addr} {slBo : Array (Option Value)} {kVBo dcBo pmBo cdBo ctBo ocBo : Value}
    {fnLe : Addr}
    {odLe anLe : Option Addr} {slLe : Array (Option Value)} {kVLe dcLe pmLe cdLe ctLe ocLe : Value}
    {fnLr : Addr}
    {odLr anLr : Option Addr} {slLr : Array (Option Value)} {kVLr dcLr pmLr cdLr ctLr ocLr : Value}
    {fnAs : Addr}
    {odAs anAs : Option Addr} {slAs : Array (Option Value)} {kVAs dcAs pmAs cdAs ctAs ocAs : Value}
    {fnL : Addr}
    {odL anL : Option Addr} {slL : Array (Option Value)} {kVL dcL pmL cdL ctL ocL : Value}
    {tkt8 : Tok}
    {tkt5 : Tok}
    (aD : PySem.W.nsIn K mainGlobals "StandError" = some (some (.ref D)))
    (spD : PySem.W.specialIn K (.ref D) "__getattribute__" = some (some (.builtin "type.__getattribute__")))
    (rdD : PySem.W.readsIn K D (.type "type") = true)
    (fcD : PySem.W.findCls K (.ref D) (.type "type") "__init__" = some (.val (.builtin "ValueError.__init__")))
    (ax0 : PySem.W.nsIn K mainGlobals "BadThings" = some (some (.ref Cx0)))
    (xx0 : K.lookup Cx0 = some (excClassObj nx0 qx0 Cx0 Nx0 bx0 (.ref D :: bmVE) true sx0 ux0 abx0 ox0 ex0 mx00 mx01 mx02 mx03 mx05 "ValueError.__new__"))
    (sax0 : PySem.W.findIn K (.ref Cx0) "__setattr__" = some (some (.builtin "object.__setattr__")))
    (gax0 : PySem.W.findIn K (.ref Cx0) "__getattribute__" = some (some (.builtin "BaseException.__getattribute__")))
    (ggx0 : PySem.W.findIn K (.ref Cx0) "__getattr__" = some none)
    (ccx0 : PySem.W.findIn K (.ref Cx0) "__class__" = some (some (.builtin "object.__class__")))
    (kkx0 : PySem.W.keepIn K (.ref Cx0) = true)
    (nox0 : PySem.W.findIn K (.ref Cx0) "value" = some none)
    (atx0 : PySem.W.findIn K (.ref Cx0) "__init__" = some (some (.ref fx0)))
    (tyx0 : PySem.W.typeIn K (.ref fx0) = some (.type "function"))
    (lx0 : K.lookup fx0 = some ⟨ocx0, odx0, .func (PySem.W.fnOf "__init__" "BadThings.__init__" (defArgs sI_BadThings) (defBody sI_BadThings) (defScope sI_BadThings) .none kVx0 dcx0 pmx0 anx0 cdx0 ctx0), slx0⟩)
    (cx0 : PySem.W.codeIn K cdx0 "BadThings.__init__" = true)
    (kx0 : PySem.W.keepIn K (.ref fx0) = true)
    (aP : PySem.W.nsIn K mainGlobals "_as_passed" = some (some (.ref fnP)))
    (lP : K.lookup fnP = some ⟨ocP, odP, .func (PySem.W.fnOf "_as_passed" "_as_passed" (defArgs sPass) (defBody sPass) (defScope sPass) .none kVP dcP pmP anP cdP ctP), slP⟩)
    (cP : PySem.W.codeIn K cdP "_as_passed" = true)
    (kP : PySem.W.keepIn K (.ref fnP) = true)
    (aWd : PySem.W.nsIn K mainGlobals "is_word" = some (some (.ref fnWd)))
    (lWd : K.lookup fnWd = some ⟨ocWd, odWd, .func (PySem.W.fnOf "is_word" "is_word" (defArgs sWord) (defBody sWord) (defScope sWord) .none kVWd dcWd pmWd anWd cdWd ctWd), slWd⟩)
    (cWd : PySem.W.codeIn K cdWd "is_word" = true)
    (kWd : PySem.W.keepIn K (.ref fnWd) = true)
    (aRi : PySem.W.nsIn K mainGlobals "is_ascending" = some (some (.ref fnRi)))
    (lRi : K.lookup fnRi = some ⟨ocRi, odRi, .func (PySem.W.fnOf "is_ascending" "is_ascending" (defArgs sRise) (defBody sRise) (defScope sRise) .none kVRi dcRi pmRi anRi cdRi ctRi), slRi⟩)
    (cRi : PySem.W.codeIn K cdRi "is_ascending" = true)
    (kRi : PySem.W.keepIn K (.ref fnRi) = true)
    (aIt : PySem.W.nsIn K mainGlobals "is_things" = some (some (.ref fnIt)))
    (lIt : K.lookup fnIt = some ⟨ocIt, odIt, .func (PySem.W.fnOf "is_things" "is_things" (defArgs sIsTh) (defBody sIsTh) (defScope sIsTh) .none kVIt dcIt pmIt anIt cdIt ctIt), slIt⟩)
    (cIt : PySem.W.codeIn K cdIt "is_things" = true)
    (kIt : PySem.W.keepIn K (.ref fnIt) = true)
    (aNd : PySem.W.nsIn K mainGlobals "need_things" = some (some (.ref fnNd)))
    (lNd : K.lookup fnNd = some ⟨ocNd, odNd, .func (PySem.W.fnOf "need_things" "need_things" (defArgs sNeed) (defBody sNeed) (defScope sNeed) .none kVNd dcNd pmNd anNd cdNd ctNd), slNd⟩)
    (cNd : PySem.W.codeIn K cdNd "need_things" = true)
    (kNd : PySem.W.keepIn K (.ref fnNd) = true)
    (aIl : PySem.W.nsIn K mainGlobals "is_lot" = some (some (.ref fnIl)))
    (lIl : K.lookup fnIl = some ⟨ocIl, odIl, .func (PySem.W.fnOf "is_lot" "is_lot" (defArgs sIsLot) (defBody sIsLot) (defScope sIsLot) .none kVIl dcIl pmIl anIl cdIl ctIl), slIl⟩)
    (cIl : PySem.W.codeIn K cdIl "is_lot" = true)
    (kIl : PySem.W.keepIn K (.ref fnIl) = true)
    (aPl : PySem.W.nsIn K mainGlobals "place_of" = some (some (.ref fnPl)))
    (lPl : K.lookup fnPl = some ⟨ocPl, odPl, .func (PySem.W.fnOf "place_of" "place_of" (defArgs sPlace) (defBody sPlace) (defScope sPlace) .none kVPl dcPl pmPl anPl cdPl ctPl), slPl⟩)
    (cPl : PySem.W.codeIn K cdPl "place_of" = true)
    (kPl : PySem.W.keepIn K (.ref fnPl) = true)
    (aAl : PySem.W.nsIn K mainGlobals "all_lots" = some (some (.ref fnAl)))
    (lAl : K.lookup fnAl = some ⟨ocAl, odAl, .func (PySem.W.fnOf "all_lots" "all_lots" (defArgs sAll) (defBody sAll) (defScope sAll) .none kVAl dcAl pmAl anAl cdAl ctAl), slAl⟩)
    (cAl : PySem.W.codeIn K cdAl "all_lots" = true)
    (kAl : PySem.W.keepIn K (.ref fnAl) = true)
    (aJo : PySem.W.nsIn K mainGlobals "joined" = some (some (.ref fnJo)))
    (lJo : K.lookup fnJo = some ⟨ocJo, odJo, .func (PySem.W.fnOf "joined" "joined" (defArgs sJoined) (defBody sJoined) (defScope sJoined) .none kVJo dcJo pmJo anJo cdJo ctJo), slJo⟩)
    (cJo : PySem.W.codeIn K cdJo "joined" = true)
    (kJo : PySem.W.keepIn K (.ref fnJo) = true)
    (aWo : PySem.W.nsIn K mainGlobals "without" = some (some (.ref fnWo)))
    (lWo : K.lookup fnWo = some ⟨ocWo, odWo, .func (PySem.W.fnOf "without" "without" (defArgs sWithout) (defBody sWithout) (defScope sWithout) .none kVWo dcWo pmWo anWo cdWo ctWo), slWo⟩)
    (cWo : PySem.W.codeIn K cdWo "without" = true)
    (kWo : PySem.W.keepIn K (.ref fnWo) = true)
    (aRu : PySem.W.nsIn K mainGlobals "rules" = some (some (.ref fnRu)))
    (lRu : K.lookup fnRu = some ⟨ocRu, odRu, .func (PySem.W.fnOf "rules" "rules" (defArgs sRules) (defBody sRules) (defScope sRules) .none kVRu dcRu pmRu anRu cdRu ctRu), slRu⟩)
    (cRu : PySem.W.codeIn K cdRu "rules" = true)
    (kRu : PySem.W.keepIn K (.ref fnRu) = true)
    (aB : PySem.W.nsIn K mainGlobals "_law_begun" = some (some (.ref fnB)))
    (lB : K.lookup fnB = some ⟨ocB, odB, .func (PySem.W.fnOf "_law_begun" "_law_begun" (defArgs sBegun) (defBody sBegun) (defScope sBegun) .none kVB dcB pmB anB cdB ctB), slB⟩)
    (cB : PySem.W.codeIn K cdB "_law_begun" = true)
    (kB : PySem.W.keepIn K (.ref fnB) = true)
    (aN : PySem.W.nsIn K mainGlobals "_law_next" = some (some (.ref fnN)))
    (lN : K.lookup fnN = some ⟨ocN, odN, .func (PySem.W.fnOf "_law_next" "_law_next" (defArgs sNext) (defBody sNext) (defScope sNext) .none kVN dcN pmN anN cdN ctN), slN⟩)
    (cN : PySem.W.codeIn K cdN "_law_next" = true)
    (kN : PySem.W.keepIn K (.ref fnN) = true)
    (aNm : PySem.W.nsIn K mainGlobals "_law_names" = some (some (.ref fnNm)))
    (lNm : K.lookup fnNm = some ⟨ocNm, odNm, .func (PySem.W.fnOf "_law_names" "_law_names" (defArgs sNames) (defBody sNames) (defScope sNames) .none kVNm dcNm pmNm anNm cdNm ctNm), slNm⟩)
    (cNm : PySem.W.codeIn K cdNm "_law_names" = true)
    (kNm : PySem.W.keepIn K (.ref fnNm) = true)
    (aIn : PySem.W.nsIn K mainGlobals "_law_is_name" = some (some (.ref fnIn)))
    (lIn : K.lookup fnIn = some ⟨ocIn, odIn, .func (PySem.W.fnOf "_law_is_name" "_law_is_name" (defArgs sIsName) (defBody sIsName) (defScope sIsName) .none kVIn dcIn pmIn anIn cdIn ctIn), slIn⟩)
    (cIn : PySem.W.codeIn K cdIn "_law_is_name" = true)
    (kIn : PySem.W.keepIn K (.ref fnIn) = true)
    (aO : PySem.W.nsIn K mainGlobals "_law_odd" = some (some (.ref fnO)))
    (lO : K.lookup fnO = some ⟨ocO, odO, .func (PySem.W.fnOf "_law_odd" "_law_odd" (defArgs sOdd) (defBody sOdd) (defScope sOdd) .none kVO dcO pmO anO cdO ctO), slO⟩)
    (cO : PySem.W.codeIn K cdO "_law_odd" = true)
    (kO : PySem.W.keepIn K (.ref fnO) = true)
    (aBe : PySem.W.nsIn K mainGlobals "_law_bent" = some (some (.ref fnBe)))
    (lBe : K.lookup fnBe = some ⟨ocBe, odBe, .func (PySem.W.fnOf "_law_bent" "_law_bent" (defArgs sBent) (defBody sBent) (defScope sBent) .none kVBe dcBe pmBe anBe cdBe ctBe), slBe⟩)
    (cBe : PySem.W.codeIn K cdBe "_law_bent" = true)
    (kBe : PySem.W.keepIn K (.ref fnBe) = true)
    (aLo : PySem.W.nsIn K mainGlobals "_law_lots" = some (some (.ref fnLo)))
    (lLo : K.lookup fnLo = some ⟨ocLo, odLo, .func (PySem.W.fnOf "_law_lots" "_law_lots" (defArgs sLots) (defBody sLots) (defScope sLots) .none kVLo dcLo pmLo anLo cdLo ctLo), slLo⟩)
    (cLo : PySem.W.codeIn K cdLo "_law_lots" = true)
    (kLo : PySem.W.keepIn K (.ref fnLo) = true)
    (aTh : PySem.W.nsIn K mainGlobals "_law_things" = some (some (.ref fnTh)))
    (lTh : K.lookup fnTh = some ⟨ocTh, odTh, .func (PySem.W.fnOf "_law_things" "_law_things" (defArgs sThings) (defBody sThings) (defScope sThings) .none kVTh dcTh pmTh anTh cdTh ctTh), slTh⟩)
    (cTh : PySem.W.codeIn K cdTh "_law_things" = true)
    (kTh : PySem.W.keepIn K (.ref fnTh) = true)
    (aBo : PySem.W.nsIn K mainGlobals "_law_both" = some (some (.ref fnBo)))
    (lBo : K.lookup fnBo = some ⟨ocBo, odBo, .func (PySem.W.fnOf "_law_both" "_law_both" (defArgs sBoth) (defBody sBoth) (defScope sBoth) .none kVBo dcBo pmBo anBo cdBo ctBo), slBo⟩)
    (cBo : PySem.W.codeIn K cdBo "_law_both" = true)
    (kBo : PySem.W.keepIn K (.ref fnBo) = true)
    (aLe : PySem.W.nsIn K mainGlobals "_law_less" = some (some (.ref fnLe)))
    (lLe : K.lookup fnLe = some ⟨ocLe, odLe, .func (PySem.W.fnOf "_law_less" "_law_less" (defArgs sLess) (defBody sLess) (defScope sLess) .none kVLe dcLe pmLe anLe cdLe ctLe), slLe⟩)
    (cLe : PySem.W.codeIn K cdLe "_law_less" = true)
    (kLe : PySem.W.keepIn K (.ref fnLe) = true)
    (aLr : PySem.W.nsIn K mainGlobals "_law_rules" = some (some (.ref fnLr)))
    (lLr : K.lookup fnLr = some ⟨ocLr, odLr, .func (PySem.W.fnOf "_law_rules" "_law_rules" (defArgs sLRules) (defBody sLRules) (defScope sLRules) .none kVLr dcLr pmLr anLr cdLr ctLr), slLr⟩)
    (cLr : PySem.W.codeIn K cdLr "_law_rules" = true)
    (kLr : PySem.W.keepIn K (.ref fnLr) = true)
    (aAs : PySem.W.nsIn K mainGlobals "_law_are_ascending" = some (some (.ref fnAs)))
    (lAs : K.lookup fnAs = some ⟨ocAs, odAs, .func (PySem.W.fnOf "_law_are_ascending" "_law_are_ascending" (defArgs sAsc) (defBody sAsc) (defScope sAsc) .none kVAs dcAs pmAs anAs cdAs ctAs), slAs⟩)
    (cAs : PySem.W.codeIn K cdAs "_law_are_ascending" = true)
    (kAs : PySem.W.keepIn K (.ref fnAs) = true)
    (aL : PySem.W.nsIn K mainGlobals "law" = some (some (.ref fnL)))
    (lL : K.lookup fnL = some ⟨ocL, odL, .func (PySem.W.fnOf "law" "law" (defArgs sLaw) (defBody sLaw) (defScope sLaw) .none kVL dcL pmL anL cdL ctL), slL⟩)
    (cL : PySem.W.codeIn K cdL "law" = true)
    (kL : PySem.W.keepIn K (.ref fnL) = true)
    (at8 : PySem.W.nsIn K mainGlobals "_LONGEST_WORD" = some (some (.int 8 tkt8)))
    (at5 : PySem.W.nsIn K mainGlobals "MOST_THINGS" = some (some (.int 5 tkt5)))
    (zlen : PySem.W.nsIn K mainGlobals "len" = some none)
    (zint : PySem.W.nsIn K mainGlobals "int" = some none)
    (zlist : PySem.W.nsIn K mainGlobals "list" = some none)
    (zdict : PySem.W.nsIn K mainGlobals "dict" = some none)
    (zisinstance : PySem.W.nsIn K mainGlobals "isinstance" = some none)
    (zrange : PySem.W.nsIn K mainGlobals "range" = some none)
    (zrepr : PySem.W.nsIn K mainGlobals "repr" = some none)
    (zsorted : PySem.W.nsIn K mainGlobals "sorted" = some none)
    (ztuple : PySem.W.nsIn K mainGlobals "tuple" = some none)
    (zset : PySem.W.nsIn K mainGlobals "set" = some none)
    (zall : PySem.W.nsIn K mainGlobals "all" = some none)
    (zstr : PySem.W.nsIn K mainGlobals "str" = some none)
    (zbool : PySem.W.nsIn K mainGlobals "bool" = some none)
    (zenumerate : PySem.W.nsIn K mainGlobals "enumerate" = some none)
    (zzip : PySem.W.nsIn K mainGlobals "zip" = some none)
    (zmin : PySem.W.nsIn K mainGlobals "min" = some none) :
    ∃ fd : FuncData, (∀ (s : Shared) (v : Value), BindsTo s fd ⟨[v], []⟩ [("script", v)]) ∧ ∀ base : Heap, K.In base → base.Ns mainGlobals mg → FnG PySem.Challenge.rw_standlots_k01_whole_things_and_lots.prog w K mg base CX0 13 fa fd ["script"] (spLaw K) := by
  have e := hfa.symm.trans (PySem.W.mg_of X G aL)
  cases e
  have T : Blt mg := ⟨PySem.W.mg_none_of X G zlen, PySem.W.mg_none_of X G zint, PySem.W.mg_none_of X G zlist, PySem.W.mg_none_of X G zdict, PySem.W.mg_none_of X G zisinstance, PySem.W.mg_none_of X G zrange, PySem.W.mg_none_of X G zrepr, PySem.W.mg_none_of X G zsorted, PySem.W.mg_none_of X G ztuple, PySem.W.mg_none_of X G zset, PySem.W.mg_none_of X G zall, PySem.W.mg_none_of X G zstr, PySem.W.mg_none_of X G zbool, PySem.W.mg_none_of X G zenumerate, PySem.W.mg_none_of X G zzip, PySem.W.mg_none_of X G zmin⟩
  have S : BaseT K mg D := ⟨PySem.W.mg_of X G aD, spD, rdD, fcD⟩
  have Ex0 : ErrC K Cx0 "ValueError" "ValueError.__new__" "ValueError.__init__" bmVE := errC_of PySem.F.excBase_ValueError PySem.F.store_ValueError xx0 (by first | rfl | decide +kernel) sax0 gax0 ggx0 kkx0 ccx0
  have tex0 := exm_own xx0 Ex0.eb
  have FP := fun_mk (st := sPass) lP cP kP
  have FWd := fun_mk (st := sWord) lWd cWd kWd
  have FRi := fun_mk (st := sRise) lRi cRi kRi
  have FIt := fun_mk (st := sIsTh) lIt cIt kIt
  have FNd := fun_mk (st := sNeed) lNd cNd kNd
  have FIl := fun_mk (st := sIsLot) lIl cIl kIl
  have FPl := fun_mk (st := sPlace) lPl cPl kPl
  have FAl := fun_mk (st := sAll) lAl cAl kAl
  have FJo := fun_mk (st := sJoined) lJo cJo kJo
  have FWo := fun_mk (st := sWithout) lWo cWo kWo
  have FRu := fun_mk (st := sRules) lRu cRu kRu
  have FB := fun_mk (st := sBegun) lB cB kB
  have FN := fun_mk (st := sNext) lN cN kN
  have FNm := fun_mk (st := sNames) lNm cNm kNm
  have FIn := fun_mk (st := sIsName) lIn cIn kIn
  have FO := fun_mk (st := sOdd) lO cO kO
  have FBe := fun_mk (st := sBent) lBe cBe kBe
  have FLo := fun_mk (st := sLots) lLo cLo kLo
  have FTh := fun_mk (st := sThings) lTh cTh kTh
  have FBo := fun_mk (st := sBoth) lBo cBo kBo
  have FLe := fun_mk (st := sLess) lLe cLe kLe
  have FLr := fun_mk (st := sLRules) lLr cLr kLr
  have FAs := fun_mk (st := sAsc) lAs cAs kAs
  have FL := fun_mk (st := sLaw) lL cL kL
  have Fx0 := fun_mk (st := sI_BadThings) lx0 cx0 kx0
  have bx0 := Fx0.binds (ps := ["self", "value"]) fun _ _ _ _ _ _ us hl => match us, hl with | [_, _], _ => rfl
  have bP := FP.binds (ps := ["value"]) fun _ _ _ _ _ _ us hl => match us, hl with | [_], _ => rfl
  have bWd := FWd.binds (ps := ["value"]) fun _ _ _ _ _ _ us hl => match us, hl with | [_], _ => rfl
  have bRi := FRi.binds (ps := ["words"]) fun _ _ _ _ _ _ us hl => match us, hl with | [_], _ => rfl
  have bIt := FIt.binds (ps := ["value"]) fun _ _ _ _ _ _ us hl => match us, hl with | [_], _ => rfl
  have bNd := FNd.binds (ps := ["thing"]) fun _ _ _ _ _ _ us hl => match us, hl with | [_], _ => rfl
  have bIl := FIl.binds (ps := ["things", "thing"]) fun _ _ _ _ _ _ us hl => match us, hl with | [_, _], _ => rfl
  have bPl := FPl.binds (ps := ["things", "thing"]) fun _ _ _ _ _ _ us hl => match us, hl with | [_, _], _ => rfl
  have bAl := FAl.binds (ps := ["things"]) fun _ _ _ _ _ _ us hl => match us, hl with | [_], _ => rfl
  have bJo := FJo.binds (ps := ["one", "other"]) fun _ _ _ _ _ _ us hl => match us, hl with | [_, _], _ => rfl
  have bWo := FWo.binds (ps := ["one", "other"]) fun _ _ _ _ _ _ us hl => match us, hl with | [_, _], _ => rfl
  have bRu := FRu.binds (ps := ["things"]) fun _ _ _ _ _ _ us hl => match us, hl with | [_], _ => rfl
  have bB := FB.binds (ps := ["script"]) fun _ _ _ _ _ _ us hl => match us, hl with | [_], _ => rfl
  have bN := FN.binds (ps := ["m", "many"]) fun _ _ _ _ _ _ us hl => match us, hl with | [_, _], _ => rfl
  have bNm := FNm.binds (ps := ["m", "many"]) fun _ _ _ _ _ _ us hl => match us, hl with | [_, _], _ => rfl
  have bIn := FIn.binds (ps := ["thing"]) fun _ _ _ _ _ _ us hl => match us, hl with | [_], _ => rfl
  have bO := FO.binds (ps := ["m"]) fun _ _ _ _ _ _ us hl => match us, hl with | [_], _ => rfl
  have bBe := FBe.binds (ps := ["m", "thing"]) fun _ _ _ _ _ _ us hl => match us, hl with | [_, _], _ => rfl
  have bLo := FLo.binds (ps := ["many"]) fun _ _ _ _ _ _ us hl => match us, hl with | [_], _ => rfl
  have bTh := FTh.binds (ps := ["m", "most"]) fun _ _ _ _ _ _ us hl => match us, hl with | [_, _], _ => rfl
  have bBo := FBo.binds (ps := ["one", "other"]) fun _ _ _ _ _ _ us hl => match us, hl with | [_, _], _ => rfl
  have bLe := FLe.binds (ps := ["one", "other"]) fun _ _ _ _ _ _ us hl => match us, hl with | [_, _], _ => rfl
  have bLr := FLr.binds (ps := ["many"]) fun _ _ _ _ _ _ us hl => match us, hl with | [_], _ => rfl
  have bAs := FAs.binds (ps := ["thing"]) fun _ _ _ _ _ _ us hl => match us, hl with | [_], _ => rfl
  have gP := PySem.W.mg_of X G aP
  have gWd := PySem.W.mg_of X G aWd
  have gRi := PySem.W.mg_of X G aRi
  have gIt := PySem.W.mg_of X G aIt
  have gNd := PySem.W.mg_of X G aNd
  have gIl := PySem.W.mg_of X G aIl
  have gPl := PySem.W.mg_of X G aPl
  have gAl := PySem.W.mg_of X G aAl
  have gJo := PySem.W.mg_of X G aJo
  have gWo := PySem.W.mg_of X G aWo
  have gRu := PySem.W.mg_of X G aRu
  have gB := PySem.W.mg_of X G aB
  have gN := PySem.W.mg_of X G aN
  have gNm := PySem.W.mg_of X G aNm
  have gIn := PySem.W.mg_of X G aIn
  have gO := PySem.W.mg_of X G aO
  have gBe := PySem.W.mg_of X G aBe
  have gLo := PySem.W.mg_of X G aLo
  have gTh := PySem.W.mg_of X G aTh
  have gBo := PySem.W.mg_of X G aBo
  have gLe := PySem.W.mg_of X G aLe
  have gLr := PySem.W.mg_of X G aLr
  have gAs := PySem.W.mg_of X G aAs
  have gL := PySem.W.mg_of X G aL
  refine ⟨PySem.W.fnOf "law" "law" (defArgs sLaw) (defBody sLaw) (defScope sLaw) .none kVL dcL pmL anL cdL ctL, fun s v => .of_eq rfl, fun base _ _ => ?_⟩
  have GP := ok_pass (P := PySem.Challenge.rw_standlots_k01_whole_things_and_lots.prog) (w := w) (base := base) FP T
  have GN := ok_next (P := PySem.Challenge.rw_standlots_k01_whole_things_and_lots.prog) (w := w) (base := base) FN T
  have GNm := ok_names (P := PySem.Challenge.rw_standlots_k01_whole_things_and_lots.prog) (w := w) (base := base) FNm T GN gN kN bN
  have GTh := ok_things (P := PySem.Challenge.rw_standlots_k01_whole_things_and_lots.prog) (w := w) (base := base) FTh T GN gN kN bN GNm gNm kNm bNm
  have GWd := ok_word (P := PySem.Challenge.rw_standlots_k01_whole_things_and_lots.prog) (w := w) (base := base) (PySem.W.mg_of X G at8) FWd T
  have GRi := ok_rise (P := PySem.Challenge.rw_standlots_k01_whole_things_and_lots.prog) (w := w) (base := base) FRi T
  have GIt := ok_isth (P := PySem.Challenge.rw_standlots_k01_whole_things_and_lots.prog) (w := w) (base := base) (PySem.W.mg_of X G at5) FIt T GWd gWd kWd bWd GRi gRi kRi bRi
  have GI0 := okI_BadThings (P := PySem.Challenge.rw_standlots_k01_whole_things_and_lots.prog) (w := w) (base := base) Fx0 S Ex0 nox0 GP gP kP bP
  have GNd := ok_need (P := PySem.Challenge.rw_standlots_k01_whole_things_and_lots.prog) (w := w) (base := base) FNd GIt gIt kIt bIt Ex0 ⟨atx0, tyx0⟩ GI0 bx0 (PySem.W.mg_of X G ax0)
  have GPl := ok_place (P := PySem.Challenge.rw_standlots_k01_whole_things_and_lots.prog) (w := w) (base := base) FPl T
  have GIl := ok_islot (P := PySem.Challenge.rw_standlots_k01_whole_things_and_lots.prog) (w := w) (base := base) FIl T GPl gPl kPl bPl
  have GAl := ok_all (P := PySem.Challenge.rw_standlots_k01_whole_things_and_lots.prog) (w := w) (base := base) FAl T
  have GWo := ok_without (P := PySem.Challenge.rw_standlots_k01_whole_things_and_lots.prog) (w := w) (base := base) FWo T
  have GRu := ok_rules (P := PySem.Challenge.rw_standlots_k01_whole_things_and_lots.prog) (w := w) (base := base) FRu T GAl gAl kAl bAl GWo gWo kWo bWo
  have GIn := ok_isname (P := PySem.Challenge.rw_standlots_k01_whole_things_and_lots.prog) (w := w) (base := base) FIn T
  have GAs := ok_asc (P := PySem.Challenge.rw_standlots_k01_whole_things_and_lots.prog) (w := w) (base := base) FAs T GIn gIn kIn bIn
  have GO := ok_odd (P := PySem.Challenge.rw_standlots_k01_whole_things_and_lots.prog) (w := w) (base := base) FO T GN gN kN bN
  have GBe := ok_bent (P := PySem.Challenge.rw_standlots_k01_whole_things_and_lots.prog) (w := w) (base := base) FBe T GN gN kN bN GO gO kO bO gBe kBe bBe
  have GLo := ok_lots (P := PySem.Challenge.rw_standlots_k01_whole_things_and_lots.prog) (w := w) (base := base) FLo T
  have GLe := ok_less (P := PySem.Challenge.rw_standlots_k01_whole_things_and_lots.prog) (w := w) (base := base) FLe T
  have GLr := ok_lrules (P := PySem.Challenge.rw_standlots_k01_whole_things_and_lots.prog) (w := w) (base := base) FLr T GLo gLo kLo bLo GLe gLe kLe bLe
  have GJo := ok_joined (P := PySem.Challenge.rw_standlots_k01_whole_things_and_lots.prog) (w := w) (base := base) FJo T
  have GBo := ok_both (P := PySem.Challenge.rw_standlots_k01_whole_things_and_lots.prog) (w := w) (base := base) FBo T
  have GB := ok_begun (P := PySem.Challenge.rw_standlots_k01_whole_things_and_lots.prog) (w := w) (base := base) FB T
  exact ok_law (C := Cx0) FL T { begun := ⟨_, _, GB, gB, kB, bB⟩, next := ⟨_, _, GN, gN, kN, bN⟩, names := ⟨_, _, GNm, gNm, kNm, bNm⟩, things := ⟨_, _, GTh, gTh, kTh, bTh⟩, lots := ⟨_, _, GLo, gLo, kLo, bLo⟩, all := ⟨_, _, GAl, gAl, kAl, bAl⟩, rules := ⟨_, _, GRu, gRu, kRu, bRu⟩, lrules := ⟨_, _, GLr, gLr, kLr, bLr⟩, bent := ⟨_, _, GBe, gBe, kBe, bBe⟩, odd := ⟨_, _, GO, gO, kO, bO⟩, need := ⟨_, _, GNd, gNd, kNd, bNd⟩, asc := ⟨_, _, GAs, gAs, kAs, bAs⟩, joined := ⟨_, _, GJo, gJo, kJo, bJo⟩, without := ⟨_, _, GWo, gWo, kWo, bWo⟩, both := ⟨_, _, GBo, gBo, kBo, bBo⟩, less := ⟨_, _, GLe, gLe, kLe, bLe⟩, islot := ⟨_, _, GIl, gIl, kIl, bIl⟩, gC := (PySem.W.mg_of X G ax0), te := tex0, xf := ⟨gax0, ggx0, Ex0.eb, Ex0.hd⟩, no := nox0 }
end
end Lots

open PySem PySem.W PyProof.Rows in
set_option maxRecDepth 100000 in
set_option maxHeartbeats 0 in
theorem PySem.Challenge.cw_standlots_k01_whole_things_and_lots_holds : PySem.Challenge.rw_standlots_k01_whole_things_and_lots.Holds := by
  w_on; o_law; k_head; (case hw => w_witness2)
  k_fill
  refine Lots.walk_guarded (l := PySem.Challenge.rw_standlots_k01_whole_things_and_lots) (n := 63) (k := 13) (x := "script") (sp := Lots.spLaw) rfl (by decide) rfl ⟨rfl, by decide, by decide⟩ (fun w h Y => PySem.W.kIn_of Y) ?F ?W
  case W => exact fun K H a ns hl _ hS => ⟨a, ns, rfl, trivial, hS, hl, fun _ => rfl⟩
  case F =>
    intro w mg fa h KX G hmg
    refine' Lots.all_mk KX G hmg ?aD ?spD ?rdD ?fcD ?ax0 ?xx0 ?sax0 ?gax0 ?ggx0 ?ccx0 ?kkx0 ?nox0 ?atx0 ?tyx0 ?lx0 ?cx0 ?kx0 ?aP ?lP ?cP ?kP ?aWd ?lWd ?cWd ?kWd ?aRi ?lRi ?cRi ?kRi ?aIt ?lIt ?cIt ?kIt ?aNd ?lNd ?cNd ?kNd ?aIl ?lIl ?cIl ?kIl ?aPl ?lPl ?cPl ?kPl ?aAl ?lAl ?cAl ?kAl ?aJo ?lJo ?cJo ?kJo ?aWo ?lWo ?cWo ?kWo ?aRu ?lRu ?cRu ?kRu ?aB ?lB ?cB ?kB ?aN ?lN ?cN ?kN ?aNm ?lNm ?cNm ?kNm ?aIn ?lIn ?cIn ?kIn ?aO ?lO ?cO ?kO ?aBe ?lBe ?cBe ?kBe ?aLo ?lLo ?cLo ?kLo ?aTh ?lTh ?cTh ?kTh ?aBo ?lBo ?cBo ?kBo ?aLe ?lLe ?cLe ?kLe ?aLr ?lLr ?cLr ?kLr ?aAs ?lAs ?cAs ?kAs ?aL ?lL ?cL ?kL ?at8 ?at5 ?zlen ?zint ?zlist ?zdict ?zisinstance ?zrange ?zrepr ?zsorted ?ztuple ?zset ?zall ?zstr ?zbool ?zenumerate ?zzip ?zmin
    (case aD => k_is)
    (case spD => k_is)
    (case rdD => k_is)
    (case fcD => k_is)
    (case ax0 => k_is)
    (case xx0 => k_is)
    (case sax0 => k_is)
    (case gax0 => k_is)
    (case ggx0 => k_is)
    (case ccx0 => k_is)
    (case kkx0 => k_is)
    (case nox0 => k_is)
    (case atx0 => k_is)
    (case tyx0 => k_is)
    (case lx0 => k_is)
    (case cx0 => k_is)
    (case kx0 => k_is)
    (case aP => k_is)
    (case lP => k_is)
    (case cP => k_is)
    (case kP => k_is)
    (case aWd => k_is)
    (case lWd => k_is)
    (case cWd => k_is)
    (case kWd => k_is)
    (case aRi => k_is)
    (case lRi => k_is)
    (case cRi => k_is)
    (case kRi => k_is)
    (case aIt => k_is)
    (case lIt => k_is)
    (case cIt => k_is)
    (case kIt => k_is)
    (case aNd => k_is)
    (case lNd => k_is)
    (case cNd => k_is)
    (case kNd => k_is)
    (case aIl => k_is)
    (case lIl => k_is)
    (case cIl => k_is)
    (case kIl => k_is)
    (case aPl => k_is)
    (case lPl => k_is)
    (case cPl => k_is)
    (case kPl => k_is)
    (case aAl => k_is)
    (case lAl => k_is)
    (case cAl => k_is)
    (case kAl => k_is)
    (case aJo => k_is)
    (case lJo => k_is)
    (case cJo => k_is)
    (case kJo => k_is)
    (case aWo => k_is)
    (case lWo => k_is)
    (case cWo => k_is)
    (case kWo => k_is)
    (case aRu => k_is)
    (case lRu => k_is)
    (case cRu => k_is)
    (case kRu => k_is)
    (case aB => k_is)
    (case lB => k_is)
    (case cB => k_is)
    (case kB => k_is)
    (case aN => k_is)
    (case lN => k_is)
    (case cN => k_is)
    (case kN => k_is)
    (case aNm => k_is)
    (case lNm => k_is)
    (case cNm => k_is)
    (case kNm => k_is)
    (case aIn => k_is)
    (case lIn => k_is)
    (case cIn => k_is)
    (case kIn => k_is)
    (case aO => k_is)
    (case lO => k_is)
    (case cO => k_is)
    (case kO => k_is)
    (case aBe => k_is)
    (case lBe => k_is)
    (case cBe => k_is)
    (case kBe => k_is)
    (case aLo => k_is)
    (case lLo => k_is)
    (case cLo => k_is)
    (case kLo => k_is)
    (case aTh => k_is)
    (case lTh => k_is)
    (case cTh => k_is)
    (case kTh => k_is)
    (case aBo => k_is)
    (case lBo => k_is)
    (case cBo => k_is)
    (case kBo => k_is)
    (case aLe => k_is)
    (case lLe => k_is)
    (case cLe => k_is)
    (case kLe => k_is)
    (case aLr => k_is)
    (case lLr => k_is)
    (case cLr => k_is)
    (case kLr => k_is)
    (case aAs => k_is)
    (case lAs => k_is)
    (case cAs => k_is)
    (case kAs => k_is)
    (case aL => k_is)
    (case lL => k_is)
    (case cL => k_is)
    (case kL => k_is)
    (case at8 => k_is)
    (case at5 => k_is)
    (case zlen => k_is)
    (case zint => k_is)
    (case zlist => k_is)
    (case zdict => k_is)
    (case zisinstance => k_is)
    (case zrange => k_is)
    (case zrepr => k_is)
    (case zsorted => k_is)
    (case ztuple => k_is)
    (case zset => k_is)
    (case zall => k_is)
    (case zstr => k_is)
    (case zbool => k_is)
    (case zenumerate => k_is)
    (case zzip => k_is)
    (case zmin => k_is)
