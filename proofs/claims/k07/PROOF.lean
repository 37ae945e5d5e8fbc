import PyProof.Rows.All
import Wide.All
import OpenK.AllK
import Wide.FinOn
import HandS.Base
import HandS.Call
import HandS.List
import HandS.Comp
import HandS.Ends
import HandS.Dict
import HandS.Iter
import HandS.Text
import HandS.Words
import HandS.WordsList
import HandS.WordsDict
import HandS.Walk
import HandS.IsInst
import HandS.Defaults
import HandS.Codes
import HandS.More
import HandS.DictComp
import HandS.FStr
import HandS.OwnEq
import HandS.Property
import HandS.Style
import HandS.StrMore
import HandS.Exc
import HandS.ExcOwn
import HandS.ExcInit
import HandS.ExcField
import HandS.ExcIs
import HandS.ExcValue
import HandS.TryOnly
import HandS.WordsExc
import HandS.Wide
import HandS.Star
import HandS.MakeKwOnly
import HandS.MakeKw
import HandS.Finally
import KE.KCallOwn
import KE.KOpsOwn
import PySem.Challenge.RW_oneshard_k07_errors
set_option Elab.async false
set_option linter.all false
set_option maxRecDepth 100000
set_option maxHeartbeats 2000000
namespace OS
open PySem L2
def top (i : Nat) : Stmt := PySem.Challenge.pw_oneshard_k07_errors.main.body.getD i (.Pass ⟨0, 0, 0, 0⟩)
abbrev sBadName_init : Stmt := inClass (top 2) 0
abbrev sDuplicateName_init : Stmt := inClass (top 3) 0
abbrev sUnknownName_init : Stmt := inClass (top 4) 0
abbrev sBadCount_init : Stmt := inClass (top 5) 0
abbrev sOutOfRange_init : Stmt := inClass (top 6) 0
abbrev sBadLine_init : Stmt := inClass (top 7) 0
abbrev sBadLength_init : Stmt := inClass (top 8) 0
abbrev sZeroSum_init : Stmt := inClass (top 9) 0
abbrev sNotPrime_init : Stmt := inClass (top 10) 0
abbrev sNotSure_init : Stmt := inClass (top 11) 0
abbrev sIsSure_init : Stmt := inClass (top 12) 0
abbrev sStart : Stmt := top 15
abbrev sTake : Stmt := top 16
abbrev sSigns : Stmt := top 17
abbrev s_text : Stmt := top 18
abbrev s_kinds : Stmt := top 19
abbrev s_right : Stmt := top 20
abbrev s_thing : Stmt := top 21
abbrev sLaw : Stmt := top 22
end OS
namespace OS
open PySem PySem.Spec PySem.W PySem.Calls PyProof.Rows PySem.HandSPX
open Builtin Builtin.ObjectAttr
section
variable {M : Model} {A : Around} {E : Value → Shared → Prop} {h : Heap} {g : Array GenState} {d : Drawn} {t : Nat} {os : OsState}
variable {nm q : Str} {C N : Addr} {bs bm bmB : List Value} {hdct : Bool} {sn : List Str} {sub : List Value} {ab : Bool} {col : Option Bool} {dd : Option Addr} {k0 k1 k2 k3 k5 : Option Value} {B newId initId : String}
theorem check_new_kw (F : ExcBaseFacts B newId initId bmB) (hT : ∀ X : String, bm.contains (.type X) = bmB.contains (.type X)) {rest : List Value} {kw : List (Str × Value)} {Q : Unit → Shared → Prop}
    (hC : h.get? C = some (excClassObj nm q C N bs bm hdct sn sub ab col dd k0 k1 k2 k3 k5 newId)) (hq : Q () ⟨h, g, d, t, os⟩) : wpAny M A (checkBuiltinCall newId ⟨.ref C :: rest, kw⟩) Q E ⟨h, g, d, t, os⟩ := by
  have hcont : (Value.ref C :: bm).contains (.type B) = true := by rw [List.contains_cons, hT, F.hasB, Bool.or_true]
  have hstar := F.noStar
  simp only [checkBuiltinCall, F.newKind, F.newSplit, F.newRow]
  repeat (first | refine wpAny_loadPart_at hC ?_ | (refine wpAny_isSubtype_exc hC ?_; rw [hcont]) | refine wpAny_staticBase_exc hC ?_ | refine wpAny_madeBy_exc hC ?_ | simp only [bne_self_eq_false, Bool.false_eq_true, if_false] | wp_step)
  exact hq
theorem check_type_kw {rest : List Value} {kw : List (Str × Value)} {Q : Unit → Shared → Prop} (hC : h.get? C = some (excClassObj nm q C N bs bm hdct sn sub ab col dd k0 k1 k2 k3 k5 newId))
    (hq : Q () ⟨h, g, d, t, os⟩) : wpAny M A (checkBuiltinCall "type.__call__" ⟨.ref C :: rest, kw⟩) Q E ⟨h, g, d, t, os⟩ := by
  have f3 := tc_sub
  have hT : (⟨h, g, d, t, os⟩ : Shared).TypeIs (.ref C) "type" := ⟨_, hC, rfl⟩
  simp only [checkBuiltinCall, tc_kind, tc_split]
  repeat (any_goals (first | assumption | with_reducible refine wpAny_loadPart_at hC ?_ | with_reducible refine wpAny_onRaise ?_ | with_reducible refine wpAny_map ?_ | wp_step))
end
section
variable {prog : Program} {w : World} {A : Around} {E : Value → Shared → Prop} {R : Result → Shared → Prop} {h : Heap} {g : Array GenState} {d : Drawn} {t : Nat} {os : OsState}
variable {nm q : Str} {C N : Addr} {bs bm bmB : List Value} {hdct : Bool} {sn : List Str} {sub : List Value} {ab : Bool} {col : Option Bool} {dd : Option Addr} {k0 k1 k2 k3 k5 : Option Value} {B newId initId : String}
theorem new_kw (F : ExcBaseFacts B newId initId bmB) (hT : ∀ X : String, bm.contains (.type X) = bmB.contains (.type X)) {rest : List Value} {kw : List (Str × Value)}
    (hC : h.get? C = some (excClassObj nm q C N bs bm hdct sn sub ab col dd k0 k1 k2 k3 k5 newId))
    (hq : R (.ok (.ret (.ref (h.objs.size + 1)))) ⟨(h.push { cls := .type "tuple", data := .seq rest.toArray }).push
      { cls := .ref C, data := .fields #[.ref h.objs.size, .none, .none, .none, .bool false, .none] }, g, d, t, os⟩) (hrest : rest.length ≤ sizeLine) :
    codeAny (model prog w) A (.builtin newId ⟨.ref C :: rest, kw⟩) R ⟨h, g, d, t, os⟩ := by
  have hends := F.ends
  have hcB : (Value.ref C :: bm).contains (.type B) = true := by rw [List.contains_cons, hT, F.hasB, Bool.or_true]
  have hcA : (Value.ref C :: bm).contains (.type "AttributeError") = false := by rw [List.contains_cons, hT, F.noAttr]; rfl
  have hcN : (Value.ref C :: bm).contains (.type "NameError") = false := by rw [List.contains_cons, hT, F.noName]; rfl
  refine codeAny_builtinAt F.entry ?_
  unfold Builtin.«BaseException.__new__»
  refine PyProof.Rows.wpAt_bind ?_
  show PyProof.Rows.wpAt _ _ _ (stack >>= _) _ _ _
  refine PyProof.Rows.wpAt_bind (PyProof.Rows.wpAt_stack fun p below => wpAt_of_wpAny ?_)
  wp_walk
  refine wpAt_of_wpAny ?_
  rw [F.owner]
  repeat (first | with_reducible refine wpAny_madeHere_exc F.canon hC ?_ | with_reducible refine wpAny_loadPart_at hC ?_ | (with_reducible refine wpAny_isSubtype_exc hC ?_; first | rw [hcB] | rw [hcA] | rw [hcN]) | wp_step)
  show R _ _
  rw [Heap.size_push]
  exact hq
theorem type_call_kw (F : ExcBaseFacts B newId initId bmB) (hT : ∀ X : String, bm.contains (.type X) = bmB.contains (.type X)) {rest : List Value} {kw : List (Str × Value)} {fI : Addr} {Q : Fin → Shared → Prop}
    (hC : h.get? C = some (excClassObj nm q C N bs bm hdct sn sub ab col dd k0 k1 k2 k3 k5 newId))
    (hi : W.Looks (model prog w) h (typeLookup (.ref C) "__init__") (some (.ref fI))) (hb : ∀ self, W.Looks (model prog w) h (bindSpecial (.ref fI) self) (.ref fI, [self])) (hrest : rest.length ≤ sizeLine)
    (hq : codeAny (model prog w) A (.call (.ref fI) ⟨.ref (h.objs.size + 1) :: rest, kw⟩)
      (fun r s' => match r with | .ok (.ret v) => v = .none ∧ Q (.done (.ret (.ref (h.objs.size + 1)))) s' | .ok _ => False | .error e => E e s')
      ⟨(h.push (W.kdv_tup rest)).push (excO C h.objs.size), g, d, t, os⟩) :
    wpAny (model prog w) A (Builtin.«type.__call__» ⟨.ref C :: rest, kw⟩) Q E ⟨h, g, d, t, os⟩ := by
  repeat (first | with_reducible refine wpAny_loadPart_at hC ?_ | with_reducible refine wpAny_madeBy_exc hC ?_ | wp_step)
  refine codeAny_call_builtin_code (Code.quiet_builtin _ F.quiet) (check_new_kw F hT hC ?_)
  refine new_kw F hT hC ?_ hrest
  show wpAny _ _ _ _ _ _
  have k : ∀ b o, h.get? b = some o → ((h.push (W.kdv_tup rest)).push (excO C h.objs.size)).get? b = some o := fun b o e => Heap.get?_push_of_some _ (Heap.get?_push_of_some _ e)
  have hC₁ := k _ _ hC
  have hget : ((h.push (W.kdv_tup rest)).push (excO C h.objs.size)).get? (h.objs.size + 1) = some (excO C h.objs.size) := by heap_get
  have hcC : (Value.ref C :: bm).contains (.ref C) = true := by simp
  have i1 := hi.keeps k
  have b1 := (hb (.ref (h.objs.size + 1))).keeps k
  unfold isInstance
  repeat (first | with_reducible refine wpAny_loadPart_at hget ?_ | (with_reducible refine wpAny_isSubtype_exc hC₁ ?_; rw [hcC]) | wp_step)
  show wpAny _ _ (typeLookup (.ref C) _) _ _ _
  refine i1.at ?_
  refine wpAny_holding (wpAny_bind (b1.at ?_))
  refine wpAny_bind (wpAny_call (codeAny_mono hq fun r s' z => ?_))
  rcases r with e | (v | _ | _ | _) <;> first | exact z | exact z.elim | skip
  obtain ⟨rfl, z⟩ := z
  first
    | exact wpAny_pure (wpAny_pure z)
    | (wp_walk; exact z)
theorem call_own_kw (F : ExcBaseFacts B newId initId bmB) (hT : ∀ X : String, bm.contains (.type X) = bmB.contains (.type X)) {rest : List Value} {kw : List (Str × Value)} {fI : Addr}
    (hC : h.get? C = some (excClassObj nm q C N bs bm hdct sn sub ab col dd k0 k1 k2 k3 k5 newId))
    (hi : W.Looks (model prog w) h (typeLookup (.ref C) "__init__") (some (.ref fI))) (hb : ∀ self, W.Looks (model prog w) h (bindSpecial (.ref fI) self) (.ref fI, [self])) (hrest : rest.length ≤ sizeLine)
    (hq : codeAny (model prog w) (A.under (.builtin "type.__call__" ⟨.ref C :: rest, kw⟩)) (.call (.ref fI) ⟨.ref (h.objs.size + 1) :: rest, kw⟩) (W.InitBack (h.objs.size + 1) R)
      ⟨(h.push (W.kdv_tup rest)).push (excO C h.objs.size), g, d, t, os⟩) :
    codeAny (model prog w) A (.call (.ref C) ⟨rest, kw⟩) R ⟨h, g, d, t, os⟩ := by
  have f1 := tc_lookup
  have f2 := tc_bind (.ref C)
  have hTy : (⟨h, g, d, t, os⟩ : Shared).TypeIs (.ref C) "type" := ⟨_, hC, rfl⟩
  refine codeAny_of_tree ?_
  show wpAny _ _ (callAny (.ref C) _) _ _ _
  repeat (any_goals (first | assumption | with_reducible refine wpAny_loadPart_at hC ?_ | wp_step))
  refine ⟨rfl, ?_⟩
  refine codeAny_call_builtin_at (Code.quiet_builtin _ (by decide +kernel)) entry_typeCall (check_type_kw hC (type_call_kw F hT hC hi hb hrest ?_))
  refine codeAny_mono hq fun r s' z => ?_
  rcases r with e | (v | _ | _ | _) <;> exact z
end
end OS
namespace OS
open PySem PySem.Spec PySem.Calls PyProof.Rows PySem.W
section
variable {prog : Program} {w : World} {A : Around} {E : Value → Shared → Prop} {s : Shared} {K : Frag} {x D : Addr} {ox od : Obj}
/-- e.__class__ of an error that has its own dict -/
theorem class_of_err {Q : Option Value → Shared → Prop} (hga : findIn K (.ref D) "__getattribute__" = some (some (.builtin "BaseException.__getattribute__"))) (hgt : findIn K (.ref D) "__getattr__" = some none) (hsub : subIn K (.ref D) (.type "BaseException") = some true)
    (hdct : hasDictIn K D = true) (ha : findIn K (.ref D) "__class__" = some (some (.builtin "object.__class__")))
    (hn : specialIn K (.builtin "object.__class__") "__get__" = some (some (.builtin "getset_descriptor.__get__"))) (htk : takesIn K (.builtin "object.__class__") = some true) (hm : mroIn K D (.type "object") = some true)
    (X : K.In s.heap) (I : InstAt s.heap x ox D (some od)) (h : Q (some (.ref D)) { s with toks := s.toks + 1 }) : wpAny (model prog w) A (getAttr? (.ref x) "__class__") Q E s := by
  have hf : findObj K D (some od) "__class__" = some (.bind (.builtin "getset_descriptor.__get__") (.builtin "object.__class__")) := findObj_data (by obtain ⟨cd, hc, _⟩ := any_some hdct; rw [hc]; rfl) ha hn htk
  obtain ⟨hp, g, d, t, os⟩ := s
  have L0 := I.type (M := model prog w)
  have L1 := looks_findIn (M := model prog w) X hga
  have L2 := looks_findIn (M := model prog w) X hgt
  have L3 := looks_find (M := model prog w) X I hf
  have sub : Looks (model prog w) hp (isInstance (.ref x) (.type "BaseException")) true := L0.andThen (looks_subIn X hsub)
  have hx0 : (false && onTheHeap (Value.builtin "BaseException.__getattribute__")) = false := rfl
  have hx2 : (Value.builtin "BaseException.__getattribute__" == Value.builtin "object.__getattribute__") = false := by decide +kernel
  have hx1 : (onTheHeap (Value.ref D) && Value.builtin "BaseException.__getattribute__" == Value.builtin "object.__getattribute__") = false := by rw [hx2]; rfl
  unfold getAttr? getAttrBy? getAttrBy
  refine wpAny_bind (wpAny_mkText (wpAny_bind (wpAny_attempt (wpAny_holding (wpAny_bind (L0.at (wpAny_bind (L1.at ?_))))))))
  show wpAny _ _ (if (onTheHeap (Value.ref D) && Value.builtin "BaseException.__getattribute__" == Value.builtin "object.__getattribute__") = true then _ else _) _ _ _
  rw [hx1, if_neg Bool.false_ne_true]
  unfold getAttrByItsOwn hookBefore
  refine wpAny_bind ?_
  rw [if_pos (show onTheHeap (Value.ref D) = true from rfl)]
  refine L2.at ?_
  refine wpAny_bind (wpAny_attempt (wpAny_holding ?_))
  unfold callGetattribute
  rw [hx0, if_neg Bool.false_ne_true]
  unfold boundAndCalled
  rw [PySem.F.excAttr_ValueError.ga.bind (.ref x)]
  refine wpAny_bind (wpAny_pure ?_)
  show wpAny _ _ (call (.builtin "BaseException.__getattribute__") [.ref x, .str "__class__" t]) _ _ _
  refine wpAny_call (codeAny_call_builtin PySem.F.excAttr_ValueError.ga.plain PySem.F.entry_bexc_ga ?_)
  refine @check_slot (model prog w) _ _ ⟨hp, g, d, t + 1, os⟩ "BaseException.__getattribute__" "BaseException" "__getattribute__" (.ref x) [.str "__class__" t] [] _ (by decide +kernel) (by decide +kernel) sub (PySem.F.args_bexc_ga (.ref x) (.str "__class__" t)) ?_
  unfold Builtin.«object.__getattribute__»
  refine wpAny_bind (wpAny_of_eq (a := ((Value.ref x : Value), [Value.str "__class__" t])) (by first | rfl | (simp only [slotArgs]; rfl)) ?_)
  refine wpAny_bind (wpAny_pure (wpAny_bind (L0.at (wpAny_bind (L3.at ?_)))))
  show wpAny _ _ (holding [Value.builtin "object.__class__"] (call (.builtin "getset_descriptor.__get__") [.builtin "object.__class__", .ref x, .ref D]) >>= ret) _ _ _
  refine wpAny_bind (wpAny_holding (wpAny_call (class_get (s := ⟨hp, g, d, t + 1, os⟩) (ox := ox) (od := some od) X I hm ?_)))
  refine wpAny_pure ?_
  show wpAny _ _ (handedOut (.ref D)) _ _ _
  rw [handedOut_of (v := .ref D) rfl]
  first
    | exact wpAny_pure (wpAny_pure h)
    | exact wpAny_pure h
    | exact wpAny_pure (wpAny_bind (wpAny_pure (wpAny_pure h)))
theorem kit_err (hga : findIn K (.ref D) "__getattribute__" = some (some (.builtin "BaseException.__getattribute__"))) (hgt : findIn K (.ref D) "__getattr__" = some none) (hsub : subIn K (.ref D) (.type "BaseException") = some true) (hdct : hasDictIn K D = true) (ha : findIn K (.ref D) "__class__" = some (some (.builtin "object.__class__")))
    (hn : specialIn K (.builtin "object.__class__") "__get__" = some (some (.builtin "getset_descriptor.__get__"))) (htk : takesIn K (.builtin "object.__class__") = some true) (hm : mroIn K D (.type "object") = some true) :
    KitX K (.ref x) (.ref D) (fun h => InstAt h x ox D (some od)) where
  ty := fun _ _ _ I => I.type
  it := fun _ _ X _ => by
    obtain ⟨cdD, hcD, _⟩ := any_some hdct
    unfold clsIn at hcD
    split at hcD
    · rename_i c' d' cd' sl' ho
      intro A' Q' E' s' k q
      unfold isType loadHead
      exact wpAny_bind (wpAny_loadPart (k _ _ (X _ _ ho)) (wpAny_pure q))
    · cases hcD
  ne := (handS_kitx_exc (x := x) (ox := ox) hga hgt hsub hdct ha hn htk hm).ne
  ca := fun X I k => class_of_err hga hgt hsub hdct ha hn htk hm X I k
end
end OS
namespace OS
open PySem L2 PySem.Spec PyProof.Rows
section
variable {X : Cx} {CX : CXT} {k n : Nat} {fI C : Addr} {fd : FuncData} {ps ks : List Str} {sp : Sp} {x : Str} {p pos : Pos} {e : Expr} {es : List Expr} {kws : List Keyword} {t tk : TA} {ds : List Value} {dvs : List V} {g : List Value → List Value → List Value} {gV : List V → List V → List V}
/-- C(e, ..), an own error with its own __init__, held as a value -/
def tMkV (C : Addr) (sp : Sp) (dvs : List V) (ta : TA) : TE := fun σ H Q => ta σ H fun vs H1 => vs.length ≤ 1000 ∧ ∀ a, H1 a = none → sp (.ref a :: (vs ++ dvs)) (L2.upd H1 a (exo a C none)) (fun v H2 => v = .non ∧ Q (.ref a) H2) (fun _ _ _ => False)
theorem pe_oex (T : OexC X.K C) (iC : PySem.W.findIn X.K (.ref C) "__init__" = some (some (.ref fI))) (tI : PySem.W.typeIn X.K (.ref fI) = some (.type "function"))
    (F1 : FnOk X.prog X.w X.K X.mg X.base CX k fI fd ps sp) (hr : Room (k + 1) X.A) (hb : Binds X.K fd ps ds) (hd : Vals dvs ds) (hx : Passes CX X (fun _ _ _ => False)) (hg : Gl X x) (hm : X.mg x = some (.ref C)) (ha : PA X (e :: es) t)
    (hdb : (x == ("__debug__" : Str)) = false := by decide) (he : starEach (e :: es) X.env = (false, eval e X.env) :: starEach es X.env := by rfl) (hpl : (backTo pos (starEach es X.env)).any (·.1) = false := by rfl) :
    PE X (.Call (.Name x p) (e :: es) [] pos) (tMkV C sp dvs t) := by
  refine ⟨fun pins s σ H Q I h => ?_⟩
  obtain ⟨nm, q, N, bs, bm, sn, sub, ab, col, dd, k0, k1, k2, k3, k5, hC, hbm⟩ := T.cls
  refine wpAny_Call_Name_kw (ld_glob I hg hm ?_ hdb)
  refine PySem.W.callWith_K (h₀ := X.base) I.ok.mod.kin T.kC (thn (ha.run pos pins s σ H _ I h) fun us s1 ⟨vs, H1, I1, r1, hz, q1⟩ => ⟨I1.kIn, ?_⟩) he hpl
  show wpAny _ _ (call (.ref C) us) _ _ _
  obtain ⟨hp, g, dr, tk, os⟩ := s1
  have hsz : hp.objs.size ≤ hp.objs.size + 1 := Nat.le_succ _
  have hn : H1 (hp.objs.size + 1) = none := I1.hok.fresh hsz
  have hq := q1 (hp.objs.size + 1) hn
  have kk : ∀ b o, hp.get? b = some o → ((hp.push (PySem.W.kdv_tup us)).push (PySem.HandSPX.excO C hp.objs.size)).get? b = some o := fun b o e => Heap.get?_push_of_some _ (Heap.get?_push_of_some _ e)
  have hget : ((hp.push (PySem.W.kdv_tup us)).push (PySem.HandSPX.excO C hp.objs.size)).get? (hp.objs.size + 1) = some (PySem.HandSPX.excO C hp.objs.size) := by heap_get
  have I2 : Inv X pins σ (L2.upd H1 (hp.objs.size + 1) (exo (hp.objs.size + 1) C none)) ⟨(hp.push (PySem.W.kdv_tup us)).push (PySem.HandSPX.excO C hp.objs.size), g, dr, tk, os⟩ :=
    I1.laid (t' := tk) (a := hp.objs.size + 1) (o := exo (hp.objs.size + 1) C none) (h' := (hp.push (PySem.W.kdv_tup us)).push (PySem.HandSPX.excO C hp.objs.size)) kk hsz (exo_ok hget)
  have r2 : Vals (V.ref (hp.objs.size + 1) :: (vs ++ dvs)) (Value.ref (hp.objs.size + 1) :: (us ++ ds)) := .cons rfl (r1.append hd)
  have hl : (Value.ref (hp.objs.size + 1) :: us ++ ds).length = ps.length := by
    have e := r2.length
    rw [F1.len _ _ _ _ hq] at e
    exact e.symm
  have hus : us.length ≤ sizeLine := by
    rw [← Paired.length r1, sizeLine_eq]
    omega
  refine wpAny_call (PySem.HandSPX.call_own F.excBase_ValueError (fun Y => PySem.HandSPX.refsVE_contains Y bm hbm) (I1.kIn _ _ hC) (PySem.W.looks_findIn I1.kIn iC) (fun self => PySem.W.bind_fn I1.kIn self tI) hus
    (codeAny_mono (F1.run _ X.stack _ _ ⟨Value.ref (hp.objs.size + 1) :: us, []⟩ (Value.ref (hp.objs.size + 1) :: (us ++ ds)) _ _ (fun _ _ _ => False) (hr.make C us []) (I2.env0.make C us []) (hb _ (Value.ref (hp.objs.size + 1) :: us) I2.kIn hl) r2 hq) fun r s' hq' => ?_))
  cases r with
  | error er => exact hx pins σ _ _ er s' I2 hq'
  | ok fl =>
    cases fl with
    | ret u =>
      obtain ⟨v, H', I3, rv, ev, q3⟩ := I2.after hq'
      subst ev
      exact ⟨rv, ⟨V.ref (hp.objs.size + 1), H', I3, rfl, q3⟩⟩
    | next => exact False.elim hq'
    | brk => exact False.elim hq'
    | cont => exact False.elim hq'
theorem run_oexK {pins : List (Addr × Obj)} {σ : L2.St} {H1 : Hp} {s1 : Shared} {Q : VK} {us ws : List Value} {vs zs : List V} (T : OexC X.K C) (iC : PySem.W.findIn X.K (.ref C) "__init__" = some (some (.ref fI))) (tI : PySem.W.typeIn X.K (.ref fI) = some (.type "function"))
    (F1 : FnOk X.prog X.w X.K X.mg X.base CX k fI fd ps sp) (hr : Room (k + 1) X.A) (hb : KBn X.K fd ps (n + 1) ks g gV) (hx : Passes CX X (fun _ _ _ => False)) (I1 : Inv X pins σ H1 s1) (r1 : Vals vs us) (rz : Vals zs ws) (l1 : vs.length = n) (l2 : zs.length = ks.length) (hz : vs.length ≤ 1000)
    (q1 : ∀ a, H1 a = none → sp (gV (.ref a :: vs) zs) (L2.upd H1 a (exo a C none)) (fun v H2 => v = .non ∧ Q (.ref a) H2) (fun _ _ _ => False)) :
    wpAny (model X.prog X.w) X.A (call (.ref C) us (ks.zip ws)) (EP X pins σ Q) X.xe s1 := by
  obtain ⟨nm, q, N, bs, bm, sn, sub, ab, col, dd, k0, k1, k2, k3, k5, hC, hbm⟩ := T.cls
  obtain ⟨hp, g', dr, tk, os⟩ := s1
  have hsz : hp.objs.size ≤ hp.objs.size + 1 := Nat.le_succ _
  have hn : H1 (hp.objs.size + 1) = none := I1.hok.fresh hsz
  have hq := q1 (hp.objs.size + 1) hn
  have kk : ∀ b o, hp.get? b = some o → ((hp.push (PySem.W.kdv_tup us)).push (PySem.HandSPX.excO C hp.objs.size)).get? b = some o := fun b o e => Heap.get?_push_of_some _ (Heap.get?_push_of_some _ e)
  have hget : ((hp.push (PySem.W.kdv_tup us)).push (PySem.HandSPX.excO C hp.objs.size)).get? (hp.objs.size + 1) = some (PySem.HandSPX.excO C hp.objs.size) := by heap_get
  have I2 : Inv X pins σ (L2.upd H1 (hp.objs.size + 1) (exo (hp.objs.size + 1) C none)) ⟨(hp.push (PySem.W.kdv_tup us)).push (PySem.HandSPX.excO C hp.objs.size), g', dr, tk, os⟩ :=
    I1.laid (t' := tk) (a := hp.objs.size + 1) (o := exo (hp.objs.size + 1) C none) (h' := (hp.push (PySem.W.kdv_tup us)).push (PySem.HandSPX.excO C hp.objs.size)) kk hsz (exo_ok hget)
  have r0 : Vals (V.ref (hp.objs.size + 1) :: vs) (Value.ref (hp.objs.size + 1) :: us) := .cons rfl r1
  have r2 := hb.rel r0 rz
  have n1 : (Value.ref (hp.objs.size + 1) :: us).length = n + 1 := by
    rw [List.length_cons, ← r1.length, l1]
  have hus : us.length ≤ sizeLine := by
    rw [← Paired.length r1, sizeLine_eq]
    omega
  refine wpAny_call (call_own_kw F.excBase_ValueError (fun Y => PySem.HandSPX.refsVE_contains Y bm hbm) (I1.kIn _ _ hC) (PySem.W.looks_findIn I1.kIn iC) (fun self => PySem.W.bind_fn I1.kIn self tI) hus
    (codeAny_mono (F1.run _ X.stack _ _ ⟨Value.ref (hp.objs.size + 1) :: us, ks.zip ws⟩ (g (Value.ref (hp.objs.size + 1) :: us) ws) _ _ (fun _ _ _ => False) (hr.make C us (ks.zip ws)) (I2.env0.make C us (ks.zip ws))
      (hb.to _ (Value.ref (hp.objs.size + 1) :: us) ws I2.kIn n1 (rz.length.symm.trans l2)) r2 hq) fun r s' hq' => ?_))
  cases r with
  | error er => exact hx pins σ _ _ er s' I2 hq'
  | ok fl =>
    cases fl with
    | ret u =>
      obtain ⟨v, H', I3, rv, ev, q3⟩ := I2.after hq'
      subst ev
      exact ⟨rv, ⟨V.ref (hp.objs.size + 1), H', I3, rfl, q3⟩⟩
    | next => exact False.elim hq'
    | brk => exact False.elim hq'
    | cont => exact False.elim hq'
def tMkVK (C : Addr) (n m : Nat) (sp : Sp) (gV : List V → List V → List V) (t tk : TA) : TE := fun σ H Q => t σ H fun vs H1 => tk σ H1 fun zs H2 => vs.length = n ∧ zs.length = m ∧ n ≤ 1000 ∧
  ∀ a, H2 a = none → sp (gV (.ref a :: vs) zs) (L2.upd H2 a (exo a C none)) (fun v H3 => v = .non ∧ Q (.ref a) H3) (fun _ _ _ => False)
theorem pe_oexK0 (T : OexC X.K C) (iC : PySem.W.findIn X.K (.ref C) "__init__" = some (some (.ref fI))) (tI : PySem.W.typeIn X.K (.ref fI) = some (.type "function"))
    (F1 : FnOk X.prog X.w X.K X.mg X.base CX k fI fd ps sp) (hr : Room (k + 1) X.A) (hb : KBn X.K fd ps 1 ks g gV) (hx : Passes CX X (fun _ _ _ => False)) (hg : Gl X x) (hm : X.mg x = some (.ref C)) (hkw : PK X kws tk)
    (hall : (backToKw pos (keywordEach kws X.env)).all (·.1.isSome) = true := by rfl) (hks : (backToKw pos (keywordEach kws X.env)).filterMap (·.1) = ks := by rfl) (hdb : (x == ("__debug__" : Str)) = false := by decide)
    (hpl : ((backTo pos (starEach [] X.env)).any (·.1) || (backToKw pos (keywordEach kws X.env)).any (·.1.isNone)) = false := by rfl) :
    PE X (.Call (.Name x p) [] kws pos) (tMkVK C 0 ks.length sp gV tNil tk) := by
  refine ⟨fun pins s σ H Q I h => ?_⟩
  refine wpAny_Call_Name_kw (ld_glob I hg hm ?_ hdb)
  refine PySem.W.callWith_KW0 (h₀ := X.base) I.ok.mod.kin T.kC hall ?_ hpl
  refine thn (hkw.run pos pins s σ H _ I h) fun ws s2 ⟨zs, H2, I2, rz, l1, l2, lz, q2⟩ => ⟨I2.kIn, ?_⟩
  rw [hks]
  exact run_oexK (n := 0) (us := []) (vs := []) T iC tI F1 hr hb hx I2 .nil rz rfl l2 (by decide) q2
theorem pe_oexK (T : OexC X.K C) (iC : PySem.W.findIn X.K (.ref C) "__init__" = some (some (.ref fI))) (tI : PySem.W.typeIn X.K (.ref fI) = some (.type "function"))
    (F1 : FnOk X.prog X.w X.K X.mg X.base CX k fI fd ps sp) (hr : Room (k + 1) X.A) (hb : KBn X.K fd ps (n + 1) ks g gV) (hx : Passes CX X (fun _ _ _ => False)) (hg : Gl X x) (hm : X.mg x = some (.ref C)) (ha : PA X (e :: es) t) (hkw : PK X kws tk)
    (hall : (backToKw pos (keywordEach kws X.env)).all (·.1.isSome) = true := by rfl) (hks : (backToKw pos (keywordEach kws X.env)).filterMap (·.1) = ks := by rfl) (hdb : (x == ("__debug__" : Str)) = false := by decide)
    (he : starEach (e :: es) X.env = (false, eval e X.env) :: starEach es X.env := by rfl) (hpl : ((backTo pos (starEach (e :: es) X.env)).any (·.1) || (backToKw pos (keywordEach kws X.env)).any (·.1.isNone)) = false := by rfl) :
    PE X (.Call (.Name x p) (e :: es) kws pos) (tMkVK C n ks.length sp gV t tk) := by
  refine ⟨fun pins s σ H Q I h => ?_⟩
  refine wpAny_Call_Name_kw (ld_glob I hg hm ?_ hdb)
  refine PySem.W.callWith_KW (h₀ := X.base) I.ok.mod.kin T.kC hall (thn (ha.run pos pins s σ H _ I h) fun us s1 ⟨vs, H1, I1, r, q⟩ => ?_) hpl he
  refine thn (hkw.run pos pins s1 σ H1 _ I1 q) fun ws s2 ⟨zs, H2, I2, rz, l1, l2, lz, q2⟩ => ⟨I2.kIn, ?_⟩
  rw [hks]
  exact run_oexK T iC tI F1 hr hb hx I2 r rz l1 l2 (by omega) q2
/-- X(), an own error without own __init__, as a value -/
theorem pe_exc0 {bmB : List Value} {B newId initId : String} (F : ExcBaseFacts B newId initId bmB) (q : PySem.W.excIn X.K C bmB newId = true) (gC : X.mg x = some (.ref C)) (kC : PySem.W.keepIn X.K (.ref C) = true) (hg : Gl X x)
    (hdb : (x == ("__debug__" : Str)) = false := by decide) :
    PE X (.Call (.Name x p) [] [] pos) (fun σ H Q => ∀ a, H a = none → Q (.ref a) (L2.upd H a (ExO (.ref C) a))) := by
  refine ⟨fun pins s σ H Q I h => ?_⟩
  refine wpAny_Call_Name_kw (ld_glob I hg gC ?_ hdb)
  refine PySem.W.callWith_K0 I.kIn kC ?_
  show wpAny _ _ (call (.ref C) []) _ _ _
  obtain ⟨bm, N, nm, qn, bs, hdct, sn, sub, ab, col, dd, k0, k1, k2, k3, k5, mN, hC, hN, hni, T⟩ := exc_obj I.kIn q
  refine wpAny_call_exc_subT F T hC hN hni (fun h' a hm => ?_) (by show 0 ≤ sizeLine; exact Nat.zero_le _)
  have hn : H a = none := I.hok.gone hm.new
  obtain ⟨t, ht, _, _⟩ := hm.there
  exact ⟨.ref a, L2.upd H a (ExO (.ref C) a), I.laidN hm.keeps hm.new hn (exO_ok ht ⟨rfl, rfl⟩ rfl rfl rfl (show 4 < 6 by decide)), rfl, h a hn⟩
/-- e.f of such a value -/
def tXv (C : Addr) (f : Str) (te : TE) : TE := fun σ H Q => te σ H fun x H1 => ∃ (a dd : Addr) (fs : List (Str × V)) (v : V), x = .ref a ∧ H1 a = some (exo a C (some dd)) ∧ H1 dd = some (exd dd fs) ∧ fs.lookup f = some v ∧ Q v H1
theorem pe_xv {e : Expr} {te : TE} {f : Str} (T : XfC X.K C) (hno : PySem.W.findIn X.K (.ref C) f = some none) (he : PE X e te) (hb : attributeBase e f X.env (eval e X.env) = eval e X.env := by rfl) : PE X (.Attribute e f pos) (tXv C f te) := by
  refine ⟨fun pins s σ H Q I h => ?_⟩
  refine attr_of hb (thn (he.run pins s σ H _ I h) fun u s1 hh => ?_)
  obtain ⟨x, H1, I1, rx, a, dd, fs, v, ex, ea, ed, l, q⟩ := hh
  subst ex
  obtain rfl : u = Value.ref a := rx
  obtain ⟨t1, ha⟩ := exo_at I1.hok ea
  obtain ⟨mA, hns, hr⟩ := exd_at I1.hok ed
  obtain ⟨od, ho, hl⟩ := lookIn_ns hns
  obtain ⟨u, hu, ru⟩ := RelO.some_of (v := v) (o := mA f) (by rw [← l]; exact hr f)
  have J : PySem.W.InstAt s1.heap a _ C (some od) := ⟨ha, rfl, rfl, ho⟩
  exact HandSPX.exc_get I1.kIn J T.ga T.gg T.exC (PySem.W.findObj_own T.hdC hno rfl (by rw [hl, hu])) (handed_of ru) ⟨v, H1, I1.tok _, ru, q⟩
/-- isinstance of such a value -/
def ErrV (H : Hp) (a D : Addr) : Prop := (∃ dd fs, H a = some (exo a D (some dd)) ∧ H dd = some (exd dd fs)) ∨ H a = some (ExO (.ref D) a)
def rIsV (K : PySem.W.Frag) : List V → Hp → VK → Prop := fun xs H Q => ∃ (a D : Addr) (c : V) (cv : Value) (b : Bool), xs = [.ref a, c] ∧ ErrV H a D ∧ ExcC K D ∧ (∀ u, RelV c u → u = cv) ∧ PySem.W.kitOne K (.ref D) cv = some b ∧ Q (.bl b) H
theorem call_isV : CallR X (.builtin "isinstance") (rIsV X.K) := by
  intro pins s σ H xs us Q I r h
  obtain ⟨a, D, c, cv, b, rfl, ev, C, hcv, e, q⟩ := h
  cases r with
  | cons rx rr =>
    cases rr with
    | cons rt rr =>
      cases rr
      cases rx
      have ec := hcv _ rt
      subst ec
      rcases ev with ⟨dd, fs, ea, ed⟩ | ea
      · obtain ⟨t1, ha⟩ := exo_at I.hok ea
        obtain ⟨mA, hns, hr⟩ := exd_at I.hok ed
        obtain ⟨od, ho, hl⟩ := lookIn_ns hns
        have J : PySem.W.InstAt s.heap a _ D (some od) := ⟨ha, rfl, rfl, ho⟩
        exact PySem.W.kia_one (kit_err C.hg C.hk C.hs C.hd C.ha C.hn C.ht C.hm) I.kIn J e (fun z => nomatch z) fun tk => ⟨.bl b, H, I.kept (t' := tk) fun _ _ z => z, rfl, q⟩
      · obtain ⟨⟨oe, vs, ho, hz, hd, h1, _⟩, _, _⟩ := I.hok a _ ea
        have J : PySem.W.InstAt s.heap a oe D none := by
          obtain ⟨oc, od, oda, osl⟩ := oe
          obtain ⟨h1, h2⟩ := hz
          dsimp only at h1 h2 hd
          subst h1 h2 hd
          exact ⟨ho, rfl, rfl, trivial⟩
        exact PySem.W.kia_one (PySem.W.handS_kitx_exc C.hg C.hk C.hs C.hd C.ha C.hn C.ht C.hm) I.kIn J e (fun z => nomatch z) fun tk => ⟨.bl b, H, I.kept (t' := tk) fun _ _ z => z, rfl, q⟩
end
end OS
namespace OS
open PySem L2
/-- but for st and cl all that was tracked is as it was -/
def Kb (st cl : Addr) (H H' : Hp) : Prop := ∀ b o, H b = some o → b ≠ st → b ≠ cl → H' b = some o
/-- the drawing state: its cells at cl, at most m draws so far -/
structure StAt (H : Hp) (st cl : Addr) (m : Nat) : Prop where
  ob : ∃ p c : Int, H st = some (.lst [.ref cl, .int p, .int c]) ∧ 0 ≤ c ∧ c ≤ m
  cs : ∃ ns : List Int, H cl = some (.lst (ns.map V.int)) ∧ ns.length ≤ 63
  ne : st ≠ cl
structure Bi (mg : Str → Option Value) : Prop where
  len : mg "len" = none
  int : mg "int" = none
  max : mg "max" = none
  abs : mg "abs" = none
def spTake : Sp := fun vs H Q _ => ∃ (st cl : Addr) (m : Nat) (lim : Int), vs = [.ref st, .int lim] ∧ StAt H st cl m ∧ m ≤ 1000000000 ∧ 0 < lim ∧ lim < 1073741824 ∧
  ∀ (n : Int) (H' : Hp), 0 ≤ n → n < lim → StAt H' st cl (m + 1) → Kb st cl H H' → Q (.int n) H'
theorem fmod_in {i j : Int} (h : 0 < j) : 0 ≤ i.fmod j ∧ i.fmod j < j := ⟨Int.fmod_nonneg_of_pos _ h, Int.fmod_lt_of_pos _ h⟩
theorem getD_int {ns : List Int} {k : Int} (h0 : 0 ≤ k) (h1 : k < (ns.length : Int)) : ∃ z : Int, (ns.map V.int)[k.toNat]? = some (V.int z) ∧ ns[k.toNat]? = some z := by
  have hk : k.toNat < ns.length := by omega
  refine ⟨ns[k.toNat], ?_, List.getElem?_eq_getElem hk⟩
  rw [List.getElem?_map, List.getElem?_eq_getElem hk]
  rfl
theorem ixN_in {n : Nat} {k : Int} (h0 : 0 ≤ k) (h1 : k < (n : Int)) : ixN n k = some k.toNat := by
  unfold ixN
  rw [if_pos h0, if_pos h1]
theorem atI_in {α : Type} {xs : List α} {k : Int} {v : α} (h0 : 0 ≤ k) (h : xs[k.toNat]? = some v) : atI xs k = some v := by
  have := atI_nat h
  rwa [Int.toNat_of_nonneg h0] at this
section
variable {P : Program} {w : World} {K : PySem.W.Frag} {mg : Str → Option Value} {base : Heap}
abbrev nTake : List Str := ["_law_state", "_law_limit", "_law_cells", "_law_at", "_law_cell", "_law_number"]
theorem scTake : FnScope nTake ["_law_state", "_law_limit"] (defScope sTake) := ⟨rfl, rfl, rfl, by decide +kernel, rfl, by decide +kernel, by decide +kernel⟩
theorem ok_take {f : Addr} {fd : FuncData} (F : Fun K "_law_take" "_law_take" sTake f fd) (T : Bi mg) : FnOk P w K mg base CX0 1 f fd ["_law_state", "_law_limit"] spTake := by
  refine F.ok scTake (fun vs H Q E h => ?_) (fun cdv A outer s H vs Q E hr h => ?_)
  · obtain ⟨st, cl, m, lim, rfl, _⟩ := h
    rfl
  · obtain ⟨st, cl, m, lim, rfl, S, hm, hl0, hl1, k⟩ := h
    obtain ⟨⟨p, c, hst, hc0, hc1⟩, ⟨ns, hcl, hn⟩, hne⟩ := S
    refine ⟨_, pss_cons (ps_set (i := 2) scTake.nd rfl (Or.inl rfl) (pe_ix ix_list (pv 0) pe_int fun _ _ => rfl))
      (pss_cons (ps_asg (pe_op op_add (pe_ix ix_list (pv 0) pe_int fun _ _ => rfl) pe_int) (pg_sub (pv 0) pe_int set_list))
      (pss_cons (ps_set (i := 3) scTake.nd rfl (Or.inl rfl) (pe_op op_modN (pe_callTy call_int1 (by rfl) T.int (by decide +kernel) (pa_cons (pe_ix ix_list (pv 0) pe_int fun _ _ => rfl) pa_nil))
          (pe_callB (call_max2 rfl) (by rfl) T.max (by decide +kernel) (pa_cons pe_int (pa_cons (pe_callB call_len_seq (by rfl) T.len PySem.boot_len (pa_cons (pv 2) pa_nil)) pa_nil)))))
      (pss_cons (ps_set (i := 4) scTake.nd rfl (Or.inl rfl) pe_int)
      (pss_cons (ps_if (pt_truth (pv 2) (by intro _; rfl)) (pss_one (ps_set (i := 4) scTake.nd rfl (Or.inl rfl) (pe_ix ix_list (pv 2) (pv 3) fun _ _ => rfl))) pss_nil)
      (pss_cons (ps_if (pt_cmpR op_ge (pe_callB call_abs (by rfl) T.abs (by decide +kernel) (pa_cons (pv 4) pa_nil)) (pe_op op_pow pe_int pe_int) (nomark _))
        (pss_cons (ps_asg (pe_op op_fdivN (pe_callB call_abs (by rfl) T.abs (by decide +kernel) (pa_cons (pv 4) pa_nil)) (pv 1)) (pg_sub (pv 2) (pv 3) set_list))
          (pss_one (ps_ret (pe_op op_modN (pe_callB call_abs (by rfl) T.abs (by decide +kernel) (pa_cons (pv 4) pa_nil)) (pv 1))))) pss_nil)
      (pss_cons (ps_asg (pe_op op_add (pe_ix ix_list (pv 0) pe_int fun _ _ => rfl) pe_int) (pg_sub (pv 0) pe_int set_list))
      (pss_cons (ps_set (i := 5) scTake.nd rfl (Or.inl rfl) (pe_op op_modN (pe_op op_pow (pe_callTy call_int1 (by rfl) T.int (by decide +kernel) (pa_cons (pe_op op_add (pe_op op_add (pe_op op_mul (pe_op op_modN (pe_callTy call_int1 (by rfl) T.int (by decide +kernel) (pa_cons (pv 4) pa_nil)) pe_int) pe_int) (pe_op op_mul (pe_ix ix_list (pv 0) pe_int fun _ _ => rfl) pe_int)) pe_int) pa_nil)) pe_int) pe_int))
      (pss_cons (ps_set (i := 5) scTake.nd rfl (Or.inl rfl) (pe_op op_modN (pe_op op_pow (pe_callTy call_int1 (by rfl) T.int (by decide +kernel) (pa_cons (pe_op op_add (pe_op op_add (pe_op op_mul (pv 5) pe_int) (pe_op op_mul (pe_ix ix_list (pv 0) pe_int fun _ _ => rfl) pe_int)) pe_int) pa_nil)) pe_int) pe_int))
      (pss_one (ps_ret (pe_op op_modN (pe_op op_fdivN (pv 5) pe_int) (pv 1)))))))))))), ?_⟩
    have a0 : atI [V.ref cl, V.int p, V.int c] 0 = some (V.ref cl) := rfl
    refine ⟨_, rfl, st, _, _, _, rfl, rfl, SqL.of hst, a0, ?_⟩
    -- state[2] = state[2] + 1
    refine ⟨_, rfl, st, _, _, V.int c, rfl, rfl, SqL.of hst, rfl, _, _, rfl, rfl, ?_⟩
    refine ⟨_, rfl, st, _, _, 2, rfl, rfl, hst, rfl, ?_⟩
    have h1 : ∀ o, (upd H st o) cl = some (.lst (ns.map V.int)) := fun o => by rw [upd_ne hne.symm]; exact hcl
    -- at = int(state[1]) % max(1, len(cells))
    refine ⟨_, rfl, st, _, _, V.int p, rfl, rfl, SqL.of upd_same, rfl, .inl ⟨_, rfl, ?_⟩⟩
    refine ⟨_, rfl, cl, ns.map V.int, rfl, .inl (SqL.of (h1 _)), _, _, rfl, ?_⟩
    have hL : (((ns.map V.int).length : Nat) : Int) = (ns.length : Int) := by rw [List.length_map]
    rw [hL]
    have hmx : ∃ mx : Int, (if (ns.length : Int) > 1 then (ns.length : Int) else 1) = mx ∧ 0 < mx ∧ (0 < ns.length → mx ≤ ns.length) := by
      refine ⟨_, rfl, ?_, fun _ => ?_⟩
      · split <;> omega
      · split <;> omega
    obtain ⟨mx, emx, mx0, mx1⟩ := hmx
    rw [emx]
    refine ⟨_, _, rfl, rfl, (by omega), ?_⟩
    obtain ⟨ka, kb⟩ := fmod_in (i := p) mx0
    obtain ⟨at_, hat⟩ : ∃ a, a = p.fmod mx := ⟨_, rfl⟩
    rw [← hat] at ka kb
    -- cell = 0; if cells: cell = cells[at]
    refine ⟨_, rfl, _, .inl ⟨_, SqL.of (h1 _), rfl⟩, ?_⟩
    show if (!(ns.map V.int).isEmpty) = true then _ else _
    have hE : (!(ns.map V.int).isEmpty) = decide (0 < ns.length) := by cases ns <;> simp
    rw [hE]
    rw [show (fun i j => V.int (Int.fmod i j)) p mx = V.int at_ by rw [hat]]
    have h10 : ((10 : Int) ^ (18 : Int).toNat) = 1000000000000000000 := by decide
    by_cases hp : 0 < ns.length
    all_goals first
      | have hp' : 0 < ns.length := hp
        rw [decide_eq_true hp]
        refine iteT ?_
        obtain ⟨z, hz1, hz2⟩ := getD_int (ns := ns) (k := at_) ka (by have := mx1 hp; omega)
        refine ⟨_, rfl, _, rfl, cl, _, _, V.int z, rfl, rfl, SqL.of (h1 _), atI_in ka hz1, ?_⟩
        have hz : z = 0 ∨ at_ < (ns.length : Int) := .inr (by have := mx1 hp; omega)
      | have hp' : ¬ 0 < ns.length := hp
        rw [decide_eq_false hp]
        refine iteF ?_
        obtain ⟨z, ez⟩ : ∃ z : Int, z = 0 := ⟨0, rfl⟩
        rw [show (some (V.int 0) : Option V) = some (V.int z) by rw [ez]]
        have hz : z = 0 ∨ at_ < (ns.length : Int) := .inl ez
    all_goals
      refine ⟨_, rfl, _, rfl, _, _, rfl, rfl, ⟨by decide, by decide, by decide⟩, _, _, rfl, rfl, _, rfl, ?_⟩
      rw [h10]
      obtain ⟨az, haz⟩ : ∃ az, az = (if z < 0 then -z else z) := ⟨_, rfl⟩
      have haz0 : 0 ≤ az := by rw [haz]; split <;> omega
      rw [← haz]
      refine ite2 (fun hb => ?_) (fun hb => ?_)
      · have hb' : (1000000000000000000 : Int) ≤ az := of_decide_eq_true hb
        have hat2 : at_ < (ns.length : Int) := by
          rcases hz with h | h
          · subst h; rw [haz] at hb'; simp at hb'
          · exact h
        refine ⟨_, rfl, _, rfl, _, rfl, _, _, rfl, rfl, ⟨by omega, by omega⟩, ?_⟩
        refine ⟨_, rfl, _, rfl, cl, _, _, at_.toNat, rfl, rfl, h1 _, ixN_in ka (by rw [List.length_map]; exact hat2), ?_⟩
        refine ⟨_, rfl, _, rfl, _, rfl, _, _, rfl, rfl, (by omega), ?_⟩
        rw [← haz]
        obtain ⟨k0, k1⟩ := fmod_in (i := az) hl0
        refine k _ _ k0 k1 ⟨⟨p, c + 1, ?_, by omega, by push_cast; omega⟩, ⟨ns.set at_.toNat (az.fdiv lim), ?_, by rw [List.length_set]; exact hn⟩, hne⟩ ?_
        · rw [upd_ne hne, upd_same]
          rfl
        · rw [upd_same, List.map_set]
        · intro b o e hb1 hb2
          rw [upd_ne hb2, upd_ne hb1]
          exact e
      · -- state[1] = state[1] + 1
        refine ⟨_, rfl, st, _, _, V.int p, rfl, rfl, SqL.of upd_same, rfl, _, _, rfl, rfl, ?_⟩
        refine ⟨_, rfl, st, _, _, 1, rfl, rfl, upd_same, rfl, ?_⟩
        -- number
        have r1 : ∀ i : Int, 0 ≤ i.fmod 2147483647 ∧ i.fmod 2147483647 < 2147483647 := fun i => fmod_in (by decide)
        obtain ⟨y1, hy1⟩ : ∃ y, y = z.fmod 2147483647 := ⟨_, rfl⟩
        obtain ⟨q1, q2⟩ := r1 z
        rw [← hy1] at q1 q2
        refine ⟨_, rfl, .inl ⟨_, rfl, ?_⟩⟩
        refine ⟨_, _, rfl, rfl, (by show (_ : Int) ≠ 0; decide), ?_⟩
        rw [show (fun i j => V.int (Int.fmod i j)) z 2147483647 = V.int y1 by rw [hy1]]
        refine ⟨_, _, rfl, rfl, .inl ⟨by omega, by omega⟩, ?_⟩
        refine ⟨_, rfl, st, _, _, V.int (c + 1), rfl, rfl, SqL.of upd_same, rfl, _, _, rfl, rfl, .inl ⟨by omega, by omega⟩, ?_⟩
        refine ⟨_, _, rfl, rfl, _, _, rfl, rfl, .inl ⟨_, rfl, ?_⟩⟩
        refine ⟨_, _, rfl, rfl, ⟨by decide, by decide, ?_⟩, ?_⟩
        · show (y1 * 48271 + (c + 1) * 69621 + 11).natAbs < 2 ^ 64
          omega
        refine ⟨_, _, rfl, rfl, (by show (_ : Int) ≠ 0; decide), ?_⟩
        obtain ⟨q3, q4⟩ := r1 ((y1 * 48271 + (c + 1) * 69621 + 11) ^ (5 : Int).toNat)
        obtain ⟨y2, hy2⟩ : ∃ y, y = ((y1 * 48271 + (c + 1) * 69621 + 11) ^ (5 : Int).toNat).fmod 2147483647 := ⟨_, rfl⟩
        rw [← hy2] at q3 q4
        refine ⟨_, rfl, _, _, rfl, rfl, .inl ⟨?_, ?_⟩, ?_⟩
        · show -(2 ^ 64) < (((y1 * 48271 + (c + 1) * 69621 + 11) ^ (5 : Int).toNat).fmod 2147483647)
          rw [← hy2]; omega
        · show (((y1 * 48271 + (c + 1) * 69621 + 11) ^ (5 : Int).toNat).fmod 2147483647) < 2 ^ 64
          rw [← hy2]; omega
        refine ⟨_, rfl, st, _, _, V.int (c + 1), rfl, rfl, SqL.of upd_same, rfl, _, _, rfl, rfl, .inl ⟨by omega, by omega⟩, ?_⟩
        refine ⟨_, _, rfl, rfl, _, _, rfl, rfl, .inl ⟨_, rfl, ?_⟩⟩
        refine ⟨_, _, rfl, rfl, ⟨by decide, by decide, ?_⟩, ?_⟩
        · show ((((y1 * 48271 + (c + 1) * 69621 + 11) ^ (5 : Int).toNat).fmod 2147483647) * 16807 + (c + 1) * 40692 + 7).natAbs < 2 ^ 64
          rw [← hy2]; omega
        refine ⟨_, _, rfl, rfl, (by show (_ : Int) ≠ 0; decide), ?_⟩
        refine ⟨_, rfl, _, _, rfl, rfl, ⟨by decide, by decide⟩, _, rfl, _, _, rfl, rfl, (by omega), ?_⟩
        obtain ⟨k0, k1⟩ := fmod_in (i := (((((((y1 * 48271 + (c + 1) * 69621 + 11) ^ (5 : Int).toNat).fmod 2147483647) * 16807 + (c + 1) * 40692 + 7) ^ (5 : Int).toNat).fmod 2147483629).fdiv 16)) hl0
        refine k _ _ k0 k1 ⟨⟨p + 1, c + 1, ?_, by omega, by push_cast; omega⟩, ⟨ns, ?_, hn⟩, hne⟩ ?_
        · rw [upd_same]
          rfl
        · rw [upd_ne hne.symm, upd_ne hne.symm]
          exact hcl
        · intro b o e hb1 hb2
          rw [upd_ne hb1, upd_ne hb1]
          exact e
def spStart (K : PySem.W.Frag) : Sp := fun vs H Q _ => ∃ (a : Addr) (ns : List Int), vs = [.ref a] ∧ SqL K H a (ns.map V.int) ∧ ns.length ≤ 63 ∧
  ∀ (st cl : Addr) (H' : Hp), StAt H' st cl 0 → Same H H' → H st = none → H cl = none → Q (.ref st) H'
abbrev nStart : List Str := ["_law_script", "_law_cell"]
theorem scStart : FnScope nStart ["_law_script"] (defScope sStart) := ⟨rfl, rfl, rfl, by decide +kernel, rfl, by decide +kernel, by decide +kernel⟩
theorem ok_start {f : Addr} {fd : FuncData} (F : Fun K "_law_start" "_law_start" sStart f fd) (T : Bi mg) : FnOk P w K mg base CX0 1 f fd ["_law_script"] (spStart K) := by
  refine F.ok scStart (fun vs H Q E h => ?_) (fun cdv A outer s H vs Q E hr h => ?_)
  · obtain ⟨a, ns, rfl, _⟩ := h
    rfl
  · obtain ⟨a, ns, rfl, hS, hn, k⟩ := h
    refine ⟨_, pss_one (ps_ret (pe_lst (pa_cons (pe_lc (own := [("_law_cell", 1)]) (g := gName 1) (tt := tYes) rfl scStart.nd (pi_list (pv 0)) (blkOk_by (own := [("_law_cell", 1)]) (N := nStart) (sc := defScope sStart) (by decide +kernel))
        (fun _ _ _ _ _ => pg_name (i := 1) scStart.nd rfl (Or.inl rfl)) (fun _ _ _ _ _ => pts_nil) (fun _ _ _ _ _ => pe_callTy call_int1 (by rfl) T.int (by decide +kernel) (pa_cons (pv 1) pa_nil)))
      (pa_cons pe_int (pa_cons pe_int pa_nil))))), ?_⟩
    refine ⟨_, rfl, a, rfl, ⟨_, hS⟩, fun D hD => lc_list (K := K) (a := a) (xs := ns.map V.int) (fun i H' => Same H H' ∧ H' D = some (.lst ((ns.take i).map V.int))) ⟨?_, ?_⟩ (fun i H' _ h => h.1.seq hS) ?_ ?_⟩
    · intro b o e
      rw [upd_ne (ne_of_none e hD)]
      exact e
    · rw [upd_same]
      rfl
    · intro i x H' hi ⟨s1, s2⟩
      obtain ⟨z, hz, rfl⟩ : ∃ z, ns[i]? = some z ∧ x = V.int z := by
        rw [List.getElem?_map] at hi
        cases e : ns[i]? with
        | none => rw [e] at hi; cases hi
        | some z => rw [e] at hi; exact ⟨z, rfl, (Option.some.inj hi).symm⟩
      have hil : i < ns.length := (List.getElem?_eq_some_iff.mp hz).1
      refine ⟨rfl, ?_⟩
      refine ⟨_, rfl, .inl ⟨_, rfl, _, s2, ?_, ?_, ?_⟩⟩
      · rw [List.length_map, List.length_take]
        exact small1000 (by omega)
      · intro b o e
        rw [upd_ne (ne_of_none e hD)]
        exact s1 b o e
      · rw [upd_same, List.take_succ, hz]
        simp
    · intro H' ⟨s1, s2⟩
      rw [List.length_map, List.take_length] at s2
      refine ⟨by show 3 ≤ sizeLine; decide, fun st hst => ?_⟩
      have hne : st ≠ D := (ne_of_none s2 hst).symm
      refine k st D _ ⟨⟨0, 0, upd_same, by decide, by decide⟩, ⟨ns, by rw [upd_ne hne.symm]; exact s2, hn⟩, hne⟩ ?_ ?_ hD
      · intro b o e
        rw [upd_ne (ne_of_none (s1 b o e) hst)]
        exact s1 b o e
      · exact s1.free hst
end
end OS
namespace OS
open PySem L2
/-- a def of the module's, by its name -/
structure Df (K : PySem.W.Frag) (mg : Str → Option Value) (x : Str) (f : Addr) : Prop where
  mg : mg x = some (.ref f)
  kp : PySem.W.keepIn K (.ref f) = true
theorem StAt.upd {H : Hp} {st cl : Addr} {m : Nat} {D : Addr} {o : HO} (S : StAt H st cl m) (h1 : D ≠ st) (h2 : D ≠ cl) : StAt (upd H D o) st cl m := by
  obtain ⟨⟨p, c, a, b⟩, ⟨ns, e, l⟩, n⟩ := S
  exact ⟨⟨p, c, by rw [upd_ne h1.symm]; exact a, b⟩, ⟨ns, by rw [upd_ne h2.symm]; exact e, l⟩, n⟩
theorem StAt.nst {H : Hp} {st cl : Addr} {m : Nat} {D : Addr} (S : StAt H st cl m) (h : H D = none) : D ≠ st ∧ D ≠ cl := by
  obtain ⟨⟨p, c, a, b⟩, ⟨ns, e, l⟩, n⟩ := S
  exact ⟨(ne_of_none a h).symm, (ne_of_none e h).symm⟩
theorem StAt.same {H H' : Hp} {st cl : Addr} {m : Nat} (S : StAt H st cl m) (h : Same H H') : StAt H' st cl m := by
  obtain ⟨⟨p, c, a, b⟩, ⟨ns, e, l⟩, n⟩ := S
  exact ⟨⟨p, c, h _ _ a, b⟩, ⟨ns, h _ _ e, l⟩, n⟩
theorem sameUpd {H H' : Hp} {p : Addr} {o : HO} (s : Same H H') (h : H p = none) : Same H (L2.upd H' p o) := fun b u e => by
  rw [upd_ne (ne_of_none e h)]
  exact s b u e
end OS
namespace OS
open PySem L2
/-! ### an own error with one field -/
/-- what the head knows of the class of an error at C, its __init__ at fI -/
structure ErrC (K : PySem.W.Frag) (mg : Str → Option Value) (x : Str) (C fI : Addr) (fld : Str) : Prop where
  mg : mg x = some (.ref C)
  ox : OexC K C
  iC : PySem.W.findIn K (.ref C) "__init__" = some (some (.ref fI))
  tI : PySem.W.typeIn K (.ref fI) = some (.type "function")
  no : PySem.W.findIn K (.ref C) fld = some none
  xf : XfC K C
  te : PySem.W.exmOne K (.ref C) (.ref C) = some true
/-- its __init__(self, y) -/
def spE (K : PySem.W.Frag) (C : Addr) (fld : Str) : Sp := fun vs H Q _ => ∃ (a : Addr) (y : V), vs = [.ref a, y] ∧ H a = some (exo a C none) ∧
  ∀ dx, H dx = none → dx ≠ a → Q .non (L2.upd (L2.upd H dx (exd dx [(fld, y)])) a (exo a C (some dx)))
/-- a made error's end: the heap has got its dict and nothing else -/
theorem made_heap {H : Hp} {a d : Addr} {fs : List (Str × V)} {o1 o2 : HO} (na : H a = none) (hd : d ≠ a) : ∀ b, (L2.upd (L2.del (L2.upd (L2.upd (L2.upd H a o1) d (exd d fs)) a o2) a) d (.xd fs)) b = (L2.upd H d (.xd fs)) b := by
  intro b
  by_cases h1 : b = d
  · rw [h1, upd_same, upd_same]
  · rw [upd_ne h1, upd_ne h1]
    by_cases h2 : b = a
    · rw [h2, del_same, na]
    · rw [del_ne h2, upd_ne h2, upd_ne h1, upd_ne h2]
end OS
namespace OS
open PySem L2
def spE2 (K : PySem.W.Frag) (C : Addr) (f1 f2 : Str) : Sp := fun vs H Q _ => ∃ (a : Addr) (y z : V), vs = [.ref a, y, z] ∧ H a = some (exo a C none) ∧
  ∀ dx, H dx = none → dx ≠ a → Q .non (L2.upd (L2.upd (L2.upd H dx (exd dx [(f1, y)])) a (exo a C (some dx))) dx (exd dx [(f2, z), (f1, y)]))
/-- at a stands an error of the class D with the fields fs -/
def EAt (H : Hp) (a D : Addr) (fs : List (Str × V)) : Prop := ∃ dd, H a = some (exo a D (some dd)) ∧ H dd = some (exd dd fs)
theorem EAt.same {H H' : Hp} {a D : Addr} {fs : List (Str × V)} (h : EAt H a D fs) (s : Same H H') : EAt H' a D fs := by
  obtain ⟨dd, h1, h2⟩ := h
  exact ⟨dd, s _ _ h1, s _ _ h2⟩
theorem EAt.err {H : Hp} {a D : Addr} {fs : List (Str × V)} (h : EAt H a D fs) : ErrV H a D := by
  obtain ⟨dd, h1, h2⟩ := h
  exact .inl ⟨dd, fs, h1, h2⟩
theorem ErrV.same {H H' : Hp} {a D : Addr} (h : ErrV H a D) (s : Same H H') : ErrV H' a D := by
  rcases h with ⟨dd, fs, h1, h2⟩ | h
  · exact .inl ⟨dd, fs, s _ _ h1, s _ _ h2⟩
  · exact .inr (s _ _ h)
theorem eat1 {H : Hp} {a dx D : Addr} {fs : List (Str × V)} (na : H a = none) (ndx : L2.upd H a (exo a D none) dx = none) (ne : dx ≠ a) :
    Same H (L2.upd (L2.upd (L2.upd H a (exo a D none)) dx (exd dx fs)) a (exo a D (some dx))) ∧ EAt (L2.upd (L2.upd (L2.upd H a (exo a D none)) dx (exd dx fs)) a (exo a D (some dx))) a D fs := by
  have nd : H dx = none := by rw [upd_ne ne] at ndx; exact ndx
  exact ⟨sameUpd (sameUpd (sameUpd (Same.refl _) na) nd) na, dx, upd_same, by rw [upd_ne ne, upd_same]⟩
theorem eat2 {H : Hp} {a dx D : Addr} {fs gs : List (Str × V)} (na : H a = none) (ndx : L2.upd H a (exo a D none) dx = none) (ne : dx ≠ a) :
    Same H (L2.upd (L2.upd (L2.upd (L2.upd H a (exo a D none)) dx (exd dx fs)) a (exo a D (some dx))) dx (exd dx gs)) ∧ EAt (L2.upd (L2.upd (L2.upd (L2.upd H a (exo a D none)) dx (exd dx fs)) a (exo a D (some dx))) dx (exd dx gs)) a D gs := by
  have nd : H dx = none := by rw [upd_ne ne] at ndx; exact ndx
  exact ⟨sameUpd (sameUpd (sameUpd (sameUpd (Same.refl _) na) nd) na) nd, dx, by rw [upd_ne ne.symm, upd_same], upd_same⟩
section
variable {P : Program} {w : World} {K : PySem.W.Frag} {mg : Str → Option Value} {base : Heap}
theorem sc_BadName : FnScope ["self", "name"] ["self", "name"] (defScope sBadName_init) := ⟨rfl, rfl, rfl, by decide +kernel, rfl, by decide +kernel, by decide +kernel⟩
theorem ok_BadName {f fI C : Addr} {fd : FuncData} (F : Fun K "__init__" "BadName.__init__" sBadName_init f fd) (T : ErrC K mg "BadName" C fI "name") : FnOk P w K mg base CX0 1 f fd ["self", "name"] (spE K C "name") := by
  refine F.ok sc_BadName (fun vs H Q E h => ?_) (fun cdv A outer s H vs Q E hr h => ?_)
  · obtain ⟨a, y, rfl, _⟩ := h
    rfl
  · obtain ⟨a, y, rfl, ha, k⟩ := h
    refine ⟨_, pss_one (ps_ost (pv 0) (pv 1)), ?_⟩
    exact ⟨_, rfl, _, rfl, a, C, rfl, T.ox, T.no, .inl ⟨ha, fun dx n ne => k dx n ne⟩⟩
theorem sc_DuplicateName : FnScope ["self", "name"] ["self", "name"] (defScope sDuplicateName_init) := ⟨rfl, rfl, rfl, by decide +kernel, rfl, by decide +kernel, by decide +kernel⟩
theorem ok_DuplicateName {f fI C : Addr} {fd : FuncData} (F : Fun K "__init__" "DuplicateName.__init__" sDuplicateName_init f fd) (T : ErrC K mg "DuplicateName" C fI "name") : FnOk P w K mg base CX0 1 f fd ["self", "name"] (spE K C "name") := by
  refine F.ok sc_DuplicateName (fun vs H Q E h => ?_) (fun cdv A outer s H vs Q E hr h => ?_)
  · obtain ⟨a, y, rfl, _⟩ := h
    rfl
  · obtain ⟨a, y, rfl, ha, k⟩ := h
    refine ⟨_, pss_one (ps_ost (pv 0) (pv 1)), ?_⟩
    exact ⟨_, rfl, _, rfl, a, C, rfl, T.ox, T.no, .inl ⟨ha, fun dx n ne => k dx n ne⟩⟩
theorem sc_UnknownName : FnScope ["self", "name"] ["self", "name"] (defScope sUnknownName_init) := ⟨rfl, rfl, rfl, by decide +kernel, rfl, by decide +kernel, by decide +kernel⟩
theorem ok_UnknownName {f fI C : Addr} {fd : FuncData} (F : Fun K "__init__" "UnknownName.__init__" sUnknownName_init f fd) (T : ErrC K mg "UnknownName" C fI "name") : FnOk P w K mg base CX0 1 f fd ["self", "name"] (spE K C "name") := by
  refine F.ok sc_UnknownName (fun vs H Q E h => ?_) (fun cdv A outer s H vs Q E hr h => ?_)
  · obtain ⟨a, y, rfl, _⟩ := h
    rfl
  · obtain ⟨a, y, rfl, ha, k⟩ := h
    refine ⟨_, pss_one (ps_ost (pv 0) (pv 1)), ?_⟩
    exact ⟨_, rfl, _, rfl, a, C, rfl, T.ox, T.no, .inl ⟨ha, fun dx n ne => k dx n ne⟩⟩
theorem sc_BadCount : FnScope ["self", "count"] ["self", "count"] (defScope sBadCount_init) := ⟨rfl, rfl, rfl, by decide +kernel, rfl, by decide +kernel, by decide +kernel⟩
theorem ok_BadCount {f fI C : Addr} {fd : FuncData} (F : Fun K "__init__" "BadCount.__init__" sBadCount_init f fd) (T : ErrC K mg "BadCount" C fI "count") : FnOk P w K mg base CX0 1 f fd ["self", "count"] (spE K C "count") := by
  refine F.ok sc_BadCount (fun vs H Q E h => ?_) (fun cdv A outer s H vs Q E hr h => ?_)
  · obtain ⟨a, y, rfl, _⟩ := h
    rfl
  · obtain ⟨a, y, rfl, ha, k⟩ := h
    refine ⟨_, pss_one (ps_ost (pv 0) (pv 1)), ?_⟩
    exact ⟨_, rfl, _, rfl, a, C, rfl, T.ox, T.no, .inl ⟨ha, fun dx n ne => k dx n ne⟩⟩
theorem sc_OutOfRange : FnScope ["self", "value"] ["self", "value"] (defScope sOutOfRange_init) := ⟨rfl, rfl, rfl, by decide +kernel, rfl, by decide +kernel, by decide +kernel⟩
theorem ok_OutOfRange {f fI C : Addr} {fd : FuncData} (F : Fun K "__init__" "OutOfRange.__init__" sOutOfRange_init f fd) (T : ErrC K mg "OutOfRange" C fI "value") : FnOk P w K mg base CX0 1 f fd ["self", "value"] (spE K C "value") := by
  refine F.ok sc_OutOfRange (fun vs H Q E h => ?_) (fun cdv A outer s H vs Q E hr h => ?_)
  · obtain ⟨a, y, rfl, _⟩ := h
    rfl
  · obtain ⟨a, y, rfl, ha, k⟩ := h
    refine ⟨_, pss_one (ps_ost (pv 0) (pv 1)), ?_⟩
    exact ⟨_, rfl, _, rfl, a, C, rfl, T.ox, T.no, .inl ⟨ha, fun dx n ne => k dx n ne⟩⟩
theorem sc_BadLine : FnScope ["self", "number", "text"] ["self", "number", "text"] (defScope sBadLine_init) := ⟨rfl, rfl, rfl, by decide +kernel, rfl, by decide +kernel, by decide +kernel⟩
theorem ok_BadLine {f fI C : Addr} {fd : FuncData} (F : Fun K "__init__" "BadLine.__init__" sBadLine_init f fd) (T : ErrC K mg "BadLine" C fI "number") (n2 : PySem.W.findIn K (.ref C) "text" = some none) : FnOk P w K mg base CX0 1 f fd ["self", "number", "text"] (spE2 K C "number" "text") := by
  refine F.ok sc_BadLine (fun vs H Q E h => ?_) (fun cdv A outer s H vs Q E hr h => ?_)
  · obtain ⟨a, y, z, rfl, _⟩ := h
    rfl
  · obtain ⟨a, y, z, rfl, ha, k⟩ := h
    refine ⟨_, pss_cons (ps_ost (pv 0) (pv 1)) (pss_one (ps_ost (pv 0) (pv 2))), ?_⟩
    refine ⟨_, rfl, _, rfl, a, C, rfl, T.ox, T.no, .inl ⟨ha, fun dx n ne => ?_⟩⟩
    exact ⟨_, rfl, _, rfl, a, C, rfl, T.ox, n2, .inr ⟨dx, _, upd_same, by rw [upd_ne ne, upd_same], by show 1 ≤ 900; decide, k dx n ne⟩⟩
theorem sc_BadLength : FnScope ["self", "length"] ["self", "length"] (defScope sBadLength_init) := ⟨rfl, rfl, rfl, by decide +kernel, rfl, by decide +kernel, by decide +kernel⟩
theorem ok_BadLength {f fI C : Addr} {fd : FuncData} (F : Fun K "__init__" "BadLength.__init__" sBadLength_init f fd) (T : ErrC K mg "BadLength" C fI "length") : FnOk P w K mg base CX0 1 f fd ["self", "length"] (spE K C "length") := by
  refine F.ok sc_BadLength (fun vs H Q E h => ?_) (fun cdv A outer s H vs Q E hr h => ?_)
  · obtain ⟨a, y, rfl, _⟩ := h
    rfl
  · obtain ⟨a, y, rfl, ha, k⟩ := h
    refine ⟨_, pss_one (ps_ost (pv 0) (pv 1)), ?_⟩
    exact ⟨_, rfl, _, rfl, a, C, rfl, T.ox, T.no, .inl ⟨ha, fun dx n ne => k dx n ne⟩⟩
theorem sc_ZeroSum : FnScope ["self", "numbers"] ["self", "numbers"] (defScope sZeroSum_init) := ⟨rfl, rfl, rfl, by decide +kernel, rfl, by decide +kernel, by decide +kernel⟩
theorem ok_ZeroSum {f fI C : Addr} {fd : FuncData} (F : Fun K "__init__" "ZeroSum.__init__" sZeroSum_init f fd) (T : ErrC K mg "ZeroSum" C fI "numbers") : FnOk P w K mg base CX0 1 f fd ["self", "numbers"] (spE K C "numbers") := by
  refine F.ok sc_ZeroSum (fun vs H Q E h => ?_) (fun cdv A outer s H vs Q E hr h => ?_)
  · obtain ⟨a, y, rfl, _⟩ := h
    rfl
  · obtain ⟨a, y, rfl, ha, k⟩ := h
    refine ⟨_, pss_one (ps_ost (pv 0) (pv 1)), ?_⟩
    exact ⟨_, rfl, _, rfl, a, C, rfl, T.ox, T.no, .inl ⟨ha, fun dx n ne => k dx n ne⟩⟩
theorem sc_NotPrime : FnScope ["self", "value"] ["self", "value"] (defScope sNotPrime_init) := ⟨rfl, rfl, rfl, by decide +kernel, rfl, by decide +kernel, by decide +kernel⟩
theorem ok_NotPrime {f fI C : Addr} {fd : FuncData} (F : Fun K "__init__" "NotPrime.__init__" sNotPrime_init f fd) (T : ErrC K mg "NotPrime" C fI "value") : FnOk P w K mg base CX0 1 f fd ["self", "value"] (spE K C "value") := by
  refine F.ok sc_NotPrime (fun vs H Q E h => ?_) (fun cdv A outer s H vs Q E hr h => ?_)
  · obtain ⟨a, y, rfl, _⟩ := h
    rfl
  · obtain ⟨a, y, rfl, ha, k⟩ := h
    refine ⟨_, pss_one (ps_ost (pv 0) (pv 1)), ?_⟩
    exact ⟨_, rfl, _, rfl, a, C, rfl, T.ox, T.no, .inl ⟨ha, fun dx n ne => k dx n ne⟩⟩
theorem sc_NotSure : FnScope ["self", "kind"] ["self", "kind"] (defScope sNotSure_init) := ⟨rfl, rfl, rfl, by decide +kernel, rfl, by decide +kernel, by decide +kernel⟩
theorem ok_NotSure {f fI C : Addr} {fd : FuncData} (F : Fun K "__init__" "NotSure.__init__" sNotSure_init f fd) (T : ErrC K mg "NotSure" C fI "kind") : FnOk P w K mg base CX0 1 f fd ["self", "kind"] (spE K C "kind") := by
  refine F.ok sc_NotSure (fun vs H Q E h => ?_) (fun cdv A outer s H vs Q E hr h => ?_)
  · obtain ⟨a, y, rfl, _⟩ := h
    rfl
  · obtain ⟨a, y, rfl, ha, k⟩ := h
    refine ⟨_, pss_one (ps_ost (pv 0) (pv 1)), ?_⟩
    exact ⟨_, rfl, _, rfl, a, C, rfl, T.ox, T.no, .inl ⟨ha, fun dx n ne => k dx n ne⟩⟩
theorem sc_IsSure : FnScope ["self", "kind"] ["self", "kind"] (defScope sIsSure_init) := ⟨rfl, rfl, rfl, by decide +kernel, rfl, by decide +kernel, by decide +kernel⟩
theorem ok_IsSure {f fI C : Addr} {fd : FuncData} (F : Fun K "__init__" "IsSure.__init__" sIsSure_init f fd) (T : ErrC K mg "IsSure" C fI "kind") : FnOk P w K mg base CX0 1 f fd ["self", "kind"] (spE K C "kind") := by
  refine F.ok sc_IsSure (fun vs H Q E h => ?_) (fun cdv A outer s H vs Q E hr h => ?_)
  · obtain ⟨a, y, rfl, _⟩ := h
    rfl
  · obtain ⟨a, y, rfl, ha, k⟩ := h
    refine ⟨_, pss_one (ps_ost (pv 0) (pv 1)), ?_⟩
    exact ⟨_, rfl, _, rfl, a, C, rfl, T.ox, T.no, .inl ⟨ha, fun dx n ne => k dx n ne⟩⟩
end
end OS
namespace OS
open PySem L2
theorem StAt.mono {H : Hp} {st cl : Addr} {m n : Nat} (S : StAt H st cl m) (h : m ≤ n) : StAt H st cl n := by
  obtain ⟨⟨p, c, a, b, d⟩, e, f⟩ := S
  exact ⟨⟨p, c, a, b, by omega⟩, e, f⟩
theorem Kb.refl {st cl : Addr} (H : Hp) : Kb st cl H H := fun _ _ e _ _ => e
theorem Kb.trans {st cl : Addr} {H H1 H2 : Hp} (a : Kb st cl H H1) (b : Kb st cl H1 H2) : Kb st cl H H2 := fun x o e h1 h2 => b x o (a x o e h1 h2) h1 h2
theorem Kb.same {st cl : Addr} {H H1 H2 : Hp} (a : Kb st cl H H1) (b : Same H1 H2) : Kb st cl H H2 := fun x o e h1 h2 => b x o (a x o e h1 h2)
theorem Kb.new {st cl D : Addr} {H H1 : Hp} {o : HO} (a : Kb st cl H H1) (h : H D = none) : Kb st cl H (L2.upd H1 D o) := fun x u e h1 h2 => by
  rw [upd_ne (ne_of_none e h)]
  exact a x u e h1 h2
theorem StAt.free {st cl D : Addr} {H H1 : Hp} {m n : Nat} (S : StAt H st cl m) (S1 : StAt H1 st cl n) (a : Kb st cl H H1) (h : H1 D = none) : H D = none := by
  obtain ⟨d1, d2⟩ := S1.nst h
  cases q : H D with
  | none => rfl
  | some o => rw [a D o q d1 d2] at h; cases h
theorem Str.len_list (z : Str) : z.length = z.cps.toList.length := by
  show z.cps.size = _
  rw [Array.length_toList]
def okS (z : Str) : Prop := ∀ c ∈ z.cps.toList, c < 0x110000
theorem okS.lay {z : Str} (h : okS z) : PyData.strOk z = true := by
  show (z.cps.all (· < 0x110000)) = true
  rw [← Array.all_toList]
  exact List.all_eq_true.mpr fun c hc => decide_eq_true (h c hc)
theorem okS.app {x y : Str} (h : okS x) (k : okS y) : okS (x ++ y) := by
  intro c hc
  have e : TL.tl (x ++ y) = TL.tl x ++ TL.tl y := TL.tl_append ..
  have hc' : c ∈ TL.tl (x ++ y) := hc
  rw [e] at hc'
  rcases List.mem_append.mp hc' with q | q
  · exact h c q
  · exact k c q
theorem okS_empty : okS (Str.ofString "") := fun c hc => by
  have : (Str.ofString "").cps.toList = [] := by decide +kernel
  rw [this] at hc
  cases hc
theorem join0_ok : ∀ ys : List Str, (∀ y ∈ ys, okS y) → okS (Str.join (Str.ofString "") ys)
  | [], _ => okS_empty
  | [y], h => h y List.mem_cons_self
  | y :: z :: r, h => by
    show okS (y ++ (Str.ofString "") ++ Str.join (Str.ofString "") (z :: r))
    exact okS.app (okS.app (h y List.mem_cons_self) okS_empty) (join0_ok (z :: r) fun q hq => h q (List.mem_cons_of_mem _ hq))
theorem sum_ones : ∀ ys : List Str, (∀ y ∈ ys, y.length = 1) → (ys.map (·.length)).sum = ys.length
  | [], _ => rfl
  | y :: ys, h => by
    rw [List.map_cons, List.sum_cons, sum_ones ys (fun z hz => h z (List.mem_cons_of_mem _ hz)), h y List.mem_cons_self, List.length_cons]
    omega
def spSigns : Sp := fun vs H Q _ => vs = [] ∧ ∀ z : Str, z.length = 94 → okS z → Q (.str z) H
def spText : Sp := fun vs H Q _ => ∃ (st cl : Addr) (m : Nat), vs = [.ref st] ∧ StAt H st cl m ∧ m ≤ 900000000 ∧ ∀ (z : Str) (H' : Hp), okS z → StAt H' st cl (m + 8) → Kb st cl H H' → Q (.str z) H'
/-- a drawn thing and its data -/
inductive Th (H : Hp) : V → PyData → Prop
  | str (z : Str) (h : okS z) : Th H (.str z) (.str z)
  | int (i : Int) : Th H (.int i) (.int i)
  | non : Th H .non .none
  | tup (p : Addr) (a b c : Int) (h : H p = some (.tup [.int a, .int b, .int c])) : Th H (.ref p) (.tuple [.int a, .int b, .int c])
theorem Th.kb {H H' : Hp} {st cl : Addr} {m : Nat} {v : V} {d : PyData} (t : Th H v d) (S : StAt H st cl m) (k : Kb st cl H H') : Th H' v d := by
  cases t with
  | str z h => exact .str z h
  | int i => exact .int i
  | non => exact .non
  | tup p a b c h =>
    obtain ⟨⟨q, c', e1, _⟩, ⟨ns, e2, _⟩, _⟩ := S
    exact .tup p a b c (k _ _ h (ne_of h e1 (by intro z; cases z)) (ne_of h e2 (by intro z; cases z)))
theorem Th.same {H H' : Hp} {v : V} {d : PyData} (t : Th H v d) (s : Same H H') : Th H' v d := by
  cases t with
  | str z h => exact .str z h
  | int i => exact .int i
  | non => exact .non
  | tup p a b c h => exact .tup p a b c (s _ _ h)
theorem Th.dp {K : PySem.W.Frag} {H : Hp} {v : V} {d : PyData} (t : Th H v d) : Dp K H v d := by
  cases t with
  | str z h => exact .str z
  | int i => exact .int i
  | non => exact .non
  | tup p a b c h => exact .tup (.inl (.inl h)) (.cons (.int _) (.cons (.int _) (.cons (.int _) .nil)))
theorem Th.lay {H : Hp} {v : V} {d : PyData} (t : Th H v d) : d.canLay0 = true ∧ d.depth ≤ 2 := by
  cases t with
  | str z h => exact ⟨h.lay, by simp [PyData.depth]⟩
  | int i => exact ⟨rfl, by simp [PyData.depth]⟩
  | non => exact ⟨rfl, by simp [PyData.depth]⟩
  | tup p a b c h => exact ⟨by simp [PyData.canLay0, PyData.canLayAll0], by simp [PyData.depth, PyData.depthAll]⟩
def spThing : Sp := fun vs H Q _ => ∃ (st cl : Addr) (m : Nat), vs = [.ref st] ∧ StAt H st cl m ∧ m ≤ 800000000 ∧ ∀ (v : V) (d : PyData) (H' : Hp), Th H' v d → StAt H' st cl (m + 12) → Kb st cl H H' → Q v H'
section
variable {P : Program} {w : World} {K : PySem.W.Frag} {mg : Str → Option Value} {base : Heap}
theorem scSigns : FnScope ["_law_signs_here"] [] (defScope sSigns) := ⟨rfl, rfl, rfl, by decide +kernel, rfl, by decide +kernel, by decide +kernel⟩
theorem ok_signs {f : Addr} {fd : FuncData} (F : Fun K "_law_signs" "_law_signs" sSigns f fd) : FnOk P w K mg base CX0 1 f fd [] spSigns := by
  refine F.ok scSigns (fun vs H Q E h => ?_) (fun cdv A outer s H vs Q E hr h => ?_)
  · obtain ⟨rfl, _⟩ := h
    rfl
  · obtain ⟨rfl, k⟩ := h
    refine ⟨_, pss_cons (ps_set (i := 0) scSigns.nd rfl (Or.inl rfl) pe_str) (pss_one (ps_ret (pe_op op_add_str (pv 0) pe_str))), ?_⟩
    refine ⟨_, rfl, _, _, rfl, rfl, (by decide +kernel), ?_⟩
    exact k _ (by decide +kernel) (by unfold okS; decide +kernel)
abbrev nText : List Str := ["_law_state", "_law_signs_here", "_law_k"]
theorem scText : FnScope nText ["_law_state"] (defScope s_text) := ⟨rfl, rfl, rfl, by decide +kernel, rfl, by decide +kernel, by decide +kernel⟩
theorem ok_text {f fT fG : Addr} {fd dT dG : FuncData} (F : Fun K "_law_text" "_law_text" s_text f fd) (T : Bi mg) (mR : mg "range" = none)
    (ET : FnOk P w K mg base CX0 1 fT dT ["_law_state", "_law_limit"] spTake) (GT : Df K mg "_law_take" fT) (bT : Binds K dT ["_law_state", "_law_limit"] [])
    (EG : FnOk P w K mg base CX0 1 fG dG [] spSigns) (GG : Df K mg "_law_signs" fG) (bG : Binds K dG [] []) : FnOk P w K mg base CX0 2 f fd ["_law_state"] spText := by
  refine F.ok scText (fun vs H Q E h => ?_) (fun cdv A outer s H vs Q E hr h => ?_)
  · obtain ⟨st, cl, m, rfl, _⟩ := h
    rfl
  · obtain ⟨st, cl, m, rfl, S, hm, k⟩ := h
    refine ⟨_, pss_cons (ps_set (i := 1) scText.nd rfl (Or.inr rfl) (pe_call0 EG hr rfl GG.mg GG.kp bG .nil pass0))
      (pss_one (ps_ret (pe_join pe_str (pe_lc (own := [("_law_k", 2)]) (g := gName 2) (tt := tYes) rfl scText.nd (pi_range1 rfl mR (pa_cons (pe_call ET hr rfl GT.mg GT.kp bT .nil pass0 (pa_cons (pv 0) (pa_cons pe_int pa_nil))) pa_nil)) (blkOk_by (own := [("_law_k", 2)]) (N := nText) (sc := defScope s_text) (by decide +kernel))
        (fun _ _ _ _ _ => pg_name (i := 2) scText.nd rfl (Or.inl rfl)) (fun _ _ _ _ _ => pts_nil)
        (fun _ _ _ _ _ => pe_ix ix_str (pv 1) (pe_call ET hr rfl GT.mg GT.kp bT .nil pass0 (pa_cons (pv 0) (pa_cons (pe_callB call_len_str (by rfl) T.len PySem.boot_len (pa_cons (pv 1) pa_nil)) pa_nil))) fun _ _ => rfl))))), ?_⟩
    refine ⟨rfl, fun z hz hzo => ?_⟩
    have hzl : z.length ≤ sizeLine := by rw [hz]; decide
    refine ⟨⟨_, rfl⟩, _, rfl, st, cl, m, 6, rfl, S, by omega, by decide, by decide, fun size H1 z0 z1 S1 k1 => ?_⟩
    refine ⟨_, rfl, by omega, by omega, fun D hD => lc_range (lo := 0) (n := size.toNat) (fun i H' => ∃ ys : List Str, H' D = some (.lst (ys.map V.str)) ∧ ys.length = i ∧ (∀ y ∈ ys, y.length = 1 ∧ okS y) ∧ StAt H' st cl (m + 1 + i) ∧ Kb st cl H H') ?_ ?_ ?_⟩
    · obtain ⟨n1, n2⟩ := S1.nst hD
      exact ⟨[], by rw [upd_same]; rfl, rfl, (fun y hy => by cases hy), S1.upd n1 n2, k1.new (S.free S1 k1 hD)⟩
    · rintro i H2 hi ⟨ys, hy, hyl, hyo, S2, k2⟩
      obtain ⟨n1, n2⟩ := S1.nst hD
      have hDn : H D = none := S.free S1 k1 hD
      refine ⟨rfl, ?_⟩
      refine ⟨_, rfl, _, rfl, _, rfl, _, rfl, hzl, st, cl, _, _, rfl, S2, by omega, by omega, by omega, fun c H3 c0 c1 S3 k3 => ?_⟩
      have hci : c.toNat < z.cps.toList.length := by have := Str.len_list z; omega
      refine ⟨_, _, _, rfl, rfl, hzl, atI_in c0 (List.getElem?_eq_getElem hci), ?_⟩
      refine ⟨_, k3 D _ hy n1 n2, ?_, ys ++ [⟨#[z.cps.toList[c.toNat]]⟩], ?_, by rw [List.length_append, hyl]; rfl, ?_, (S3.upd n1 n2).mono (by omega), (k2.trans k3).new hDn⟩
      · rw [List.length_map]
        exact small1000 (by omega)
      · rw [upd_same, List.map_append]
        rfl
      · intro y hy
        rcases List.mem_append.mp hy with q | q
        · exact hyo y q
        · cases List.mem_singleton.mp q
          refine ⟨rfl, fun x hx => ?_⟩
          have : x = z.cps.toList[c.toNat] := by
            have hx' : x ∈ [z.cps.toList[c.toNat]] := hx
            exact List.mem_singleton.mp hx'
          rw [this]
          exact hzo _ (List.getElem_mem hci)
    · rintro H2 ⟨ys, hy, hyl, hyo, S2, k2⟩
      refine ⟨_, D, ys, rfl, rfl, .inl (SqL.of hy), ?_, ?_⟩
      · rw [sum_ones ys fun y h => (hyo y h).1, show (Str.ofString "").length = 0 by decide +kernel]
        omega
      · rw [TL.join_eq]
        exact k _ H2 (join0_ok ys fun y h => (hyo y h).2) (S2.mono (by omega)) k2
abbrev nThing : List Str := ["_law_state", "_law_number", "_law_row"]
theorem scThing : FnScope nThing ["_law_state"] (defScope s_thing) := ⟨rfl, rfl, rfl, by decide +kernel, rfl, by decide +kernel, by decide +kernel⟩
theorem ok_thing {f fT fX : Addr} {fd dT dX : FuncData} (F : Fun K "_law_thing" "_law_thing" s_thing f fd)
    (ET : FnOk P w K mg base CX0 1 fT dT ["_law_state", "_law_limit"] spTake) (GT : Df K mg "_law_take" fT) (bT : Binds K dT ["_law_state", "_law_limit"] [])
    (EX : FnOk P w K mg base CX0 2 fX dX ["_law_state"] spText) (GX : Df K mg "_law_text" fX) (bX : Binds K dX ["_law_state"] []) : FnOk P w K mg base CX0 3 f fd ["_law_state"] spThing := by
  refine F.ok scThing (fun vs H Q E h => ?_) (fun cdv A outer s H vs Q E hr h => ?_)
  · obtain ⟨st, cl, m, rfl, _⟩ := h
    rfl
  · obtain ⟨st, cl, m, rfl, S, hm, k⟩ := h
    have hr1 : Room 1 _ := hr.mono (by decide)
    refine ⟨_, pss_cons (ps_set (i := 1) scThing.nd rfl (Or.inl rfl) (pe_op op_sub (pe_call ET hr1 rfl GT.mg GT.kp bT .nil pass0 (pa_cons (pv 0) (pa_cons pe_int pa_nil))) pe_int))
      (pss_cons (ps_set (i := 2) scThing.nd rfl (Or.inl rfl) (pe_tup (pa_cons (pv 1) (pa_cons (pe_call ET hr1 rfl GT.mg GT.kp bT .nil pass0 (pa_cons (pv 0) (pa_cons pe_int pa_nil))) (pa_cons pe_int pa_nil)))))
      (pss_one (ps_ret (pe_ix ix_list (pe_lst (pa_cons (pe_call EX hr rfl GX.mg GX.kp bX .nil pass0 (pa_cons (pv 0) pa_nil)) (pa_cons (pv 1) (pa_cons pe_non (pa_cons (pv 2) (pa_cons (pe_op op_sub (pe_un un_neg (pe_op op_pow pe_int pe_int)) (pv 1)) (pa_cons pe_str (pa_cons pe_int pa_nil))))))))
        (pe_call ET hr1 rfl GT.mg GT.kp bT .nil pass0 (pa_cons (pv 0) (pa_cons pe_int pa_nil))) fun _ _ => rfl)))), ?_⟩
    refine ⟨_, rfl, st, cl, m, 2000001, rfl, S, by omega, by decide, by decide, fun n H1 n0 n1 S1 k1 => ?_⟩
    refine ⟨_, _, rfl, rfl, ?_⟩
    refine ⟨_, rfl, _, rfl, st, cl, _, 9, rfl, S1, by omega, by decide, by decide, fun b H2 b0 b1 S2 k2 => ?_⟩
    refine ⟨by show 3 ≤ sizeLine; decide, fun T hT => ?_⟩
    obtain ⟨T1, T2⟩ := S2.nst hT
    have S3 := S2.upd (o := .tup [V.int (n - 1000000), V.int b, V.int 0]) T1 T2
    have k3 : Kb st cl H (L2.upd H2 T (.tup [V.int (n - 1000000), V.int b, V.int 0])) := (k1.trans k2).new (S.free S2 (k1.trans k2) hT)
    have hT3 : (L2.upd H2 T (.tup [V.int (n - 1000000), V.int b, V.int 0])) T = some (.tup [V.int (n - 1000000), V.int b, V.int 0]) := upd_same
    obtain ⟨H3, hH3⟩ : ∃ H3, H3 = L2.upd H2 T (.tup [V.int (n - 1000000), V.int b, V.int 0]) := ⟨_, rfl⟩
    rw [← hH3] at S3 k3 hT3
    rw [← hH3]
    refine ⟨_, rfl, st, cl, _, rfl, S3, by omega, fun z H4 hz S4 k4 => ?_⟩
    refine ⟨_, rfl, _, rfl, ?_⟩
    refine ⟨_, _, rfl, rfl, ⟨by decide, by decide, by decide⟩, _, rfl, ?_⟩
    refine ⟨_, rfl, _, _, rfl, rfl, ?_⟩
    refine ⟨by show 7 ≤ sizeLine; decide, fun L hL => ?_⟩
    obtain ⟨L1, L2⟩ := S4.nst hL
    refine ⟨_, rfl, st, cl, _, 7, rfl, S4.upd L1 L2, by omega, by decide, by decide, fun c H5 c0 c1 S5 k5 => ?_⟩
    have hL5 := k5 L _ upd_same L1 L2
    have k45 : Kb st cl H H5 := ((k3.trans k4).new (S.free S4 (k3.trans k4) hL)).trans k5
    have hT5 : H5 T = some (.tup [V.int (n - 1000000), V.int b, V.int 0]) := k5 T _ (by rw [upd_ne (ne_of_none (k4 T _ hT3 T1 T2) hL)]; exact k4 T _ hT3 T1 T2) T1 T2
    obtain ⟨v, d, hv, hth⟩ : ∃ (v : V) (d : PyData), ([V.str z, V.int (n - 1000000), V.non, V.ref T, V.int (-(10 : Int) ^ (28 : Int).toNat - (n - 1000000)), V.str (Str.ofString ""), V.int 0] : List V)[c.toNat]? = some v ∧ Th H5 v d := by
      have hc : c.toNat < 7 := by omega
      generalize c.toNat = j at hc
      match j, hc with
      | 0, _ => exact ⟨_, _, rfl, .str z hz⟩
      | 1, _ => exact ⟨_, _, rfl, .int _⟩
      | 2, _ => exact ⟨_, _, rfl, .non⟩
      | 3, _ => exact ⟨_, _, rfl, .tup T _ _ _ hT5⟩
      | 4, _ => exact ⟨_, _, rfl, .int _⟩
      | 5, _ => exact ⟨_, _, rfl, .str _ okS_empty⟩
      | 6, _ => exact ⟨_, _, rfl, .int _⟩
    refine ⟨L, _, _, v, rfl, rfl, SqL.of hL5, atI_in c0 hv, ?_⟩
    exact k v d H5 hth (S5.mono (by omega)) k45
end
end OS
namespace OS
open PySem L2
/-- what the law needs of the twelve classes -/
structure Twelve (K : PySem.W.Frag) (mg : Str → Option Value) (cs : Nat → Addr) (ONE : Addr) : Prop where
  one : mg "OneshardError" = some (.ref ONE)
  m0 : mg "BadName" = some (.ref (cs 0))
  m1 : mg "DuplicateName" = some (.ref (cs 1))
  m2 : mg "UnknownName" = some (.ref (cs 2))
  m3 : mg "BadCount" = some (.ref (cs 3))
  m4 : mg "OutOfRange" = some (.ref (cs 4))
  m5 : mg "BadLine" = some (.ref (cs 5))
  m6 : mg "BadLength" = some (.ref (cs 6))
  m7 : mg "ZeroSum" = some (.ref (cs 7))
  m8 : mg "NotPrime" = some (.ref (cs 8))
  m9 : mg "NotSure" = some (.ref (cs 9))
  m10 : mg "IsSure" = some (.ref (cs 10))
  m11 : mg "NothingToUndo" = some (.ref (cs 11))
  exc : ∀ i, i < 12 → ExcC K (cs i)
  kit : ∀ i, i < 12 → ∀ j, j < 12 → PySem.W.kitOne K (.ref (cs i)) (.ref (cs j)) = some (decide (i = j))
  kone : ∀ i, i < 12 → PySem.W.kitOne K (.ref (cs i)) (.ref ONE) = some true
  kval : ∀ i, i < 12 → PySem.W.kitOne K (.ref (cs i)) (.type "ValueError") = some true
def spKinds (cs : Nat → Addr) : Sp := fun vs H Q _ => ∃ (a : Addr) (i : Nat), vs = [.ref a] ∧ i < 12 ∧ ErrV H a (cs i) ∧ ∀ (L : Addr) (H' : Hp), H L = none → H' L = some (.lst ((List.range 12).map fun j => V.bl (decide (i = j)))) → Same H H' → Q (.ref L) H'
def spRight (cs : Nat → Addr) : Sp := fun vs H Q _ => ∃ (a : Addr) (i : Nat), vs = [.ref a, .int i] ∧ i < 12 ∧ ErrV H a (cs i) ∧ ∀ H', Same H H' → Q (.bl true) H'
theorem bools_shaped (f : Nat → Bool) : ∀ l : List Nat, PyData.canLayAll0 (l.map fun j => PyData.bool (f j)) = true ∧ PyData.depthAll (l.map fun j => PyData.bool (f j)) ≤ 1
  | [] => ⟨rfl, by simp [PyData.depthAll]⟩
  | x :: l => by
    obtain ⟨h1, h2⟩ := bools_shaped f l
    refine ⟨by simp [PyData.canLay0, PyData.canLayAll0, h1], ?_⟩
    simp only [List.map_cons, PyData.depth, PyData.depthAll]
    omega
theorem bools_dp {K : PySem.W.Frag} {H : Hp} (f : Nat → Bool) : ∀ l : List Nat, DpAll K H (l.map fun j => V.bl (f j)) (l.map fun j => PyData.bool (f j))
  | [] => .nil
  | _ :: l => .cons (.bl _) (bools_dp f l)
section
variable {P : Program} {w : World} {K : PySem.W.Frag} {mg : Str → Option Value} {base : Heap}
abbrev nKinds : List Str := ["_law_e", "_law_kinds_here"]
theorem scKinds : FnScope nKinds ["_law_e"] (defScope s_kinds) := ⟨rfl, rfl, rfl, by decide +kernel, rfl, by decide +kernel, by decide +kernel⟩
theorem ok_kinds {f ONE : Addr} {cs : Nat → Addr} {fd : FuncData} (F : Fun K "_law_kinds" "_law_kinds" s_kinds f fd) (mI : mg "isinstance" = none) (W : Twelve K mg cs ONE) : FnOk P w K mg base CX0 1 f fd ["_law_e"] (spKinds cs) := by
  refine F.ok scKinds (fun vs H Q E h => ?_) (fun cdv A outer s H vs Q E hr h => ?_)
  · obtain ⟨a, i, rfl, _⟩ := h
    rfl
  · obtain ⟨a, i, rfl, hi, he, k⟩ := h
    have X := W.exc i hi
    have kk := W.kit i hi
    refine ⟨_, pss_cons (ps_set (i := 1) scKinds.nd rfl (Or.inl rfl) (pe_lst (pa_cons (pe_callB call_isV (by rfl) mI (by decide +kernel) (pa_cons (pv 0) (pa_cons (pe_glob (v := V.ref (cs 0)) rfl W.m0 rfl) pa_nil))) (pa_cons (pe_callB call_isV (by rfl) mI (by decide +kernel) (pa_cons (pv 0) (pa_cons (pe_glob (v := V.ref (cs 1)) rfl W.m1 rfl) pa_nil))) (pa_cons (pe_callB call_isV (by rfl) mI (by decide +kernel) (pa_cons (pv 0) (pa_cons (pe_glob (v := V.ref (cs 2)) rfl W.m2 rfl) pa_nil))) pa_nil)))))
      (pss_cons (ps_set (i := 1) scKinds.nd rfl (Or.inl rfl) (pe_op op_cat (pv 1) (pe_lst (pa_cons (pe_callB call_isV (by rfl) mI (by decide +kernel) (pa_cons (pv 0) (pa_cons (pe_glob (v := V.ref (cs 3)) rfl W.m3 rfl) pa_nil))) (pa_cons (pe_callB call_isV (by rfl) mI (by decide +kernel) (pa_cons (pv 0) (pa_cons (pe_glob (v := V.ref (cs 4)) rfl W.m4 rfl) pa_nil))) (pa_cons (pe_callB call_isV (by rfl) mI (by decide +kernel) (pa_cons (pv 0) (pa_cons (pe_glob (v := V.ref (cs 5)) rfl W.m5 rfl) pa_nil))) pa_nil))))))
      (pss_cons (ps_set (i := 1) scKinds.nd rfl (Or.inl rfl) (pe_op op_cat (pv 1) (pe_lst (pa_cons (pe_callB call_isV (by rfl) mI (by decide +kernel) (pa_cons (pv 0) (pa_cons (pe_glob (v := V.ref (cs 6)) rfl W.m6 rfl) pa_nil))) (pa_cons (pe_callB call_isV (by rfl) mI (by decide +kernel) (pa_cons (pv 0) (pa_cons (pe_glob (v := V.ref (cs 7)) rfl W.m7 rfl) pa_nil))) (pa_cons (pe_callB call_isV (by rfl) mI (by decide +kernel) (pa_cons (pv 0) (pa_cons (pe_glob (v := V.ref (cs 8)) rfl W.m8 rfl) pa_nil))) pa_nil))))))
      (pss_one (ps_ret (pe_op op_cat (pv 1) (pe_lst (pa_cons (pe_callB call_isV (by rfl) mI (by decide +kernel) (pa_cons (pv 0) (pa_cons (pe_glob (v := V.ref (cs 9)) rfl W.m9 rfl) pa_nil))) (pa_cons (pe_callB call_isV (by rfl) mI (by decide +kernel) (pa_cons (pv 0) (pa_cons (pe_glob (v := V.ref (cs 10)) rfl W.m10 rfl) pa_nil))) (pa_cons (pe_callB call_isV (by rfl) mI (by decide +kernel) (pa_cons (pv 0) (pa_cons (pe_glob (v := V.ref (cs 11)) rfl W.m11 rfl) pa_nil))) pa_nil))))))))), ?_⟩
    refine ⟨_, rfl, a, _, _, _, _, rfl, he, X, (fun u r => r), kk 0 (by decide), ?_⟩
    refine ⟨_, rfl, a, _, _, _, _, rfl, he, X, (fun u r => r), kk 1 (by decide), ?_⟩
    refine ⟨_, rfl, a, _, _, _, _, rfl, he, X, (fun u r => r), kk 2 (by decide), ?_⟩
    refine ⟨by show 3 ≤ sizeLine; decide, fun l1 n1 => ?_⟩
    have s1 := sameUpd (o := .lst [V.bl (decide (i = 0)), V.bl (decide (i = 1)), V.bl (decide (i = 2))]) (Same.refl H) n1
    obtain ⟨H1, hH1⟩ : ∃ H1, H1 = L2.upd H l1 (.lst [V.bl (decide (i = 0)), V.bl (decide (i = 1)), V.bl (decide (i = 2))]) := ⟨_, rfl⟩
    rw [← hH1] at s1
    rw [← hH1]
    have e1 : H1 l1 = some (.lst [V.bl (decide (i = 0)), V.bl (decide (i = 1)), V.bl (decide (i = 2))]) := by rw [hH1]; exact upd_same
    refine ⟨_, rfl, ?_⟩
    refine ⟨_, rfl, a, _, _, _, _, rfl, he.same s1, X, (fun u r => r), kk 3 (by decide), ?_⟩
    refine ⟨_, rfl, a, _, _, _, _, rfl, he.same s1, X, (fun u r => r), kk 4 (by decide), ?_⟩
    refine ⟨_, rfl, a, _, _, _, _, rfl, he.same s1, X, (fun u r => r), kk 5 (by decide), ?_⟩
    refine ⟨by show 3 ≤ sizeLine; decide, fun q2 n2 => ?_⟩
    obtain ⟨G2, hG2⟩ : ∃ G, G = L2.upd H1 q2 (.lst [V.bl (decide (i = 3)), V.bl (decide (i = 4)), V.bl (decide (i = 5))]) := ⟨_, rfl⟩
    have t2 : Same H1 G2 := by rw [hG2]; exact sameUpd (Same.refl _) n2
    have f2 : G2 q2 = some (.lst [V.bl (decide (i = 3)), V.bl (decide (i = 4)), V.bl (decide (i = 5))]) := by rw [hG2]; exact upd_same
    rw [← hG2]
    refine ⟨l1, q2, _, _, rfl, rfl, t2 _ _ e1, f2, by show 6 ≤ sizeLine; decide, fun l2 p2 => ?_⟩
    obtain ⟨H2, hH2⟩ : ∃ G, G = L2.upd G2 l2 (.lst ([V.bl (decide (i = 0)), V.bl (decide (i = 1)), V.bl (decide (i = 2))] ++ [V.bl (decide (i = 3)), V.bl (decide (i = 4)), V.bl (decide (i = 5))])) := ⟨_, rfl⟩
    have s2 : Same H H2 := by rw [hH2]; exact (s1.trans t2).trans (sameUpd (Same.refl _) p2)
    have e2 : H2 l2 = some (.lst ([V.bl (decide (i = 0)), V.bl (decide (i = 1)), V.bl (decide (i = 2))] ++ [V.bl (decide (i = 3)), V.bl (decide (i = 4)), V.bl (decide (i = 5))])) := by rw [hH2]; exact upd_same
    rw [← hH2]
    refine ⟨_, rfl, ?_⟩
    refine ⟨_, rfl, a, _, _, _, _, rfl, he.same s2, X, (fun u r => r), kk 6 (by decide), ?_⟩
    refine ⟨_, rfl, a, _, _, _, _, rfl, he.same s2, X, (fun u r => r), kk 7 (by decide), ?_⟩
    refine ⟨_, rfl, a, _, _, _, _, rfl, he.same s2, X, (fun u r => r), kk 8 (by decide), ?_⟩
    refine ⟨by show 3 ≤ sizeLine; decide, fun q3 n3 => ?_⟩
    obtain ⟨G3, hG3⟩ : ∃ G, G = L2.upd H2 q3 (.lst [V.bl (decide (i = 6)), V.bl (decide (i = 7)), V.bl (decide (i = 8))]) := ⟨_, rfl⟩
    have t3 : Same H2 G3 := by rw [hG3]; exact sameUpd (Same.refl _) n3
    have f3 : G3 q3 = some (.lst [V.bl (decide (i = 6)), V.bl (decide (i = 7)), V.bl (decide (i = 8))]) := by rw [hG3]; exact upd_same
    rw [← hG3]
    refine ⟨l2, q3, _, _, rfl, rfl, t3 _ _ e2, f3, by show 9 ≤ sizeLine; decide, fun l3 p3 => ?_⟩
    obtain ⟨H3, hH3⟩ : ∃ G, G = L2.upd G3 l3 (.lst (([V.bl (decide (i = 0)), V.bl (decide (i = 1)), V.bl (decide (i = 2))] ++ [V.bl (decide (i = 3)), V.bl (decide (i = 4)), V.bl (decide (i = 5))]) ++ [V.bl (decide (i = 6)), V.bl (decide (i = 7)), V.bl (decide (i = 8))])) := ⟨_, rfl⟩
    have s3 : Same H H3 := by rw [hH3]; exact (s2.trans t3).trans (sameUpd (Same.refl _) p3)
    have e3 : H3 l3 = some (.lst (([V.bl (decide (i = 0)), V.bl (decide (i = 1)), V.bl (decide (i = 2))] ++ [V.bl (decide (i = 3)), V.bl (decide (i = 4)), V.bl (decide (i = 5))]) ++ [V.bl (decide (i = 6)), V.bl (decide (i = 7)), V.bl (decide (i = 8))])) := by rw [hH3]; exact upd_same
    rw [← hH3]
    refine ⟨_, rfl, ?_⟩
    refine ⟨_, rfl, a, _, _, _, _, rfl, he.same s3, X, (fun u r => r), kk 9 (by decide), ?_⟩
    refine ⟨_, rfl, a, _, _, _, _, rfl, he.same s3, X, (fun u r => r), kk 10 (by decide), ?_⟩
    refine ⟨_, rfl, a, _, _, _, _, rfl, he.same s3, X, (fun u r => r), kk 11 (by decide), ?_⟩
    refine ⟨by show 3 ≤ sizeLine; decide, fun q4 n4 => ?_⟩
    obtain ⟨G4, hG4⟩ : ∃ G, G = L2.upd H3 q4 (.lst [V.bl (decide (i = 9)), V.bl (decide (i = 10)), V.bl (decide (i = 11))]) := ⟨_, rfl⟩
    have t4 : Same H3 G4 := by rw [hG4]; exact sameUpd (Same.refl _) n4
    have f4 : G4 q4 = some (.lst [V.bl (decide (i = 9)), V.bl (decide (i = 10)), V.bl (decide (i = 11))]) := by rw [hG4]; exact upd_same
    rw [← hG4]
    refine ⟨l3, q4, _, _, rfl, rfl, t4 _ _ e3, f4, by show 12 ≤ sizeLine; decide, fun l4 p4 => ?_⟩
    have s4 := s3.trans t4
    exact k l4 _ (s4.free p4) (by rw [upd_same]; rfl) (s4.trans (sameUpd (Same.refl _) p4))
abbrev nRight : List Str := ["_law_e", "_law_number", "_law_k"]
theorem scRight : FnScope nRight ["_law_e", "_law_number"] (defScope s_right) := ⟨rfl, rfl, rfl, by decide +kernel, rfl, by decide +kernel, by decide +kernel⟩
theorem ok_right {f fK ONE : Addr} {cs : Nat → Addr} {fd dK_ : FuncData} (F : Fun K "_law_right" "_law_right" s_right f fd) (mI : mg "isinstance" = none) (mV : mg "ValueError" = none) (mR : mg "range" = none) (W : Twelve K mg cs ONE)
    (EK : FnOk P w K mg base CX0 1 fK dK_ ["_law_e"] (spKinds cs)) (GK : Df K mg "_law_kinds" fK) (bK : Binds K dK_ ["_law_e"] []) : FnOk P w K mg base CX0 2 f fd ["_law_e", "_law_number"] (spRight cs) := by
  refine F.ok scRight (fun vs H Q E h => ?_) (fun cdv A outer s H vs Q E hr h => ?_)
  · obtain ⟨a, i, rfl, _⟩ := h
    rfl
  · obtain ⟨a, i, rfl, hi, he, k⟩ := h
    have X := W.exc i hi
    refine ⟨_, pss_cons (ps_if (PW.pt (pw_or (pt_not (pt_val (pe_callB call_isV (by rfl) mI (by decide +kernel) (pa_cons (pv 0) (pa_cons (pe_glob (v := V.ref ONE) rfl W.one rfl) pa_nil)))))
        (pw_or1 (pt_not (pt_val (pe_callB call_isV (by rfl) mI (by decide +kernel) (pa_cons (pv 0) (pa_cons (pe_bltn (v := V.ty "ValueError") (u := .type "ValueError") (by rfl) mV (by decide +kernel) rfl) pa_nil)))))))) (pss_one (ps_ret pe_bl)) pss_nil)
      (pss_one (ps_ret (pe_cmpR (op_eqD hr.units) (pe_call EK hr rfl GK.mg GK.kp bK .nil pass0 (pa_cons (pv 0) pa_nil))
        (pe_lc (own := [("_law_k", 2)]) (g := gName 2) (tt := tYes) rfl scRight.nd (pi_range1 rfl mR (pa_cons pe_int pa_nil)) (blkOk_by (own := [("_law_k", 2)]) (N := nRight) (sc := defScope s_right) (by decide +kernel))
          (fun _ _ _ _ _ => pg_name (i := 2) scRight.nd rfl (Or.inl rfl)) (fun _ _ _ _ _ => pts_nil) (fun _ _ _ _ _ => pe_cmpR op_eq (pv 2) (pv 1) (nomark _))) (nomark _)))), ?_⟩
    refine ⟨_, rfl, a, _, _, _, _, rfl, he, X, (fun u r => r), W.kone i hi, _, rfl, ?_⟩
    refine iteF ?_
    refine ⟨_, rfl, a, _, _, _, _, rfl, he, X, (fun u r => r), W.kval i hi, _, rfl, ?_⟩
    refine iteF ?_
    refine ⟨_, rfl, a, i, rfl, hi, he, fun L H1 nL eL s1 => ?_⟩
    refine ⟨_, rfl, by omega, by omega, fun D hD => lc_range (lo := 0) (n := 12) (fun j H' => Same H1 H' ∧ H' D = some (.lst ((List.range j).map fun x => V.bl (decide (i = x))))) ⟨sameUpd (Same.refl _) hD, by rw [upd_same]; rfl⟩ ?_ ?_⟩
    · rintro j H2 hj ⟨s2, e2⟩
      refine ⟨rfl, ?_⟩
      refine ⟨_, rfl, _, rfl, rfl, ?_⟩
      refine ⟨_, e2, ?_, sameUpd s2 hD, ?_⟩
      · rw [List.length_map, List.length_range]
        exact small1000 (by omega)
      · rw [upd_same, List.range_succ, List.map_append]
        have hd : decide (V.int (0 + (j : Int)) = V.int (i : Int)) = decide (i = j) := by
          by_cases q : i = j
          · rw [q, decide_eq_true rfl, decide_eq_true (by rw [Int.zero_add])]
          · rw [decide_eq_false q, decide_eq_false (fun e => q (by have := V.int.inj e; omega))]
        show some (HO.lst (_ ++ [V.bl (decide (V.int (0 + (j : Int)) = V.int (i : Int)))])) = _
        rw [hd]
        rfl
    · rintro H2 ⟨s2, e2⟩
      have hsh : PySem.SeqAt.shaped (.list ((List.range 12).map fun x => PyData.bool (decide (i = x)))) = true := by
        obtain ⟨h1, h2⟩ := bools_shaped (fun x => decide (i = x)) (List.range 12)
        unfold SeqAt.shaped
        rw [Bool.and_eq_true]
        refine ⟨h1, decide_eq_true ?_⟩
        simp only [PyData.depth]
        omega
      refine ⟨_, _, .lst (SqL.of (s2 _ _ eL)) (bools_dp _ _), .lst (SqL.of e2) (bools_dp _ _), hsh, hsh, ?_⟩
      rw [SeqAt.eqv_refl _ (SeqAt.canLay_of_shaped hsh)]
      exact k H2 (s1.trans s2)
end
end OS
namespace OS
open PySem L2
def spLaw (K : PySem.W.Frag) : Sp := fun vs H Q _ => ∃ (a : Addr) (ns : List Int), vs = [.ref a] ∧ SqL K H a (ns.map V.int) ∧ ns.length ≤ 63 ∧ ∀ H', Q (.bl true) H'
theorem ths_shaped : ∀ {ds : List PyData}, (∀ d ∈ ds, d.canLay0 = true ∧ d.depth ≤ 2) → PyData.canLayAll0 ds = true ∧ PyData.depthAll ds ≤ 2
  | [], _ => ⟨rfl, by simp [PyData.depthAll]⟩
  | d :: ds, h => by
    obtain ⟨h1, h2⟩ := ths_shaped (ds := ds) fun x hx => h x (List.mem_cons_of_mem _ hx)
    obtain ⟨h3, h4⟩ := h d List.mem_cons_self
    refine ⟨by simp [PyData.canLayAll0, h1, h3], ?_⟩
    simp only [PyData.depthAll]
    omega
theorem shl {ds : List PyData} (h : ∀ d ∈ ds, d.canLay0 = true ∧ d.depth ≤ 2) : PySem.SeqAt.shaped (.list ds) = true ∧ PyData.eqv (.list ds) (.list ds) = true := by
  obtain ⟨h1, h2⟩ := ths_shaped h
  have : PySem.SeqAt.shaped (.list ds) = true := by
    unfold SeqAt.shaped
    rw [Bool.and_eq_true]
    refine ⟨h1, decide_eq_true ?_⟩
    simp only [PyData.depth]
    omega
  exact ⟨this, SeqAt.eqv_refl _ (SeqAt.canLay_of_shaped this)⟩
section
variable {P : Program} {w : World} {K : PySem.W.Frag} {mg : Str → Option Value} {base : Heap}
abbrev nLaw : List Str := ["_law_script", "_law_state", "_law_things", "_law_made", "_law_k", "_law_named"]
theorem scLaw : FnScope nLaw ["_law_script"] (defScope sLaw) := ⟨rfl, rfl, rfl, by decide +kernel, rfl, by decide +kernel, by decide +kernel⟩
/-- the errors' own __init__-/
structure Inits (P : Program) (w : World) (K : PySem.W.Frag) (mg : Str → Option Value) (base : Heap) (cs : Nat → Addr) where
  (f0 : Addr)
  (d0 : FuncData)
  u0 : ErrC K mg "BadName" (cs 0) f0 "name"
  e0 : FnOk P w K mg base CX0 1 f0 d0 ["self", "name"] (spE K (cs 0) "name")
  b0 : Binds K d0 ["self", "name"] []
  (f1 : Addr)
  (d1 : FuncData)
  u1 : ErrC K mg "DuplicateName" (cs 1) f1 "name"
  e1 : FnOk P w K mg base CX0 1 f1 d1 ["self", "name"] (spE K (cs 1) "name")
  b1 : Binds K d1 ["self", "name"] []
  (f2 : Addr)
  (d2 : FuncData)
  u2 : ErrC K mg "UnknownName" (cs 2) f2 "name"
  e2 : FnOk P w K mg base CX0 1 f2 d2 ["self", "name"] (spE K (cs 2) "name")
  b2 : Binds K d2 ["self", "name"] []
  (f3 : Addr)
  (d3 : FuncData)
  u3 : ErrC K mg "BadCount" (cs 3) f3 "count"
  e3 : FnOk P w K mg base CX0 1 f3 d3 ["self", "count"] (spE K (cs 3) "count")
  b3 : Binds K d3 ["self", "count"] []
  (f4 : Addr)
  (d4 : FuncData)
  u4 : ErrC K mg "OutOfRange" (cs 4) f4 "value"
  e4 : FnOk P w K mg base CX0 1 f4 d4 ["self", "value"] (spE K (cs 4) "value")
  b4 : Binds K d4 ["self", "value"] []
  (f5 : Addr)
  (d5 : FuncData)
  u5 : ErrC K mg "BadLine" (cs 5) f5 "number"
  e5 : FnOk P w K mg base CX0 1 f5 d5 ["self", "number", "text"] (spE2 K (cs 5) "number" "text")
  b5 : Binds K d5 ["self", "number", "text"] []
  (f6 : Addr)
  (d6 : FuncData)
  u6 : ErrC K mg "BadLength" (cs 6) f6 "length"
  e6 : FnOk P w K mg base CX0 1 f6 d6 ["self", "length"] (spE K (cs 6) "length")
  b6 : Binds K d6 ["self", "length"] []
  (f7 : Addr)
  (d7 : FuncData)
  u7 : ErrC K mg "ZeroSum" (cs 7) f7 "numbers"
  e7 : FnOk P w K mg base CX0 1 f7 d7 ["self", "numbers"] (spE K (cs 7) "numbers")
  b7 : Binds K d7 ["self", "numbers"] []
  (f8 : Addr)
  (d8 : FuncData)
  u8 : ErrC K mg "NotPrime" (cs 8) f8 "value"
  e8 : FnOk P w K mg base CX0 1 f8 d8 ["self", "value"] (spE K (cs 8) "value")
  b8 : Binds K d8 ["self", "value"] []
  (f9 : Addr)
  (d9 : FuncData)
  u9 : ErrC K mg "NotSure" (cs 9) f9 "kind"
  e9 : FnOk P w K mg base CX0 1 f9 d9 ["self", "kind"] (spE K (cs 9) "kind")
  b9 : Binds K d9 ["self", "kind"] []
  (f10 : Addr)
  (d10 : FuncData)
  u10 : ErrC K mg "IsSure" (cs 10) f10 "kind"
  e10 : FnOk P w K mg base CX0 1 f10 d10 ["self", "kind"] (spE K (cs 10) "kind")
  b10 : Binds K d10 ["self", "kind"] []
  t5 : PySem.W.findIn K (.ref (cs 5)) "text" = some none
  (g1 g2 : List Value → List Value → List Value)
  k5 : KBn K d5 ["self", "number", "text"] 2 ["text"] g1 (fun vs zs => vs ++ zs)
  k0 : KBn K d0 ["self", "name"] 1 ["name"] g2 (fun vs zs => vs ++ zs)
  (bm : List Value)
  (B nw it : String)
  un : ExcBaseFacts B nw it bm
  uq : PySem.W.excIn K (cs 11) bm nw = true
  uk : PySem.W.keepIn K (.ref (cs 11)) = true
theorem ok_law {f fS fT fR ONE : Addr} {cs : Nat → Addr} {fd dS dT dR : FuncData} (F : Fun K "law" "law" sLaw f fd) (mR : mg "range" = none) (W : Twelve K mg cs ONE) (Z : Inits P w K mg base cs)
    (ES : FnOk P w K mg base CX0 1 fS dS ["_law_script"] (spStart K)) (GS : Df K mg "_law_start" fS) (bS : Binds K dS ["_law_script"] [])
    (ET : FnOk P w K mg base CX0 3 fT dT ["_law_state"] spThing) (GT : Df K mg "_law_thing" fT) (bT : Binds K dT ["_law_state"] [])
    (ER : FnOk P w K mg base CX0 2 fR dR ["_law_e", "_law_number"] (spRight cs)) (GR : Df K mg "_law_right" fR) (bR : Binds K dR ["_law_e", "_law_number"] []) :
    FnOk P w K mg base CX0 4 f fd ["_law_script"] (spLaw K) := by
  obtain ⟨f0, d0, u0, e0, b0, f1, d1, u1, e1, b1, f2, d2, u2, e2, b2, f3, d3, u3, e3, b3, f4, d4, u4, e4, b4, f5, d5, u5, e5, b5, f6, d6, u6, e6, b6, f7, d7, u7, e7, b7, f8, d8, u8, e8, b8, f9, d9, u9, e9, b9, f10, d10, u10, e10, b10, t5, g1, g2, k5, k0, bm, B, nw, it, un, uq, uk⟩ := Z
  refine F.ok scLaw (fun vs H Q E h => ?_) (fun cdv A outer s H vs Q E hr h => ?_)
  · obtain ⟨a, ns, rfl, _⟩ := h
    rfl
  · obtain ⟨a, ns0, rfl, hS, hn, k⟩ := h
    have hr1 : Room 1 _ := hr.mono (by decide)
    have hr2 : Room 2 _ := hr.mono (by decide)
    have hr3 : Room 3 _ := hr
    refine ⟨_, pss_cons (ps_set (i := 1) scLaw.nd rfl (Or.inr rfl) (pe_call ES hr1 rfl GS.mg GS.kp bS .nil pass0 (pa_cons (pv 0) pa_nil)))
      (pss_cons (ps_setLc (i := 2) (own := [("_law_k", 4)]) (g := gName 4) (tt := tYes) rfl scLaw.nd rfl rfl (sw_true rfl rfl rfl (by decide +kernel)) (pi_range1 rfl mR (pa_cons pe_int pa_nil)) (blkOk_by (own := [("_law_k", 4)]) (N := nLaw) (sc := defScope sLaw) (by decide +kernel))
          (fun _ _ _ _ _ => pg_name (i := 4) scLaw.nd rfl (Or.inl rfl)) (fun _ _ _ _ _ => pts_nil) (fun _ _ _ _ _ => pe_call ET hr3 rfl GT.mg GT.kp bT .nil pass0 (pa_cons (pv 1) pa_nil)))
      (pss_cons (ps_set (i := 3) scLaw.nd rfl (Or.inl rfl) (pe_lst (pa_cons (pe_oex u0.ox u0.iC u0.tI e0 hr2 b0 .nil pass0 rfl W.m0 (pa_cons (pe_ix ix_list (pv 2) pe_int fun _ _ => rfl) pa_nil)) (pa_cons (pe_oex u1.ox u1.iC u1.tI e1 hr2 b1 .nil pass0 rfl W.m1 (pa_cons (pe_ix ix_list (pv 2) pe_int fun _ _ => rfl) pa_nil)) (pa_cons (pe_oex u2.ox u2.iC u2.tI e2 hr2 b2 .nil pass0 rfl W.m2 (pa_cons (pe_ix ix_list (pv 2) pe_int fun _ _ => rfl) pa_nil)) (pa_cons (pe_oex u3.ox u3.iC u3.tI e3 hr2 b3 .nil pass0 rfl W.m3 (pa_cons (pe_ix ix_list (pv 2) pe_int fun _ _ => rfl) pa_nil)) pa_nil))))))
      (pss_cons (ps_set (i := 3) scLaw.nd rfl (Or.inl rfl) (pe_op op_cat (pv 3) (pe_lst (pa_cons (pe_oex u4.ox u4.iC u4.tI e4 hr2 b4 .nil pass0 rfl W.m4 (pa_cons (pe_ix ix_list (pv 2) pe_int fun _ _ => rfl) pa_nil)) (pa_cons (pe_oex u5.ox u5.iC u5.tI e5 hr2 b5 .nil pass0 rfl W.m5 (pa_cons (pe_ix ix_list (pv 2) pe_int fun _ _ => rfl) (pa_cons (pe_ix ix_list (pv 2) pe_int fun _ _ => rfl) pa_nil))) (pa_cons (pe_oex u6.ox u6.iC u6.tI e6 hr2 b6 .nil pass0 rfl W.m6 (pa_cons (pe_ix ix_list (pv 2) pe_int fun _ _ => rfl) pa_nil)) pa_nil))))))
      (pss_cons (ps_set (i := 3) scLaw.nd rfl (Or.inl rfl) (pe_op op_cat (pv 3) (pe_lst (pa_cons (pe_oex u7.ox u7.iC u7.tI e7 hr2 b7 .nil pass0 rfl W.m7 (pa_cons (pe_ix ix_list (pv 2) pe_int fun _ _ => rfl) pa_nil)) (pa_cons (pe_oex u8.ox u8.iC u8.tI e8 hr2 b8 .nil pass0 rfl W.m8 (pa_cons (pe_ix ix_list (pv 2) pe_int fun _ _ => rfl) pa_nil)) (pa_cons (pe_oex u9.ox u9.iC u9.tI e9 hr2 b9 .nil pass0 rfl W.m9 (pa_cons (pe_ix ix_list (pv 2) pe_int fun _ _ => rfl) pa_nil)) (pa_cons (pe_oex u10.ox u10.iC u10.tI e10 hr2 b10 .nil pass0 rfl W.m10 (pa_cons (pe_ix ix_list (pv 2) pe_int fun _ _ => rfl) pa_nil)) (pa_cons (pe_exc0 un uq W.m11 uk rfl) pa_nil))))))))
      (pss_cons (ps_for PassesOwn.never rfl (pi_range1 rfl mR (pa_cons pe_int pa_nil)) (pg_name (i := 4) scLaw.nd rfl (Or.inl rfl))
        (pss_one (ps_if (pt_not (pt_val (pe_call ER hr2 rfl GR.mg GR.kp bR .nil pass0 (pa_cons (pe_ix ix_list (pv 3) (pv 4) fun _ _ => rfl) (pa_cons (pv 4) pa_nil))))) (pss_one (ps_ret pe_bl)) pss_nil)))
      (pss_cons (ps_if (pt_cmpR (op_neD hr.units) (pe_lst (pa_cons (pe_xv ⟨u0.xf.ga, u0.xf.gg, u0.xf.exC, u0.xf.hdC⟩ u0.no (pe_ix ix_list (pv 3) pe_int fun _ _ => rfl)) (pa_cons (pe_xv ⟨u1.xf.ga, u1.xf.gg, u1.xf.exC, u1.xf.hdC⟩ u1.no (pe_ix ix_list (pv 3) pe_int fun _ _ => rfl)) (pa_cons (pe_xv ⟨u2.xf.ga, u2.xf.gg, u2.xf.exC, u2.xf.hdC⟩ u2.no (pe_ix ix_list (pv 3) pe_int fun _ _ => rfl)) (pa_cons (pe_xv ⟨u3.xf.ga, u3.xf.gg, u3.xf.exC, u3.xf.hdC⟩ u3.no (pe_ix ix_list (pv 3) pe_int fun _ _ => rfl)) pa_nil))))) (pe_slice sl_list (pv 2) po_none (po_some pe_int)) (nomark _)) (pss_one (ps_ret pe_bl)) pss_nil)
      (pss_cons (ps_if (pt_cmpR (op_neD hr.units) (pe_lst (pa_cons (pe_xv ⟨u4.xf.ga, u4.xf.gg, u4.xf.exC, u4.xf.hdC⟩ u4.no (pe_ix ix_list (pv 3) pe_int fun _ _ => rfl)) (pa_cons (pe_xv ⟨u5.xf.ga, u5.xf.gg, u5.xf.exC, u5.xf.hdC⟩ u5.no (pe_ix ix_list (pv 3) pe_int fun _ _ => rfl)) (pa_cons (pe_xv ⟨u5.xf.ga, u5.xf.gg, u5.xf.exC, u5.xf.hdC⟩ t5 (pe_ix ix_list (pv 3) pe_int fun _ _ => rfl)) (pa_cons (pe_xv ⟨u6.xf.ga, u6.xf.gg, u6.xf.exC, u6.xf.hdC⟩ u6.no (pe_ix ix_list (pv 3) pe_int fun _ _ => rfl)) pa_nil))))) (pe_slice sl_list (pv 2) (po_some pe_int) (po_some pe_int)) (nomark _)) (pss_one (ps_ret pe_bl)) pss_nil)
      (pss_cons (ps_if (pt_cmpR (op_neD hr.units) (pe_lst (pa_cons (pe_xv ⟨u7.xf.ga, u7.xf.gg, u7.xf.exC, u7.xf.hdC⟩ u7.no (pe_ix ix_list (pv 3) pe_int fun _ _ => rfl)) (pa_cons (pe_xv ⟨u8.xf.ga, u8.xf.gg, u8.xf.exC, u8.xf.hdC⟩ u8.no (pe_ix ix_list (pv 3) pe_int fun _ _ => rfl)) (pa_cons (pe_xv ⟨u9.xf.ga, u9.xf.gg, u9.xf.exC, u9.xf.hdC⟩ u9.no (pe_ix ix_list (pv 3) pe_int fun _ _ => rfl)) (pa_cons (pe_xv ⟨u10.xf.ga, u10.xf.gg, u10.xf.exC, u10.xf.hdC⟩ u10.no (pe_ix ix_list (pv 3) pe_int fun _ _ => rfl)) pa_nil))))) (pe_slice sl_list (pv 2) (po_some pe_int) po_none) (nomark _)) (pss_one (ps_ret pe_bl)) pss_nil)
      (pss_cons (ps_set (i := 5) scLaw.nd rfl (Or.inl rfl) (pe_oexK (n := 1) u5.ox u5.iC u5.tI e5 hr2 k5 pass0 rfl W.m5 (pa_cons (pe_ix ix_list (pv 2) pe_int fun _ _ => rfl) pa_nil) (pk_cons (pe_ix ix_list (pv 2) pe_int fun _ _ => rfl) pk_nil)))
      (pss_one (ps_ret (pe_cmpR (op_eqD hr.units) (pe_lst (pa_cons (pe_xv ⟨u5.xf.ga, u5.xf.gg, u5.xf.exC, u5.xf.hdC⟩ u5.no (pv 5)) (pa_cons (pe_xv ⟨u5.xf.ga, u5.xf.gg, u5.xf.exC, u5.xf.hdC⟩ t5 (pv 5)) (pa_cons (pe_xv ⟨u0.xf.ga, u0.xf.gg, u0.xf.exC, u0.xf.hdC⟩ u0.no (pe_oexK0 u0.ox u0.iC u0.tI e0 hr2 k0 pass0 rfl W.m0 (pk_cons (pe_ix ix_list (pv 2) pe_int fun _ _ => rfl) pk_nil))) pa_nil)))) (pe_lst (pa_cons (pe_ix ix_list (pv 2) pe_int fun _ _ => rfl) (pa_cons (pe_ix ix_list (pv 2) pe_int fun _ _ => rfl) (pa_cons (pe_ix ix_list (pv 2) pe_int fun _ _ => rfl) pa_nil)))) (nomark _))))))))))))), ?_⟩
    refine ⟨_, rfl, a, ns0, rfl, hS, hn, fun st cl H0 S0 s0 _ _ => ?_⟩
    refine ⟨_, rfl, by omega, by omega, fun T hT => lc_range (lo := 0) (n := 12) (fun i H' => ∃ (v : Nat → V) (d : Nat → PyData), H' T = some (.lst ((List.range i).map v)) ∧ (∀ j, j < i → Th H' (v j) (d j)) ∧ StAt H' st cl (12 * i)) ?_ ?_ ?_⟩
    · obtain ⟨n1, n2⟩ := S0.nst hT
      exact ⟨fun _ => .non, fun _ => .none, by rw [upd_same]; rfl, (fun j hj => by omega), S0.upd n1 n2⟩
    · rintro i H1 hi ⟨v, d, e1, t1, S1⟩
      obtain ⟨n1, n2⟩ := S0.nst hT
      refine ⟨rfl, ?_⟩
      refine ⟨_, rfl, st, cl, _, rfl, S1, by omega, fun x dx H2 tx S2 k2 => ?_⟩
      have e2 := k2 T _ e1 n1 n2
      refine ⟨_, e2, ?_, fun j => if j = i then x else v j, fun j => if j = i then dx else d j, ?_, ?_, (S2.upd n1 n2).mono (by omega)⟩
      · rw [List.length_map, List.length_range]
        exact small1000 (by omega)
      · rw [upd_same, List.range_succ, List.map_append]
        have h1 : (List.range i).map (fun j => if j = i then x else v j) = (List.range i).map v := List.map_congr_left fun j hj => if_neg (by have := List.mem_range.mp hj; omega)
        rw [h1]
        show _ = some (HO.lst (_ ++ [if i = i then x else v i]))
        rw [if_pos rfl]
      · intro j hj
        have tput : ∀ {v2 : V} {d2 : PyData}, Th H2 v2 d2 → Th (L2.upd H2 T (.lst ((List.range i).map v ++ [x]))) v2 d2 := fun {_ _} t => by
          cases t with
          | str z h => exact .str z h
          | int i => exact .int i
          | non => exact .non
          | tup p a b c h => exact .tup p a b c (by rw [upd_ne (ne_of h e2 (by intro z; cases z))]; exact h)
        show Th _ (if j = i then x else v j) (if j = i then dx else d j)
        by_cases q : j = i
        · rw [if_pos q, if_pos q]
          exact tput tx
        · rw [if_neg q, if_neg q]
          exact tput ((t1 j (by omega)).kb S1 k2)
    rintro H1 ⟨v, d, eT, tT, S1⟩
    have eT : H1 T = some (.lst [v 0, v 1, v 2, v 3, v 4, v 5, v 6, v 7, v 8, v 9, v 10, v 11]) := eT
    refine ⟨_, rfl, T, _, _, v 0, rfl, rfl, SqL.of eT, atI_nat (j := 0) rfl, by show 1 ≤ 1000; decide, fun a0 n0 => ⟨a0, v 0, rfl, upd_same, fun x0 y0 z0 => ⟨rfl, ?_⟩⟩⟩
    obtain ⟨s2, E0⟩ := eat1 (D := cs 0) (fs := [("name", v 0)]) n0 y0 z0
    obtain ⟨H2, hH2⟩ : ∃ G, G = L2.upd (L2.upd (L2.upd H1 a0 (exo a0 (cs 0) none)) x0 (exd x0 [("name", v 0)])) a0 (exo a0 (cs 0) (some x0)) := ⟨_, rfl⟩
    rw [← hH2] at s2 E0
    rw [← hH2]
    replace eT := s2 _ _ eT
    replace tT : ∀ j, j < 12 → Th H2 (v j) (d j) := fun j hj => (tT j hj).same s2
    refine ⟨_, rfl, T, _, _, v 1, rfl, rfl, SqL.of eT, atI_nat (j := 1) rfl, by show 1 ≤ 1000; decide, fun a1 n1 => ⟨a1, v 1, rfl, upd_same, fun x1 y1 z1 => ⟨rfl, ?_⟩⟩⟩
    obtain ⟨s3, E1⟩ := eat1 (D := cs 1) (fs := [("name", v 1)]) n1 y1 z1
    obtain ⟨H3, hH3⟩ : ∃ G, G = L2.upd (L2.upd (L2.upd H2 a1 (exo a1 (cs 1) none)) x1 (exd x1 [("name", v 1)])) a1 (exo a1 (cs 1) (some x1)) := ⟨_, rfl⟩
    rw [← hH3] at s3 E1
    rw [← hH3]
    replace eT := s3 _ _ eT
    replace tT : ∀ j, j < 12 → Th H3 (v j) (d j) := fun j hj => (tT j hj).same s3
    replace E0 := E0.same s3
    refine ⟨_, rfl, T, _, _, v 2, rfl, rfl, SqL.of eT, atI_nat (j := 2) rfl, by show 1 ≤ 1000; decide, fun a2 n2 => ⟨a2, v 2, rfl, upd_same, fun x2 y2 z2 => ⟨rfl, ?_⟩⟩⟩
    obtain ⟨s4, E2⟩ := eat1 (D := cs 2) (fs := [("name", v 2)]) n2 y2 z2
    obtain ⟨H4, hH4⟩ : ∃ G, G = L2.upd (L2.upd (L2.upd H3 a2 (exo a2 (cs 2) none)) x2 (exd x2 [("name", v 2)])) a2 (exo a2 (cs 2) (some x2)) := ⟨_, rfl⟩
    rw [← hH4] at s4 E2
    rw [← hH4]
    replace eT := s4 _ _ eT
    replace tT : ∀ j, j < 12 → Th H4 (v j) (d j) := fun j hj => (tT j hj).same s4
    replace E0 := E0.same s4
    replace E1 := E1.same s4
    refine ⟨_, rfl, T, _, _, v 3, rfl, rfl, SqL.of eT, atI_nat (j := 3) rfl, by show 1 ≤ 1000; decide, fun a3 n3 => ⟨a3, v 3, rfl, upd_same, fun x3 y3 z3 => ⟨rfl, ?_⟩⟩⟩
    obtain ⟨s5, E3⟩ := eat1 (D := cs 3) (fs := [("count", v 3)]) n3 y3 z3
    obtain ⟨H5, hH5⟩ : ∃ G, G = L2.upd (L2.upd (L2.upd H4 a3 (exo a3 (cs 3) none)) x3 (exd x3 [("count", v 3)])) a3 (exo a3 (cs 3) (some x3)) := ⟨_, rfl⟩
    rw [← hH5] at s5 E3
    rw [← hH5]
    replace eT := s5 _ _ eT
    replace tT : ∀ j, j < 12 → Th H5 (v j) (d j) := fun j hj => (tT j hj).same s5
    replace E0 := E0.same s5
    replace E1 := E1.same s5
    replace E2 := E2.same s5
    refine ⟨by show 4 ≤ sizeLine; decide, fun M1 nM1 => ?_⟩
    obtain ⟨H6, hH6⟩ : ∃ G, G = L2.upd H5 M1 (.lst [V.ref a0, V.ref a1, V.ref a2, V.ref a3]) := ⟨_, rfl⟩
    have s6 : Same H5 H6 := by rw [hH6]; exact sameUpd (Same.refl _) nM1
    have eM1 : H6 M1 = some (.lst [V.ref a0, V.ref a1, V.ref a2, V.ref a3]) := by rw [hH6]; exact upd_same
    rw [← hH6]
    replace eT := s6 _ _ eT
    replace tT : ∀ j, j < 12 → Th H6 (v j) (d j) := fun j hj => (tT j hj).same s6
    replace E0 := E0.same s6
    replace E1 := E1.same s6
    replace E2 := E2.same s6
    replace E3 := E3.same s6
    refine ⟨_, rfl, ?_⟩
    refine ⟨_, rfl, T, _, _, v 4, rfl, rfl, SqL.of eT, atI_nat (j := 4) rfl, by show 1 ≤ 1000; decide, fun a4 n4 => ⟨a4, v 4, rfl, upd_same, fun x4 y4 z4 => ⟨rfl, ?_⟩⟩⟩
    obtain ⟨s7, E4⟩ := eat1 (D := cs 4) (fs := [("value", v 4)]) n4 y4 z4
    obtain ⟨H7, hH7⟩ : ∃ G, G = L2.upd (L2.upd (L2.upd H6 a4 (exo a4 (cs 4) none)) x4 (exd x4 [("value", v 4)])) a4 (exo a4 (cs 4) (some x4)) := ⟨_, rfl⟩
    rw [← hH7] at s7 E4
    rw [← hH7]
    replace eT := s7 _ _ eT
    replace tT : ∀ j, j < 12 → Th H7 (v j) (d j) := fun j hj => (tT j hj).same s7
    replace E0 := E0.same s7
    replace E1 := E1.same s7
    replace E2 := E2.same s7
    replace E3 := E3.same s7
    replace eM1 := s7 _ _ eM1
    refine ⟨_, rfl, T, _, _, v 5, rfl, rfl, SqL.of eT, atI_nat (j := 5) rfl, _, rfl, T, _, _, v 6, rfl, rfl, SqL.of eT, atI_nat (j := 6) rfl, by show 2 ≤ 1000; decide, fun a5 n5 => ⟨a5, v 5, v 6, rfl, upd_same, fun x5 y5 z5 => ⟨rfl, ?_⟩⟩⟩
    obtain ⟨s8, E5⟩ := eat2 (D := cs 5) (fs := [("number", v 5)]) (gs := [("text", v 6), ("number", v 5)]) n5 y5 z5
    obtain ⟨H8, hH8⟩ : ∃ G, G = L2.upd (L2.upd (L2.upd (L2.upd H7 a5 (exo a5 (cs 5) none)) x5 (exd x5 [("number", v 5)])) a5 (exo a5 (cs 5) (some x5))) x5 (exd x5 [("text", v 6), ("number", v 5)]) := ⟨_, rfl⟩
    rw [← hH8] at s8 E5
    rw [← hH8]
    replace eT := s8 _ _ eT
    replace tT : ∀ j, j < 12 → Th H8 (v j) (d j) := fun j hj => (tT j hj).same s8
    replace E0 := E0.same s8
    replace E1 := E1.same s8
    replace E2 := E2.same s8
    replace E3 := E3.same s8
    replace E4 := E4.same s8
    replace eM1 := s8 _ _ eM1
    refine ⟨_, rfl, T, _, _, v 7, rfl, rfl, SqL.of eT, atI_nat (j := 7) rfl, by show 1 ≤ 1000; decide, fun a6 n6 => ⟨a6, v 7, rfl, upd_same, fun x6 y6 z6 => ⟨rfl, ?_⟩⟩⟩
    obtain ⟨s9, E6⟩ := eat1 (D := cs 6) (fs := [("length", v 7)]) n6 y6 z6
    obtain ⟨H9, hH9⟩ : ∃ G, G = L2.upd (L2.upd (L2.upd H8 a6 (exo a6 (cs 6) none)) x6 (exd x6 [("length", v 7)])) a6 (exo a6 (cs 6) (some x6)) := ⟨_, rfl⟩
    rw [← hH9] at s9 E6
    rw [← hH9]
    replace eT := s9 _ _ eT
    replace tT : ∀ j, j < 12 → Th H9 (v j) (d j) := fun j hj => (tT j hj).same s9
    replace E0 := E0.same s9
    replace E1 := E1.same s9
    replace E2 := E2.same s9
    replace E3 := E3.same s9
    replace E4 := E4.same s9
    replace E5 := E5.same s9
    replace eM1 := s9 _ _ eM1
    refine ⟨by show 3 ≤ sizeLine; decide, fun Q1 nQ1 => ?_⟩
    obtain ⟨H10, hH10⟩ : ∃ G, G = L2.upd H9 Q1 (.lst [V.ref a4, V.ref a5, V.ref a6]) := ⟨_, rfl⟩
    have s10 : Same H9 H10 := by rw [hH10]; exact sameUpd (Same.refl _) nQ1
    have eQ1 : H10 Q1 = some (.lst [V.ref a4, V.ref a5, V.ref a6]) := by rw [hH10]; exact upd_same
    rw [← hH10]
    replace eT := s10 _ _ eT
    replace tT : ∀ j, j < 12 → Th H10 (v j) (d j) := fun j hj => (tT j hj).same s10
    replace E0 := E0.same s10
    replace E1 := E1.same s10
    replace E2 := E2.same s10
    replace E3 := E3.same s10
    replace E4 := E4.same s10
    replace E5 := E5.same s10
    replace E6 := E6.same s10
    replace eM1 := s10 _ _ eM1
    refine ⟨M1, Q1, _, _, rfl, rfl, eM1, eQ1, by show 7 ≤ sizeLine; decide, fun M2 nM2 => ?_⟩
    obtain ⟨H11, hH11⟩ : ∃ G, G = L2.upd H10 M2 (.lst ([V.ref a0, V.ref a1, V.ref a2, V.ref a3] ++ [V.ref a4, V.ref a5, V.ref a6])) := ⟨_, rfl⟩
    have s11 : Same H10 H11 := by rw [hH11]; exact sameUpd (Same.refl _) nM2
    have eM2 : H11 M2 = some (.lst [V.ref a0, V.ref a1, V.ref a2, V.ref a3, V.ref a4, V.ref a5, V.ref a6]) := by rw [hH11]; exact upd_same
    rw [← hH11]
    replace eT := s11 _ _ eT
    replace tT : ∀ j, j < 12 → Th H11 (v j) (d j) := fun j hj => (tT j hj).same s11
    replace E0 := E0.same s11
    replace E1 := E1.same s11
    replace E2 := E2.same s11
    replace E3 := E3.same s11
    replace E4 := E4.same s11
    replace E5 := E5.same s11
    replace E6 := E6.same s11
    refine ⟨_, rfl, ?_⟩
    refine ⟨_, rfl, T, _, _, v 8, rfl, rfl, SqL.of eT, atI_nat (j := 8) rfl, by show 1 ≤ 1000; decide, fun a7 n7 => ⟨a7, v 8, rfl, upd_same, fun x7 y7 z7 => ⟨rfl, ?_⟩⟩⟩
    obtain ⟨s12, E7⟩ := eat1 (D := cs 7) (fs := [("numbers", v 8)]) n7 y7 z7
    obtain ⟨H12, hH12⟩ : ∃ G, G = L2.upd (L2.upd (L2.upd H11 a7 (exo a7 (cs 7) none)) x7 (exd x7 [("numbers", v 8)])) a7 (exo a7 (cs 7) (some x7)) := ⟨_, rfl⟩
    rw [← hH12] at s12 E7
    rw [← hH12]
    replace eT := s12 _ _ eT
    replace tT : ∀ j, j < 12 → Th H12 (v j) (d j) := fun j hj => (tT j hj).same s12
    replace E0 := E0.same s12
    replace E1 := E1.same s12
    replace E2 := E2.same s12
    replace E3 := E3.same s12
    replace E4 := E4.same s12
    replace E5 := E5.same s12
    replace E6 := E6.same s12
    replace eM2 := s12 _ _ eM2
    refine ⟨_, rfl, T, _, _, v 9, rfl, rfl, SqL.of eT, atI_nat (j := 9) rfl, by show 1 ≤ 1000; decide, fun a8 n8 => ⟨a8, v 9, rfl, upd_same, fun x8 y8 z8 => ⟨rfl, ?_⟩⟩⟩
    obtain ⟨s13, E8⟩ := eat1 (D := cs 8) (fs := [("value", v 9)]) n8 y8 z8
    obtain ⟨H13, hH13⟩ : ∃ G, G = L2.upd (L2.upd (L2.upd H12 a8 (exo a8 (cs 8) none)) x8 (exd x8 [("value", v 9)])) a8 (exo a8 (cs 8) (some x8)) := ⟨_, rfl⟩
    rw [← hH13] at s13 E8
    rw [← hH13]
    replace eT := s13 _ _ eT
    replace tT : ∀ j, j < 12 → Th H13 (v j) (d j) := fun j hj => (tT j hj).same s13
    replace E0 := E0.same s13
    replace E1 := E1.same s13
    replace E2 := E2.same s13
    replace E3 := E3.same s13
    replace E4 := E4.same s13
    replace E5 := E5.same s13
    replace E6 := E6.same s13
    replace E7 := E7.same s13
    replace eM2 := s13 _ _ eM2
    refine ⟨_, rfl, T, _, _, v 10, rfl, rfl, SqL.of eT, atI_nat (j := 10) rfl, by show 1 ≤ 1000; decide, fun a9 n9 => ⟨a9, v 10, rfl, upd_same, fun x9 y9 z9 => ⟨rfl, ?_⟩⟩⟩
    obtain ⟨s14, E9⟩ := eat1 (D := cs 9) (fs := [("kind", v 10)]) n9 y9 z9
    obtain ⟨H14, hH14⟩ : ∃ G, G = L2.upd (L2.upd (L2.upd H13 a9 (exo a9 (cs 9) none)) x9 (exd x9 [("kind", v 10)])) a9 (exo a9 (cs 9) (some x9)) := ⟨_, rfl⟩
    rw [← hH14] at s14 E9
    rw [← hH14]
    replace eT := s14 _ _ eT
    replace tT : ∀ j, j < 12 → Th H14 (v j) (d j) := fun j hj => (tT j hj).same s14
    replace E0 := E0.same s14
    replace E1 := E1.same s14
    replace E2 := E2.same s14
    replace E3 := E3.same s14
    replace E4 := E4.same s14
    replace E5 := E5.same s14
    replace E6 := E6.same s14
    replace E7 := E7.same s14
    replace E8 := E8.same s14
    replace eM2 := s14 _ _ eM2
    refine ⟨_, rfl, T, _, _, v 11, rfl, rfl, SqL.of eT, atI_nat (j := 11) rfl, by show 1 ≤ 1000; decide, fun a10 n10 => ⟨a10, v 11, rfl, upd_same, fun x10 y10 z10 => ⟨rfl, ?_⟩⟩⟩
    obtain ⟨s15, E10⟩ := eat1 (D := cs 10) (fs := [("kind", v 11)]) n10 y10 z10
    obtain ⟨H15, hH15⟩ : ∃ G, G = L2.upd (L2.upd (L2.upd H14 a10 (exo a10 (cs 10) none)) x10 (exd x10 [("kind", v 11)])) a10 (exo a10 (cs 10) (some x10)) := ⟨_, rfl⟩
    rw [← hH15] at s15 E10
    rw [← hH15]
    replace eT := s15 _ _ eT
    replace tT : ∀ j, j < 12 → Th H15 (v j) (d j) := fun j hj => (tT j hj).same s15
    replace E0 := E0.same s15
    replace E1 := E1.same s15
    replace E2 := E2.same s15
    replace E3 := E3.same s15
    replace E4 := E4.same s15
    replace E5 := E5.same s15
    replace E6 := E6.same s15
    replace E7 := E7.same s15
    replace E8 := E8.same s15
    replace E9 := E9.same s15
    replace eM2 := s15 _ _ eM2
    intro a11 n11
    obtain ⟨H16, hH16⟩ : ∃ G, G = L2.upd H15 a11 (ExO (.ref (cs 11)) a11) := ⟨_, rfl⟩
    have s16 : Same H15 H16 := by rw [hH16]; exact sameUpd (Same.refl _) n11
    have E11 : ErrV H16 a11 (cs 11) := by rw [hH16]; exact .inr upd_same
    rw [← hH16]
    replace eT := s16 _ _ eT
    replace tT : ∀ j, j < 12 → Th H16 (v j) (d j) := fun j hj => (tT j hj).same s16
    replace E0 := E0.same s16
    replace E1 := E1.same s16
    replace E2 := E2.same s16
    replace E3 := E3.same s16
    replace E4 := E4.same s16
    replace E5 := E5.same s16
    replace E6 := E6.same s16
    replace E7 := E7.same s16
    replace E8 := E8.same s16
    replace E9 := E9.same s16
    replace E10 := E10.same s16
    replace eM2 := s16 _ _ eM2
    refine ⟨by show 5 ≤ sizeLine; decide, fun Q2 nQ2 => ?_⟩
    obtain ⟨H17, hH17⟩ : ∃ G, G = L2.upd H16 Q2 (.lst [V.ref a7, V.ref a8, V.ref a9, V.ref a10, V.ref a11]) := ⟨_, rfl⟩
    have s17 : Same H16 H17 := by rw [hH17]; exact sameUpd (Same.refl _) nQ2
    have eQ2 : H17 Q2 = some (.lst [V.ref a7, V.ref a8, V.ref a9, V.ref a10, V.ref a11]) := by rw [hH17]; exact upd_same
    rw [← hH17]
    replace eT := s17 _ _ eT
    replace tT : ∀ j, j < 12 → Th H17 (v j) (d j) := fun j hj => (tT j hj).same s17
    replace E0 := E0.same s17
    replace E1 := E1.same s17
    replace E2 := E2.same s17
    replace E3 := E3.same s17
    replace E4 := E4.same s17
    replace E5 := E5.same s17
    replace E6 := E6.same s17
    replace E7 := E7.same s17
    replace E8 := E8.same s17
    replace E9 := E9.same s17
    replace E10 := E10.same s17
    replace E11 := E11.same s17
    replace eM2 := s17 _ _ eM2
    refine ⟨M2, Q2, _, _, rfl, rfl, eM2, eQ2, by show 12 ≤ sizeLine; decide, fun M nM => ?_⟩
    obtain ⟨H18, hH18⟩ : ∃ G, G = L2.upd H17 M (.lst ([V.ref a0, V.ref a1, V.ref a2, V.ref a3, V.ref a4, V.ref a5, V.ref a6] ++ [V.ref a7, V.ref a8, V.ref a9, V.ref a10, V.ref a11])) := ⟨_, rfl⟩
    have s18 : Same H17 H18 := by rw [hH18]; exact sameUpd (Same.refl _) nM
    have eM : H18 M = some (.lst [V.ref a0, V.ref a1, V.ref a2, V.ref a3, V.ref a4, V.ref a5, V.ref a6, V.ref a7, V.ref a8, V.ref a9, V.ref a10, V.ref a11]) := by rw [hH18]; exact upd_same
    rw [← hH18]
    replace eT := s18 _ _ eT
    replace tT : ∀ j, j < 12 → Th H18 (v j) (d j) := fun j hj => (tT j hj).same s18
    replace E0 := E0.same s18
    replace E1 := E1.same s18
    replace E2 := E2.same s18
    replace E3 := E3.same s18
    replace E4 := E4.same s18
    replace E5 := E5.same s18
    replace E6 := E6.same s18
    replace E7 := E7.same s18
    replace E8 := E8.same s18
    replace E9 := E9.same s18
    replace E10 := E10.same s18
    replace E11 := E11.same s18
    have hall : ∀ j : Nat, j < 12 → ∃ b, ([V.ref a0, V.ref a1, V.ref a2, V.ref a3, V.ref a4, V.ref a5, V.ref a6, V.ref a7, V.ref a8, V.ref a9, V.ref a10, V.ref a11] : List V)[j]? = some (V.ref b) ∧ ErrV H18 b (cs j) := fun j hj => match j, hj with
      | 0, _ => ⟨a0, rfl, E0.err⟩
      | 1, _ => ⟨a1, rfl, E1.err⟩
      | 2, _ => ⟨a2, rfl, E2.err⟩
      | 3, _ => ⟨a3, rfl, E3.err⟩
      | 4, _ => ⟨a4, rfl, E4.err⟩
      | 5, _ => ⟨a5, rfl, E5.err⟩
      | 6, _ => ⟨a6, rfl, E6.err⟩
      | 7, _ => ⟨a7, rfl, E7.err⟩
      | 8, _ => ⟨a8, rfl, E8.err⟩
      | 9, _ => ⟨a9, rfl, E9.err⟩
      | 10, _ => ⟨a10, rfl, E10.err⟩
      | 11, _ => ⟨a11, rfl, E11⟩
    refine ⟨_, rfl, by omega, by omega, for_range (lo := 0) (n := 12) (fun i σ H' => (∃ x, σ = [some (.ref a), some (.ref st), some (.ref T), some (.ref M), x, none]) ∧ Same H18 H') ⟨⟨none, rfl⟩, Same.refl _⟩ ?_ ?_⟩
    · rintro j σ G hj ⟨⟨x, rfl⟩, sG⟩
      obtain ⟨b, hb, eb⟩ := hall j hj
      have hz : (0 + (j : Int)) = j := Int.zero_add _
      refine ⟨_, rfl, _, rfl, M, _, _, V.ref b, rfl, rfl, SqL.of (sG _ _ eM), by rw [hz]; exact atI_nat hb, _, rfl, b, j, by rw [hz]; rfl, hj, eb.same sG, fun G2 s2 => ?_⟩
      refine ⟨_, rfl, ?_⟩
      refine iteF ?_
      exact ⟨⟨_, rfl⟩, sG.trans s2⟩
    rintro σ GG ⟨⟨x, rfl⟩, sG⟩
    replace eT := sG _ _ eT
    replace tT : ∀ j, j < 12 → Th GG (v j) (d j) := fun j hj => (tT j hj).same sG
    replace E0 := E0.same sG
    replace E1 := E1.same sG
    replace E2 := E2.same sG
    replace E3 := E3.same sG
    replace E4 := E4.same sG
    replace E5 := E5.same sG
    replace E6 := E6.same sG
    replace E7 := E7.same sG
    replace E8 := E8.same sG
    replace E9 := E9.same sG
    replace E10 := E10.same sG
    replace E11 := E11.same sG
    replace eM := sG _ _ eM
    have ⟨x0, p0, q0⟩ := E0
    refine ⟨_, rfl, M, _, _, V.ref a0, rfl, rfl, SqL.of eM, atI_nat (j := 0) rfl, a0, x0, _, v 0, rfl, p0, q0, by rfl, ?_⟩
    have ⟨x1, p1, q1⟩ := E1
    refine ⟨_, rfl, M, _, _, V.ref a1, rfl, rfl, SqL.of eM, atI_nat (j := 1) rfl, a1, x1, _, v 1, rfl, p1, q1, by rfl, ?_⟩
    have ⟨x2, p2, q2⟩ := E2
    refine ⟨_, rfl, M, _, _, V.ref a2, rfl, rfl, SqL.of eM, atI_nat (j := 2) rfl, a2, x2, _, v 2, rfl, p2, q2, by rfl, ?_⟩
    have ⟨x3, p3, q3⟩ := E3
    refine ⟨_, rfl, M, _, _, V.ref a3, rfl, rfl, SqL.of eM, atI_nat (j := 3) rfl, a3, x3, _, v 3, rfl, p3, q3, by rfl, ?_⟩
    refine ⟨by show 4 ≤ sizeLine; decide, fun R0 nR0 => ?_⟩
    obtain ⟨H101, hH101⟩ : ∃ G, G = L2.upd GG R0 (.lst [v 0, v 1, v 2, v 3]) := ⟨_, rfl⟩
    have s101 : Same GG H101 := by rw [hH101]; exact sameUpd (Same.refl _) nR0
    have eR0 : H101 R0 = some (.lst [v 0, v 1, v 2, v 3]) := by rw [hH101]; exact upd_same
    rw [← hH101]
    replace eT := s101 _ _ eT
    replace tT : ∀ j, j < 12 → Th H101 (v j) (d j) := fun j hj => (tT j hj).same s101
    replace E0 := E0.same s101
    replace E1 := E1.same s101
    replace E2 := E2.same s101
    replace E3 := E3.same s101
    replace E4 := E4.same s101
    replace E5 := E5.same s101
    replace E6 := E6.same s101
    replace E7 := E7.same s101
    replace E8 := E8.same s101
    replace E9 := E9.same s101
    replace E10 := E10.same s101
    replace E11 := E11.same s101
    replace eM := s101 _ _ eM
    refine ⟨_, rfl, _, rfl, T, _, rfl, SqL.of eT, fun c0 nc0 => ?_⟩
    obtain ⟨H102, hH102⟩ : ∃ G, G = L2.upd H101 c0 (.lst (cutV [v 0, v 1, v 2, v 3, v 4, v 5, v 6, v 7, v 8, v 9, v 10, v 11] none (some 4))) := ⟨_, rfl⟩
    have s102 : Same H101 H102 := by rw [hH102]; exact sameUpd (Same.refl _) nc0
    have ec0 : H102 c0 = some (.lst [v 0, v 1, v 2, v 3]) := by rw [hH102]; exact upd_same
    rw [← hH102]
    replace eT := s102 _ _ eT
    replace tT : ∀ j, j < 12 → Th H102 (v j) (d j) := fun j hj => (tT j hj).same s102
    replace E0 := E0.same s102
    replace E1 := E1.same s102
    replace E2 := E2.same s102
    replace E3 := E3.same s102
    replace E4 := E4.same s102
    replace E5 := E5.same s102
    replace E6 := E6.same s102
    replace E7 := E7.same s102
    replace E8 := E8.same s102
    replace E9 := E9.same s102
    replace E10 := E10.same s102
    replace E11 := E11.same s102
    replace eM := s102 _ _ eM
    replace eR0 := s102 _ _ eR0
    obtain ⟨sh0, eq0⟩ := shl (ds := [d 0, d 1, d 2, d 3]) (by intro y hy; simp only [List.mem_cons, List.not_mem_nil, or_false] at hy; rcases hy with rfl | rfl | rfl | rfl <;> exact (tT _ (by decide)).lay)
    refine ⟨_, _, .lst (SqL.of eR0) (.cons (tT 0 (by decide)).dp (.cons (tT 1 (by decide)).dp (.cons (tT 2 (by decide)).dp (.cons (tT 3 (by decide)).dp .nil)))), .lst (SqL.of ec0) (.cons (tT 0 (by decide)).dp (.cons (tT 1 (by decide)).dp (.cons (tT 2 (by decide)).dp (.cons (tT 3 (by decide)).dp .nil)))), sh0, sh0, _, rfl, ?_⟩
    rw [eq0]
    refine iteF ?_
    have ⟨x4, p4, q4⟩ := E4
    refine ⟨_, rfl, M, _, _, V.ref a4, rfl, rfl, SqL.of eM, atI_nat (j := 4) rfl, a4, x4, _, v 4, rfl, p4, q4, by rfl, ?_⟩
    have ⟨x5, p5, q5⟩ := E5
    refine ⟨_, rfl, M, _, _, V.ref a5, rfl, rfl, SqL.of eM, atI_nat (j := 5) rfl, a5, x5, _, v 5, rfl, p5, q5, by rfl, ?_⟩
    have ⟨x6, p6, q6⟩ := E5
    refine ⟨_, rfl, M, _, _, V.ref a5, rfl, rfl, SqL.of eM, atI_nat (j := 5) rfl, a5, x6, _, v 6, rfl, p6, q6, by rfl, ?_⟩
    have ⟨x7, p7, q7⟩ := E6
    refine ⟨_, rfl, M, _, _, V.ref a6, rfl, rfl, SqL.of eM, atI_nat (j := 6) rfl, a6, x7, _, v 7, rfl, p7, q7, by rfl, ?_⟩
    refine ⟨by show 4 ≤ sizeLine; decide, fun R1 nR1 => ?_⟩
    obtain ⟨H103, hH103⟩ : ∃ G, G = L2.upd H102 R1 (.lst [v 4, v 5, v 6, v 7]) := ⟨_, rfl⟩
    have s103 : Same H102 H103 := by rw [hH103]; exact sameUpd (Same.refl _) nR1
    have eR1 : H103 R1 = some (.lst [v 4, v 5, v 6, v 7]) := by rw [hH103]; exact upd_same
    rw [← hH103]
    replace eT := s103 _ _ eT
    replace tT : ∀ j, j < 12 → Th H103 (v j) (d j) := fun j hj => (tT j hj).same s103
    replace E0 := E0.same s103
    replace E1 := E1.same s103
    replace E2 := E2.same s103
    replace E3 := E3.same s103
    replace E4 := E4.same s103
    replace E5 := E5.same s103
    replace E6 := E6.same s103
    replace E7 := E7.same s103
    replace E8 := E8.same s103
    replace E9 := E9.same s103
    replace E10 := E10.same s103
    replace E11 := E11.same s103
    replace eM := s103 _ _ eM
    refine ⟨_, rfl, _, rfl, _, rfl, T, _, rfl, SqL.of eT, fun c1 nc1 => ?_⟩
    obtain ⟨H104, hH104⟩ : ∃ G, G = L2.upd H103 c1 (.lst (cutV [v 0, v 1, v 2, v 3, v 4, v 5, v 6, v 7, v 8, v 9, v 10, v 11] (some 4) (some 8))) := ⟨_, rfl⟩
    have s104 : Same H103 H104 := by rw [hH104]; exact sameUpd (Same.refl _) nc1
    have ec1 : H104 c1 = some (.lst [v 4, v 5, v 6, v 7]) := by rw [hH104]; exact upd_same
    rw [← hH104]
    replace eT := s104 _ _ eT
    replace tT : ∀ j, j < 12 → Th H104 (v j) (d j) := fun j hj => (tT j hj).same s104
    replace E0 := E0.same s104
    replace E1 := E1.same s104
    replace E2 := E2.same s104
    replace E3 := E3.same s104
    replace E4 := E4.same s104
    replace E5 := E5.same s104
    replace E6 := E6.same s104
    replace E7 := E7.same s104
    replace E8 := E8.same s104
    replace E9 := E9.same s104
    replace E10 := E10.same s104
    replace E11 := E11.same s104
    replace eM := s104 _ _ eM
    replace eR1 := s104 _ _ eR1
    obtain ⟨sh1, eq1⟩ := shl (ds := [d 4, d 5, d 6, d 7]) (by intro y hy; simp only [List.mem_cons, List.not_mem_nil, or_false] at hy; rcases hy with rfl | rfl | rfl | rfl <;> exact (tT _ (by decide)).lay)
    refine ⟨_, _, .lst (SqL.of eR1) (.cons (tT 4 (by decide)).dp (.cons (tT 5 (by decide)).dp (.cons (tT 6 (by decide)).dp (.cons (tT 7 (by decide)).dp .nil)))), .lst (SqL.of ec1) (.cons (tT 4 (by decide)).dp (.cons (tT 5 (by decide)).dp (.cons (tT 6 (by decide)).dp (.cons (tT 7 (by decide)).dp .nil)))), sh1, sh1, _, rfl, ?_⟩
    rw [eq1]
    refine iteF ?_
    have ⟨x8, p8, q8⟩ := E7
    refine ⟨_, rfl, M, _, _, V.ref a7, rfl, rfl, SqL.of eM, atI_nat (j := 7) rfl, a7, x8, _, v 8, rfl, p8, q8, by rfl, ?_⟩
    have ⟨x9, p9, q9⟩ := E8
    refine ⟨_, rfl, M, _, _, V.ref a8, rfl, rfl, SqL.of eM, atI_nat (j := 8) rfl, a8, x9, _, v 9, rfl, p9, q9, by rfl, ?_⟩
    have ⟨x10, p10, q10⟩ := E9
    refine ⟨_, rfl, M, _, _, V.ref a9, rfl, rfl, SqL.of eM, atI_nat (j := 9) rfl, a9, x10, _, v 10, rfl, p10, q10, by rfl, ?_⟩
    have ⟨x11, p11, q11⟩ := E10
    refine ⟨_, rfl, M, _, _, V.ref a10, rfl, rfl, SqL.of eM, atI_nat (j := 10) rfl, a10, x11, _, v 11, rfl, p11, q11, by rfl, ?_⟩
    refine ⟨by show 4 ≤ sizeLine; decide, fun R2 nR2 => ?_⟩
    obtain ⟨H105, hH105⟩ : ∃ G, G = L2.upd H104 R2 (.lst [v 8, v 9, v 10, v 11]) := ⟨_, rfl⟩
    have s105 : Same H104 H105 := by rw [hH105]; exact sameUpd (Same.refl _) nR2
    have eR2 : H105 R2 = some (.lst [v 8, v 9, v 10, v 11]) := by rw [hH105]; exact upd_same
    rw [← hH105]
    replace eT := s105 _ _ eT
    replace tT : ∀ j, j < 12 → Th H105 (v j) (d j) := fun j hj => (tT j hj).same s105
    replace E0 := E0.same s105
    replace E1 := E1.same s105
    replace E2 := E2.same s105
    replace E3 := E3.same s105
    replace E4 := E4.same s105
    replace E5 := E5.same s105
    replace E6 := E6.same s105
    replace E7 := E7.same s105
    replace E8 := E8.same s105
    replace E9 := E9.same s105
    replace E10 := E10.same s105
    replace E11 := E11.same s105
    replace eM := s105 _ _ eM
    refine ⟨_, rfl, _, rfl, T, _, rfl, SqL.of eT, fun c2 nc2 => ?_⟩
    obtain ⟨H106, hH106⟩ : ∃ G, G = L2.upd H105 c2 (.lst (cutV [v 0, v 1, v 2, v 3, v 4, v 5, v 6, v 7, v 8, v 9, v 10, v 11] (some 8) none)) := ⟨_, rfl⟩
    have s106 : Same H105 H106 := by rw [hH106]; exact sameUpd (Same.refl _) nc2
    have ec2 : H106 c2 = some (.lst [v 8, v 9, v 10, v 11]) := by rw [hH106]; exact upd_same
    rw [← hH106]
    replace eT := s106 _ _ eT
    replace tT : ∀ j, j < 12 → Th H106 (v j) (d j) := fun j hj => (tT j hj).same s106
    replace E0 := E0.same s106
    replace E1 := E1.same s106
    replace E2 := E2.same s106
    replace E3 := E3.same s106
    replace E4 := E4.same s106
    replace E5 := E5.same s106
    replace E6 := E6.same s106
    replace E7 := E7.same s106
    replace E8 := E8.same s106
    replace E9 := E9.same s106
    replace E10 := E10.same s106
    replace E11 := E11.same s106
    replace eM := s106 _ _ eM
    replace eR2 := s106 _ _ eR2
    obtain ⟨sh2, eq2⟩ := shl (ds := [d 8, d 9, d 10, d 11]) (by intro y hy; simp only [List.mem_cons, List.not_mem_nil, or_false] at hy; rcases hy with rfl | rfl | rfl | rfl <;> exact (tT _ (by decide)).lay)
    refine ⟨_, _, .lst (SqL.of eR2) (.cons (tT 8 (by decide)).dp (.cons (tT 9 (by decide)).dp (.cons (tT 10 (by decide)).dp (.cons (tT 11 (by decide)).dp .nil)))), .lst (SqL.of ec2) (.cons (tT 8 (by decide)).dp (.cons (tT 9 (by decide)).dp (.cons (tT 10 (by decide)).dp (.cons (tT 11 (by decide)).dp .nil)))), sh2, sh2, _, rfl, ?_⟩
    rw [eq2]
    refine iteF ?_
    refine ⟨_, rfl, T, _, _, v 1, rfl, rfl, SqL.of eT, atI_nat (j := 1) rfl, _, rfl, T, _, _, v 0, rfl, rfl, SqL.of eT, atI_nat (j := 0) rfl, rfl, rfl, by decide, fun b5 n5 => ⟨b5, v 1, v 0, rfl, upd_same, fun x5 y5 z5 => ⟨rfl, ?_⟩⟩⟩
    obtain ⟨sN, EN⟩ := eat2 (D := cs 5) (fs := [("number", v 1)]) (gs := [("text", v 0), ("number", v 1)]) n5 y5 z5
    obtain ⟨HN, hHN⟩ : ∃ G, G = L2.upd (L2.upd (L2.upd (L2.upd H106 b5 (exo b5 (cs 5) none)) x5 (exd x5 [("number", v 1)])) b5 (exo b5 (cs 5) (some x5))) x5 (exd x5 [("text", v 0), ("number", v 1)]) := ⟨_, rfl⟩
    rw [← hHN] at sN EN
    rw [← hHN]
    replace eT := sN _ _ eT
    replace tT : ∀ j, j < 12 → Th HN (v j) (d j) := fun j hj => (tT j hj).same sN
    have ⟨xN, pN, qN⟩ := EN
    refine ⟨_, rfl, b5, xN, _, v 1, rfl, pN, qN, by rfl, ?_⟩
    refine ⟨_, rfl, b5, xN, _, v 0, rfl, pN, qN, by rfl, ?_⟩
    refine ⟨_, rfl, T, _, _, v 2, rfl, rfl, SqL.of eT, atI_nat (j := 2) rfl, rfl, rfl, by decide, fun b0 n0 => ⟨b0, v 2, rfl, upd_same, fun x0 y0 z0 => ⟨rfl, ?_⟩⟩⟩
    obtain ⟨sO, EO⟩ := eat1 (D := cs 0) (fs := [("name", v 2)]) n0 y0 z0
    obtain ⟨HO_, hHO⟩ : ∃ G, G = L2.upd (L2.upd (L2.upd HN b0 (exo b0 (cs 0) none)) x0 (exd x0 [("name", v 2)])) b0 (exo b0 (cs 0) (some x0)) := ⟨_, rfl⟩
    rw [← hHO] at sO EO
    rw [← hHO]
    replace eT := sO _ _ eT
    replace tT : ∀ j, j < 12 → Th HO_ (v j) (d j) := fun j hj => (tT j hj).same sO
    have ⟨xO, pO, qO⟩ := EO
    refine ⟨b0, xO, _, v 2, rfl, pO, qO, by rfl, ?_⟩
    refine ⟨by show 3 ≤ sizeLine; decide, fun LA nLA => ?_⟩
    obtain ⟨H107, hH107⟩ : ∃ G, G = L2.upd HO_ LA (.lst [v 1, v 0, v 2]) := ⟨_, rfl⟩
    have s107 : Same HO_ H107 := by rw [hH107]; exact sameUpd (Same.refl _) nLA
    have eLA : H107 LA = some (.lst [v 1, v 0, v 2]) := by rw [hH107]; exact upd_same
    rw [← hH107]
    replace eT := s107 _ _ eT
    replace tT : ∀ j, j < 12 → Th H107 (v j) (d j) := fun j hj => (tT j hj).same s107
    refine ⟨_, rfl, T, _, _, v 1, rfl, rfl, SqL.of eT, atI_nat (j := 1) rfl, _, rfl, T, _, _, v 0, rfl, rfl, SqL.of eT, atI_nat (j := 0) rfl, _, rfl, T, _, _, v 2, rfl, rfl, SqL.of eT, atI_nat (j := 2) rfl, ?_⟩
    refine ⟨by show 3 ≤ sizeLine; decide, fun LB nLB => ?_⟩
    obtain ⟨H108, hH108⟩ : ∃ G, G = L2.upd H107 LB (.lst [v 1, v 0, v 2]) := ⟨_, rfl⟩
    have s108 : Same H107 H108 := by rw [hH108]; exact sameUpd (Same.refl _) nLB
    have eLB : H108 LB = some (.lst [v 1, v 0, v 2]) := by rw [hH108]; exact upd_same
    rw [← hH108]
    replace eT := s108 _ _ eT
    replace tT : ∀ j, j < 12 → Th H108 (v j) (d j) := fun j hj => (tT j hj).same s108
    replace eLA := s108 _ _ eLA
    obtain ⟨shA, eqA⟩ := shl (ds := [d 1, d 0, d 2]) (by intro y hy; simp only [List.mem_cons, List.not_mem_nil, or_false] at hy; rcases hy with rfl | rfl | rfl <;> exact (tT _ (by decide)).lay)
    refine ⟨_, _, .lst (SqL.of eLA) (.cons (tT 1 (by decide)).dp (.cons (tT 0 (by decide)).dp (.cons (tT 2 (by decide)).dp .nil))), .lst (SqL.of eLB) (.cons (tT 1 (by decide)).dp (.cons (tT 0 (by decide)).dp (.cons (tT 2 (by decide)).dp .nil))), shA, shA, ?_⟩
    rw [eqA]
    exact k _
end
end OS
namespace OS
open PySem L2 PySem.Spec PyProof.Rows
theorem kit_ref {K : PySem.W.Frag} {a c : Addr} {b : Bool} (hd : PySem.W.hasDictIn K c = true) (ty : PySem.W.typeIn K (.ref c) = some (.type "type")) (hself : PySem.W.subIn K (.ref c) (.ref c) = some true) (h : PySem.W.subIn K (.ref a) (.ref c) = some b) :
    PySem.W.kitOne K (.ref a) (.ref c) = some b := by
  unfold PySem.W.kitOne
  by_cases e : a = c
  · subst e
    rw [h] at hself
    cases hself
    rw [if_pos (by simp)]
  · rw [if_neg (by simpa using e)]
    obtain ⟨cd, hc, _⟩ := PySem.W.any_some hd
    show (if ((PySem.W.clsIn K c).isSome && PySem.W.typeIn K (.ref c) == some (.type "type")) = true then PySem.W.subIn K (.ref a) (.ref c) else none) = some b
    rw [if_pos (by rw [hc, ty] <;> rfl)]
    exact h
theorem kit_val {K : PySem.W.Frag} {a : Addr} (h : PySem.W.subIn K (.ref a) (.type "ValueError") = some true) : PySem.W.kitOne K (.ref a) (.type "ValueError") = some true := by
  unfold PySem.W.kitOne
  rw [if_neg (show ¬ ((Value.ref a == Value.type "ValueError") = true) from Bool.false_ne_true)]
  show (if PySem.W.kitMeta "ValueError" = true then PySem.W.subIn K (.ref a) (.type "ValueError") else none) = some true
  rw [if_pos (by decide +kernel)]
  exact h
/-- a call with keywords of a def without defaults -/
theorem kb_of {K : PySem.W.Frag} {x qual : Str} {st : Stmt} {f : Addr} {fd : FuncData} {ps : List Str} (F : Fun K x qual st f fd) (n : Nat) (ks : List Str) (g : {α : Type} → List α → List α → List α)
    (hrel : ∀ {vs zs : List V} {us ws : List Value}, Vals vs us → Vals zs ws → Vals (g vs zs) (g us ws))
    (h : ∀ (kV doc pm : Value) (an : Option Addr) (cdv ct : Value) (us ws : List Value), us.length = n → ws.length = ks.length → bindArgs (PySem.W.fnOf x qual (defArgs st) (defBody st) (defScope st) .none kV doc pm an cdv ct) ⟨us, ks.zip ws⟩ = pure (ps.zip (g us ws))) :
    KBn K fd ps n ks (fun us ws => g us ws) (fun vs zs => g vs zs) := by
  obtain ⟨oc, od, kV, doc, pm, an, cdv, ct, osl, rfl, lk, hcd⟩ := F.ex
  exact ⟨fun s us ws X l1 l2 => .of_eq (h kV doc pm an cdv ct us ws l1 l2), fun r1 r2 => hrel r1 r2⟩
end OS
namespace OS
open PySem L2
theorem all_mk {l : PySem.W.OpenLaw} {w : World} {K : PySem.W.Frag} {h : Heap} {mg : Str → Option Value} {fa f1 f2 f3 f4 f5 f6 f7 f8 : Addr} (X : K.In h) (G : h.Ns mainGlobals mg) (hfa : mg "law" = some (.ref fa))
    {od1 an1 od2 an2 od3 an3 od4 an4 od5 an5 od6 an6 od7 an7 od8 an8 : Option Addr} {sl1 sl2 sl3 sl4 sl5 sl6 sl7 sl8 : Array (Option Value)} {oc1 kV1 dc1 pm1 cd1 ct1 oc2 kV2 dc2 pm2 cd2 ct2 oc3 kV3 dc3 pm3 cd3 ct3 oc4 kV4 dc4 pm4 cd4 ct4 oc5 kV5 dc5 pm5 cd5 ct5 oc6 kV6 dc6 pm6 cd6 ct6 oc7 kV7 dc7 pm7 cd7 ct7 oc8 kV8 dc8 pm8 cd8 ct8 : Value} {ONE : Addr} {CU11 : Addr} {CU0 fU0 : Addr} {odU0 anU0 : Option Addr} {slU0 : Array (Option Value)} {ocU0 kVU0 dcU0 pmU0 cdU0 ctU0 : Value} {nmU0 qU0 : Str} {NU0 : Addr} {bsU0 : List Value} {snU0 : List Str} {subU0 : List Value} {abU0 : Bool} {colU0 : Option Bool} {ddU0 : Option Addr} {k0U0 k1U0 k2U0 k3U0 k5U0 : Option Value} {CU1 fU1 : Addr} {odU1 anU1 : Option Addr} {slU1 : Array (Option Value)} {ocU1 kVU1 dcU1 pmU1 cdU1 ctU1 : Value} {nmU1 qU1 : Str} {NU1 : Addr} {bsU1 : List Value} {snU1 : List Str} {subU1 : List Value} {abU1 : Bool} {colU1 : Option Bool} {ddU1 : Option Addr} {k0U1 k1U1 k2U1 k3U1 k5U1 : Option Value} {CU2 fU2 : Addr} {odU2 anU2 : Option Addr} {slU2 : Array (Option Value)} {ocU2 kVU2 dcU2 pmU2 cdU2 ctU2 : Value} {nmU2 qU2 : Str} {NU2 : Addr} {bsU2 : List Value} {snU2 : List Str} {subU2 : List Value} {abU2 : Bool} {colU2 : Option Bool} {ddU2 : Option Addr} {k0U2 k1U2 k2U2 k3U2 k5U2 : Option Value} {CU3 fU3 : Addr} {odU3 anU3 : Option Addr} {slU3 : Array (Option Value)} {ocU3 kVU3 dcU3 pmU3 cdU3 ctU3 : Value} {nmU3 qU3 : Str} {NU3 : Addr} {bsU3 : List Value} {snU3 : List Str} {subU3 : List Value} {abU3 : Bool} {colU3 : Option Bool} {ddU3 : Option Addr} {k0U3 k1U3 k2U3 k3U3 k5U3 : Option Value} {CU4 fU4 : Addr} {odU4 anU4 : Option Addr} {slU4 : Array (Option Value)} {ocU4 kVU4 dcU4 pmU4 cdU4 ctU4 : Value} {nmU4 qU4 : Str} {NU4 : Addr} {bsU4 : List Value} {snU4 : List Str} {subU4 : List Value} {abU4 : Bool} {colU4 : Option Bool} {ddU4 : Option Addr} {k0U4 k1U4 k2U4 k3U4 k5U4 : Option Value} {CU5 fU5 : Addr} {odU5 anU5 : Option Addr} {slU5 : Array (Option Value)} {ocU5 kVU5 dcU5 pmU5 cdU5 ctU5 : Value} {nmU5 qU5 : Str} {NU5 : Addr} {bsU5 : List Value} {snU5 : List Str} {subU5 : List Value} {abU5 : Bool} {colU5 : Option Bool} {ddU5 : Option Addr} {k0U5 k1U5 k2U5 k3U5 k5U5 : Option Value} {CU6 fU6 : Addr} {odU6 anU6 : Option Addr} {slU6 : Array (Option Value)} {ocU6 kVU6 dcU6 pmU6 cdU6 ctU6 : Value} {nmU6 qU6 : Str} {NU6 : Addr} {bsU6 : List Value} {snU6 : List Str} {subU6 : List Value} {abU6 : Bool} {colU6 : Option Bool} {ddU6 : Option Addr} {k0U6 k1U6 k2U6 k3U6 k5U6 : Option Value} {CU7 fU7 : Addr} {odU7 anU7 : Option Addr} {slU7 : Array (Option Value)} {ocU7 kVU7 dcU7 pmU7 cdU7 ctU7 : Value} {nmU7 qU7 : Str} {NU7 : Addr} {bsU7 : List Value} {snU7 : List Str} {subU7 : List Value} {abU7 : Bool} {colU7 : Option Bool} {ddU7 : Option Addr} {k0U7 k1U7 k2U7 k3U7 k5U7 : Option Value} {CU8 fU8 : Addr} {odU8 anU8 : Option Addr} {slU8 : Array (Option Value)} {ocU8 kVU8 dcU8 pmU8 cdU8 ctU8 : Value} {nmU8 qU8 : Str} {NU8 : Addr} {bsU8 : List Value} {snU8 : List Str} {subU8 : List Value} {abU8 : Bool} {colU8 : Option Bool} {ddU8 : Option Addr} {k0U8 k1U8 k2U8 k3U8 k5U8 : Option Value} {CU9 fU9 : Addr} {odU9 anU9 : Option Addr} {slU9 : Array (Option Value)} {ocU9 kVU9 dcU9 pmU9 cdU9 ctU9 : Value} {nmU9 qU9 : Str} {NU9 : Addr} {bsU9 : List Value} {snU9 : List Str} {subU9 : List Value} {abU9 : Bool} {colU9 : Option Bool} {ddU9 : Option Addr} {k0U9 k1U9 k2U9 k3U9 k5U9 : Option Value} {CU10 fU10 : Addr} {odU10 anU10 : Option Addr} {slU10 : Array (Option Value)} {ocU10 kVU10 dcU10 pmU10 cdU10 ctU10 : Value} {nmU10 qU10 : Str} {NU10 : Addr} {bsU10 : List Value} {snU10 : List Str} {subU10 : List Value} {abU10 : Bool} {colU10 : Option Bool} {ddU10 : Option Addr} {k0U10 k1U10 k2U10 k3U10 k5U10 : Option Value}
    (aO : PySem.W.nsIn K mainGlobals "OneshardError" = some (some (.ref ONE)))
    (aU0 : PySem.W.nsIn K mainGlobals "BadName" = some (some (.ref CU0)))
    (aU1 : PySem.W.nsIn K mainGlobals "DuplicateName" = some (some (.ref CU1)))
    (aU2 : PySem.W.nsIn K mainGlobals "UnknownName" = some (some (.ref CU2)))
    (aU3 : PySem.W.nsIn K mainGlobals "BadCount" = some (some (.ref CU3)))
    (aU4 : PySem.W.nsIn K mainGlobals "OutOfRange" = some (some (.ref CU4)))
    (aU5 : PySem.W.nsIn K mainGlobals "BadLine" = some (some (.ref CU5)))
    (aU6 : PySem.W.nsIn K mainGlobals "BadLength" = some (some (.ref CU6)))
    (aU7 : PySem.W.nsIn K mainGlobals "ZeroSum" = some (some (.ref CU7)))
    (aU8 : PySem.W.nsIn K mainGlobals "NotPrime" = some (some (.ref CU8)))
    (aU9 : PySem.W.nsIn K mainGlobals "NotSure" = some (some (.ref CU9)))
    (aU10 : PySem.W.nsIn K mainGlobals "IsSure" = some (some (.ref CU10)))
    (aU11 : PySem.W.nsIn K mainGlobals "NothingToUndo" = some (some (.ref CU11)))
    (a1 : PySem.W.nsIn K mainGlobals "_law_start" = some (some (.ref f1)))
    (l1 : K.lookup f1 = some ⟨oc1, od1, .func (PySem.W.fnOf "_law_start" "_law_start" (defArgs sStart) (defBody sStart) (defScope sStart) .none kV1 dc1 pm1 an1 cd1 ct1), sl1⟩)
    (c1 : PySem.W.codeIn K cd1 "_law_start" = true)
    (k1 : PySem.W.keepIn K (.ref f1) = true)
    (a2 : PySem.W.nsIn K mainGlobals "_law_take" = some (some (.ref f2)))
    (l2 : K.lookup f2 = some ⟨oc2, od2, .func (PySem.W.fnOf "_law_take" "_law_take" (defArgs sTake) (defBody sTake) (defScope sTake) .none kV2 dc2 pm2 an2 cd2 ct2), sl2⟩)
    (c2 : PySem.W.codeIn K cd2 "_law_take" = true)
    (k2 : PySem.W.keepIn K (.ref f2) = true)
    (a3 : PySem.W.nsIn K mainGlobals "_law_signs" = some (some (.ref f3)))
    (l3 : K.lookup f3 = some ⟨oc3, od3, .func (PySem.W.fnOf "_law_signs" "_law_signs" (defArgs sSigns) (defBody sSigns) (defScope sSigns) .none kV3 dc3 pm3 an3 cd3 ct3), sl3⟩)
    (c3 : PySem.W.codeIn K cd3 "_law_signs" = true)
    (k3 : PySem.W.keepIn K (.ref f3) = true)
    (a4 : PySem.W.nsIn K mainGlobals "_law_text" = some (some (.ref f4)))
    (l4 : K.lookup f4 = some ⟨oc4, od4, .func (PySem.W.fnOf "_law_text" "_law_text" (defArgs s_text) (defBody s_text) (defScope s_text) .none kV4 dc4 pm4 an4 cd4 ct4), sl4⟩)
    (c4 : PySem.W.codeIn K cd4 "_law_text" = true)
    (k4 : PySem.W.keepIn K (.ref f4) = true)
    (a5 : PySem.W.nsIn K mainGlobals "_law_kinds" = some (some (.ref f5)))
    (l5 : K.lookup f5 = some ⟨oc5, od5, .func (PySem.W.fnOf "_law_kinds" "_law_kinds" (defArgs s_kinds) (defBody s_kinds) (defScope s_kinds) .none kV5 dc5 pm5 an5 cd5 ct5), sl5⟩)
    (c5 : PySem.W.codeIn K cd5 "_law_kinds" = true)
    (k5 : PySem.W.keepIn K (.ref f5) = true)
    (a6 : PySem.W.nsIn K mainGlobals "_law_right" = some (some (.ref f6)))
    (l6 : K.lookup f6 = some ⟨oc6, od6, .func (PySem.W.fnOf "_law_right" "_law_right" (defArgs s_right) (defBody s_right) (defScope s_right) .none kV6 dc6 pm6 an6 cd6 ct6), sl6⟩)
    (c6 : PySem.W.codeIn K cd6 "_law_right" = true)
    (k6 : PySem.W.keepIn K (.ref f6) = true)
    (a7 : PySem.W.nsIn K mainGlobals "_law_thing" = some (some (.ref f7)))
    (l7 : K.lookup f7 = some ⟨oc7, od7, .func (PySem.W.fnOf "_law_thing" "_law_thing" (defArgs s_thing) (defBody s_thing) (defScope s_thing) .none kV7 dc7 pm7 an7 cd7 ct7), sl7⟩)
    (c7 : PySem.W.codeIn K cd7 "_law_thing" = true)
    (k7 : PySem.W.keepIn K (.ref f7) = true)
    (a8 : PySem.W.nsIn K mainGlobals "law" = some (some (.ref f8)))
    (l8 : K.lookup f8 = some ⟨oc8, od8, .func (PySem.W.fnOf "law" "law" (defArgs sLaw) (defBody sLaw) (defScope sLaw) .none kV8 dc8 pm8 an8 cd8 ct8), sl8⟩)
    (c8 : PySem.W.codeIn K cd8 "law" = true)
    (k8 : PySem.W.keepIn K (.ref f8) = true)
    (uL0 : K.lookup CU0 = some (excClassObj nmU0 qU0 CU0 NU0 bsU0 [.ref ONE, .type "ValueError", .type "Exception", .type "BaseException", .type "object"] true snU0 subU0 abU0 colU0 ddU0 k0U0 k1U0 k2U0 k3U0 k5U0 "ValueError.__new__"))
    (usa0 : PySem.W.findIn K (.ref CU0) "__setattr__" = some (some (.builtin "object.__setattr__")))
    (uiC0 : PySem.W.findIn K (.ref CU0) "__init__" = some (some (.ref fU0)))
    (utI0 : PySem.W.typeIn K (.ref fU0) = some (.type "function"))
    (uno0 : PySem.W.findIn K (.ref CU0) "name" = some none)
    (ul0 : K.lookup fU0 = some ⟨ocU0, odU0, .func (PySem.W.fnOf "__init__" "BadName.__init__" (defArgs sBadName_init) (defBody sBadName_init) (defScope sBadName_init) .none kVU0 dcU0 pmU0 anU0 cdU0 ctU0), slU0⟩)
    (uc0 : PySem.W.codeIn K cdU0 "BadName.__init__" = true)
    (uk0 : PySem.W.keepIn K (.ref fU0) = true)
    (uex0 : PySem.W.subIn K (.ref CU0) (.type "BaseException") = some true)
    (uty0 : PySem.W.typeIn K (.ref CU0) = some (.type "type"))
    (ukC0 : PySem.W.keepIn K (.ref CU0) = true)
    (uga0 : PySem.W.findIn K (.ref CU0) "__getattribute__" = some (some (.builtin "BaseException.__getattribute__")))
    (ugg0 : PySem.W.findIn K (.ref CU0) "__getattr__" = some none)
    (uhd0 : PySem.W.hasDictIn K CU0 = true)
    (uha0 : PySem.W.findIn K (.ref CU0) "__class__" = some (some (.builtin "object.__class__")))
    (uhm0 : PySem.W.mroIn K CU0 (.type "object") = some true)
    (uso0 : PySem.W.subIn K (.ref CU0) (.ref ONE) = some true)
    (usv0 : PySem.W.subIn K (.ref CU0) (.type "ValueError") = some true)
    (su0_0 : PySem.W.subIn K (.ref CU0) (.ref CU0) = some true)
    (su0_1 : PySem.W.subIn K (.ref CU0) (.ref CU1) = some false)
    (su0_2 : PySem.W.subIn K (.ref CU0) (.ref CU2) = some false)
    (su0_3 : PySem.W.subIn K (.ref CU0) (.ref CU3) = some false)
    (su0_4 : PySem.W.subIn K (.ref CU0) (.ref CU4) = some false)
    (su0_5 : PySem.W.subIn K (.ref CU0) (.ref CU5) = some false)
    (su0_6 : PySem.W.subIn K (.ref CU0) (.ref CU6) = some false)
    (su0_7 : PySem.W.subIn K (.ref CU0) (.ref CU7) = some false)
    (su0_8 : PySem.W.subIn K (.ref CU0) (.ref CU8) = some false)
    (su0_9 : PySem.W.subIn K (.ref CU0) (.ref CU9) = some false)
    (su0_10 : PySem.W.subIn K (.ref CU0) (.ref CU10) = some false)
    (su0_11 : PySem.W.subIn K (.ref CU0) (.ref CU11) = some false)
    (uL1 : K.lookup CU1 = some (excClassObj nmU1 qU1 CU1 NU1 bsU1 [.ref ONE, .type "ValueError", .type "Exception", .type "BaseException", .type "object"] true snU1 subU1 abU1 colU1 ddU1 k0U1 k1U1 k2U1 k3U1 k5U1 "ValueError.__new__"))
    (usa1 : PySem.W.findIn K (.ref CU1) "__setattr__" = some (some (.builtin "object.__setattr__")))
    (uiC1 : PySem.W.findIn K (.ref CU1) "__init__" = some (some (.ref fU1)))
    (utI1 : PySem.W.typeIn K (.ref fU1) = some (.type "function"))
    (uno1 : PySem.W.findIn K (.ref CU1) "name" = some none)
    (ul1 : K.lookup fU1 = some ⟨ocU1, odU1, .func (PySem.W.fnOf "__init__" "DuplicateName.__init__" (defArgs sDuplicateName_init) (defBody sDuplicateName_init) (defScope sDuplicateName_init) .none kVU1 dcU1 pmU1 anU1 cdU1 ctU1), slU1⟩)
    (uc1 : PySem.W.codeIn K cdU1 "DuplicateName.__init__" = true)
    (uk1 : PySem.W.keepIn K (.ref fU1) = true)
    (uex1 : PySem.W.subIn K (.ref CU1) (.type "BaseException") = some true)
    (uty1 : PySem.W.typeIn K (.ref CU1) = some (.type "type"))
    (ukC1 : PySem.W.keepIn K (.ref CU1) = true)
    (uga1 : PySem.W.findIn K (.ref CU1) "__getattribute__" = some (some (.builtin "BaseException.__getattribute__")))
    (ugg1 : PySem.W.findIn K (.ref CU1) "__getattr__" = some none)
    (uhd1 : PySem.W.hasDictIn K CU1 = true)
    (uha1 : PySem.W.findIn K (.ref CU1) "__class__" = some (some (.builtin "object.__class__")))
    (uhm1 : PySem.W.mroIn K CU1 (.type "object") = some true)
    (uso1 : PySem.W.subIn K (.ref CU1) (.ref ONE) = some true)
    (usv1 : PySem.W.subIn K (.ref CU1) (.type "ValueError") = some true)
    (su1_0 : PySem.W.subIn K (.ref CU1) (.ref CU0) = some false)
    (su1_1 : PySem.W.subIn K (.ref CU1) (.ref CU1) = some true)
    (su1_2 : PySem.W.subIn K (.ref CU1) (.ref CU2) = some false)
    (su1_3 : PySem.W.subIn K (.ref CU1) (.ref CU3) = some false)
    (su1_4 : PySem.W.subIn K (.ref CU1) (.ref CU4) = some false)
    (su1_5 : PySem.W.subIn K (.ref CU1) (.ref CU5) = some false)
    (su1_6 : PySem.W.subIn K (.ref CU1) (.ref CU6) = some false)
    (su1_7 : PySem.W.subIn K (.ref CU1) (.ref CU7) = some false)
    (su1_8 : PySem.W.subIn K (.ref CU1) (.ref CU8) = some false)
    (su1_9 : PySem.W.subIn K (.ref CU1) (.ref CU9) = some false)
    (su1_10 : PySem.W.subIn K (.ref CU1) (.ref CU10) = some false)
    (su1_11 : PySem.W.subIn K (.ref CU1) (.ref CU11) = some false)
    (uL2 : K.lookup CU2 = some (excClassObj nmU2 qU2 CU2 NU2 bsU2 [.ref ONE, .type "ValueError", .type "Exception", .type "BaseException", .type "object"] true snU2 subU2 abU2 colU2 ddU2 k0U2 k1U2 k2U2 k3U2 k5U2 "ValueError.__new__"))
    (usa2 : PySem.W.findIn K (.ref CU2) "__setattr__" = some (some (.builtin "object.__setattr__")))
    (uiC2 : PySem.W.findIn K (.ref CU2) "__init__" = some (some (.ref fU2)))
    (utI2 : PySem.W.typeIn K (.ref fU2) = some (.type "function"))
    (uno2 : PySem.W.findIn K (.ref CU2) "name" = some none)
    (ul2 : K.lookup fU2 = some ⟨ocU2, odU2, .func (PySem.W.fnOf "__init__" "UnknownName.__init__" (defArgs sUnknownName_init) (defBody sUnknownName_init) (defScope sUnknownName_init) .none kVU2 dcU2 pmU2 anU2 cdU2 ctU2), slU2⟩)
    (uc2 : PySem.W.codeIn K cdU2 "UnknownName.__init__" = true)
    (uk2 : PySem.W.keepIn K (.ref fU2) = true)
    (uex2 : PySem.W.subIn K (.ref CU2) (.type "BaseException") = some true)
    (uty2 : PySem.W.typeIn K (.ref CU2) = some (.type "type"))
    (ukC2 : PySem.W.keepIn K (.ref CU2) = true)
    (uga2 : PySem.W.findIn K (.ref CU2) "__getattribute__" = some (some (.builtin "BaseException.__getattribute__")))
    (ugg2 : PySem.W.findIn K (.ref CU2) "__getattr__" = some none)
    (uhd2 : PySem.W.hasDictIn K CU2 = true)
    (uha2 : PySem.W.findIn K (.ref CU2) "__class__" = some (some (.builtin "object.__class__")))
    (uhm2 : PySem.W.mroIn K CU2 (.type "object") = some true)
    (uso2 : PySem.W.subIn K (.ref CU2) (.ref ONE) = some true)
    (usv2 : PySem.W.subIn K (.ref CU2) (.type "ValueError") = some true)
    (su2_0 : PySem.W.subIn K (.ref CU2) (.ref CU0) = some false)
    (su2_1 : PySem.W.subIn K (.ref CU2) (.ref CU1) = some false)
    (su2_2 : PySem.W.subIn K (.ref CU2) (.ref CU2) = some true)
    (su2_3 : PySem.W.subIn K (.ref CU2) (.ref CU3) = some false)
    (su2_4 : PySem.W.subIn K (.ref CU2) (.ref CU4) = some false)
    (su2_5 : PySem.W.subIn K (.ref CU2) (.ref CU5) = some false)
    (su2_6 : PySem.W.subIn K (.ref CU2) (.ref CU6) = some false)
    (su2_7 : PySem.W.subIn K (.ref CU2) (.ref CU7) = some false)
    (su2_8 : PySem.W.subIn K (.ref CU2) (.ref CU8) = some false)
    (su2_9 : PySem.W.subIn K (.ref CU2) (.ref CU9) = some false)
    (su2_10 : PySem.W.subIn K (.ref CU2) (.ref CU10) = some false)
    (su2_11 : PySem.W.subIn K (.ref CU2) (.ref CU11) = some false)
    (uL3 : K.lookup CU3 = some (excClassObj nmU3 qU3 CU3 NU3 bsU3 [.ref ONE, .type "ValueError", .type "Exception", .type "BaseException", .type "object"] true snU3 subU3 abU3 colU3 ddU3 k0U3 k1U3 k2U3 k3U3 k5U3 "ValueError.__new__"))
    (usa3 : PySem.W.findIn K (.ref CU3) "__setattr__" = some (some (.builtin "object.__setattr__")))
    (uiC3 : PySem.W.findIn K (.ref CU3) "__init__" = some (some (.ref fU3)))
    (utI3 : PySem.W.typeIn K (.ref fU3) = some (.type "function"))
    (uno3 : PySem.W.findIn K (.ref CU3) "count" = some none)
    (ul3 : K.lookup fU3 = some ⟨ocU3, odU3, .func (PySem.W.fnOf "__init__" "BadCount.__init__" (defArgs sBadCount_init) (defBody sBadCount_init) (defScope sBadCount_init) .none kVU3 dcU3 pmU3 anU3 cdU3 ctU3), slU3⟩)
    (uc3 : PySem.W.codeIn K cdU3 "BadCount.__init__" = true)
    (uk3 : PySem.W.keepIn K (.ref fU3) = true)
    (uex3 : PySem.W.subIn K (.ref CU3) (.type "BaseException") = some true)
    (uty3 : PySem.W.typeIn K (.ref CU3) = some (.type "type"))
    (ukC3 : PySem.W.keepIn K (.ref CU3) = true)
    (uga3 : PySem.W.findIn K (.ref CU3) "__getattribute__" = some (some (.builtin "BaseException.__getattribute__")))
    (ugg3 : PySem.W.findIn K (.ref CU3) "__getattr__" = some none)
    (uhd3 : PySem.W.hasDictIn K CU3 = true)
    (uha3 : PySem.W.findIn K (.ref CU3) "__class__" = some (some (.builtin "object.__class__")))
    (uhm3 : PySem.W.mroIn K CU3 (.type "object") = some true)
    (uso3 : PySem.W.subIn K (.ref CU3) (.ref ONE) = some true)
    (usv3 : PySem.W.subIn K (.ref CU3) (.type "ValueError") = some true)
    (su3_0 : PySem.W.subIn K (.ref CU3) (.ref CU0) = some false)
    (su3_1 : PySem.W.subIn K (.ref CU3) (.ref CU1) = some false)
    (su3_2 : PySem.W.subIn K (.ref CU3) (.ref CU2) = some false)
    (su3_3 : PySem.W.subIn K (.ref CU3) (.ref CU3) = some true)
    (su3_4 : PySem.W.subIn K (.ref CU3) (.ref CU4) = some false)
    (su3_5 : PySem.W.subIn K (.ref CU3) (.ref CU5) = some false)
    (su3_6 : PySem.W.subIn K (.ref CU3) (.ref CU6) = some false)
    (su3_7 : PySem.W.subIn K (.ref CU3) (.ref CU7) = some false)
    (su3_8 : PySem.W.subIn K (.ref CU3) (.ref CU8) = some false)
    (su3_9 : PySem.W.subIn K (.ref CU3) (.ref CU9) = some false)
    (su3_10 : PySem.W.subIn K (.ref CU3) (.ref CU10) = some false)
    (su3_11 : PySem.W.subIn K (.ref CU3) (.ref CU11) = some false)
    (uL4 : K.lookup CU4 = some (excClassObj nmU4 qU4 CU4 NU4 bsU4 [.ref ONE, .type "ValueError", .type "Exception", .type "BaseException", .type "object"] true snU4 subU4 abU4 colU4 ddU4 k0U4 k1U4 k2U4 k3U4 k5U4 "ValueError.__new__"))
    (usa4 : PySem.W.findIn K (.ref CU4) "__setattr__" = some (some (.builtin "object.__setattr__")))
    (uiC4 : PySem.W.findIn K (.ref CU4) "__init__" = some (some (.ref fU4)))
    (utI4 : PySem.W.typeIn K (.ref fU4) = some (.type "function"))
    (uno4 : PySem.W.findIn K (.ref CU4) "value" = some none)
    (ul4 : K.lookup fU4 = some ⟨ocU4, odU4, .func (PySem.W.fnOf "__init__" "OutOfRange.__init__" (defArgs sOutOfRange_init) (defBody sOutOfRange_init) (defScope sOutOfRange_init) .none kVU4 dcU4 pmU4 anU4 cdU4 ctU4), slU4⟩)
    (uc4 : PySem.W.codeIn K cdU4 "OutOfRange.__init__" = true)
    (uk4 : PySem.W.keepIn K (.ref fU4) = true)
    (uex4 : PySem.W.subIn K (.ref CU4) (.type "BaseException") = some true)
    (uty4 : PySem.W.typeIn K (.ref CU4) = some (.type "type"))
    (ukC4 : PySem.W.keepIn K (.ref CU4) = true)
    (uga4 : PySem.W.findIn K (.ref CU4) "__getattribute__" = some (some (.builtin "BaseException.__getattribute__")))
    (ugg4 : PySem.W.findIn K (.ref CU4) "__getattr__" = some none)
    (uhd4 : PySem.W.hasDictIn K CU4 = true)
    (uha4 : PySem.W.findIn K (.ref CU4) "__class__" = some (some (.builtin "object.__class__")))
    (uhm4 : PySem.W.mroIn K CU4 (.type "object") = some true)
    (uso4 : PySem.W.subIn K (.ref CU4) (.ref ONE) = some true)
    (usv4 : PySem.W.subIn K (.ref CU4) (.type "ValueError") = some true)
    (su4_0 : PySem.W.subIn K (.ref CU4) (.ref CU0) = some false)
    (su4_1 : PySem.W.subIn K (.ref CU4) (.ref CU1) = some false)
    (su4_2 : PySem.W.subIn K (.ref CU4) (.ref CU2) = some false)
    (su4_3 : PySem.W.subIn K (.ref CU4) (.ref CU3) = some false)
    (su4_4 : PySem.W.subIn K (.ref CU4) (.ref CU4) = some true)
    (su4_5 : PySem.W.subIn K (.ref CU4) (.ref CU5) = some false)
    (su4_6 : PySem.W.subIn K (.ref CU4) (.ref CU6) = some false)
    (su4_7 : PySem.W.subIn K (.ref CU4) (.ref CU7) = some false)
    (su4_8 : PySem.W.subIn K (.ref CU4) (.ref CU8) = some false)
    (su4_9 : PySem.W.subIn K (.ref CU4) (.ref CU9) = some false)
    (su4_10 : PySem.W.subIn K (.ref CU4) (.ref CU10) = some false)
    (su4_11 : PySem.W.subIn K (.ref CU4) (.ref CU11) = some false)
    (uL5 : K.lookup CU5 = some (excClassObj nmU5 qU5 CU5 NU5 bsU5 [.ref ONE, .type "ValueError", .type "Exception", .type "BaseException", .type "object"] true snU5 subU5 abU5 colU5 ddU5 k0U5 k1U5 k2U5 k3U5 k5U5 "ValueError.__new__"))
    (usa5 : PySem.W.findIn K (.ref CU5) "__setattr__" = some (some (.builtin "object.__setattr__")))
    (uiC5 : PySem.W.findIn K (.ref CU5) "__init__" = some (some (.ref fU5)))
    (utI5 : PySem.W.typeIn K (.ref fU5) = some (.type "function"))
    (uno5 : PySem.W.findIn K (.ref CU5) "number" = some none)
    (ul5 : K.lookup fU5 = some ⟨ocU5, odU5, .func (PySem.W.fnOf "__init__" "BadLine.__init__" (defArgs sBadLine_init) (defBody sBadLine_init) (defScope sBadLine_init) .none kVU5 dcU5 pmU5 anU5 cdU5 ctU5), slU5⟩)
    (uc5 : PySem.W.codeIn K cdU5 "BadLine.__init__" = true)
    (uk5 : PySem.W.keepIn K (.ref fU5) = true)
    (t5 : PySem.W.findIn K (.ref CU5) "text" = some none)
    (uex5 : PySem.W.subIn K (.ref CU5) (.type "BaseException") = some true)
    (uty5 : PySem.W.typeIn K (.ref CU5) = some (.type "type"))
    (ukC5 : PySem.W.keepIn K (.ref CU5) = true)
    (uga5 : PySem.W.findIn K (.ref CU5) "__getattribute__" = some (some (.builtin "BaseException.__getattribute__")))
    (ugg5 : PySem.W.findIn K (.ref CU5) "__getattr__" = some none)
    (uhd5 : PySem.W.hasDictIn K CU5 = true)
    (uha5 : PySem.W.findIn K (.ref CU5) "__class__" = some (some (.builtin "object.__class__")))
    (uhm5 : PySem.W.mroIn K CU5 (.type "object") = some true)
    (uso5 : PySem.W.subIn K (.ref CU5) (.ref ONE) = some true)
    (usv5 : PySem.W.subIn K (.ref CU5) (.type "ValueError") = some true)
    (su5_0 : PySem.W.subIn K (.ref CU5) (.ref CU0) = some false)
    (su5_1 : PySem.W.subIn K (.ref CU5) (.ref CU1) = some false)
    (su5_2 : PySem.W.subIn K (.ref CU5) (.ref CU2) = some false)
    (su5_3 : PySem.W.subIn K (.ref CU5) (.ref CU3) = some false)
    (su5_4 : PySem.W.subIn K (.ref CU5) (.ref CU4) = some false)
    (su5_5 : PySem.W.subIn K (.ref CU5) (.ref CU5) = some true)
    (su5_6 : PySem.W.subIn K (.ref CU5) (.ref CU6) = some false)
    (su5_7 : PySem.W.subIn K (.ref CU5) (.ref CU7) = some false)
    (su5_8 : PySem.W.subIn K (.ref CU5) (.ref CU8) = some false)
    (su5_9 : PySem.W.subIn K (.ref CU5) (.ref CU9) = some false)
    (su5_10 : PySem.W.subIn K (.ref CU5) (.ref CU10) = some false)
    (su5_11 : PySem.W.subIn K (.ref CU5) (.ref CU11) = some false)
    (uL6 : K.lookup CU6 = some (excClassObj nmU6 qU6 CU6 NU6 bsU6 [.ref ONE, .type "ValueError", .type "Exception", .type "BaseException", .type "object"] true snU6 subU6 abU6 colU6 ddU6 k0U6 k1U6 k2U6 k3U6 k5U6 "ValueError.__new__"))
    (usa6 : PySem.W.findIn K (.ref CU6) "__setattr__" = some (some (.builtin "object.__setattr__")))
    (uiC6 : PySem.W.findIn K (.ref CU6) "__init__" = some (some (.ref fU6)))
    (utI6 : PySem.W.typeIn K (.ref fU6) = some (.type "function"))
    (uno6 : PySem.W.findIn K (.ref CU6) "length" = some none)
    (ul6 : K.lookup fU6 = some ⟨ocU6, odU6, .func (PySem.W.fnOf "__init__" "BadLength.__init__" (defArgs sBadLength_init) (defBody sBadLength_init) (defScope sBadLength_init) .none kVU6 dcU6 pmU6 anU6 cdU6 ctU6), slU6⟩)
    (uc6 : PySem.W.codeIn K cdU6 "BadLength.__init__" = true)
    (uk6 : PySem.W.keepIn K (.ref fU6) = true)
    (uex6 : PySem.W.subIn K (.ref CU6) (.type "BaseException") = some true)
    (uty6 : PySem.W.typeIn K (.ref CU6) = some (.type "type"))
    (ukC6 : PySem.W.keepIn K (.ref CU6) = true)
    (uga6 : PySem.W.findIn K (.ref CU6) "__getattribute__" = some (some (.builtin "BaseException.__getattribute__")))
    (ugg6 : PySem.W.findIn K (.ref CU6) "__getattr__" = some none)
    (uhd6 : PySem.W.hasDictIn K CU6 = true)
    (uha6 : PySem.W.findIn K (.ref CU6) "__class__" = some (some (.builtin "object.__class__")))
    (uhm6 : PySem.W.mroIn K CU6 (.type "object") = some true)
    (uso6 : PySem.W.subIn K (.ref CU6) (.ref ONE) = some true)
    (usv6 : PySem.W.subIn K (.ref CU6) (.type "ValueError") = some true)
    (su6_0 : PySem.W.subIn K (.ref CU6) (.ref CU0) = some false)
    (su6_1 : PySem.W.subIn K (.ref CU6) (.ref CU1) = some false)
    (su6_2 : PySem.W.subIn K (.ref CU6) (.ref CU2) = some false)
    (su6_3 : PySem.W.subIn K (.ref CU6) (.ref CU3) = some false)
    (su6_4 : PySem.W.subIn K (.ref CU6) (.ref CU4) = some false)
    (su6_5 : PySem.W.subIn K (.ref CU6) (.ref CU5) = some false)
    (su6_6 : PySem.W.subIn K (.ref CU6) (.ref CU6) = some true)
    (su6_7 : PySem.W.subIn K (.ref CU6) (.ref CU7) = some false)
    (su6_8 : PySem.W.subIn K (.ref CU6) (.ref CU8) = some false)
    (su6_9 : PySem.W.subIn K (.ref CU6) (.ref CU9) = some false)
    (su6_10 : PySem.W.subIn K (.ref CU6) (.ref CU10) = some false)
    (su6_11 : PySem.W.subIn K (.ref CU6) (.ref CU11) = some false)
    (uL7 : K.lookup CU7 = some (excClassObj nmU7 qU7 CU7 NU7 bsU7 [.ref ONE, .type "ValueError", .type "Exception", .type "BaseException", .type "object"] true snU7 subU7 abU7 colU7 ddU7 k0U7 k1U7 k2U7 k3U7 k5U7 "ValueError.__new__"))
    (usa7 : PySem.W.findIn K (.ref CU7) "__setattr__" = some (some (.builtin "object.__setattr__")))
    (uiC7 : PySem.W.findIn K (.ref CU7) "__init__" = some (some (.ref fU7)))
    (utI7 : PySem.W.typeIn K (.ref fU7) = some (.type "function"))
    (uno7 : PySem.W.findIn K (.ref CU7) "numbers" = some none)
    (ul7 : K.lookup fU7 = some ⟨ocU7, odU7, .func (PySem.W.fnOf "__init__" "ZeroSum.__init__" (defArgs sZeroSum_init) (defBody sZeroSum_init) (defScope sZeroSum_init) .none kVU7 dcU7 pmU7 anU7 cdU7 ctU7), slU7⟩)
    (uc7 : PySem.W.codeIn K cdU7 "ZeroSum.__init__" = true)
    (uk7 : PySem.W.keepIn K (.ref fU7) = true)
    (uex7 : PySem.W.subIn K (.ref CU7) (.type "BaseException") = some true)
    (uty7 : PySem.W.typeIn K (.ref CU7) = some (.type "type"))
    (ukC7 : PySem.W.keepIn K (.ref CU7) = true)
    (uga7 : PySem.W.findIn K (.ref CU7) "__getattribute__" = some (some (.builtin "BaseException.__getattribute__")))
    (ugg7 : PySem.W.findIn K (.ref CU7) "__getattr__" = some none)
    (uhd7 : PySem.W.hasDictIn K CU7 = true)
    (uha7 : PySem.W.findIn K (.ref CU7) "__class__" = some (some (.builtin "object.__class__")))
    (uhm7 : PySem.W.mroIn K CU7 (.type "object") = some true)
    (uso7 : PySem.W.subIn K (.ref CU7) (.ref ONE) = some true)
    (usv7 : PySem.W.subIn K (.ref CU7) (.type "ValueError") = some true)
    (su7_0 : PySem.W.subIn K (.ref CU7) (.ref CU0) = some false)
    (su7_1 : PySem.W.subIn K (.ref CU7) (.ref CU1) = some false)
    (su7_2 : PySem.W.subIn K (.ref CU7) (.ref CU2) = some false)
    (su7_3 : PySem.W.subIn K (.ref CU7) (.ref CU3) = some false)
    (su7_4 : PySem.W.subIn K (.ref CU7) (.ref CU4) = some false)
    (su7_5 : PySem.W.subIn K (.ref CU7) (.ref CU5) = some false)
    (su7_6 : PySem.W.subIn K (.ref CU7) (.ref CU6) = some false)
    (su7_7 : PySem.W.subIn K (.ref CU7) (.ref CU7) = some true)
    (su7_8 : PySem.W.subIn K (.ref CU7) (.ref CU8) = some false)
    (su7_9 : PySem.W.subIn K (.ref CU7) (.ref CU9) = some false)
    (su7_10 : PySem.W.subIn K (.ref CU7) (.ref CU10) = some false)
    (su7_11 : PySem.W.subIn K (.ref CU7) (.ref CU11) = some false)
    (uL8 : K.lookup CU8 = some (excClassObj nmU8 qU8 CU8 NU8 bsU8 [.ref ONE, .type "ValueError", .type "Exception", .type "BaseException", .type "object"] true snU8 subU8 abU8 colU8 ddU8 k0U8 k1U8 k2U8 k3U8 k5U8 "ValueError.__new__"))
    (usa8 : PySem.W.findIn K (.ref CU8) "__setattr__" = some (some (.builtin "object.__setattr__")))
    (uiC8 : PySem.W.findIn K (.ref CU8) "__init__" = some (some (.ref fU8)))
    (utI8 : PySem.W.typeIn K (.ref fU8) = some (.type "function"))
    (uno8 : PySem.W.findIn K (.ref CU8) "value" = some none)
    (ul8 : K.lookup fU8 = some ⟨ocU8, odU8, .func (PySem.W.fnOf "__init__" "NotPrime.__init__" (defArgs sNotPrime_init) (defBody sNotPrime_init) (defScope sNotPrime_init) .none kVU8 dcU8 pmU8 anU8 cdU8 ctU8), slU8⟩)
    (uc8 : PySem.W.codeIn K cdU8 "NotPrime.__init__" = true)
    (uk8 : PySem.W.keepIn K (.ref fU8) = true)
    (uex8 : PySem.W.subIn K (.ref CU8) (.type "BaseException") = some true)
    (uty8 : PySem.W.typeIn K (.ref CU8) = some (.type "type"))
    (ukC8 : PySem.W.keepIn K (.ref CU8) = true)
    (uga8 : PySem.W.findIn K (.ref CU8) "__getattribute__" = some (some (.builtin "BaseException.__getattribute__")))
    (ugg8 : PySem.W.findIn K (.ref CU8) "__getattr__" = some none)
    (uhd8 : PySem.W.hasDictIn K CU8 = true)
    (uha8 : PySem.W.findIn K (.ref CU8) "__class__" = some (some (.builtin "object.__class__")))
    (uhm8 : PySem.W.mroIn K CU8 (.type "object") = some true)
    (uso8 : PySem.W.subIn K (.ref CU8) (.ref ONE) = some true)
    (usv8 : PySem.W.subIn K (.ref CU8) (.type "ValueError") = some true)
    (su8_0 : PySem.W.subIn K (.ref CU8) (.ref CU0) = some false)
    (su8_1 : PySem.W.subIn K (.ref CU8) (.ref CU1) = some false)
    (su8_2 : PySem.W.subIn K (.ref CU8) (.ref CU2) = some false)
    (su8_3 : PySem.W.subIn K (.ref CU8) (.ref CU3) = some false)
    (su8_4 : PySem.W.subIn K (.ref CU8) (.ref CU4) = some false)
    (su8_5 : PySem.W.subIn K (.ref CU8) (.ref CU5) = some false)
    (su8_6 : PySem.W.subIn K (.ref CU8) (.ref CU6) = some false)
    (su8_7 : PySem.W.subIn K (.ref CU8) (.ref CU7) = some false)
    (su8_8 : PySem.W.subIn K (.ref CU8) (.ref CU8) = some true)
    (su8_9 : PySem.W.subIn K (.ref CU8) (.ref CU9) = some false)
    (su8_10 : PySem.W.subIn K (.ref CU8) (.ref CU10) = some false)
    (su8_11 : PySem.W.subIn K (.ref CU8) (.ref CU11) = some false)
    (uL9 : K.lookup CU9 = some (excClassObj nmU9 qU9 CU9 NU9 bsU9 [.ref ONE, .type "ValueError", .type "Exception", .type "BaseException", .type "object"] true snU9 subU9 abU9 colU9 ddU9 k0U9 k1U9 k2U9 k3U9 k5U9 "ValueError.__new__"))
    (usa9 : PySem.W.findIn K (.ref CU9) "__setattr__" = some (some (.builtin "object.__setattr__")))
    (uiC9 : PySem.W.findIn K (.ref CU9) "__init__" = some (some (.ref fU9)))
    (utI9 : PySem.W.typeIn K (.ref fU9) = some (.type "function"))
    (uno9 : PySem.W.findIn K (.ref CU9) "kind" = some none)
    (ul9 : K.lookup fU9 = some ⟨ocU9, odU9, .func (PySem.W.fnOf "__init__" "NotSure.__init__" (defArgs sNotSure_init) (defBody sNotSure_init) (defScope sNotSure_init) .none kVU9 dcU9 pmU9 anU9 cdU9 ctU9), slU9⟩)
    (uc9 : PySem.W.codeIn K cdU9 "NotSure.__init__" = true)
    (uk9 : PySem.W.keepIn K (.ref fU9) = true)
    (uex9 : PySem.W.subIn K (.ref CU9) (.type "BaseException") = some true)
    (uty9 : PySem.W.typeIn K (.ref CU9) = some (.type "type"))
    (ukC9 : PySem.W.keepIn K (.ref CU9) = true)
    (uga9 : PySem.W.findIn K (.ref CU9) "__getattribute__" = some (some (.builtin "BaseException.__getattribute__")))
    (ugg9 : PySem.W.findIn K (.ref CU9) "__getattr__" = some none)
    (uhd9 : PySem.W.hasDictIn K CU9 = true)
    (uha9 : PySem.W.findIn K (.ref CU9) "__class__" = some (some (.builtin "object.__class__")))
    (uhm9 : PySem.W.mroIn K CU9 (.type "object") = some true)
    (uso9 : PySem.W.subIn K (.ref CU9) (.ref ONE) = some true)
    (usv9 : PySem.W.subIn K (.ref CU9) (.type "ValueError") = some true)
    (su9_0 : PySem.W.subIn K (.ref CU9) (.ref CU0) = some false)
    (su9_1 : PySem.W.subIn K (.ref CU9) (.ref CU1) = some false)
    (su9_2 : PySem.W.subIn K (.ref CU9) (.ref CU2) = some false)
    (su9_3 : PySem.W.subIn K (.ref CU9) (.ref CU3) = some false)
    (su9_4 : PySem.W.subIn K (.ref CU9) (.ref CU4) = some false)
    (su9_5 : PySem.W.subIn K (.ref CU9) (.ref CU5) = some false)
    (su9_6 : PySem.W.subIn K (.ref CU9) (.ref CU6) = some false)
    (su9_7 : PySem.W.subIn K (.ref CU9) (.ref CU7) = some false)
    (su9_8 : PySem.W.subIn K (.ref CU9) (.ref CU8) = some false)
    (su9_9 : PySem.W.subIn K (.ref CU9) (.ref CU9) = some true)
    (su9_10 : PySem.W.subIn K (.ref CU9) (.ref CU10) = some false)
    (su9_11 : PySem.W.subIn K (.ref CU9) (.ref CU11) = some false)
    (uL10 : K.lookup CU10 = some (excClassObj nmU10 qU10 CU10 NU10 bsU10 [.ref ONE, .type "ValueError", .type "Exception", .type "BaseException", .type "object"] true snU10 subU10 abU10 colU10 ddU10 k0U10 k1U10 k2U10 k3U10 k5U10 "ValueError.__new__"))
    (usa10 : PySem.W.findIn K (.ref CU10) "__setattr__" = some (some (.builtin "object.__setattr__")))
    (uiC10 : PySem.W.findIn K (.ref CU10) "__init__" = some (some (.ref fU10)))
    (utI10 : PySem.W.typeIn K (.ref fU10) = some (.type "function"))
    (uno10 : PySem.W.findIn K (.ref CU10) "kind" = some none)
    (ul10 : K.lookup fU10 = some ⟨ocU10, odU10, .func (PySem.W.fnOf "__init__" "IsSure.__init__" (defArgs sIsSure_init) (defBody sIsSure_init) (defScope sIsSure_init) .none kVU10 dcU10 pmU10 anU10 cdU10 ctU10), slU10⟩)
    (uc10 : PySem.W.codeIn K cdU10 "IsSure.__init__" = true)
    (uk10 : PySem.W.keepIn K (.ref fU10) = true)
    (uex10 : PySem.W.subIn K (.ref CU10) (.type "BaseException") = some true)
    (uty10 : PySem.W.typeIn K (.ref CU10) = some (.type "type"))
    (ukC10 : PySem.W.keepIn K (.ref CU10) = true)
    (uga10 : PySem.W.findIn K (.ref CU10) "__getattribute__" = some (some (.builtin "BaseException.__getattribute__")))
    (ugg10 : PySem.W.findIn K (.ref CU10) "__getattr__" = some none)
    (uhd10 : PySem.W.hasDictIn K CU10 = true)
    (uha10 : PySem.W.findIn K (.ref CU10) "__class__" = some (some (.builtin "object.__class__")))
    (uhm10 : PySem.W.mroIn K CU10 (.type "object") = some true)
    (uso10 : PySem.W.subIn K (.ref CU10) (.ref ONE) = some true)
    (usv10 : PySem.W.subIn K (.ref CU10) (.type "ValueError") = some true)
    (su10_0 : PySem.W.subIn K (.ref CU10) (.ref CU0) = some false)
    (su10_1 : PySem.W.subIn K (.ref CU10) (.ref CU1) = some false)
    (su10_2 : PySem.W.subIn K (.ref CU10) (.ref CU2) = some false)
    (su10_3 : PySem.W.subIn K (.ref CU10) (.ref CU3) = some false)
    (su10_4 : PySem.W.subIn K (.ref CU10) (.ref CU4) = some false)
    (su10_5 : PySem.W.subIn K (.ref CU10) (.ref CU5) = some false)
    (su10_6 : PySem.W.subIn K (.ref CU10) (.ref CU6) = some false)
    (su10_7 : PySem.W.subIn K (.ref CU10) (.ref CU7) = some false)
    (su10_8 : PySem.W.subIn K (.ref CU10) (.ref CU8) = some false)
    (su10_9 : PySem.W.subIn K (.ref CU10) (.ref CU9) = some false)
    (su10_10 : PySem.W.subIn K (.ref CU10) (.ref CU10) = some true)
    (su10_11 : PySem.W.subIn K (.ref CU10) (.ref CU11) = some false)
    (uq : PySem.W.excIn K CU11 [.type "ValueError", .type "Exception", .type "BaseException", .type "object"] "ValueError.__new__" = true)
    (uex11 : PySem.W.subIn K (.ref CU11) (.type "BaseException") = some true)
    (uty11 : PySem.W.typeIn K (.ref CU11) = some (.type "type"))
    (ukC11 : PySem.W.keepIn K (.ref CU11) = true)
    (uga11 : PySem.W.findIn K (.ref CU11) "__getattribute__" = some (some (.builtin "BaseException.__getattribute__")))
    (ugg11 : PySem.W.findIn K (.ref CU11) "__getattr__" = some none)
    (uhd11 : PySem.W.hasDictIn K CU11 = true)
    (uha11 : PySem.W.findIn K (.ref CU11) "__class__" = some (some (.builtin "object.__class__")))
    (uhm11 : PySem.W.mroIn K CU11 (.type "object") = some true)
    (uso11 : PySem.W.subIn K (.ref CU11) (.ref ONE) = some true)
    (usv11 : PySem.W.subIn K (.ref CU11) (.type "ValueError") = some true)
    (su11_0 : PySem.W.subIn K (.ref CU11) (.ref CU0) = some false)
    (su11_1 : PySem.W.subIn K (.ref CU11) (.ref CU1) = some false)
    (su11_2 : PySem.W.subIn K (.ref CU11) (.ref CU2) = some false)
    (su11_3 : PySem.W.subIn K (.ref CU11) (.ref CU3) = some false)
    (su11_4 : PySem.W.subIn K (.ref CU11) (.ref CU4) = some false)
    (su11_5 : PySem.W.subIn K (.ref CU11) (.ref CU5) = some false)
    (su11_6 : PySem.W.subIn K (.ref CU11) (.ref CU6) = some false)
    (su11_7 : PySem.W.subIn K (.ref CU11) (.ref CU7) = some false)
    (su11_8 : PySem.W.subIn K (.ref CU11) (.ref CU8) = some false)
    (su11_9 : PySem.W.subIn K (.ref CU11) (.ref CU9) = some false)
    (su11_10 : PySem.W.subIn K (.ref CU11) (.ref CU10) = some false)
    (su11_11 : PySem.W.subIn K (.ref CU11) (.ref CU11) = some true)
    (ohd : PySem.W.hasDictIn K ONE = true)
    (oty : PySem.W.typeIn K (.ref ONE) = some (.type "type"))
    (oso : PySem.W.subIn K (.ref ONE) (.ref ONE) = some true)
    (gn : PySem.W.specialIn K (.builtin "object.__class__") "__get__" = some (some (.builtin "getset_descriptor.__get__")))
    (gt : PySem.W.takesIn K (.builtin "object.__class__") = some true)
    (z_len : PySem.W.nsIn K mainGlobals "len" = some none)
    (z_int : PySem.W.nsIn K mainGlobals "int" = some none)
    (z_max : PySem.W.nsIn K mainGlobals "max" = some none)
    (z_abs : PySem.W.nsIn K mainGlobals "abs" = some none)
    (z_range : PySem.W.nsIn K mainGlobals "range" = some none)
    (z_isinstance : PySem.W.nsIn K mainGlobals "isinstance" = some none)
    (z_ValueError : PySem.W.nsIn K mainGlobals "ValueError" = some none) :
    ∃ fd : FuncData, (∀ (s : Shared) (v : Value), BindsTo s fd ⟨[v], []⟩ [("_law_script", v)]) ∧ ∀ base : Heap, K.In base → base.Ns mainGlobals mg → FnOk l.prog w K mg base CX0 4 fa fd ["_law_script"] (spLaw K) := by
  have e := hfa.symm.trans (PySem.W.mg_of X G a8)
  cases e
  have F1 := fun_mk (st := sStart) l1 c1 k1
  have b1 := F1.binds (ps := ["_law_script"]) fun _ _ _ _ _ _ us hl => match us, hl with | [_], _ => rfl
  have F2 := fun_mk (st := sTake) l2 c2 k2
  have b2 := F2.binds (ps := ["_law_state", "_law_limit"]) fun _ _ _ _ _ _ us hl => match us, hl with | [_, _], _ => rfl
  have F3 := fun_mk (st := sSigns) l3 c3 k3
  have b3 := F3.binds (ps := []) fun _ _ _ _ _ _ us hl => match us, hl with | [], _ => rfl
  have F4 := fun_mk (st := s_text) l4 c4 k4
  have b4 := F4.binds (ps := ["_law_state"]) fun _ _ _ _ _ _ us hl => match us, hl with | [_], _ => rfl
  have F5 := fun_mk (st := s_kinds) l5 c5 k5
  have b5 := F5.binds (ps := ["_law_e"]) fun _ _ _ _ _ _ us hl => match us, hl with | [_], _ => rfl
  have F6 := fun_mk (st := s_right) l6 c6 k6
  have b6 := F6.binds (ps := ["_law_e", "_law_number"]) fun _ _ _ _ _ _ us hl => match us, hl with | [_, _], _ => rfl
  have F7 := fun_mk (st := s_thing) l7 c7 k7
  have b7 := F7.binds (ps := ["_law_state"]) fun _ _ _ _ _ _ us hl => match us, hl with | [_], _ => rfl
  have F8 := fun_mk (st := sLaw) l8 c8 k8
  have mz_len := PySem.W.mg_none_of X G z_len
  have mz_int := PySem.W.mg_none_of X G z_int
  have mz_max := PySem.W.mg_none_of X G z_max
  have mz_abs := PySem.W.mg_none_of X G z_abs
  have mz_range := PySem.W.mg_none_of X G z_range
  have mz_isinstance := PySem.W.mg_none_of X G z_isinstance
  have mz_ValueError := PySem.W.mg_none_of X G z_ValueError
  have G1 : Df K mg "_law_start" f1 := ⟨PySem.W.mg_of X G a1, k1⟩
  have G2 : Df K mg "_law_take" f2 := ⟨PySem.W.mg_of X G a2, k2⟩
  have G3 : Df K mg "_law_signs" f3 := ⟨PySem.W.mg_of X G a3, k3⟩
  have G4 : Df K mg "_law_text" f4 := ⟨PySem.W.mg_of X G a4, k4⟩
  have G5 : Df K mg "_law_kinds" f5 := ⟨PySem.W.mg_of X G a5, k5⟩
  have G6 : Df K mg "_law_right" f6 := ⟨PySem.W.mg_of X G a6, k6⟩
  have G7 : Df K mg "_law_thing" f7 := ⟨PySem.W.mg_of X G a7, k7⟩
  have T : Bi mg := ⟨mz_len, mz_int, mz_max, mz_abs⟩
  have U0 : ErrC K mg "BadName" CU0 fU0 "name" := ⟨PySem.W.mg_of X G aU0, ⟨⟨nmU0, qU0, NU0, bsU0, _, snU0, subU0, abU0, colU0, ddU0, k0U0, k1U0, k2U0, k3U0, k5U0, uL0, rfl⟩, usa0, uex0, uty0, ukC0⟩, uiC0, utI0, uno0, ⟨uga0, ugg0, uex0, uhd0⟩, PySem.W.exm_ref uex0 uhd0 uty0 su0_0⟩
  have FU0 := fun_mk (st := sBadName_init) ul0 uc0 uk0
  have bU0 := FU0.binds (ps := ["self", "name"]) fun _ _ _ _ _ _ us hl => match us, hl with | [_, _], _ => rfl
  have U1 : ErrC K mg "DuplicateName" CU1 fU1 "name" := ⟨PySem.W.mg_of X G aU1, ⟨⟨nmU1, qU1, NU1, bsU1, _, snU1, subU1, abU1, colU1, ddU1, k0U1, k1U1, k2U1, k3U1, k5U1, uL1, rfl⟩, usa1, uex1, uty1, ukC1⟩, uiC1, utI1, uno1, ⟨uga1, ugg1, uex1, uhd1⟩, PySem.W.exm_ref uex1 uhd1 uty1 su1_1⟩
  have FU1 := fun_mk (st := sDuplicateName_init) ul1 uc1 uk1
  have bU1 := FU1.binds (ps := ["self", "name"]) fun _ _ _ _ _ _ us hl => match us, hl with | [_, _], _ => rfl
  have U2 : ErrC K mg "UnknownName" CU2 fU2 "name" := ⟨PySem.W.mg_of X G aU2, ⟨⟨nmU2, qU2, NU2, bsU2, _, snU2, subU2, abU2, colU2, ddU2, k0U2, k1U2, k2U2, k3U2, k5U2, uL2, rfl⟩, usa2, uex2, uty2, ukC2⟩, uiC2, utI2, uno2, ⟨uga2, ugg2, uex2, uhd2⟩, PySem.W.exm_ref uex2 uhd2 uty2 su2_2⟩
  have FU2 := fun_mk (st := sUnknownName_init) ul2 uc2 uk2
  have bU2 := FU2.binds (ps := ["self", "name"]) fun _ _ _ _ _ _ us hl => match us, hl with | [_, _], _ => rfl
  have U3 : ErrC K mg "BadCount" CU3 fU3 "count" := ⟨PySem.W.mg_of X G aU3, ⟨⟨nmU3, qU3, NU3, bsU3, _, snU3, subU3, abU3, colU3, ddU3, k0U3, k1U3, k2U3, k3U3, k5U3, uL3, rfl⟩, usa3, uex3, uty3, ukC3⟩, uiC3, utI3, uno3, ⟨uga3, ugg3, uex3, uhd3⟩, PySem.W.exm_ref uex3 uhd3 uty3 su3_3⟩
  have FU3 := fun_mk (st := sBadCount_init) ul3 uc3 uk3
  have bU3 := FU3.binds (ps := ["self", "count"]) fun _ _ _ _ _ _ us hl => match us, hl with | [_, _], _ => rfl
  have U4 : ErrC K mg "OutOfRange" CU4 fU4 "value" := ⟨PySem.W.mg_of X G aU4, ⟨⟨nmU4, qU4, NU4, bsU4, _, snU4, subU4, abU4, colU4, ddU4, k0U4, k1U4, k2U4, k3U4, k5U4, uL4, rfl⟩, usa4, uex4, uty4, ukC4⟩, uiC4, utI4, uno4, ⟨uga4, ugg4, uex4, uhd4⟩, PySem.W.exm_ref uex4 uhd4 uty4 su4_4⟩
  have FU4 := fun_mk (st := sOutOfRange_init) ul4 uc4 uk4
  have bU4 := FU4.binds (ps := ["self", "value"]) fun _ _ _ _ _ _ us hl => match us, hl with | [_, _], _ => rfl
  have U5 : ErrC K mg "BadLine" CU5 fU5 "number" := ⟨PySem.W.mg_of X G aU5, ⟨⟨nmU5, qU5, NU5, bsU5, _, snU5, subU5, abU5, colU5, ddU5, k0U5, k1U5, k2U5, k3U5, k5U5, uL5, rfl⟩, usa5, uex5, uty5, ukC5⟩, uiC5, utI5, uno5, ⟨uga5, ugg5, uex5, uhd5⟩, PySem.W.exm_ref uex5 uhd5 uty5 su5_5⟩
  have FU5 := fun_mk (st := sBadLine_init) ul5 uc5 uk5
  have bU5 := FU5.binds (ps := ["self", "number", "text"]) fun _ _ _ _ _ _ us hl => match us, hl with | [_, _, _], _ => rfl
  have U6 : ErrC K mg "BadLength" CU6 fU6 "length" := ⟨PySem.W.mg_of X G aU6, ⟨⟨nmU6, qU6, NU6, bsU6, _, snU6, subU6, abU6, colU6, ddU6, k0U6, k1U6, k2U6, k3U6, k5U6, uL6, rfl⟩, usa6, uex6, uty6, ukC6⟩, uiC6, utI6, uno6, ⟨uga6, ugg6, uex6, uhd6⟩, PySem.W.exm_ref uex6 uhd6 uty6 su6_6⟩
  have FU6 := fun_mk (st := sBadLength_init) ul6 uc6 uk6
  have bU6 := FU6.binds (ps := ["self", "length"]) fun _ _ _ _ _ _ us hl => match us, hl with | [_, _], _ => rfl
  have U7 : ErrC K mg "ZeroSum" CU7 fU7 "numbers" := ⟨PySem.W.mg_of X G aU7, ⟨⟨nmU7, qU7, NU7, bsU7, _, snU7, subU7, abU7, colU7, ddU7, k0U7, k1U7, k2U7, k3U7, k5U7, uL7, rfl⟩, usa7, uex7, uty7, ukC7⟩, uiC7, utI7, uno7, ⟨uga7, ugg7, uex7, uhd7⟩, PySem.W.exm_ref uex7 uhd7 uty7 su7_7⟩
  have FU7 := fun_mk (st := sZeroSum_init) ul7 uc7 uk7
  have bU7 := FU7.binds (ps := ["self", "numbers"]) fun _ _ _ _ _ _ us hl => match us, hl with | [_, _], _ => rfl
  have U8 : ErrC K mg "NotPrime" CU8 fU8 "value" := ⟨PySem.W.mg_of X G aU8, ⟨⟨nmU8, qU8, NU8, bsU8, _, snU8, subU8, abU8, colU8, ddU8, k0U8, k1U8, k2U8, k3U8, k5U8, uL8, rfl⟩, usa8, uex8, uty8, ukC8⟩, uiC8, utI8, uno8, ⟨uga8, ugg8, uex8, uhd8⟩, PySem.W.exm_ref uex8 uhd8 uty8 su8_8⟩
  have FU8 := fun_mk (st := sNotPrime_init) ul8 uc8 uk8
  have bU8 := FU8.binds (ps := ["self", "value"]) fun _ _ _ _ _ _ us hl => match us, hl with | [_, _], _ => rfl
  have U9 : ErrC K mg "NotSure" CU9 fU9 "kind" := ⟨PySem.W.mg_of X G aU9, ⟨⟨nmU9, qU9, NU9, bsU9, _, snU9, subU9, abU9, colU9, ddU9, k0U9, k1U9, k2U9, k3U9, k5U9, uL9, rfl⟩, usa9, uex9, uty9, ukC9⟩, uiC9, utI9, uno9, ⟨uga9, ugg9, uex9, uhd9⟩, PySem.W.exm_ref uex9 uhd9 uty9 su9_9⟩
  have FU9 := fun_mk (st := sNotSure_init) ul9 uc9 uk9
  have bU9 := FU9.binds (ps := ["self", "kind"]) fun _ _ _ _ _ _ us hl => match us, hl with | [_, _], _ => rfl
  have U10 : ErrC K mg "IsSure" CU10 fU10 "kind" := ⟨PySem.W.mg_of X G aU10, ⟨⟨nmU10, qU10, NU10, bsU10, _, snU10, subU10, abU10, colU10, ddU10, k0U10, k1U10, k2U10, k3U10, k5U10, uL10, rfl⟩, usa10, uex10, uty10, ukC10⟩, uiC10, utI10, uno10, ⟨uga10, ugg10, uex10, uhd10⟩, PySem.W.exm_ref uex10 uhd10 uty10 su10_10⟩
  have FU10 := fun_mk (st := sIsSure_init) ul10 uc10 uk10
  have bU10 := FU10.binds (ps := ["self", "kind"]) fun _ _ _ _ _ _ us hl => match us, hl with | [_, _], _ => rfl
  have kb5 := kb_of FU5 2 ["text"] (ps := ["self", "number", "text"]) (fun us ws => us ++ ws) (fun r1 r3 => r1.append r3) fun _ _ _ _ _ _ us ws h1 h3 => match us, ws, h1, h3 with | [_, _], [_], _, _ => rfl
  have kb0 := kb_of FU0 1 ["name"] (ps := ["self", "name"]) (fun us ws => us ++ ws) (fun r1 r3 => r1.append r3) fun _ _ _ _ _ _ us ws h1 h3 => match us, ws, h1, h3 with | [_], [_], _, _ => rfl
  have TW : Twelve K mg (fun i => [CU0, CU1, CU2, CU3, CU4, CU5, CU6, CU7, CU8, CU9, CU10, CU11].getD i CU0) ONE := ⟨PySem.W.mg_of X G aO, PySem.W.mg_of X G aU0, PySem.W.mg_of X G aU1, PySem.W.mg_of X G aU2, PySem.W.mg_of X G aU3, PySem.W.mg_of X G aU4, PySem.W.mg_of X G aU5, PySem.W.mg_of X G aU6, PySem.W.mg_of X G aU7, PySem.W.mg_of X G aU8, PySem.W.mg_of X G aU9, PySem.W.mg_of X G aU10, PySem.W.mg_of X G aU11,
    fun i hi => match i, hi with
      | 0, _ => ⟨uga0, ugg0, uex0, uhd0, uha0, gn, gt, uhm0⟩
      | 1, _ => ⟨uga1, ugg1, uex1, uhd1, uha1, gn, gt, uhm1⟩
      | 2, _ => ⟨uga2, ugg2, uex2, uhd2, uha2, gn, gt, uhm2⟩
      | 3, _ => ⟨uga3, ugg3, uex3, uhd3, uha3, gn, gt, uhm3⟩
      | 4, _ => ⟨uga4, ugg4, uex4, uhd4, uha4, gn, gt, uhm4⟩
      | 5, _ => ⟨uga5, ugg5, uex5, uhd5, uha5, gn, gt, uhm5⟩
      | 6, _ => ⟨uga6, ugg6, uex6, uhd6, uha6, gn, gt, uhm6⟩
      | 7, _ => ⟨uga7, ugg7, uex7, uhd7, uha7, gn, gt, uhm7⟩
      | 8, _ => ⟨uga8, ugg8, uex8, uhd8, uha8, gn, gt, uhm8⟩
      | 9, _ => ⟨uga9, ugg9, uex9, uhd9, uha9, gn, gt, uhm9⟩
      | 10, _ => ⟨uga10, ugg10, uex10, uhd10, uha10, gn, gt, uhm10⟩
      | 11, _ => ⟨uga11, ugg11, uex11, uhd11, uha11, gn, gt, uhm11⟩,
    fun i hi j hj => match i, hi, j, hj with
      | 0, _, 0, _ => kit_ref uhd0 uty0 su0_0 su0_0
      | 0, _, 1, _ => kit_ref uhd1 uty1 su1_1 su0_1
      | 0, _, 2, _ => kit_ref uhd2 uty2 su2_2 su0_2
      | 0, _, 3, _ => kit_ref uhd3 uty3 su3_3 su0_3
      | 0, _, 4, _ => kit_ref uhd4 uty4 su4_4 su0_4
      | 0, _, 5, _ => kit_ref uhd5 uty5 su5_5 su0_5
      | 0, _, 6, _ => kit_ref uhd6 uty6 su6_6 su0_6
      | 0, _, 7, _ => kit_ref uhd7 uty7 su7_7 su0_7
      | 0, _, 8, _ => kit_ref uhd8 uty8 su8_8 su0_8
      | 0, _, 9, _ => kit_ref uhd9 uty9 su9_9 su0_9
      | 0, _, 10, _ => kit_ref uhd10 uty10 su10_10 su0_10
      | 0, _, 11, _ => kit_ref uhd11 uty11 su11_11 su0_11
      | 1, _, 0, _ => kit_ref uhd0 uty0 su0_0 su1_0
      | 1, _, 1, _ => kit_ref uhd1 uty1 su1_1 su1_1
      | 1, _, 2, _ => kit_ref uhd2 uty2 su2_2 su1_2
      | 1, _, 3, _ => kit_ref uhd3 uty3 su3_3 su1_3
      | 1, _, 4, _ => kit_ref uhd4 uty4 su4_4 su1_4
      | 1, _, 5, _ => kit_ref uhd5 uty5 su5_5 su1_5
      | 1, _, 6, _ => kit_ref uhd6 uty6 su6_6 su1_6
      | 1, _, 7, _ => kit_ref uhd7 uty7 su7_7 su1_7
      | 1, _, 8, _ => kit_ref uhd8 uty8 su8_8 su1_8
      | 1, _, 9, _ => kit_ref uhd9 uty9 su9_9 su1_9
      | 1, _, 10, _ => kit_ref uhd10 uty10 su10_10 su1_10
      | 1, _, 11, _ => kit_ref uhd11 uty11 su11_11 su1_11
      | 2, _, 0, _ => kit_ref uhd0 uty0 su0_0 su2_0
      | 2, _, 1, _ => kit_ref uhd1 uty1 su1_1 su2_1
      | 2, _, 2, _ => kit_ref uhd2 uty2 su2_2 su2_2
      | 2, _, 3, _ => kit_ref uhd3 uty3 su3_3 su2_3
      | 2, _, 4, _ => kit_ref uhd4 uty4 su4_4 su2_4
      | 2, _, 5, _ => kit_ref uhd5 uty5 su5_5 su2_5
      | 2, _, 6, _ => kit_ref uhd6 uty6 su6_6 su2_6
      | 2, _, 7, _ => kit_ref uhd7 uty7 su7_7 su2_7
      | 2, _, 8, _ => kit_ref uhd8 uty8 su8_8 su2_8
      | 2, _, 9, _ => kit_ref uhd9 uty9 su9_9 su2_9
      | 2, _, 10, _ => kit_ref uhd10 uty10 su10_10 su2_10
      | 2, _, 11, _ => kit_ref uhd11 uty11 su11_11 su2_11
      | 3, _, 0, _ => kit_ref uhd0 uty0 su0_0 su3_0
      | 3, _, 1, _ => kit_ref uhd1 uty1 su1_1 su3_1
      | 3, _, 2, _ => kit_ref uhd2 uty2 su2_2 su3_2
      | 3, _, 3, _ => kit_ref uhd3 uty3 su3_3 su3_3
      | 3, _, 4, _ => kit_ref uhd4 uty4 su4_4 su3_4
      | 3, _, 5, _ => kit_ref uhd5 uty5 su5_5 su3_5
      | 3, _, 6, _ => kit_ref uhd6 uty6 su6_6 su3_6
      | 3, _, 7, _ => kit_ref uhd7 uty7 su7_7 su3_7
      | 3, _, 8, _ => kit_ref uhd8 uty8 su8_8 su3_8
      | 3, _, 9, _ => kit_ref uhd9 uty9 su9_9 su3_9
      | 3, _, 10, _ => kit_ref uhd10 uty10 su10_10 su3_10
      | 3, _, 11, _ => kit_ref uhd11 uty11 su11_11 su3_11
      | 4, _, 0, _ => kit_ref uhd0 uty0 su0_0 su4_0
      | 4, _, 1, _ => kit_ref uhd1 uty1 su1_1 su4_1
      | 4, _, 2, _ => kit_ref uhd2 uty2 su2_2 su4_2
      | 4, _, 3, _ => kit_ref uhd3 uty3 su3_3 su4_3
      | 4, _, 4, _ => kit_ref uhd4 uty4 su4_4 su4_4
      | 4, _, 5, _ => kit_ref uhd5 uty5 su5_5 su4_5
      | 4, _, 6, _ => kit_ref uhd6 uty6 su6_6 su4_6
      | 4, _, 7, _ => kit_ref uhd7 uty7 su7_7 su4_7
      | 4, _, 8, _ => kit_ref uhd8 uty8 su8_8 su4_8
      | 4, _, 9, _ => kit_ref uhd9 uty9 su9_9 su4_9
      | 4, _, 10, _ => kit_ref uhd10 uty10 su10_10 su4_10
      | 4, _, 11, _ => kit_ref uhd11 uty11 su11_11 su4_11
      | 5, _, 0, _ => kit_ref uhd0 uty0 su0_0 su5_0
      | 5, _, 1, _ => kit_ref uhd1 uty1 su1_1 su5_1
      | 5, _, 2, _ => kit_ref uhd2 uty2 su2_2 su5_2
      | 5, _, 3, _ => kit_ref uhd3 uty3 su3_3 su5_3
      | 5, _, 4, _ => kit_ref uhd4 uty4 su4_4 su5_4
      | 5, _, 5, _ => kit_ref uhd5 uty5 su5_5 su5_5
      | 5, _, 6, _ => kit_ref uhd6 uty6 su6_6 su5_6
      | 5, _, 7, _ => kit_ref uhd7 uty7 su7_7 su5_7
      | 5, _, 8, _ => kit_ref uhd8 uty8 su8_8 su5_8
      | 5, _, 9, _ => kit_ref uhd9 uty9 su9_9 su5_9
      | 5, _, 10, _ => kit_ref uhd10 uty10 su10_10 su5_10
      | 5, _, 11, _ => kit_ref uhd11 uty11 su11_11 su5_11
      | 6, _, 0, _ => kit_ref uhd0 uty0 su0_0 su6_0
      | 6, _, 1, _ => kit_ref uhd1 uty1 su1_1 su6_1
      | 6, _, 2, _ => kit_ref uhd2 uty2 su2_2 su6_2
      | 6, _, 3, _ => kit_ref uhd3 uty3 su3_3 su6_3
      | 6, _, 4, _ => kit_ref uhd4 uty4 su4_4 su6_4
      | 6, _, 5, _ => kit_ref uhd5 uty5 su5_5 su6_5
      | 6, _, 6, _ => kit_ref uhd6 uty6 su6_6 su6_6
      | 6, _, 7, _ => kit_ref uhd7 uty7 su7_7 su6_7
      | 6, _, 8, _ => kit_ref uhd8 uty8 su8_8 su6_8
      | 6, _, 9, _ => kit_ref uhd9 uty9 su9_9 su6_9
      | 6, _, 10, _ => kit_ref uhd10 uty10 su10_10 su6_10
      | 6, _, 11, _ => kit_ref uhd11 uty11 su11_11 su6_11
      | 7, _, 0, _ => kit_ref uhd0 uty0 su0_0 su7_0
      | 7, _, 1, _ => kit_ref uhd1 uty1 su1_1 su7_1
      | 7, _, 2, _ => kit_ref uhd2 uty2 su2_2 su7_2
      | 7, _, 3, _ => kit_ref uhd3 uty3 su3_3 su7_3
      | 7, _, 4, _ => kit_ref uhd4 uty4 su4_4 su7_4
      | 7, _, 5, _ => kit_ref uhd5 uty5 su5_5 su7_5
      | 7, _, 6, _ => kit_ref uhd6 uty6 su6_6 su7_6
      | 7, _, 7, _ => kit_ref uhd7 uty7 su7_7 su7_7
      | 7, _, 8, _ => kit_ref uhd8 uty8 su8_8 su7_8
      | 7, _, 9, _ => kit_ref uhd9 uty9 su9_9 su7_9
      | 7, _, 10, _ => kit_ref uhd10 uty10 su10_10 su7_10
      | 7, _, 11, _ => kit_ref uhd11 uty11 su11_11 su7_11
      | 8, _, 0, _ => kit_ref uhd0 uty0 su0_0 su8_0
      | 8, _, 1, _ => kit_ref uhd1 uty1 su1_1 su8_1
      | 8, _, 2, _ => kit_ref uhd2 uty2 su2_2 su8_2
      | 8, _, 3, _ => kit_ref uhd3 uty3 su3_3 su8_3
      | 8, _, 4, _ => kit_ref uhd4 uty4 su4_4 su8_4
      | 8, _, 5, _ => kit_ref uhd5 uty5 su5_5 su8_5
      | 8, _, 6, _ => kit_ref uhd6 uty6 su6_6 su8_6
      | 8, _, 7, _ => kit_ref uhd7 uty7 su7_7 su8_7
      | 8, _, 8, _ => kit_ref uhd8 uty8 su8_8 su8_8
      | 8, _, 9, _ => kit_ref uhd9 uty9 su9_9 su8_9
      | 8, _, 10, _ => kit_ref uhd10 uty10 su10_10 su8_10
      | 8, _, 11, _ => kit_ref uhd11 uty11 su11_11 su8_11
      | 9, _, 0, _ => kit_ref uhd0 uty0 su0_0 su9_0
      | 9, _, 1, _ => kit_ref uhd1 uty1 su1_1 su9_1
      | 9, _, 2, _ => kit_ref uhd2 uty2 su2_2 su9_2
      | 9, _, 3, _ => kit_ref uhd3 uty3 su3_3 su9_3
      | 9, _, 4, _ => kit_ref uhd4 uty4 su4_4 su9_4
      | 9, _, 5, _ => kit_ref uhd5 uty5 su5_5 su9_5
      | 9, _, 6, _ => kit_ref uhd6 uty6 su6_6 su9_6
      | 9, _, 7, _ => kit_ref uhd7 uty7 su7_7 su9_7
      | 9, _, 8, _ => kit_ref uhd8 uty8 su8_8 su9_8
      | 9, _, 9, _ => kit_ref uhd9 uty9 su9_9 su9_9
      | 9, _, 10, _ => kit_ref uhd10 uty10 su10_10 su9_10
      | 9, _, 11, _ => kit_ref uhd11 uty11 su11_11 su9_11
      | 10, _, 0, _ => kit_ref uhd0 uty0 su0_0 su10_0
      | 10, _, 1, _ => kit_ref uhd1 uty1 su1_1 su10_1
      | 10, _, 2, _ => kit_ref uhd2 uty2 su2_2 su10_2
      | 10, _, 3, _ => kit_ref uhd3 uty3 su3_3 su10_3
      | 10, _, 4, _ => kit_ref uhd4 uty4 su4_4 su10_4
      | 10, _, 5, _ => kit_ref uhd5 uty5 su5_5 su10_5
      | 10, _, 6, _ => kit_ref uhd6 uty6 su6_6 su10_6
      | 10, _, 7, _ => kit_ref uhd7 uty7 su7_7 su10_7
      | 10, _, 8, _ => kit_ref uhd8 uty8 su8_8 su10_8
      | 10, _, 9, _ => kit_ref uhd9 uty9 su9_9 su10_9
      | 10, _, 10, _ => kit_ref uhd10 uty10 su10_10 su10_10
      | 10, _, 11, _ => kit_ref uhd11 uty11 su11_11 su10_11
      | 11, _, 0, _ => kit_ref uhd0 uty0 su0_0 su11_0
      | 11, _, 1, _ => kit_ref uhd1 uty1 su1_1 su11_1
      | 11, _, 2, _ => kit_ref uhd2 uty2 su2_2 su11_2
      | 11, _, 3, _ => kit_ref uhd3 uty3 su3_3 su11_3
      | 11, _, 4, _ => kit_ref uhd4 uty4 su4_4 su11_4
      | 11, _, 5, _ => kit_ref uhd5 uty5 su5_5 su11_5
      | 11, _, 6, _ => kit_ref uhd6 uty6 su6_6 su11_6
      | 11, _, 7, _ => kit_ref uhd7 uty7 su7_7 su11_7
      | 11, _, 8, _ => kit_ref uhd8 uty8 su8_8 su11_8
      | 11, _, 9, _ => kit_ref uhd9 uty9 su9_9 su11_9
      | 11, _, 10, _ => kit_ref uhd10 uty10 su10_10 su11_10
      | 11, _, 11, _ => kit_ref uhd11 uty11 su11_11 su11_11,
    fun i hi => match i, hi with
      | 0, _ => kit_ref ohd oty oso uso0
      | 1, _ => kit_ref ohd oty oso uso1
      | 2, _ => kit_ref ohd oty oso uso2
      | 3, _ => kit_ref ohd oty oso uso3
      | 4, _ => kit_ref ohd oty oso uso4
      | 5, _ => kit_ref ohd oty oso uso5
      | 6, _ => kit_ref ohd oty oso uso6
      | 7, _ => kit_ref ohd oty oso uso7
      | 8, _ => kit_ref ohd oty oso uso8
      | 9, _ => kit_ref ohd oty oso uso9
      | 10, _ => kit_ref ohd oty oso uso10
      | 11, _ => kit_ref ohd oty oso uso11,
    fun i hi => match i, hi with
      | 0, _ => kit_val usv0
      | 1, _ => kit_val usv1
      | 2, _ => kit_val usv2
      | 3, _ => kit_val usv3
      | 4, _ => kit_val usv4
      | 5, _ => kit_val usv5
      | 6, _ => kit_val usv6
      | 7, _ => kit_val usv7
      | 8, _ => kit_val usv8
      | 9, _ => kit_val usv9
      | 10, _ => kit_val usv10
      | 11, _ => kit_val usv11⟩
  refine ⟨PySem.W.fnOf "law" "law" (defArgs sLaw) (defBody sLaw) (defScope sLaw) .none kV8 dc8 pm8 an8 cd8 ct8, fun s v => .of_eq rfl, fun base _ _ => ?_⟩
  have E1 := ok_start (P := l.prog) (w := w) (base := base) F1 T
  have E2 := ok_take (P := l.prog) (w := w) (base := base) F2 T
  have E3 := ok_signs (P := l.prog) (w := w) (mg := mg) (base := base) F3
  have E4 := ok_text F4 T mz_range E2 G2 b2 E3 G3 b3
  have E5 := ok_kinds (P := l.prog) (w := w) (base := base) F5 mz_isinstance TW
  have E6 := ok_right F6 mz_isinstance mz_ValueError mz_range TW E5 G5 b5
  have E7 := ok_thing F7 E2 G2 b2 E4 G4 b4
  have EU0 := ok_BadName (P := l.prog) (w := w) (base := base) FU0 U0
  have EU1 := ok_DuplicateName (P := l.prog) (w := w) (base := base) FU1 U1
  have EU2 := ok_UnknownName (P := l.prog) (w := w) (base := base) FU2 U2
  have EU3 := ok_BadCount (P := l.prog) (w := w) (base := base) FU3 U3
  have EU4 := ok_OutOfRange (P := l.prog) (w := w) (base := base) FU4 U4
  have EU5 := ok_BadLine (P := l.prog) (w := w) (base := base) FU5 U5 t5
  have EU6 := ok_BadLength (P := l.prog) (w := w) (base := base) FU6 U6
  have EU7 := ok_ZeroSum (P := l.prog) (w := w) (base := base) FU7 U7
  have EU8 := ok_NotPrime (P := l.prog) (w := w) (base := base) FU8 U8
  have EU9 := ok_NotSure (P := l.prog) (w := w) (base := base) FU9 U9
  have EU10 := ok_IsSure (P := l.prog) (w := w) (base := base) FU10 U10
  have Z : Inits l.prog w K mg base (fun i => [CU0, CU1, CU2, CU3, CU4, CU5, CU6, CU7, CU8, CU9, CU10, CU11].getD i CU0) := ⟨fU0, _, U0, EU0, bU0, fU1, _, U1, EU1, bU1, fU2, _, U2, EU2, bU2, fU3, _, U3, EU3, bU3, fU4, _, U4, EU4, bU4, fU5, _, U5, EU5, bU5, fU6, _, U6, EU6, bU6, fU7, _, U7, EU7, bU7, fU8, _, U8, EU8, bU8, fU9, _, U9, EU9, bU9, fU10, _, U10, EU10, bU10, t5, _, _, kb5, kb0, _, _, _, _, PySem.F.excBase_ValueError, uq, ukC11⟩
  exact ok_law F8 mz_range TW Z E1 G1 b1 E7 G7 b7 E6 G6 b6
theorem walk {l : PySem.W.OpenLaw} {q : Program} {loose : List Str} {XP : (Str → Option Value) → Heap → Prop} {YP : World → Heap → Prop} {d : DefRec} {K : Params → PySem.W.Frag} (hn : l.most = some 63) (hdf : d.params.defaults = [])
    (hY : ∀ (w : World) (h : Heap), YP w h → (K w.params).In h)
    (F : ∀ (w : World) (mg : Str → Option Value) (fa : Addr) (h : Heap), (K w.params).In h → h.Ns mainGlobals mg → mg d.name = some (.ref fa) →
      ∃ fd : FuncData, (∀ (s : Shared) (u : Value), BindsTo s fd ⟨[u], []⟩ [("_law_script", u)]) ∧ ∀ base : Heap, (K w.params).In base → base.Ns mainGlobals mg → FnOk l.prog w (K w.params) mg base CX0 4 fa fd ["_law_script"] (spLaw (K w.params))) :
    PySem.W.WalkO q loose XP YP l.row.toRowW d [] (fun f vs => PySem.call f vs) :=
  L2.walk_of (n := 63) (k := 4) (x := "_law_script") (CX := fun _ => CX0) (sp := fun w => spLaw (K w.params)) hn (by decide) hdf ⟨rfl, by decide, by decide⟩ hY F (fun _ _ a ns hl _ hS => ⟨a, ns, rfl, hS, hl, fun _ => rfl⟩) fun _ _ _ _ _ z => z
end OS
open PySem PySem.W PyProof.Rows
set_option maxRecDepth 100000 in
set_option maxHeartbeats 0 in
theorem PySem.Challenge.cw_oneshard_k07_errors_holds : PySem.Challenge.rw_oneshard_k07_errors.Holds := by
  w_on; o_law; k_head; (case hw => w_witness2)
  k_fill
  refine OS.walk (l := PySem.Challenge.rw_oneshard_k07_errors) rfl rfl (fun w h Y => PySem.W.kIn_of Y) ?F
  case F =>
    intro w mg fa h KX G hmg
    refine' OS.all_mk KX G hmg ?aO ?aU0 ?aU1 ?aU2 ?aU3 ?aU4 ?aU5 ?aU6 ?aU7 ?aU8 ?aU9 ?aU10 ?aU11 ?a1 ?l1 ?c1 ?k1 ?a2 ?l2 ?c2 ?k2 ?a3 ?l3 ?c3 ?k3 ?a4 ?l4 ?c4 ?k4 ?a5 ?l5 ?c5 ?k5 ?a6 ?l6 ?c6 ?k6 ?a7 ?l7 ?c7 ?k7 ?a8 ?l8 ?c8 ?k8 ?uL0 ?usa0 ?uiC0 ?utI0 ?uno0 ?ul0 ?uc0 ?uk0 ?uex0 ?uty0 ?ukC0 ?uga0 ?ugg0 ?uhd0 ?uha0 ?uhm0 ?uso0 ?usv0 ?su0_0 ?su0_1 ?su0_2 ?su0_3 ?su0_4 ?su0_5 ?su0_6 ?su0_7 ?su0_8 ?su0_9 ?su0_10 ?su0_11 ?uL1 ?usa1 ?uiC1 ?utI1 ?uno1 ?ul1 ?uc1 ?uk1 ?uex1 ?uty1 ?ukC1 ?uga1 ?ugg1 ?uhd1 ?uha1 ?uhm1 ?uso1 ?usv1 ?su1_0 ?su1_1 ?su1_2 ?su1_3 ?su1_4 ?su1_5 ?su1_6 ?su1_7 ?su1_8 ?su1_9 ?su1_10 ?su1_11 ?uL2 ?usa2 ?uiC2 ?utI2 ?uno2 ?ul2 ?uc2 ?uk2 ?uex2 ?uty2 ?ukC2 ?uga2 ?ugg2 ?uhd2 ?uha2 ?uhm2 ?uso2 ?usv2 ?su2_0 ?su2_1 ?su2_2 ?su2_3 ?su2_4 ?su2_5 ?su2_6 ?su2_7 ?su2_8 ?su2_9 ?su2_10 ?su2_11 ?uL3 ?usa3 ?uiC3 ?utI3 ?uno3 ?ul3 ?uc3 ?uk3 ?uex3 ?uty3 ?ukC3 ?uga3 ?ugg3 ?uhd3 ?uha3 ?uhm3 ?uso3 ?usv3 ?su3_0 ?su3_1 ?su3_2 ?su3_3 ?su3_4 ?su3_5 ?su3_6 ?su3_7 ?su3_8 ?su3_9 ?su3_10 ?su3_11 ?uL4 ?usa4 ?uiC4 ?utI4 ?uno4 ?ul4 ?uc4 ?uk4 ?uex4 ?uty4 ?ukC4 ?uga4 ?ugg4 ?uhd4 ?uha4 ?uhm4 ?uso4 ?usv4 ?su4_0 ?su4_1 ?su4_2 ?su4_3 ?su4_4 ?su4_5 ?su4_6 ?su4_7 ?su4_8 ?su4_9 ?su4_10 ?su4_11 ?uL5 ?usa5 ?uiC5 ?utI5 ?uno5 ?ul5 ?uc5 ?uk5 ?t5 ?uex5 ?uty5 ?ukC5 ?uga5 ?ugg5 ?uhd5 ?uha5 ?uhm5 ?uso5 ?usv5 ?su5_0 ?su5_1 ?su5_2 ?su5_3 ?su5_4 ?su5_5 ?su5_6 ?su5_7 ?su5_8 ?su5_9 ?su5_10 ?su5_11 ?uL6 ?usa6 ?uiC6 ?utI6 ?uno6 ?ul6 ?uc6 ?uk6 ?uex6 ?uty6 ?ukC6 ?uga6 ?ugg6 ?uhd6 ?uha6 ?uhm6 ?uso6 ?usv6 ?su6_0 ?su6_1 ?su6_2 ?su6_3 ?su6_4 ?su6_5 ?su6_6 ?su6_7 ?su6_8 ?su6_9 ?su6_10 ?su6_11 ?uL7 ?usa7 ?uiC7 ?utI7 ?uno7 ?ul7 ?uc7 ?uk7 ?uex7 ?uty7 ?ukC7 ?uga7 ?ugg7 ?uhd7 ?uha7 ?uhm7 ?uso7 ?usv7 ?su7_0 ?su7_1 ?su7_2 ?su7_3 ?su7_4 ?su7_5 ?su7_6 ?su7_7 ?su7_8 ?su7_9 ?su7_10 ?su7_11 ?uL8 ?usa8 ?uiC8 ?utI8 ?uno8 ?ul8 ?uc8 ?uk8 ?uex8 ?uty8 ?ukC8 ?uga8 ?ugg8 ?uhd8 ?uha8 ?uhm8 ?uso8 ?usv8 ?su8_0 ?su8_1 ?su8_2 ?su8_3 ?su8_4 ?su8_5 ?su8_6 ?su8_7 ?su8_8 ?su8_9 ?su8_10 ?su8_11 ?uL9 ?usa9 ?uiC9 ?utI9 ?uno9 ?ul9 ?uc9 ?uk9 ?uex9 ?uty9 ?ukC9 ?uga9 ?ugg9 ?uhd9 ?uha9 ?uhm9 ?uso9 ?usv9 ?su9_0 ?su9_1 ?su9_2 ?su9_3 ?su9_4 ?su9_5 ?su9_6 ?su9_7 ?su9_8 ?su9_9 ?su9_10 ?su9_11 ?uL10 ?usa10 ?uiC10 ?utI10 ?uno10 ?ul10 ?uc10 ?uk10 ?uex10 ?uty10 ?ukC10 ?uga10 ?ugg10 ?uhd10 ?uha10 ?uhm10 ?uso10 ?usv10 ?su10_0 ?su10_1 ?su10_2 ?su10_3 ?su10_4 ?su10_5 ?su10_6 ?su10_7 ?su10_8 ?su10_9 ?su10_10 ?su10_11 ?uq ?uex11 ?uty11 ?ukC11 ?uga11 ?ugg11 ?uhd11 ?uha11 ?uhm11 ?uso11 ?usv11 ?su11_0 ?su11_1 ?su11_2 ?su11_3 ?su11_4 ?su11_5 ?su11_6 ?su11_7 ?su11_8 ?su11_9 ?su11_10 ?su11_11 ?ohd ?oty ?oso ?gn ?gt ?z_len ?z_int ?z_max ?z_abs ?z_range ?z_isinstance ?z_ValueError
    (case aO => k_is)
    (case aU0 => k_is)
    (case aU1 => k_is)
    (case aU2 => k_is)
    (case aU3 => k_is)
    (case aU4 => k_is)
    (case aU5 => k_is)
    (case aU6 => k_is)
    (case aU7 => k_is)
    (case aU8 => k_is)
    (case aU9 => k_is)
    (case aU10 => k_is)
    (case aU11 => k_is)
    (case a1 => k_is)
    (case l1 => k_is)
    (case c1 => k_is)
    (case k1 => k_is)
    (case a2 => k_is)
    (case l2 => k_is)
    (case c2 => k_is)
    (case k2 => k_is)
    (case a3 => k_is)
    (case l3 => k_is)
    (case c3 => k_is)
    (case k3 => k_is)
    (case a4 => k_is)
    (case l4 => k_is)
    (case c4 => k_is)
    (case k4 => k_is)
    (case a5 => k_is)
    (case l5 => k_is)
    (case c5 => k_is)
    (case k5 => k_is)
    (case a6 => k_is)
    (case l6 => k_is)
    (case c6 => k_is)
    (case k6 => k_is)
    (case a7 => k_is)
    (case l7 => k_is)
    (case c7 => k_is)
    (case k7 => k_is)
    (case a8 => k_is)
    (case l8 => k_is)
    (case c8 => k_is)
    (case k8 => k_is)
    (case uL0 => k_is)
    (case usa0 => k_is)
    (case uiC0 => k_is)
    (case utI0 => k_is)
    (case uno0 => k_is)
    (case ul0 => k_is)
    (case uc0 => k_is)
    (case uk0 => k_is)
    (case uex0 => k_is)
    (case uty0 => k_is)
    (case ukC0 => k_is)
    (case uga0 => k_is)
    (case ugg0 => k_is)
    (case uhd0 => k_is)
    (case uha0 => k_is)
    (case uhm0 => k_is)
    (case uso0 => k_is)
    (case usv0 => k_is)
    (case su0_0 => k_is)
    (case su0_1 => k_is)
    (case su0_2 => k_is)
    (case su0_3 => k_is)
    (case su0_4 => k_is)
    (case su0_5 => k_is)
    (case su0_6 => k_is)
    (case su0_7 => k_is)
    (case su0_8 => k_is)
    (case su0_9 => k_is)
    (case su0_10 => k_is)
    (case su0_11 => k_is)
    (case uL1 => k_is)
    (case usa1 => k_is)
    (case uiC1 => k_is)
    (case utI1 => k_is)
    (case uno1 => k_is)
    (case ul1 => k_is)
    (case uc1 => k_is)
    (case uk1 => k_is)
    (case uex1 => k_is)
    (case uty1 => k_is)
    (case ukC1 => k_is)
    (case uga1 => k_is)
    (case ugg1 => k_is)
    (case uhd1 => k_is)
    (case uha1 => k_is)
    (case uhm1 => k_is)
    (case uso1 => k_is)
    (case usv1 => k_is)
    (case su1_0 => k_is)
    (case su1_1 => k_is)
    (case su1_2 => k_is)
    (case su1_3 => k_is)
    (case su1_4 => k_is)
    (case su1_5 => k_is)
    (case su1_6 => k_is)
    (case su1_7 => k_is)
    (case su1_8 => k_is)
    (case su1_9 => k_is)
    (case su1_10 => k_is)
    (case su1_11 => k_is)
    (case uL2 => k_is)
    (case usa2 => k_is)
    (case uiC2 => k_is)
    (case utI2 => k_is)
    (case uno2 => k_is)
    (case ul2 => k_is)
    (case uc2 => k_is)
    (case uk2 => k_is)
    (case uex2 => k_is)
    (case uty2 => k_is)
    (case ukC2 => k_is)
    (case uga2 => k_is)
    (case ugg2 => k_is)
    (case uhd2 => k_is)
    (case uha2 => k_is)
    (case uhm2 => k_is)
    (case uso2 => k_is)
    (case usv2 => k_is)
    (case su2_0 => k_is)
    (case su2_1 => k_is)
    (case su2_2 => k_is)
    (case su2_3 => k_is)
    (case su2_4 => k_is)
    (case su2_5 => k_is)
    (case su2_6 => k_is)
    (case su2_7 => k_is)
    (case su2_8 => k_is)
    (case su2_9 => k_is)
    (case su2_10 => k_is)
    (case su2_11 => k_is)
    (case uL3 => k_is)
    (case usa3 => k_is)
    (case uiC3 => k_is)
    (case utI3 => k_is)
    (case uno3 => k_is)
    (case ul3 => k_is)
    (case uc3 => k_is)
    (case uk3 => k_is)
    (case uex3 => k_is)
    (case uty3 => k_is)
    (case ukC3 => k_is)
    (case uga3 => k_is)
    (case ugg3 => k_is)
    (case uhd3 => k_is)
    (case uha3 => k_is)
    (case uhm3 => k_is)
    (case uso3 => k_is)
    (case usv3 => k_is)
    (case su3_0 => k_is)
    (case su3_1 => k_is)
    (case su3_2 => k_is)
    (case su3_3 => k_is)
    (case su3_4 => k_is)
    (case su3_5 => k_is)
    (case su3_6 => k_is)
    (case su3_7 => k_is)
    (case su3_8 => k_is)
    (case su3_9 => k_is)
    (case su3_10 => k_is)
    (case su3_11 => k_is)
    (case uL4 => k_is)
    (case usa4 => k_is)
    (case uiC4 => k_is)
    (case utI4 => k_is)
    (case uno4 => k_is)
    (case ul4 => k_is)
    (case uc4 => k_is)
    (case uk4 => k_is)
    (case uex4 => k_is)
    (case uty4 => k_is)
    (case ukC4 => k_is)
    (case uga4 => k_is)
    (case ugg4 => k_is)
    (case uhd4 => k_is)
    (case uha4 => k_is)
    (case uhm4 => k_is)
    (case uso4 => k_is)
    (case usv4 => k_is)
    (case su4_0 => k_is)
    (case su4_1 => k_is)
    (case su4_2 => k_is)
    (case su4_3 => k_is)
    (case su4_4 => k_is)
    (case su4_5 => k_is)
    (case su4_6 => k_is)
    (case su4_7 => k_is)
    (case su4_8 => k_is)
    (case su4_9 => k_is)
    (case su4_10 => k_is)
    (case su4_11 => k_is)
    (case uL5 => k_is)
    (case usa5 => k_is)
    (case uiC5 => k_is)
    (case utI5 => k_is)
    (case uno5 => k_is)
    (case ul5 => k_is)
    (case uc5 => k_is)
    (case uk5 => k_is)
    (case t5 => k_is)
    (case uex5 => k_is)
    (case uty5 => k_is)
    (case ukC5 => k_is)
    (case uga5 => k_is)
    (case ugg5 => k_is)
    (case uhd5 => k_is)
    (case uha5 => k_is)
    (case uhm5 => k_is)
    (case uso5 => k_is)
    (case usv5 => k_is)
    (case su5_0 => k_is)
    (case su5_1 => k_is)
    (case su5_2 => k_is)
    (case su5_3 => k_is)
    (case su5_4 => k_is)
    (case su5_5 => k_is)
    (case su5_6 => k_is)
    (case su5_7 => k_is)
    (case su5_8 => k_is)
    (case su5_9 => k_is)
    (case su5_10 => k_is)
    (case su5_11 => k_is)
    (case uL6 => k_is)
    (case usa6 => k_is)
    (case uiC6 => k_is)
    (case utI6 => k_is)
    (case uno6 => k_is)
    (case ul6 => k_is)
    (case uc6 => k_is)
    (case uk6 => k_is)
    (case uex6 => k_is)
    (case uty6 => k_is)
    (case ukC6 => k_is)
    (case uga6 => k_is)
    (case ugg6 => k_is)
    (case uhd6 => k_is)
    (case uha6 => k_is)
    (case uhm6 => k_is)
    (case uso6 => k_is)
    (case usv6 => k_is)
    (case su6_0 => k_is)
    (case su6_1 => k_is)
    (case su6_2 => k_is)
    (case su6_3 => k_is)
    (case su6_4 => k_is)
    (case su6_5 => k_is)
    (case su6_6 => k_is)
    (case su6_7 => k_is)
    (case su6_8 => k_is)
    (case su6_9 => k_is)
    (case su6_10 => k_is)
    (case su6_11 => k_is)
    (case uL7 => k_is)
    (case usa7 => k_is)
    (case uiC7 => k_is)
    (case utI7 => k_is)
    (case uno7 => k_is)
    (case ul7 => k_is)
    (case uc7 => k_is)
    (case uk7 => k_is)
    (case uex7 => k_is)
    (case uty7 => k_is)
    (case ukC7 => k_is)
    (case uga7 => k_is)
    (case ugg7 => k_is)
    (case uhd7 => k_is)
    (case uha7 => k_is)
    (case uhm7 => k_is)
    (case uso7 => k_is)
    (case usv7 => k_is)
    (case su7_0 => k_is)
    (case su7_1 => k_is)
    (case su7_2 => k_is)
    (case su7_3 => k_is)
    (case su7_4 => k_is)
    (case su7_5 => k_is)
    (case su7_6 => k_is)
    (case su7_7 => k_is)
    (case su7_8 => k_is)
    (case su7_9 => k_is)
    (case su7_10 => k_is)
    (case su7_11 => k_is)
    (case uL8 => k_is)
    (case usa8 => k_is)
    (case uiC8 => k_is)
    (case utI8 => k_is)
    (case uno8 => k_is)
    (case ul8 => k_is)
    (case uc8 => k_is)
    (case uk8 => k_is)
    (case uex8 => k_is)
    (case uty8 => k_is)
    (case ukC8 => k_is)
    (case uga8 => k_is)
    (case ugg8 => k_is)
    (case uhd8 => k_is)
    (case uha8 => k_is)
    (case uhm8 => k_is)
    (case uso8 => k_is)
    (case usv8 => k_is)
    (case su8_0 => k_is)
    (case su8_1 => k_is)
    (case su8_2 => k_is)
    (case su8_3 => k_is)
    (case su8_4 => k_is)
    (case su8_5 => k_is)
    (case su8_6 => k_is)
    (case su8_7 => k_is)
    (case su8_8 => k_is)
    (case su8_9 => k_is)
    (case su8_10 => k_is)
    (case su8_11 => k_is)
    (case uL9 => k_is)
    (case usa9 => k_is)
    (case uiC9 => k_is)
    (case utI9 => k_is)
    (case uno9 => k_is)
    (case ul9 => k_is)
    (case uc9 => k_is)
    (case uk9 => k_is)
    (case uex9 => k_is)
    (case uty9 => k_is)
    (case ukC9 => k_is)
    (case uga9 => k_is)
    (case ugg9 => k_is)
    (case uhd9 => k_is)
    (case uha9 => k_is)
    (case uhm9 => k_is)
    (case uso9 => k_is)
    (case usv9 => k_is)
    (case su9_0 => k_is)
    (case su9_1 => k_is)
    (case su9_2 => k_is)
    (case su9_3 => k_is)
    (case su9_4 => k_is)
    (case su9_5 => k_is)
    (case su9_6 => k_is)
    (case su9_7 => k_is)
    (case su9_8 => k_is)
    (case su9_9 => k_is)
    (case su9_10 => k_is)
    (case su9_11 => k_is)
    (case uL10 => k_is)
    (case usa10 => k_is)
    (case uiC10 => k_is)
    (case utI10 => k_is)
    (case uno10 => k_is)
    (case ul10 => k_is)
    (case uc10 => k_is)
    (case uk10 => k_is)
    (case uex10 => k_is)
    (case uty10 => k_is)
    (case ukC10 => k_is)
    (case uga10 => k_is)
    (case ugg10 => k_is)
    (case uhd10 => k_is)
    (case uha10 => k_is)
    (case uhm10 => k_is)
    (case uso10 => k_is)
    (case usv10 => k_is)
    (case su10_0 => k_is)
    (case su10_1 => k_is)
    (case su10_2 => k_is)
    (case su10_3 => k_is)
    (case su10_4 => k_is)
    (case su10_5 => k_is)
    (case su10_6 => k_is)
    (case su10_7 => k_is)
    (case su10_8 => k_is)
    (case su10_9 => k_is)
    (case su10_10 => k_is)
    (case su10_11 => k_is)
    (case uq => k_exc)
    (case uex11 => k_is)
    (case uty11 => k_is)
    (case ukC11 => k_is)
    (case uga11 => k_is)
    (case ugg11 => k_is)
    (case uhd11 => k_is)
    (case uha11 => k_is)
    (case uhm11 => k_is)
    (case uso11 => k_is)
    (case usv11 => k_is)
    (case su11_0 => k_is)
    (case su11_1 => k_is)
    (case su11_2 => k_is)
    (case su11_3 => k_is)
    (case su11_4 => k_is)
    (case su11_5 => k_is)
    (case su11_6 => k_is)
    (case su11_7 => k_is)
    (case su11_8 => k_is)
    (case su11_9 => k_is)
    (case su11_10 => k_is)
    (case su11_11 => k_is)
    (case ohd => k_is)
    (case oty => k_is)
    (case oso => k_is)
    (case gn => k_is)
    (case gt => k_is)
    (case z_len => k_is)
    (case z_int => k_is)
    (case z_max => k_is)
    (case z_abs => k_is)
    (case z_range => k_is)
    (case z_isinstance => k_is)
    (case z_ValueError => k_is)
#print axioms PySem.Challenge.cw_oneshard_k07_errors_holds
