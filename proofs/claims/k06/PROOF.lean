import PyProof.Rows.All
import Wide.All
import OpenK.AllK
import Wide.FinOn
import HandS.Base
import HandS.Call
import HandS.List
import HandS.Comp
import HandS.Ends
import HandS.Dict
import HandS.Iter
import HandS.Text
import HandS.Words
import HandS.WordsList
import HandS.WordsDict
import HandS.Walk
import HandS.IsInst
import HandS.Defaults
import HandS.Codes
import HandS.More
import HandS.DictComp
import HandS.FStr
import HandS.OwnEq
import HandS.Property
import HandS.Style
import HandS.StrMore
import HandS.Exc
import HandS.ExcOwn
import HandS.ExcInit
import HandS.ExcField
import HandS.ExcIs
import HandS.ExcValue
import HandS.TryOnly
import HandS.WordsExc
import HandS.Wide
import HandS.Star
import HandS.MakeKwOnly
import HandS.MakeKw
import HandS.Finally
import KE.KCallOwn
import KE.KOpsOwn
import PySem.Challenge.RW_oneshard_k06_whole_form_script
set_option Elab.async false
set_option linter.all false
set_option maxRecDepth 100000
set_option maxHeartbeats 2000000
namespace OS
open PySem L2
def top (i : Nat) : Stmt := PySem.Challenge.pw_oneshard_k06_whole_form_script.main.body.getD i (.Pass ⟨0, 0, 0, 0⟩)
abbrev sBadName_init : Stmt := inClass (top 2) 0
abbrev sUnknownName_init : Stmt := inClass (top 3) 0
abbrev sValid : Stmt := top 9
abbrev sDec : Stmt := top 13
abbrev sSgn : Stmt := top 14
abbrev sTerm : Stmt := top 15
abbrev sForm_init : Stmt := inClass (top 16) 0
abbrev sForm_coefficients : Stmt := inClass (top 16) 1
abbrev sForm_constant : Stmt := inClass (top 16) 2
abbrev sForm_getitem : Stmt := inClass (top 16) 3
abbrev sForm_contains : Stmt := inClass (top 16) 4
abbrev sForm_iter : Stmt := inClass (top 16) 5
abbrev sForm_len : Stmt := inClass (top 16) 6
abbrev sForm_eq : Stmt := inClass (top 16) 7
abbrev sForm_neg : Stmt := inClass (top 16) 8
abbrev sForm_add : Stmt := inClass (top 16) 9
abbrev sForm_radd : Stmt := inClass (top 16) 10
abbrev sForm_sub : Stmt := inClass (top 16) 11
abbrev sForm_rsub : Stmt := inClass (top 16) 12
abbrev sForm_mul : Stmt := inClass (top 16) 13
abbrev sForm_rmul : Stmt := inClass (top 16) 14
abbrev sForm_call : Stmt := inClass (top 16) 15
abbrev sForm_str : Stmt := inClass (top 16) 16
abbrev sStart : Stmt := top 18
abbrev sTake : Stmt := top 19
abbrev s_small : Stmt := top 20
abbrev s_sum : Stmt := top 21
abbrev s_size : Stmt := top 22
abbrev s_plain : Stmt := top 23
abbrev s_agrees : Stmt := top 24
abbrev s_step : Stmt := top 25
abbrev s_sign : Stmt := top 26
abbrev s_text : Stmt := top 27
abbrev sLaw : Stmt := top 28
end OS
namespace OS
open PySem PySem.Spec PySem.W PySem.Calls PyProof.Rows
section
variable {prog : Program} {w : World} {A : Around} {E : Value → Shared → Prop} {s : Shared} {K : Frag} {x C L f g : Addr} {h₀ : Heap} {m : Str → Option Value} {ox : Obj} {od : Option Obj}
theorem int_add_ni {i : Int} {t : Tok} {Q : Value → Shared → Prop} (hx : s.heap.get? x = some ox) (hd : ox.data = .plain) (h : Q .notImplemented s) : wpAny (model prog w) A (call (.builtin "int.__add__") [.int i t, .ref x]) Q E s := by
  refine wpAny_call_entry PySem.F.slot_int_add (typeIs_int s i t) PySem.F.entry_int_add ?_ (PySem.F.args_int_add_2 _ _)
  show wpAny _ _ ((load x >>= fun o => match o.data with | .prim (.int i _) => pure (some i) | _ => pure none) >>= fun r => _) _ _ s
  refine wpAny_bind (wpAny_bind (wpAny_load hx ?_))
  rw [hd]
  exact wpAny_pure (wpAny_bind (wpAny_rule (wpAny_pure ⟨_, rfl, h⟩)))
theorem int_sub_ni {i : Int} {t : Tok} {Q : Value → Shared → Prop} (hx : s.heap.get? x = some ox) (hd : ox.data = .plain) (h : Q .notImplemented s) : wpAny (model prog w) A (call (.builtin "int.__sub__") [.int i t, .ref x]) Q E s := by
  refine wpAny_call_entry PySem.F.slot_int_sub (typeIs_int s i t) PySem.F.entry_int_sub ?_ (PySem.F.args_int_sub_2 _ _)
  show wpAny _ _ ((load x >>= fun o => match o.data with | .prim (.int i _) => pure (some i) | _ => pure none) >>= fun r => _) _ _ s
  refine wpAny_bind (wpAny_bind (wpAny_load hx ?_))
  rw [hd]
  exact wpAny_pure (wpAny_bind (wpAny_rule (wpAny_pure ⟨_, rfl, h⟩)))
theorem int_mul_ni {i : Int} {t : Tok} {Q : Value → Shared → Prop} (hx : s.heap.get? x = some ox) (hd : ox.data = .plain) (h : Q .notImplemented s) : wpAny (model prog w) A (call (.builtin "int.__mul__") [.int i t, .ref x]) Q E s := by
  refine wpAny_call_entry PySem.F.slot_int_mul (typeIs_int s i t) PySem.F.entry_int_mul ?_ (PySem.F.args_int_mul_2 _ _)
  show wpAny _ _ ((load x >>= fun o => match o.data with | .prim (.int i _) => pure (some i) | _ => pure none) >>= fun r => _) _ _ s
  refine wpAny_bind (wpAny_bind (wpAny_load hx ?_))
  rw [hd]
  exact wpAny_pure (wpAny_bind (wpAny_rule (wpAny_pure ⟨_, rfl, h⟩)))
/-- what an int's own operator says of an instance -/
def Decl (prog : Program) (w : World) (nm id : String) : Prop := Slot "int" (PySem.dunder nm) id ∧ ∀ (A : Around) (E : Value → Shared → Prop) (s : Shared) (x : Addr) (ox : Obj) (i : Int) (t : Tok) (Q : Value → Shared → Prop), s.heap.get? x = some ox → ox.data = .plain → Q .notImplemented s → wpAny (model prog w) A (call (.builtin id) [.int i t, .ref x]) Q E s
theorem decl_add : Decl prog w "add" "int.__add__" := ⟨PySem.F.slot_int_add, fun _ _ _ _ _ _ _ _ => int_add_ni⟩
theorem decl_sub : Decl prog w "sub" "int.__sub__" := ⟨PySem.F.slot_int_sub, fun _ _ _ _ _ _ _ _ => int_sub_ni⟩
theorem decl_mul : Decl prog w "mul" "int.__mul__" := ⟨PySem.F.slot_int_mul, fun _ _ _ _ _ _ _ _ => int_mul_ni⟩
theorem int_op_own {op : Operator} {i : Int} {t : Tok} {id : String} {fo ro : Option Value} {Q : Value → Shared → Prop} (F : Fr h₀ L s.heap m) (X₀ : K.In h₀) (I : InstAt s.heap x ox C od) (hx : s.heap.get? x = some ox) (hd : ox.data = .plain) (hc : selfFirst K C = true)
    (hs : findIn K (.ref C) (PySem.dunder op.info.2) = some (some (.ref f))) (hr : findIn K (.ref C) (dunderR op.info.2) = some (some (.ref g))) (hg : isFn K (.ref g) = true)
    (h1 : findIn K (.type "int") (PySem.dunder op.info.2) = some fo) (h2 : findIn K (.type "int") (dunderR op.info.2) = some ro) (hsub : subIn K (.ref C) (.type "int") = some false) (dc : Decl prog w op.info.2 id)
    (h : wpAny (model prog w) A (call (.ref g) [.ref x, .int i t]) (PySem.W.CmpBack Q) E s) : wpAny (model prog w) A (binaryOp op (.int i t) (.ref x)) Q E s := by
  have X := X₀.keeps F.keep
  obtain ⟨cd, rest, hcd, hm⟩ := ksp_first hc
  rcases hi : op.info with ⟨sym, nm'⟩
  rw [hi] at hs hr h1 h2 dc
  dsimp only at hs hr h1 h2 dc
  have one := ksp_try X I hr hg h
  have zero : wpAny (model prog w) A (tryMethod (.int i t) (PySem.dunder nm') (.ref x)) (fun r s' => r = none ∧ s' = s) E s := by
    unfold tryMethod
    refine wpAny_bind (wpAny_callSpecial?_slot (typeIs_int s i t) dc.1 (dc.2 _ _ _ _ _ _ _ _ hx hd ?_))
    exact wpAny_pure ⟨rfl, rfl⟩
  obtain ⟨hh, g', d, tt, os⟩ := s
  have L1 : Looks (model prog w) hh (typeOf (.ref x)) (.ref C) := I.type
  have L2 : Looks (model prog w) hh (typeOf (.int i t)) (.type "int") := Looks.of_pure rfl
  have L3 : Looks (model prog w) hh (fillsNumberSlot (.ref C) nm') true := fills_K X hcd hm hs
  have L4 : Looks (model prog w) hh (fillsNumberSlot (.type "int") nm') ((fo.isSome && !isSeqSlot fo) || (ro.isSome && !isSeqSlot ro)) := ksp_fillsT X h1 h2
  have L5 : Looks (model prog w) hh (isSubtype (.ref C) (.type "int")) false := looks_subIn X hsub
  have L7 : Looks (model prog w) hh (numberSlotInPython (.type "int") nm') false := Looks.of_pure rfl
  generalize ((fo.isSome && !isSeqSlot fo) || (ro.isSome && !isSeqSlot ro)) = left at L4
  have hne : (Value.type "int" == Value.ref C) = false := Bool.eq_false_iff.mpr fun q => by cases beq_iff_eq.mp q
  simp only [binaryOp, hi]
  refine wpAny_holding (wpAny_bind ?_)
  unfold binaryOp1
  refine wpAny_bind (L2.at (wpAny_bind (L1.at (wpAny_bind (L4.at ?_)))))
  simp only [hne, Bool.false_eq_true, if_false]
  cases left with
  | false =>
    ksp_lk
    refine wpAny_mono one (fun r s' hr' => ?_) fun _ _ e => e
    obtain ⟨v, rfl, hq⟩ := hr'
    ksp_lk
    exact hq
  | true =>
    ksp_lk
    refine wpAny_mono zero (fun r s' hr' => ?_) fun _ _ e => e
    obtain ⟨rfl, rfl⟩ := hr'
    ksp_lk
    refine wpAny_mono one (fun r s' hr' => ?_) fun _ _ e => e
    obtain ⟨v, rfl, hq⟩ := hr'
    ksp_lk
    exact hq
end
end OS
namespace OS
open PySem L2
/-- but for st and cl all that was tracked is as it was -/
def Kb (st cl : Addr) (H H' : Hp) : Prop := ∀ b o, H b = some o → b ≠ st → b ≠ cl → H' b = some o
/-- the drawing state: its cells at cl, at most m draws so far -/
structure StAt (H : Hp) (st cl : Addr) (m : Nat) : Prop where
  ob : ∃ p c : Int, H st = some (.lst [.ref cl, .int p, .int c]) ∧ 0 ≤ c ∧ c ≤ m
  cs : ∃ ns : List Int, H cl = some (.lst (ns.map V.int)) ∧ ns.length ≤ 63
  ne : st ≠ cl
structure Bi (mg : Str → Option Value) : Prop where
  len : mg "len" = none
  int : mg "int" = none
  max : mg "max" = none
  abs : mg "abs" = none
def spTake : Sp := fun vs H Q _ => ∃ (st cl : Addr) (m : Nat) (lim : Int), vs = [.ref st, .int lim] ∧ StAt H st cl m ∧ m ≤ 1000000000 ∧ 0 < lim ∧ lim < 1073741824 ∧
  ∀ (n : Int) (H' : Hp), 0 ≤ n → n < lim → StAt H' st cl (m + 1) → Kb st cl H H' → Q (.int n) H'
theorem fmod_in {i j : Int} (h : 0 < j) : 0 ≤ i.fmod j ∧ i.fmod j < j := ⟨Int.fmod_nonneg_of_pos _ h, Int.fmod_lt_of_pos _ h⟩
theorem getD_int {ns : List Int} {k : Int} (h0 : 0 ≤ k) (h1 : k < (ns.length : Int)) : ∃ z : Int, (ns.map V.int)[k.toNat]? = some (V.int z) ∧ ns[k.toNat]? = some z := by
  have hk : k.toNat < ns.length := by omega
  refine ⟨ns[k.toNat], ?_, List.getElem?_eq_getElem hk⟩
  rw [List.getElem?_map, List.getElem?_eq_getElem hk]
  rfl
theorem ixN_in {n : Nat} {k : Int} (h0 : 0 ≤ k) (h1 : k < (n : Int)) : ixN n k = some k.toNat := by
  unfold ixN
  rw [if_pos h0, if_pos h1]
theorem atI_in {α : Type} {xs : List α} {k : Int} {v : α} (h0 : 0 ≤ k) (h : xs[k.toNat]? = some v) : atI xs k = some v := by
  have := atI_nat h
  rwa [Int.toNat_of_nonneg h0] at this
section
variable {P : Program} {w : World} {K : PySem.W.Frag} {mg : Str → Option Value} {base : Heap}
abbrev nTake : List Str := ["_law_state", "_law_limit", "_law_cells", "_law_at", "_law_cell", "_law_number"]
theorem scTake : FnScope nTake ["_law_state", "_law_limit"] (defScope sTake) := ⟨rfl, rfl, rfl, by decide +kernel, rfl, by decide +kernel, by decide +kernel⟩
theorem ok_take {f : Addr} {fd : FuncData} (F : Fun K "_law_take" "_law_take" sTake f fd) (T : Bi mg) : FnOk P w K mg base CX0 1 f fd ["_law_state", "_law_limit"] spTake := by
  refine F.ok scTake (fun vs H Q E h => ?_) (fun cdv A outer s H vs Q E hr h => ?_)
  · obtain ⟨st, cl, m, lim, rfl, _⟩ := h
    rfl
  · obtain ⟨st, cl, m, lim, rfl, S, hm, hl0, hl1, k⟩ := h
    obtain ⟨⟨p, c, hst, hc0, hc1⟩, ⟨ns, hcl, hn⟩, hne⟩ := S
    refine ⟨_, pss_cons (ps_set (i := 2) scTake.nd rfl (Or.inl rfl) (pe_ix ix_list (pv 0) pe_int fun _ _ => rfl))
      (pss_cons (ps_asg (pe_op op_add (pe_ix ix_list (pv 0) pe_int fun _ _ => rfl) pe_int) (pg_sub (pv 0) pe_int set_list))
      (pss_cons (ps_set (i := 3) scTake.nd rfl (Or.inl rfl) (pe_op op_modN (pe_callTy call_int1 (by rfl) T.int (by decide +kernel) (pa_cons (pe_ix ix_list (pv 0) pe_int fun _ _ => rfl) pa_nil))
          (pe_callB (call_max2 rfl) (by rfl) T.max (by decide +kernel) (pa_cons pe_int (pa_cons (pe_callB call_len_seq (by rfl) T.len PySem.boot_len (pa_cons (pv 2) pa_nil)) pa_nil)))))
      (pss_cons (ps_set (i := 4) scTake.nd rfl (Or.inl rfl) pe_int)
      (pss_cons (ps_if (pt_truth (pv 2) (by intro _; rfl)) (pss_one (ps_set (i := 4) scTake.nd rfl (Or.inl rfl) (pe_ix ix_list (pv 2) (pv 3) fun _ _ => rfl))) pss_nil)
      (pss_cons (ps_if (pt_cmpR op_ge (pe_callB call_abs (by rfl) T.abs (by decide +kernel) (pa_cons (pv 4) pa_nil)) (pe_op op_pow pe_int pe_int) (nomark _))
        (pss_cons (ps_asg (pe_op op_fdivN (pe_callB call_abs (by rfl) T.abs (by decide +kernel) (pa_cons (pv 4) pa_nil)) (pv 1)) (pg_sub (pv 2) (pv 3) set_list))
          (pss_one (ps_ret (pe_op op_modN (pe_callB call_abs (by rfl) T.abs (by decide +kernel) (pa_cons (pv 4) pa_nil)) (pv 1))))) pss_nil)
      (pss_cons (ps_asg (pe_op op_add (pe_ix ix_list (pv 0) pe_int fun _ _ => rfl) pe_int) (pg_sub (pv 0) pe_int set_list))
      (pss_cons (ps_set (i := 5) scTake.nd rfl (Or.inl rfl) (pe_op op_modN (pe_op op_pow (pe_callTy call_int1 (by rfl) T.int (by decide +kernel) (pa_cons (pe_op op_add (pe_op op_add (pe_op op_mul (pe_op op_modN (pe_callTy call_int1 (by rfl) T.int (by decide +kernel) (pa_cons (pv 4) pa_nil)) pe_int) pe_int) (pe_op op_mul (pe_ix ix_list (pv 0) pe_int fun _ _ => rfl) pe_int)) pe_int) pa_nil)) pe_int) pe_int))
      (pss_cons (ps_set (i := 5) scTake.nd rfl (Or.inl rfl) (pe_op op_modN (pe_op op_pow (pe_callTy call_int1 (by rfl) T.int (by decide +kernel) (pa_cons (pe_op op_add (pe_op op_add (pe_op op_mul (pv 5) pe_int) (pe_op op_mul (pe_ix ix_list (pv 0) pe_int fun _ _ => rfl) pe_int)) pe_int) pa_nil)) pe_int) pe_int))
      (pss_one (ps_ret (pe_op op_modN (pe_op op_fdivN (pv 5) pe_int) (pv 1)))))))))))), ?_⟩
    have a0 : atI [V.ref cl, V.int p, V.int c] 0 = some (V.ref cl) := rfl
    refine ⟨_, rfl, st, _, _, _, rfl, rfl, SqL.of hst, a0, ?_⟩
    -- state[2] = state[2] + 1
    refine ⟨_, rfl, st, _, _, V.int c, rfl, rfl, SqL.of hst, rfl, _, _, rfl, rfl, ?_⟩
    refine ⟨_, rfl, st, _, _, 2, rfl, rfl, hst, rfl, ?_⟩
    have h1 : ∀ o, (upd H st o) cl = some (.lst (ns.map V.int)) := fun o => by rw [upd_ne hne.symm]; exact hcl
    -- at = int(state[1]) % max(1, len(cells))
    refine ⟨_, rfl, st, _, _, V.int p, rfl, rfl, SqL.of upd_same, rfl, .inl ⟨_, rfl, ?_⟩⟩
    refine ⟨_, rfl, cl, ns.map V.int, rfl, .inl (SqL.of (h1 _)), _, _, rfl, ?_⟩
    have hL : (((ns.map V.int).length : Nat) : Int) = (ns.length : Int) := by rw [List.length_map]
    rw [hL]
    have hmx : ∃ mx : Int, (if (ns.length : Int) > 1 then (ns.length : Int) else 1) = mx ∧ 0 < mx ∧ (0 < ns.length → mx ≤ ns.length) := by
      refine ⟨_, rfl, ?_, fun _ => ?_⟩
      · split <;> omega
      · split <;> omega
    obtain ⟨mx, emx, mx0, mx1⟩ := hmx
    rw [emx]
    refine ⟨_, _, rfl, rfl, (by omega), ?_⟩
    obtain ⟨ka, kb⟩ := fmod_in (i := p) mx0
    obtain ⟨at_, hat⟩ : ∃ a, a = p.fmod mx := ⟨_, rfl⟩
    rw [← hat] at ka kb
    -- cell = 0; if cells: cell = cells[at]
    refine ⟨_, rfl, _, .inl ⟨_, SqL.of (h1 _), rfl⟩, ?_⟩
    show if (!(ns.map V.int).isEmpty) = true then _ else _
    have hE : (!(ns.map V.int).isEmpty) = decide (0 < ns.length) := by cases ns <;> simp
    rw [hE]
    rw [show (fun i j => V.int (Int.fmod i j)) p mx = V.int at_ by rw [hat]]
    have h10 : ((10 : Int) ^ (18 : Int).toNat) = 1000000000000000000 := by decide
    by_cases hp : 0 < ns.length
    all_goals first
      | have hp' : 0 < ns.length := hp
        rw [decide_eq_true hp]
        refine iteT ?_
        obtain ⟨z, hz1, hz2⟩ := getD_int (ns := ns) (k := at_) ka (by have := mx1 hp; omega)
        refine ⟨_, rfl, _, rfl, cl, _, _, V.int z, rfl, rfl, SqL.of (h1 _), atI_in ka hz1, ?_⟩
        have hz : z = 0 ∨ at_ < (ns.length : Int) := .inr (by have := mx1 hp; omega)
      | have hp' : ¬ 0 < ns.length := hp
        rw [decide_eq_false hp]
        refine iteF ?_
        obtain ⟨z, ez⟩ : ∃ z : Int, z = 0 := ⟨0, rfl⟩
        rw [show (some (V.int 0) : Option V) = some (V.int z) by rw [ez]]
        have hz : z = 0 ∨ at_ < (ns.length : Int) := .inl ez
    all_goals
      refine ⟨_, rfl, _, rfl, _, _, rfl, rfl, ⟨by decide, by decide, by decide⟩, _, _, rfl, rfl, _, rfl, ?_⟩
      rw [h10]
      obtain ⟨az, haz⟩ : ∃ az, az = (if z < 0 then -z else z) := ⟨_, rfl⟩
      have haz0 : 0 ≤ az := by rw [haz]; split <;> omega
      rw [← haz]
      refine ite2 (fun hb => ?_) (fun hb => ?_)
      · have hb' : (1000000000000000000 : Int) ≤ az := of_decide_eq_true hb
        have hat2 : at_ < (ns.length : Int) := by
          rcases hz with h | h
          · subst h; rw [haz] at hb'; simp at hb'
          · exact h
        refine ⟨_, rfl, _, rfl, _, rfl, _, _, rfl, rfl, ⟨by omega, by omega⟩, ?_⟩
        refine ⟨_, rfl, _, rfl, cl, _, _, at_.toNat, rfl, rfl, h1 _, ixN_in ka (by rw [List.length_map]; exact hat2), ?_⟩
        refine ⟨_, rfl, _, rfl, _, rfl, _, _, rfl, rfl, (by omega), ?_⟩
        rw [← haz]
        obtain ⟨k0, k1⟩ := fmod_in (i := az) hl0
        refine k _ _ k0 k1 ⟨⟨p, c + 1, ?_, by omega, by push_cast; omega⟩, ⟨ns.set at_.toNat (az.fdiv lim), ?_, by rw [List.length_set]; exact hn⟩, hne⟩ ?_
        · rw [upd_ne hne, upd_same]
          rfl
        · rw [upd_same, List.map_set]
        · intro b o e hb1 hb2
          rw [upd_ne hb2, upd_ne hb1]
          exact e
      · -- state[1] = state[1] + 1
        refine ⟨_, rfl, st, _, _, V.int p, rfl, rfl, SqL.of upd_same, rfl, _, _, rfl, rfl, ?_⟩
        refine ⟨_, rfl, st, _, _, 1, rfl, rfl, upd_same, rfl, ?_⟩
        -- number
        have r1 : ∀ i : Int, 0 ≤ i.fmod 2147483647 ∧ i.fmod 2147483647 < 2147483647 := fun i => fmod_in (by decide)
        obtain ⟨y1, hy1⟩ : ∃ y, y = z.fmod 2147483647 := ⟨_, rfl⟩
        obtain ⟨q1, q2⟩ := r1 z
        rw [← hy1] at q1 q2
        refine ⟨_, rfl, .inl ⟨_, rfl, ?_⟩⟩
        refine ⟨_, _, rfl, rfl, (by show (_ : Int) ≠ 0; decide), ?_⟩
        rw [show (fun i j => V.int (Int.fmod i j)) z 2147483647 = V.int y1 by rw [hy1]]
        refine ⟨_, _, rfl, rfl, .inl ⟨by omega, by omega⟩, ?_⟩
        refine ⟨_, rfl, st, _, _, V.int (c + 1), rfl, rfl, SqL.of upd_same, rfl, _, _, rfl, rfl, .inl ⟨by omega, by omega⟩, ?_⟩
        refine ⟨_, _, rfl, rfl, _, _, rfl, rfl, .inl ⟨_, rfl, ?_⟩⟩
        refine ⟨_, _, rfl, rfl, ⟨by decide, by decide, ?_⟩, ?_⟩
        · show (y1 * 48271 + (c + 1) * 69621 + 11).natAbs < 2 ^ 64
          omega
        refine ⟨_, _, rfl, rfl, (by show (_ : Int) ≠ 0; decide), ?_⟩
        obtain ⟨q3, q4⟩ := r1 ((y1 * 48271 + (c + 1) * 69621 + 11) ^ (5 : Int).toNat)
        obtain ⟨y2, hy2⟩ : ∃ y, y = ((y1 * 48271 + (c + 1) * 69621 + 11) ^ (5 : Int).toNat).fmod 2147483647 := ⟨_, rfl⟩
        rw [← hy2] at q3 q4
        refine ⟨_, rfl, _, _, rfl, rfl, .inl ⟨?_, ?_⟩, ?_⟩
        · show -(2 ^ 64) < (((y1 * 48271 + (c + 1) * 69621 + 11) ^ (5 : Int).toNat).fmod 2147483647)
          rw [← hy2]; omega
        · show (((y1 * 48271 + (c + 1) * 69621 + 11) ^ (5 : Int).toNat).fmod 2147483647) < 2 ^ 64
          rw [← hy2]; omega
        refine ⟨_, rfl, st, _, _, V.int (c + 1), rfl, rfl, SqL.of upd_same, rfl, _, _, rfl, rfl, .inl ⟨by omega, by omega⟩, ?_⟩
        refine ⟨_, _, rfl, rfl, _, _, rfl, rfl, .inl ⟨_, rfl, ?_⟩⟩
        refine ⟨_, _, rfl, rfl, ⟨by decide, by decide, ?_⟩, ?_⟩
        · show ((((y1 * 48271 + (c + 1) * 69621 + 11) ^ (5 : Int).toNat).fmod 2147483647) * 16807 + (c + 1) * 40692 + 7).natAbs < 2 ^ 64
          rw [← hy2]; omega
        refine ⟨_, _, rfl, rfl, (by show (_ : Int) ≠ 0; decide), ?_⟩
        refine ⟨_, rfl, _, _, rfl, rfl, ⟨by decide, by decide⟩, _, rfl, _, _, rfl, rfl, (by omega), ?_⟩
        obtain ⟨k0, k1⟩ := fmod_in (i := (((((((y1 * 48271 + (c + 1) * 69621 + 11) ^ (5 : Int).toNat).fmod 2147483647) * 16807 + (c + 1) * 40692 + 7) ^ (5 : Int).toNat).fmod 2147483629).fdiv 16)) hl0
        refine k _ _ k0 k1 ⟨⟨p + 1, c + 1, ?_, by omega, by push_cast; omega⟩, ⟨ns, ?_, hn⟩, hne⟩ ?_
        · rw [upd_same]
          rfl
        · rw [upd_ne hne.symm, upd_ne hne.symm]
          exact hcl
        · intro b o e hb1 hb2
          rw [upd_ne hb1, upd_ne hb1]
          exact e
def spStart (K : PySem.W.Frag) : Sp := fun vs H Q _ => ∃ (a : Addr) (ns : List Int), vs = [.ref a] ∧ SqL K H a (ns.map V.int) ∧ ns.length ≤ 63 ∧
  ∀ (st cl : Addr) (H' : Hp), StAt H' st cl 0 → Same H H' → H st = none → H cl = none → Q (.ref st) H'
abbrev nStart : List Str := ["_law_script", "_law_cell"]
theorem scStart : FnScope nStart ["_law_script"] (defScope sStart) := ⟨rfl, rfl, rfl, by decide +kernel, rfl, by decide +kernel, by decide +kernel⟩
theorem ok_start {f : Addr} {fd : FuncData} (F : Fun K "_law_start" "_law_start" sStart f fd) (T : Bi mg) : FnOk P w K mg base CX0 1 f fd ["_law_script"] (spStart K) := by
  refine F.ok scStart (fun vs H Q E h => ?_) (fun cdv A outer s H vs Q E hr h => ?_)
  · obtain ⟨a, ns, rfl, _⟩ := h
    rfl
  · obtain ⟨a, ns, rfl, hS, hn, k⟩ := h
    refine ⟨_, pss_one (ps_ret (pe_lst (pa_cons (pe_lc (own := [("_law_cell", 1)]) (g := gName 1) (tt := tYes) rfl scStart.nd (pi_list (pv 0)) (blkOk_by (own := [("_law_cell", 1)]) (N := nStart) (sc := defScope sStart) (by decide +kernel))
        (fun _ _ _ _ _ => pg_name (i := 1) scStart.nd rfl (Or.inl rfl)) (fun _ _ _ _ _ => pts_nil) (fun _ _ _ _ _ => pe_callTy call_int1 (by rfl) T.int (by decide +kernel) (pa_cons (pv 1) pa_nil)))
      (pa_cons pe_int (pa_cons pe_int pa_nil))))), ?_⟩
    refine ⟨_, rfl, a, rfl, ⟨_, hS⟩, fun D hD => lc_list (K := K) (a := a) (xs := ns.map V.int) (fun i H' => Same H H' ∧ H' D = some (.lst ((ns.take i).map V.int))) ⟨?_, ?_⟩ (fun i H' _ h => h.1.seq hS) ?_ ?_⟩
    · intro b o e
      rw [upd_ne (ne_of_none e hD)]
      exact e
    · rw [upd_same]
      rfl
    · intro i x H' hi ⟨s1, s2⟩
      obtain ⟨z, hz, rfl⟩ : ∃ z, ns[i]? = some z ∧ x = V.int z := by
        rw [List.getElem?_map] at hi
        cases e : ns[i]? with
        | none => rw [e] at hi; cases hi
        | some z => rw [e] at hi; exact ⟨z, rfl, (Option.some.inj hi).symm⟩
      have hil : i < ns.length := (List.getElem?_eq_some_iff.mp hz).1
      refine ⟨rfl, ?_⟩
      refine ⟨_, rfl, .inl ⟨_, rfl, _, s2, ?_, ?_, ?_⟩⟩
      · rw [List.length_map, List.length_take]
        exact small1000 (by omega)
      · intro b o e
        rw [upd_ne (ne_of_none e hD)]
        exact s1 b o e
      · rw [upd_same, List.take_succ, hz]
        simp
    · intro H' ⟨s1, s2⟩
      rw [List.length_map, List.take_length] at s2
      refine ⟨by show 3 ≤ sizeLine; decide, fun st hst => ?_⟩
      have hne : st ≠ D := (ne_of_none s2 hst).symm
      refine k st D _ ⟨⟨0, 0, upd_same, by decide, by decide⟩, ⟨ns, by rw [upd_ne hne.symm]; exact s2, hn⟩, hne⟩ ?_ ?_ hD
      · intro b o e
        rw [upd_ne (ne_of_none (s1 b o e) hst)]
        exact s1 b o e
      · exact s1.free hst
end
end OS
namespace OS
open PySem L2
abbrev lowL : Str := "abcdefghijklmnopqrstuvwxyz"
abbrev digL : Str := "0123456789"
def chOk (c : Nat) : Bool := decide (c ∈ lowL.cps.toList) || decide (c ∈ digL.cps.toList)
/-- what a name is, over a text's signs -/
def good (z : Str) : Bool :=
  if z = "mod" then false else if z.cps.toList.length < 1 ∨ 6 < z.cps.toList.length then false
  else if z.cps.toList.headD 0 ∈ lowL.cps.toList then z.cps.toList.all chOk else false
theorem Str.len_list (z : Str) : z.length = z.cps.toList.length := by
  show z.cps.size = _
  rw [Array.length_toList]
structure Nm (mg : Str → Option Value) : Prop where
  most : ∃ t, mg "MOST_CHARACTERS" = some (.int 6 t)
  let_ : ∃ t, mg "LETTERS" = some (.str lowL t)
  dig : ∃ t, mg "DIGITS" = some (.str digL t)
  res : ∃ t, mg "RESERVED" = some (.str "mod" t)
  all : mg "all" = none
theorem pe_gs {X : Cx} {x : Str} {pos : Pos} {z : Str} {t : Tok} (hg : Gl X x) (hm : X.mg x = some (.str z t)) (hd : (x == ("__debug__" : Str)) = false := by decide) : PE X (.Name x pos) (tC (.str z)) := pe_glob hg hm ⟨t, rfl⟩ hd
theorem pe_gi {X : Cx} {x : Str} {pos : Pos} {z : Int} {t : Tok} (hg : Gl X x) (hm : X.mg x = some (.int z t)) (hd : (x == ("__debug__" : Str)) = false := by decide) : PE X (.Name x pos) (tC (.int z)) := pe_glob hg hm ⟨t, rfl⟩ hd
def spValid : Sp := fun vs H Q _ => ∃ (z : Str), vs = [.str z] ∧ z.length ≤ 1000 ∧ ∀ H', Same H H' → Q (.bl (good z)) H'
section
variable {P : Program} {w : World} {K : PySem.W.Frag} {mg : Str → Option Value} {base : Heap}
abbrev nValid : List Str := ["text", "character"]
theorem scValid : FnScope nValid ["text"] (defScope sValid) := ⟨rfl, rfl, rfl, by decide +kernel, rfl, by decide +kernel, by decide +kernel⟩
theorem ok_valid {f : Addr} {fd : FuncData} (F : Fun K "valid_name" "valid_name" sValid f fd) (T : Bi mg) (N : Nm mg) : FnOk P w K mg base CX0 1 f fd ["text"] spValid := by
  obtain ⟨⟨t1, mM⟩, ⟨t2, mL⟩, ⟨t3, mD⟩, ⟨t4, mR⟩, mA⟩ := N
  refine F.ok scValid (fun vs H Q E h => ?_) (fun cdv A outer s H vs Q E hr h => ?_)
  · obtain ⟨z, rfl, _⟩ := h
    rfl
  · obtain ⟨z, rfl, hz, k⟩ := h
    refine ⟨_, pss_cons (ps_if (PW.pt (pw_or (pt_cmpR op_eq (pv 0) (pe_gs rfl mR) (nomark _)) (pw_or1 (pt_not (pt_chain op_le op_le pe_int (pe_callB call_len_str (by rfl) T.len PySem.boot_len (pa_cons (pv 0) pa_nil)) (pe_gi rfl mM)))))) (pss_one (ps_ret pe_bl)) pss_nil)
      (pss_cons (ps_if (pt_cmpR op_notIn_sign (pe_ix ix_str (pv 0) pe_int fun _ _ => rfl) (pe_gs rfl mL) rfl) (pss_one (ps_ret pe_bl)) pss_nil)
      (pss_one (ps_ret (pe_callB (cr_all rfl) (by rfl) mA (by decide +kernel) (pa_cons
        (pe_lc (own := [("character", 1)]) (g := gName 1) (tt := tYes) rfl scValid.nd (pi_str (pv 0)) (blkOk_by (own := [("character", 1)]) (N := nValid) (sc := defScope sValid) (by decide +kernel))
        (fun _ _ _ _ _ => pg_name (i := 1) scValid.nd rfl (Or.inl rfl)) (fun _ _ _ _ _ => pts_nil) (fun _ _ _ _ _ => pe_or (pe_cmpR op_in_sign (pv 1) (pe_gs rfl mL) rfl) (pe_one (pe_cmpR op_in_sign (pv 1) (pe_gs rfl mD) rfl)))) pa_nil))))), ?_⟩
    have hs : z.length ≤ sizeLine := Nat.le_of_lt (small1000 hz)
    have hln := Str.len_list z
    have edec : decide (V.str z = V.str "mod") = decide (z = "mod") := by
      by_cases h : z = "mod"
      · rw [decide_eq_true h, decide_eq_true (congrArg V.str h)]
      · rw [decide_eq_false h, decide_eq_false (fun e => h (V.str.inj e))]
    refine ⟨_, rfl, rfl, _, rfl, ?_⟩
    rw [edec]
    have hkf : ∀ H', Same H H' → good z = false → Q (.bl false) H' := fun H' s g => by have := k H' s; rwa [g] at this
    refine ite2 (fun hm => ?_) (fun hm => ?_)
    · exact hkf H (Same.refl H) (by unfold good; rw [if_pos (of_decide_eq_true hm)])
    have hm' : ¬ z = "mod" := fun e => hm (decide_eq_true e)
    have hkb : ∀ H', Same H H' → ¬ (1 ≤ z.length ∧ z.length ≤ 6) → Q (.bl false) H' := fun H' s g => hkf H' s (by unfold good; rw [if_neg hm', if_pos (by omega)])
    refine ⟨_, rfl, _, rfl, hs, _, _, rfl, rfl, _, rfl, ?_⟩
    refine ite2 (fun h1 => ?_) (fun h1 => ?_)
    rotate_left
    · have h1' : ¬ ((1 : Int) ≤ z.length) := fun e => h1 (decide_eq_true e)
      refine ⟨_, rfl, iteT ?_⟩
      exact hkb H (Same.refl H) (by omega)
    have h1' : (1 : Int) ≤ z.length := of_decide_eq_true h1
    refine ⟨_, _, rfl, rfl, _, rfl, ?_⟩
    by_cases h6 : (z.length : Int) ≤ 6
    rotate_left
    · rw [decide_eq_false h6]
      refine iteT ?_
      exact hkb H (Same.refl H) (by omega)
    rw [decide_eq_true h6]
    refine iteF ?_
    -- text[0] not in LETTERS
    obtain ⟨c0, l0, hl0⟩ : ∃ c0 l0, z.cps.toList = c0 :: l0 := by
      cases e : z.cps.toList with
      | nil => rw [e] at hln; simp at hln; omega
      | cons c l => exact ⟨c, l, rfl⟩
    refine ⟨_, rfl, _, _, c0, rfl, rfl, hs, ?_, _, _, rfl, rfl, _, rfl, ?_⟩
    · show atI _ _ = _
      exact atI_nat (j := 0) (by rw [hl0]; rfl)
    have gd : good z = (if c0 ∈ lowL.cps.toList then z.cps.toList.all chOk else false) := by
      unfold good
      rw [if_neg hm', if_neg (by omega), hl0]
      rfl
    by_cases hc : c0 ∈ lowL.cps.toList
    rotate_left
    · rw [decide_eq_false hc]
      refine iteT ?_
      exact hkf H (Same.refl H) (by rw [gd, if_neg hc])
    rw [decide_eq_true hc]
    refine iteF ?_
    rw [if_pos hc] at gd
    -- all([..])
    refine ⟨_, rfl, z, rfl, fun D hD => lc_it (walk_str (z := z)) (fun i H' => Same H H' ∧ H' D = some (.lst (((z.cps.toList.take i).map chOk).map V.bl))) ⟨?_, ?_⟩ (fun _ _ _ _ => trivial) ?_ ?_⟩
    · intro b o e
      rw [upd_ne (ne_of_none e hD)]
      exact e
    · rw [upd_same]
      rfl
    · intro i x H' H2 hi ⟨s1, s2⟩ ⟨e, c, hcc, ex⟩
      subst e
      subst ex
      have hcl : z.cps.toList[i]? = some c := by rw [Array.getElem?_toList]; exact hcc
      have step : Same H (upd H2 D (.lst (((z.cps.toList.take i).map chOk).map V.bl ++ [V.bl (chOk c)]))) ∧ (upd H2 D (.lst (((z.cps.toList.take i).map chOk).map V.bl ++ [V.bl (chOk c)]))) D = some (.lst (((z.cps.toList.take (i + 1)).map chOk).map V.bl)) := by
        refine ⟨fun b o e => ?_, ?_⟩
        · rw [upd_ne (ne_of_none e hD)]
          exact s1 b o e
        · rw [upd_same, List.take_succ, hcl]
          simp
      have hlen : (((z.cps.toList.take i).map chOk).map V.bl).length < sizeLine := by
        rw [List.length_map, List.length_map, List.length_take]
        exact small1000 (by omega)
      refine ⟨rfl, ?_⟩
      refine ⟨_, rfl, _, _, rfl, rfl, _, rfl, ?_⟩
      by_cases ha : c ∈ lowL.cps.toList
      · have ek : chOk c = true := by unfold chOk; rw [decide_eq_true ha]; rfl
        rw [ek] at step
        rw [decide_eq_true ha]
        refine iteT ?_
        exact ⟨_, s2, hlen, step⟩
      · have ek : chOk c = decide (c ∈ digL.cps.toList) := by unfold chOk; rw [decide_eq_false ha]; rfl
        rw [ek] at step
        rw [decide_eq_false ha]
        refine iteF ?_
        exact ⟨_, rfl, _, _, rfl, rfl, _, s2, hlen, step⟩
    · intro H' ⟨s1, s2⟩
      refine ⟨D, z.cps.toList.map chOk, rfl, ?_, ?_⟩
      · refine SqL.of ?_
        rw [s2, List.take_of_length_le (by rw [Array.length_toList]; exact Nat.le_refl _)]
      · have := k H' s1
        rw [gd] at this
        rw [List.all_map]
        exact this
end
end OS
namespace OS
open PySem L2 PySem.Spec PyProof.Rows
section
variable {X : Cx} {CX : CXT} {n : Nat} {f C : Addr} {fd : FuncData} {ps : List Str} {sp : Sp} {E : XK}
/-- a def run by the machine itself (an operator of an own class), somewhere below the running body -/
theorem run_at {A : Around} (F : FnOk X.prog X.w X.K X.mg X.base CX n f fd ps sp) (sb : Sub X n A) (hb : Binds X.K fd ps []) (hx : Passes CX X E) {pins : List (Addr × Obj)} {σ : L2.St} {H : Hp} {s : Shared} {vs : List V} {us : List Value} {Q : VK} {R : Value → Shared → Prop}
    (I : Inv X pins σ H s) (r : Vals vs us) (h : sp vs H Q E) (k : ∀ v u H' s', Inv X pins σ H' s' → RelV v u → Q v H' → R u s') : wpAny (model X.prog X.w) A (call (.ref f) us) R X.xe s := by
  have e0 : Env0 X.prog X.w X.K X.mg X.base A X.stack s H := by
    have e := I.env0
    exact ⟨by rw [sb.fr]; exact e.frames, e.mod, e.bs, e.bsz, e.funs, e.frf, e.hok, e.bare⟩
  have hl := F.len _ _ _ _ h
  refine wpAny_call (codeAny_mono (F.run A X.stack s H ⟨us, []⟩ us vs _ E sb.room e0 (by
    have := hb s us I.kIn (by rw [List.append_nil, ← r.length]; exact hl)
    simpa using this) r h) fun r' s' hq => ?_)
  cases r' with
  | error e => exact hx pins σ H s e s' I hq
  | ok fl =>
    cases fl with
    | ret u =>
      obtain ⟨v, H', I', rv, q⟩ := I.after hq
      exact k v u H' s' I' rv q
    | next => exact False.elim hq
    | brk => exact False.elim hq
    | cont => exact False.elim hq
theorem v1 {a : Addr} : Vals [V.ref a] [Value.ref a] := .cons rfl .nil
theorem v2 {a b : Addr} : Vals [V.ref a, V.ref b] [Value.ref a, Value.ref b] := .cons rfl (.cons rfl .nil)
theorem v2i {a : Addr} {i : Int} {t : Tok} : Vals [V.ref a, V.int i] [Value.ref a, Value.int i t] := .cons rfl (.cons ⟨t, rfl⟩ .nil)
theorem notImpl {v : V} {u : Value} {Q : Value → Shared → Prop} {s : Shared} (r : RelV v u) (q : Q u s) : PySem.W.CmpBack Q u s := by
  cases v with
  | non => cases r; exact q
  | bl b => cases r; exact q
  | int i => obtain ⟨t, rfl⟩ := r; exact q
  | str i => obtain ⟨t, rfl⟩ := r; exact q
  | byt i => obtain ⟨t, rfl⟩ := r; exact q
  | flt i => obtain ⟨t, rfl⟩ := r; exact q
  | ref i => cases r; exact q
  | ty i => cases r; exact q
/-- an own method found by name, as the machine asks it -/
structure Own (K : PySem.W.Frag) (C : Addr) (m : Str) (f : Addr) : Prop where
  at_ : PySem.W.findIn K (.ref C) m = some (some (.ref f))
  fn : PySem.W.isFn K (.ref f) = true
/-- one operand, an instance of the class at C -/
def rU1 (C : Addr) (sp : Sp) (E : XK) : V → Hp → VK → Prop := fun x H Q => ∃ a dx fs, x = .ref a ∧ H a = some (.ins C dx fs) ∧ sp [x] H Q E
/-- -x by the own __neg__ -/
theorem un_negO (F : FnOk X.prog X.w X.K X.mg X.base CX n f fd ps sp) (o : Own X.K C "__neg__" f) (hr : Room n X.A) (hb : Binds X.K fd ps []) (hx : Passes CX X E) : UnR X (unaryOp .USub) (rU1 C sp E) := by
  intro pins s σ H x v Q I rx h
  obtain ⟨a, dx, fs, rfl, ha, q⟩ := h
  cases rx
  obtain ⟨mA, J, _⟩ := ins_get I.hok ha
  obtain ⟨od, J, _⟩ := J.look
  obtain ⟨m, hF⟩ := I.fr
  exact PySem.W.ksp_neg hF I.ok.mod.kin J o.at_ o.fn (run_at F ⟨hr, rfl⟩ hb hx I v1 q fun v u H' s' I' rv qv => ⟨v, H', I', rv, qv⟩)
/-- an instance of the class at C on the left, an int on the right -/
def rB1 (C : Addr) (sp : Sp) (E : XK) : R2 := fun x y H Q => ∃ a dx fs i, x = .ref a ∧ y = .int i ∧ H a = some (.ins C dx fs) ∧ sp [x, y] H Q E
theorem op_ownI {op : Operator} {fo ro rc : Option Value} (F : FnOk X.prog X.w X.K X.mg X.base CX n f fd ps sp) (o : Own X.K C (PySem.dunder op.info.2) f) (hc : PySem.W.selfFirst X.K C = true)
    (hrr : PySem.W.findIn X.K (.ref C) (dunderR op.info.2) = some rc) (hp : rc = none ∨ ∃ g : Addr, rc = some (.ref g)) (h1 : PySem.W.findIn X.K (.type "int") (PySem.dunder op.info.2) = some fo) (h2 : PySem.W.findIn X.K (.type "int") (dunderR op.info.2) = some ro)
    (hsub : PySem.W.subIn X.K (.type "int") (.ref C) = some false) (hr : Room n X.A) (hb : Binds X.K fd ps []) (hx : Passes CX X E) : OpR X (binaryOp op) (rB1 C sp E) := by
  intro pins s σ H x y v u Q I rx ry h
  obtain ⟨a, dx, fs, i, rfl, rfl, ha, q⟩ := h
  cases rx
  obtain ⟨t, rfl⟩ := ry
  obtain ⟨mA, J, _⟩ := ins_get I.hok ha
  obtain ⟨od, J, _⟩ := J.look
  obtain ⟨m, hF⟩ := I.fr
  exact PySem.W.ksp_binT (T := "int") hF I.ok.mod.kin J rfl hc o.at_ o.fn hrr hp h1 h2 hsub (run_at F ⟨hr, rfl⟩ hb hx I v2i q fun v u H' s' I' rv qv => notImpl rv ⟨v, H', I', rv, qv⟩)
/-- two instances of the class at C -/
def rB2 (C : Addr) (sp : Sp) (E : XK) : R2 := fun x y H Q => ∃ a dx fs b dy gs, x = .ref a ∧ y = .ref b ∧ H a = some (.ins C dx fs) ∧ H b = some (.ins C dy gs) ∧ sp [x, y] H Q E
theorem op_own2 {op : Operator} (F : FnOk X.prog X.w X.K X.mg X.base CX n f fd ps sp) (o : Own X.K C (PySem.dunder op.info.2) f) (hc : PySem.W.selfFirst X.K C = true)
    (hr : Room n X.A) (hb : Binds X.K fd ps []) (hx : Passes CX X E) : OpR X (binaryOp op) (rB2 C sp E) := by
  intro pins s σ H x y v u Q I rx ry h
  obtain ⟨a, dx, fs, b, dy, gs, rfl, rfl, ha, hb', q⟩ := h
  cases rx
  cases ry
  obtain ⟨mA, J, _⟩ := ins_get I.hok ha
  obtain ⟨mB, J', _⟩ := ins_get I.hok hb'
  obtain ⟨od, J, _⟩ := J.look
  obtain ⟨od', J', _⟩ := J'.look
  obtain ⟨m, hF⟩ := I.fr
  exact PySem.W.binop_K hF I.ok.mod.kin J J'.type hc o.at_ o.fn (run_at F ⟨hr, rfl⟩ hb hx I v2 q fun v u H' s' I' rv qv => notImpl rv ⟨v, H', I', rv, qv⟩)
/-- str(x) by the own __str__ -/
def rStrO (C : Addr) (sp : Sp) (E : XK) : List V → Hp → VK → Prop := fun xs H Q => ∃ a dx fs, xs = [.ref a] ∧ H a = some (.ins C dx fs) ∧ sp xs H (fun v H' => (∃ z, v = .str z) ∧ Q v H') E
theorem call_strO (F : FnOk X.prog X.w X.K X.mg X.base CX n f fd ps sp) (o : Own X.K C "__str__" f) (hr : Room (n + 2) X.A) (hb : Binds X.K fd ps []) (hx : Passes CX X E) : CallR X (.type "str") (rStrO C sp E) := by
  intro pins s σ H xs us Q I r h
  obtain ⟨a, dx, fs, rfl, ha, q⟩ := h
  obtain ⟨u, rfl, ru⟩ := vals1 r
  cases ru
  obtain ⟨mA, J, _⟩ := ins_get I.hok ha
  obtain ⟨od, J, _⟩ := J.look
  have sb : Sub X n X.A.in1.in1 := (Sub.in1 (n := n) (Sub.in1 (n := n + 1) ⟨hr, rfl⟩))
  refine PySem.W.kso_call (by have := sb.room.units0; exact this) I.kIn J o.at_ o.fn (run_at F sb hb hx I v1 q fun v u H' s' I' rv qv => ?_)
  obtain ⟨⟨z, rfl⟩, qv⟩ := qv
  obtain ⟨t, rfl⟩ := id rv
  exact ⟨_, H', I', rv, qv⟩
end
end OS
namespace OS
open PySem L2 PySem.Spec PyProof.Rows
/-! ### texts in their order -/
theorem ltc_irr : ∀ a : List Nat, ltCps a a = false
  | [] => rfl
  | a :: r => by simp [ltCps, ltc_irr r]
theorem ltc_trans : ∀ {a b c : List Nat}, ltCps a b = true → ltCps b c = true → ltCps a c = true
  | [], [], _, h, _ => by simp [ltCps] at h
  | [], _ :: _, [], _, h => by simp [ltCps] at h
  | [], _ :: _, _ :: _, _, _ => rfl
  | _ :: _, [], _, h, _ => by simp [ltCps] at h
  | _ :: _, _ :: _, [], _, h => by simp [ltCps] at h
  | a :: r, b :: s, c :: t, h1, h2 => by
    simp only [ltCps, Bool.or_eq_true, decide_eq_true_eq, Bool.and_eq_true, beq_iff_eq] at h1 h2 ⊢
    rcases h1 with h1 | ⟨h1, h1'⟩ <;> rcases h2 with h2 | ⟨h2, h2'⟩
    · left; omega
    · left; omega
    · left; omega
    · right; exact ⟨by omega, ltc_trans h1' h2'⟩
theorem ltc_tot : ∀ a b : List Nat, a ≠ b → ltCps a b = true ∨ ltCps b a = true
  | [], [], h => absurd rfl h
  | [], _ :: _, _ => .inl rfl
  | _ :: _, [], _ => .inr rfl
  | a :: r, b :: t, h => by
    simp only [ltCps, Bool.or_eq_true, decide_eq_true_eq, Bool.and_eq_true, beq_iff_eq]
    rcases Nat.lt_trichotomy a b with q | q | q
    · exact .inl (.inl q)
    · subst q
      rcases ltc_tot r t (fun e => h (by rw [e])) with z | z
      · exact .inl (.inr ⟨rfl, z⟩)
      · exact .inr (.inr ⟨rfl, z⟩)
    · exact .inr (.inl q)
def Lt (a b : Str) : Prop := ltCps a.cps.toList b.cps.toList = true
theorem Lt.irr {a : Str} : ¬ Lt a a := fun h => by
  unfold Lt at h
  rw [ltc_irr] at h
  cases h
theorem Lt.trans {a b c : Str} (h : Lt a b) (k : Lt b c) : Lt a c := ltc_trans h k
theorem Str.ext_list {a b : Str} (h : a.cps.toList = b.cps.toList) : a = b := by
  cases a with | mk x => cases b with | mk y =>
    have : x = y := by rw [← Array.toArray_toList (xs := x), ← Array.toArray_toList (xs := y)]; exact congrArg List.toArray h
    rw [this]
theorem Lt.tot {a b : Str} (h : a ≠ b) : Lt a b ∨ Lt b a := ltc_tot _ _ fun e => h (Str.ext_list e)
/-- strictly rising -/
def Asc (l : List Str) : Prop := l.Pairwise Lt
theorem rising_asc : ∀ (l : List Str) (p : Str), risingS p l = true → (p :: l).Nodup → Asc (p :: l)
  | [], p, _, _ => List.pairwise_singleton _ _
  | x :: r, p, h, nd => by
    have h : (!ltCps x.cps.toList p.cps.toList && risingS x r) = true := h
    rw [Bool.and_eq_true] at h
    obtain ⟨h1, h2⟩ := h
    have nd2 : (x :: r).Nodup := (List.nodup_cons.mp nd).2
    have ih : Asc (x :: r) := rising_asc r x h2 nd2
    have hpx : Lt p x := by
      have hne : p ≠ x := fun e => (List.nodup_cons.mp nd).1 (by rw [e]; exact List.mem_cons_self)
      rcases Lt.tot hne with z | z
      · exact z
      · unfold Lt at z
        rw [z] at h1
        cases h1
    refine List.pairwise_cons.mpr ⟨fun y hy => ?_, ih⟩
    rcases List.mem_cons.mp hy with e | e
    · rw [e]; exact hpx
    · exact hpx.trans ((List.pairwise_cons.mp ih).1 y e)
theorem sorted_asc {l : List Str} (h : sortedS l = true) (nd : l.Nodup) : Asc l := by
  cases l with
  | nil => exact List.Pairwise.nil
  | cons x r => exact rising_asc r x h nd
theorem asc_unique : ∀ {l m : List Str}, Asc l → Asc m → (∀ x, x ∈ l ↔ x ∈ m) → l = m
  | [], [], _, _, _ => rfl
  | [], y :: m, _, _, h => absurd ((h y).mpr List.mem_cons_self) (by simp)
  | x :: l, [], _, _, h => absurd ((h x).mp List.mem_cons_self) (by simp)
  | x :: l, y :: m, hl, hm, h => by
    obtain ⟨l1, l2⟩ := List.pairwise_cons.mp hl
    obtain ⟨m1, m2⟩ := List.pairwise_cons.mp hm
    have e : x = y := by
      rcases List.mem_cons.mp ((h x).mp List.mem_cons_self) with e | e
      · exact e
      · rcases List.mem_cons.mp ((h y).mpr List.mem_cons_self) with f | f
        · exact f.symm
        · exact absurd ((m1 x e).trans (l1 y f)) Lt.irr
    subst e
    rw [asc_unique l2 m2 fun z => ?_]
    constructor
    · intro hz
      rcases List.mem_cons.mp ((h z).mp (List.mem_cons_of_mem _ hz)) with q | q
      · exact absurd (q ▸ l1 z hz) Lt.irr
      · exact q
    · intro hz
      rcases List.mem_cons.mp ((h z).mpr (List.mem_cons_of_mem _ hz)) with q | q
      · exact absurd (q ▸ m1 z hz) Lt.irr
      · exact q
/-! ### coefficients -/
abbrev Cf := List (Str × Int)
def lookO (kvs : Cf) (k : Str) : Option Int := (kvs.find? fun e => decide (e.1 = k)).map (·.2)
/-- the coefficient of a name, 0 where it is not there -/
def look (kvs : Cf) (k : Str) : Int := (lookO kvs k).getD 0
/-- as the pairs of a dict -/
def dk (kvs : Cf) : List (Key × V) := kvs.map fun e => (Sum.inr e.1, V.int e.2)
theorem lookO_cons (e : Str × Int) (r : Cf) (k : Str) : lookO (e :: r) k = if e.1 = k then some e.2 else lookO r k := by
  unfold lookO
  rw [List.find?_cons]
  by_cases h : e.1 = k <;> simp [h]
theorem valV_dk (k : Str) : ∀ kvs : Cf, valV (dk kvs) (Sum.inr k : Key) = (lookO kvs k).map V.int
  | [] => rfl
  | e :: r => by
    have ih := valV_dk k r
    rw [lookO_cons]
    by_cases h : e.1 = k
    · rw [if_pos h]
      show valV ((Sum.inr e.1, V.int e.2) :: dk r) _ = _
      rw [valV_pos (by rw [h])]
      rfl
    · rw [if_neg h]
      show valV ((Sum.inr e.1, V.int e.2) :: dk r) _ = _
      rw [valV_neg (fun q => h (Sum.inr.inj q))]
      exact ih
theorem lookO_mem : ∀ {kvs : Cf} {k : Str} {v : Int}, lookO kvs k = some v → (k, v) ∈ kvs
  | [], k, v, h => by cases h
  | e :: r, k, v, h => by
    rw [lookO_cons] at h
    by_cases q : e.1 = k
    · rw [if_pos q] at h
      cases h
      rw [← q]
      exact List.mem_cons_self
    · rw [if_neg q] at h
      exact List.mem_cons_of_mem _ (lookO_mem h)
theorem lookO_none : ∀ {kvs : Cf} {k : Str}, lookO kvs k = none ↔ k ∉ kvs.map (·.1)
  | [], k => by simp [lookO]
  | e :: r, k => by
    rw [lookO_cons, List.map_cons, List.mem_cons]
    by_cases q : e.1 = k
    · rw [if_pos q]
      constructor
      · intro h; cases h
      · intro h; exact absurd (Or.inl q.symm) h
    · rw [if_neg q, lookO_none]
      constructor
      · rintro h (z | z)
        · exact q z.symm
        · exact h z
      · intro h z; exact h (Or.inr z)
theorem lookO_of_mem : ∀ {kvs : Cf} {k : Str} {v : Int}, (kvs.map (·.1)).Nodup → (k, v) ∈ kvs → lookO kvs k = some v
  | [], k, v, _, h => by cases h
  | e :: r, k, v, nd, h => by
    rw [List.map_cons] at nd
    obtain ⟨n1, n2⟩ := List.nodup_cons.mp nd
    rw [lookO_cons]
    rcases List.mem_cons.mp h with q | q
    · rw [← q, if_pos rfl]
    · rw [if_neg (fun z => n1 (by rw [z]; exact List.mem_map.mpr ⟨_, q, rfl⟩)), lookO_of_mem n2 q]
theorem look_none {kvs : Cf} {k : Str} (h : k ∉ kvs.map (·.1)) : look kvs k = 0 := by
  unfold look
  rw [lookO_none.mpr h]
  rfl
theorem asc_nodup {l : List Str} (h : Asc l) : l.Nodup := List.Pairwise.imp (fun {a b} h e => by subst e; exact Lt.irr h) h
/-- the coefficients of a form: names strictly rising, none 0 -/
structure Can (cs : Cf) : Prop where
  asc : Asc (cs.map (·.1))
  nz : ∀ e ∈ cs, e.2 ≠ 0
theorem Can.nd {cs : Cf} (h : Can cs) : (cs.map (·.1)).Nodup := asc_nodup h.asc
theorem Can.mem_iff {cs : Cf} (h : Can cs) (k : Str) : k ∈ cs.map (·.1) ↔ look cs k ≠ 0 := by
  constructor
  · intro hk
    obtain ⟨e, he, rfl⟩ := List.mem_map.mp hk
    have : lookO cs e.1 = some e.2 := lookO_of_mem h.nd he
    unfold look
    rw [this]
    exact h.nz e he
  · intro hk
    cases Classical.em (k ∈ cs.map (·.1)) with
    | inl z => exact z
    | inr z => exact absurd (look_none z) hk
theorem Can.eq_map {cs : Cf} (h : Can cs) : cs = (cs.map (·.1)).map fun k => (k, look cs k) := by
  rw [List.map_map]
  conv => lhs; rw [← List.map_id cs]
  refine List.map_congr_left fun e he => ?_
  show e = (e.1, look cs e.1)
  unfold look
  rw [lookO_of_mem h.nd (k := e.1) (v := e.2) he]
  rfl
theorem Can.unique {cs ds : Cf} (h : Can cs) (k : Can ds) (e : ∀ x, look cs x = look ds x) : cs = ds := by
  have hm : cs.map (·.1) = ds.map (·.1) := asc_unique h.asc k.asc fun x => by rw [h.mem_iff, k.mem_iff, e]
  rw [h.eq_map, k.eq_map, hm]
  refine List.map_congr_left fun x _ => ?_
  rw [e]
/-- the names of ys whose coefficient is not 0 -/
def pick (g : Str → Int) (ys : List Str) : Cf := (ys.filter fun k => decide (g k ≠ 0)).map fun k => (k, g k)
theorem pick_names (g : Str → Int) (ys : List Str) : (pick g ys).map (·.1) = ys.filter fun k => decide (g k ≠ 0) := by
  unfold pick
  rw [List.map_map]
  exact List.map_id _
theorem pick_can {g : Str → Int} {ys : List Str} (h : Asc ys) : Can (pick g ys) := by
  refine ⟨?_, ?_⟩
  · rw [pick_names]
    exact List.Pairwise.filter _ h
  · intro e he
    unfold pick at he
    obtain ⟨k, hk, rfl⟩ := List.mem_map.mp he
    exact of_decide_eq_true (List.mem_filter.mp hk).2
theorem pick_look {g : Str → Int} {ys : List Str} (h : Asc ys) (hs : ∀ k, g k ≠ 0 → k ∈ ys) (k : Str) : look (pick g ys) k = g k := by
  cases Classical.em (g k = 0) with
  | inl z =>
    rw [z]
    refine look_none ?_
    rw [pick_names]
    intro m
    exact of_decide_eq_true (List.mem_filter.mp m).2 z
  | inr z =>
    have : lookO (pick g ys) k = some (g k) := lookO_of_mem (pick_can h).nd (List.mem_map.mpr ⟨k, List.mem_filter.mpr ⟨hs k z, decide_eq_true z⟩, rfl⟩)
    unfold look
    rw [this]
    rfl
theorem pick_snoc (g : Str → Int) (ys : List Str) (y : Str) : pick g (ys ++ [y]) = if g y ≠ 0 then pick g ys ++ [(y, g y)] else pick g ys := by
  unfold pick
  rw [List.filter_append]
  by_cases h : g y = 0
  · rw [if_neg (fun z => z h)]
    simp [h]
  · rw [if_pos h]
    simp [h]
theorem dk_snoc (cs : Cf) (k : Str) (v : Int) : dk (cs ++ [(k, v)]) = dk cs ++ [(Sum.inr k, V.int v)] := by
  unfold dk
  rw [List.map_append]
  rfl
theorem dk_put_new {cs : Cf} {k : Str} {v : Int} (h : k ∉ cs.map (·.1)) : putK (dk cs) (Sum.inr k : Key) (V.int v) = dk (cs ++ [(k, v)]) := by
  rw [putK_new _ (by rw [valV_dk, lookO_none.mpr h]; rfl), dk_snoc]
theorem dk_len (cs : Cf) : (dk cs).length = cs.length := List.length_map _
/-- d[k] = v -/
def putC (cs : Cf) (k : Str) (v : Int) : Cf := if k ∈ cs.map (·.1) then cs.map (fun e => if e.1 = k then (e.1, v) else e) else cs ++ [(k, v)]
theorem dk_put (cs : Cf) (k : Str) (v : Int) : putK (dk cs) (Sum.inr k : Key) (V.int v) = dk (putC cs k v) := by
  unfold putC
  by_cases h : k ∈ cs.map (·.1)
  · rw [if_pos h]
    unfold putK
    have ha : ((dk cs).any fun kv => decide (kv.1 = (Sum.inr k : Key))) = true := by
      obtain ⟨e, he, q⟩ := List.mem_map.mp h
      exact List.any_eq_true.mpr ⟨(Sum.inr e.1, V.int e.2), List.mem_map.mpr ⟨e, he, rfl⟩, decide_eq_true (by rw [← q])⟩
    rw [if_pos ha]
    unfold dk
    rw [List.map_map, List.map_map]
    refine List.map_congr_left fun e _ => ?_
    by_cases q : e.1 = k
    · simp [q]
    · have q' : ¬ (Sum.inr e.1 : Key) = Sum.inr k := fun z => q (Sum.inr.inj z)
      simp [q, q']
  · rw [if_neg h, dk_put_new h]
theorem putC_look (cs : Cf) (k : Str) (v : Int) (j : Str) : lookO (putC cs k v) j = if j = k then some v else lookO cs j := by
  have e1 := valV_dk j (putC cs k v)
  rw [← dk_put, valV_put, valV_dk] at e1
  by_cases h : j = k
  · rw [if_pos h]
    rw [if_pos (by rw [h])] at e1
    cases q : lookO (putC cs k v) j with
    | none => rw [q] at e1; cases e1
    | some z => rw [q] at e1; cases e1; rfl
  · rw [if_neg h]
    rw [if_neg (fun z => h (Sum.inr.inj z))] at e1
    cases q : lookO (putC cs k v) j with
    | none => rw [q] at e1; cases q2 : lookO cs j with
      | none => rfl
      | some z => rw [q2] at e1; cases e1
    | some z => rw [q] at e1; cases q2 : lookO cs j with
      | none => rw [q2] at e1; cases e1
      | some y => rw [q2] at e1; cases e1; rfl
theorem putC_names (cs : Cf) (k : Str) (v : Int) : (putC cs k v).map (·.1) = if k ∈ cs.map (·.1) then cs.map (·.1) else cs.map (·.1) ++ [k] := by
  unfold putC
  by_cases h : k ∈ cs.map (·.1)
  · rw [if_pos h, if_pos h, List.map_map]
    refine List.map_congr_left fun e _ => ?_
    show (if e.1 = k then (e.1, v) else e).1 = e.1
    split <;> rfl
  · rw [if_neg h, if_neg h, List.map_append]
    rfl
theorem putC_nd {cs : Cf} {k : Str} {v : Int} (h : (cs.map (·.1)).Nodup) : ((putC cs k v).map (·.1)).Nodup := by
  rw [putC_names]
  by_cases q : k ∈ cs.map (·.1)
  · rw [if_pos q]; exact h
  · rw [if_neg q]; exact nd_snoc h q
theorem putC_len (cs : Cf) (k : Str) (v : Int) : (putC cs k v).length ≤ cs.length + 1 := by
  have := congrArg List.length (putC_names cs k v)
  rw [List.length_map] at this
  rw [this]
  split
  · rw [List.length_map]; omega
  · rw [List.length_append, List.length_map]; exact Nat.le_refl _
theorem putC_mem {cs : Cf} {k : Str} {v : Int} {e : Str × Int} (h : e ∈ putC cs k v) : e = (k, v) ∨ e ∈ cs := by
  unfold putC at h
  by_cases q : k ∈ cs.map (·.1)
  · rw [if_pos q] at h
    obtain ⟨f, hf, rfl⟩ := List.mem_map.mp h
    by_cases z : f.1 = k
    · rw [if_pos z, z]; exact Or.inl rfl
    · rw [if_neg z]; exact Or.inr hf
  · rw [if_neg q] at h
    rcases List.mem_append.mp h with z | z
    · exact Or.inr z
    · exact Or.inl (List.mem_singleton.mp z)
end OS
namespace OS
open PySem L2 PySem.Spec PyProof.Rows
section
variable {X : Cx} {CX : CXT} {n : Nat} {f C : Addr} {fd : FuncData} {ps : List Str} {sp : Sp} {E : XK} {a b : Expr} {ta tb : TE} {pos : Pos}
/-- an instance asked by [..], in, len -/
def rG (C : Addr) (sp : Sp) (E : XK) : R2 := fun x y H Q => ∃ p dx fs, x = .ref p ∧ H p = some (.ins C dx fs) ∧ sp [x, y] H Q E
/-- o[i] by the own __getitem__ -/
theorem pe_getO (F : FnOk X.prog X.w X.K X.mg X.base CX n f fd ps sp) (o : Own X.K C "__getitem__" f) (fi : PySem.W.fnIn X.K f = true) (hr : Room (n + 1) X.A) (hb : Binds X.K fd ps []) (hx : Passes CX X E) (ha : PE X a ta) (hc : PE X b tb)
    (hs : ∀ x i, subscripted b true (.ref x) i = runValue (.builtin "lifetime.subscript" ⟨[.ref x, i], []⟩) := by intro _ _; rfl) : PE X (.Subscript a b pos) (tOp (rG C sp E) ta tb) := by
  refine ⟨fun pins s σ H Q I h => ?_⟩
  refine Subscript_ (binT ha hc I h fun v u s2 x y H2 I2 rx ry q => ?_)
  obtain ⟨p, dx, fs, rfl, hp, q⟩ := q
  cases rx
  obtain ⟨mA, J, _⟩ := ins_get I2.hok hp
  obtain ⟨od, J, _⟩ := J.look
  obtain ⟨m, hF⟩ := I2.fr
  have rv : Vals [V.ref p, y] [Value.ref p, u] := .cons rfl (.cons ry .nil)
  exact PySem.W.sub_K hF I2.ok.mod.kin J o.at_ fi o.fn (run_at F (Sub.in1 (n := n) ⟨hr, rfl⟩) hb hx I2 rv q fun v u H' s' I' rv qv => ⟨v, H', I', rv, qv⟩) (hs _ _)
/-- k in o, k not in o by the own __contains__ -/
def rInO (C : Addr) (sp : Sp) (E : XK) (g : Bool → Bool) : R2 := fun x y H Q => ∃ p dx fs, y = .ref p ∧ H p = some (.ins C dx fs) ∧ sp [y, x] H (fun v H' => ∃ k, v = .bl k ∧ Q (.bl (g k)) H') E
theorem op_inO (F : FnOk X.prog X.w X.K X.mg X.base CX n f fd ps sp) (o : Own X.K C "__contains__" f) (hr : Room n X.A) (hb : Binds X.K fd ps []) (hx : Passes CX X E) : OpR X (compareOp .In) (rInO C sp E id) := by
  intro pins s σ H x y v u Q I rx ry h
  obtain ⟨p, dx, fs, rfl, hp, q⟩ := h
  cases ry
  obtain ⟨mA, J, _⟩ := ins_get I.hok hp
  obtain ⟨od, J, _⟩ := J.look
  obtain ⟨m, hF⟩ := I.fr
  have rv : Vals [V.ref p, x] [Value.ref p, v] := .cons rfl (.cons rx .nil)
  refine PySem.W.in_K hF I.ok.mod.kin J o.at_ o.fn (run_at F ⟨hr, rfl⟩ hb hx I rv q fun v u H' s' I' rv qv => ?_)
  obtain ⟨k, rfl, qv⟩ := qv
  cases rv
  exact wpAny_truthy_bool ⟨.bl (id k), H', I', rfl, qv⟩
/-- len(o) by the own __len__ -/
def rLenO (C : Addr) (sp : Sp) (E : XK) : List V → Hp → VK → Prop := fun xs H Q => ∃ p dx fs, xs = [.ref p] ∧ H p = some (.ins C dx fs) ∧ sp xs H (fun v H' => (∃ i : Int, v = .int i ∧ 0 ≤ i ∧ i < 2 ^ 63) ∧ Q v H') E
theorem call_lenO (F : FnOk X.prog X.w X.K X.mg X.base CX n f fd ps sp) (o : Own X.K C "__len__" f) (hr : Room (n + 1) X.A) (hb : Binds X.K fd ps []) (hx : Passes CX X E) : CallR X (.builtin "len") (rLenO C sp E) := by
  intro pins s σ H xs us Q I r h
  obtain ⟨p, dx, fs, rfl, hp, q⟩ := h
  obtain ⟨u, rfl, ru⟩ := vals1 r
  cases ru
  obtain ⟨mA, J, _⟩ := ins_get I.hok hp
  obtain ⟨od, J, _⟩ := J.look
  obtain ⟨m, hF⟩ := I.fr
  refine PySem.W.len_K hF I.ok.mod.kin J o.at_ o.fn (run_at F (Sub.in1 (n := n) ⟨hr, rfl⟩) hb hx I v1 q fun v u H' s' I' rv qv => ?_)
  obtain ⟨⟨i, rfl, h0, h1⟩, qv⟩ := qv
  obtain ⟨t, rfl⟩ := rv
  exact ⟨⟨h0, h1⟩, .int i, H', I'.tok _, ⟨_, rfl⟩, qv⟩
end
/-! ### a new instance where what is raised is wished for at the caller's slots -/
section
variable {X : Cx} {CX : CXT} {k n : Nat} {f C : Addr} {fd : FuncData} {ps ks : List Str} {sp : Sp} {E : L2.St → XK} {x : Str} {p pos : Pos} {e : Expr} {es : List Expr} {kws : List Keyword} {t tk : TA} {g : List Value → List Value → List Value} {gV : List V → List V → List V} {ds : List Value} {dvs : List V}
theorem run_makeKS {pins : List (Addr × Obj)} {σ : L2.St} {H : Hp} {s : Shared} {Q : VK} {us ws : List Value} {vs zs : List V} (M : Mk X.K C f) (F : FnOk X.prog X.w X.K X.mg X.base CX k f fd ps sp) (hr : Room (k + 1) X.A) (hb : KBn X.K fd ps (n + 1) ks g gV) (hx : PassesAt CX X σ (E σ))
    (I : Inv X pins σ H s) (r : Vals vs us) (rz : Vals zs ws) (l1 : vs.length = n) (l2 : zs.length = ks.length)
    (h : ∀ x dx, H x = none → H dx = none → dx ≠ x → sp (gV (.ref x :: vs) zs) (upd (upd H dx (.own x)) x (.ins C dx [])) (fun v H2 => v = .non ∧ Q (.ref x) H2) (E σ)) :
    wpAny (model X.prog X.w) X.A (call (.ref C) us (ks.zip ws)) (EP X pins σ Q) X.xe s := by
  have hq := h (s.heap.objs.size + 1) s.heap.objs.size (I.hok.fresh (Nat.le_succ _)) (I.hok.fresh (Nat.le_refl _)) (Nat.ne_of_lt (Nat.lt_succ_self _))
  have I2 := Inv.made (C := C) I
  have r1 : Vals (V.ref (s.heap.objs.size + 1) :: vs) (Value.ref (s.heap.objs.size + 1) :: us) := .cons rfl r
  have r2 := hb.rel r1 rz
  have n1 : (Value.ref (s.heap.objs.size + 1) :: us).length = n + 1 := by
    rw [List.length_cons, ← r.length, l1]
  refine wpAny_call (make_map (f := f) I.kIn M.makes M.init (beq_iff_eq.mp M.fn) (codeAny_mono (F.run _ X.stack _ _ ⟨Value.ref (s.heap.objs.size + 1) :: us, ks.zip ws⟩ (g (Value.ref (s.heap.objs.size + 1) :: us) ws) _ _ (E σ) (hr.make C us (ks.zip ws))
    (I2.env0.make C us (ks.zip ws)) (hb.to _ (Value.ref (s.heap.objs.size + 1) :: us) ws I2.kIn n1 (rz.length.symm.trans l2)) r2 hq) fun r s' hq' => ?_))
  cases r with
  | error e => exact hx pins _ _ e s' I2 hq'
  | ok fl =>
    cases fl with
    | ret u =>
      obtain ⟨v, H', I3, rv, ev, q3⟩ := I2.after hq'
      subst ev
      exact ⟨rv, ⟨V.ref (s.heap.objs.size + 1), H', I3, rfl, q3⟩⟩
    | next => exact False.elim hq'
    | brk => exact False.elim hq'
    | cont => exact False.elim hq'
/-- C(e, .., k = v, ..), whatever of them is there -/
def tMakeKS (C : Addr) (n m : Nat) (sp : Sp) (gV : List V → List V → List V) (E : L2.St → XK) (t tk : TA) : TE := fun σ H Q => t σ H fun vs H1 => tk σ H1 fun zs H2 => vs.length = n ∧ zs.length = m ∧ ∀ x dx, H2 x = none → H2 dx = none → dx ≠ x →
  sp (gV (.ref x :: vs) zs) (upd (upd H2 dx (.own x)) x (.ins C dx [])) (fun v H3 => v = .non ∧ Q (.ref x) H3) (E σ)
theorem pe_makeKS0 (M : Mk X.K C f) (F : FnOk X.prog X.w X.K X.mg X.base CX k f fd ps sp) (hr : Room (k + 1) X.A) (hg : Gl X x) (hm : X.mg x = some (.ref C)) (hb : KBn X.K fd ps 1 ks g gV) (hx : ∀ σ, PassesAt CX X σ (E σ)) (hkw : PK X kws tk)
    (hall : (backToKw pos (keywordEach kws X.env)).all (·.1.isSome) = true := by rfl) (hks : (backToKw pos (keywordEach kws X.env)).filterMap (·.1) = ks := by rfl) (hdb : (x == ("__debug__" : Str)) = false := by decide)
    (hpl : ((backTo pos (starEach [] X.env)).any (·.1) || (backToKw pos (keywordEach kws X.env)).any (·.1.isNone)) = false := by rfl) :
    PE X (.Call (.Name x p) [] kws pos) (tMakeKS C 0 ks.length sp gV E tNil tk) := by
  refine ⟨fun pins s σ H Q I h => ?_⟩
  refine wpAny_Call_Name_kw (ld_glob I hg hm ?_ hdb)
  refine PySem.W.callWith_KW0 (h₀ := X.base) I.ok.mod.kin M.kp hall ?_ hpl
  refine thn (hkw.run pos pins s σ H _ I h) fun ws s2 ⟨zs, H2, I2, rz, l1, l2, q2⟩ => ⟨I2.kIn, ?_⟩
  rw [hks]
  exact run_makeKS (us := []) (vs := []) M F hr hb (hx σ) I2 .nil rz rfl l2 q2
theorem pe_makeKS (M : Mk X.K C f) (F : FnOk X.prog X.w X.K X.mg X.base CX k f fd ps sp) (hr : Room (k + 1) X.A) (hg : Gl X x) (hm : X.mg x = some (.ref C)) (hb : KBn X.K fd ps (n + 1) ks g gV) (hx : ∀ σ, PassesAt CX X σ (E σ)) (ha : PA X (e :: es) t) (hkw : PK X kws tk)
    (hall : (backToKw pos (keywordEach kws X.env)).all (·.1.isSome) = true := by rfl) (hks : (backToKw pos (keywordEach kws X.env)).filterMap (·.1) = ks := by rfl) (hdb : (x == ("__debug__" : Str)) = false := by decide)
    (he : starEach (e :: es) X.env = (false, eval e X.env) :: starEach es X.env := by rfl) (hpl : ((backTo pos (starEach (e :: es) X.env)).any (·.1) || (backToKw pos (keywordEach kws X.env)).any (·.1.isNone)) = false := by rfl) :
    PE X (.Call (.Name x p) (e :: es) kws pos) (tMakeKS C n ks.length sp gV E t tk) := by
  refine ⟨fun pins s σ H Q I h => ?_⟩
  refine wpAny_Call_Name_kw (ld_glob I hg hm ?_ hdb)
  refine PySem.W.callWith_KW (h₀ := X.base) I.ok.mod.kin M.kp hall (thn (ha.run pos pins s σ H _ I h) fun us s1 ⟨vs, H1, I1, r, q⟩ => ?_) hpl he
  refine thn (hkw.run pos pins s1 σ H1 _ I1 q) fun ws s2 ⟨zs, H2, I2, rz, l1, l2, q2⟩ => ⟨I2.kIn, ?_⟩
  rw [hks]
  exact run_makeKS M F hr hb (hx σ) I2 r rz l1 l2 q2
end
end OS
namespace OS
open PySem L2
/-- a def of the module's, by its name -/
structure Df (K : PySem.W.Frag) (mg : Str → Option Value) (x : Str) (f : Addr) : Prop where
  mg : mg x = some (.ref f)
  kp : PySem.W.keepIn K (.ref f) = true
theorem StAt.upd {H : Hp} {st cl : Addr} {m : Nat} {D : Addr} {o : HO} (S : StAt H st cl m) (h1 : D ≠ st) (h2 : D ≠ cl) : StAt (upd H D o) st cl m := by
  obtain ⟨⟨p, c, a, b⟩, ⟨ns, e, l⟩, n⟩ := S
  exact ⟨⟨p, c, by rw [upd_ne h1.symm]; exact a, b⟩, ⟨ns, by rw [upd_ne h2.symm]; exact e, l⟩, n⟩
theorem StAt.nst {H : Hp} {st cl : Addr} {m : Nat} {D : Addr} (S : StAt H st cl m) (h : H D = none) : D ≠ st ∧ D ≠ cl := by
  obtain ⟨⟨p, c, a, b⟩, ⟨ns, e, l⟩, n⟩ := S
  exact ⟨(ne_of_none a h).symm, (ne_of_none e h).symm⟩
theorem StAt.same {H H' : Hp} {st cl : Addr} {m : Nat} (S : StAt H st cl m) (h : Same H H') : StAt H' st cl m := by
  obtain ⟨⟨p, c, a, b⟩, ⟨ns, e, l⟩, n⟩ := S
  exact ⟨⟨p, c, h _ _ a, b⟩, ⟨ns, h _ _ e, l⟩, n⟩
theorem sameUpd {H H' : Hp} {p : Addr} {o : HO} (s : Same H H') (h : H p = none) : Same H (L2.upd H' p o) := fun b u e => by
  rw [upd_ne (ne_of_none e h)]
  exact s b u e
end OS
namespace OS
open PySem L2
/-! ### numbers and terms as texts -/
def sg (n : Int) : Str := if n < 0 then " - " else " + "
def dec (n : Int) : Str := toString n
def aint (n : Int) : Int := if n < 0 then -n else n
def term (z : Str) (v : Int) : Str := sg v ++ (if aint v = 1 then z else dec (aint v) ++ (Str.ofString "*") ++ z)
theorem log2_lt {i : Int} (h : i.natAbs < 10 ^ 64) : i.natAbs.log2 < 1920 := by
  by_cases h0 : i.natAbs = 0
  · rw [h0]; decide
  · refine (Nat.log2_lt h0).mpr (Nat.lt_of_lt_of_le h ?_)
    decide +kernel
structure Pc (mg : Str → Option Value) : Prop where
  piece : ∃ t, mg "PIECE" = some (.int (10 ^ 64) t)
  str : mg "str" = none
  abs : mg "abs" = none
def spDec : Sp := fun vs H Q _ => ∃ n : Int, vs = [.int n] ∧ 0 ≤ n ∧ n < 10 ^ 64 ∧ ∀ H', Same H H' → Q (.str (dec n)) H'
def spSgn : Sp := fun vs H Q _ => ∃ (n : Int) (z : Str), vs = [.int n, .str z] ∧ z.length ≤ 1000 ∧ Q (.str (sg n ++ z)) H
def spTerm : Sp := fun vs H Q _ => ∃ (n : Int) (z : Str), vs = [.str z, .int n] ∧ z.length ≤ 10 ∧ aint n < 10 ^ 64 ∧ ∀ H', Same H H' → Q (.str (term z n)) H'
theorem Str.empty_app (z : Str) : Str.empty ++ z = z := Str.ext_list (by
  show (TL.tl (Str.empty ++ z)) = _
  rw [TL.tl_append]
  rfl)
theorem Str.app_assoc (a b c : Str) : (a ++ b) ++ c = a ++ (b ++ c) := Str.ext_list (by
  show (TL.tl ((a ++ b) ++ c)) = TL.tl (a ++ (b ++ c))
  rw [TL.tl_append, TL.tl_append, TL.tl_append, TL.tl_append, List.append_assoc])
theorem len_app (x y : Str) : (x ++ y).length = x.length + y.length := by
  have e : (TL.tl (x ++ y)).length = (TL.tl x).length + (TL.tl y).length := by rw [TL.tl_append, List.length_append]
  rw [Str.len_list, Str.len_list, Str.len_list]
  exact e
theorem sg_len (n : Int) : (sg n).length = 3 := by
  unfold sg
  split <;> decide +kernel
theorem numL_len {n : Nat} (h : n < 10 ^ 64) : (TL.numL n).length ≤ 64 := by
  unfold TL.numL
  rw [List.length_map]
  exact (Nat.length_toDigits_le_iff (by decide) (by decide)).mpr h
theorem dec_len {n : Int} (h0 : 0 ≤ n) (h : n < 10 ^ 64) : (dec n).length ≤ 64 := by
  obtain ⟨m, rfl⟩ : ∃ m : Nat, n = (m : Int) := ⟨n.toNat, by omega⟩
  have hm : m < 10 ^ 64 := by omega
  rw [Str.len_list]
  show (TL.tl (Str.ofString (toString ((m : Nat) : Int)))).length ≤ 64
  rw [TL.tl_num]
  exact numL_len hm
section
variable {P : Program} {w : World} {K : PySem.W.Frag} {mg : Str → Option Value} {base : Heap}
theorem scDec : FnScope ["number", "pieces", "piece"] ["number"] (defScope sDec) := ⟨rfl, rfl, rfl, by decide +kernel, rfl, by decide +kernel, by decide +kernel⟩
theorem ok_dec {f : Addr} {fd : FuncData} (F : Fun K "_decimal" "_decimal" sDec f fd) (T : Pc mg) : FnOk P w K mg base CX0 1 f fd ["number"] spDec := by
  obtain ⟨⟨t, mP⟩, mS, mA⟩ := T
  refine F.ok scDec (fun vs H Q E h => ?_) (fun cdv A outer s H vs Q E hr h => ?_)
  · obtain ⟨n, rfl, _⟩ := h
    rfl
  · obtain ⟨n, rfl, h0, h1, k⟩ := h
    refine ⟨_, pss_cons (ps_set (i := 1) scDec.nd rfl (Or.inl rfl) (pe_lst pa_nil))
      (pss_cons (ps_while PassesOwn.never (pt_cmpR op_ge (pv 0) (pe_gi rfl mP) (nomark _)) pss_never)
      (pss_cons (ps_expr (pe_bm PySem.F.plainAttrs_list PySem.F.slot_list_append PySem.F.type_list_append mt_append (pv 1) (pa_cons (pe_callTy call_str_int (by rfl) mS (by decide +kernel) (pa_cons (pv 0) pa_nil)) pa_nil)))
      (pss_one (ps_ret (pe_join pe_str (pe_revL (pv 1))))))), ?_⟩
    refine ⟨(by show 0 ≤ sizeLine; decide), fun p hp => ?_⟩
    refine while_by (fun σ H' => σ = [some (.int n), some (.ref p), none] ∧ H' = upd H p (.lst [])) (fun _ _ => 0) ⟨rfl, rfl⟩ ?_ (fun σ H Q Q' hq ⟨a, e, i, j, e1, e2, k2, e3, q⟩ => ⟨a, e, i, j, e1, e2, k2, e3, hq _ _ q⟩)
    rintro σ H' ⟨rfl, rfl⟩
    refine ⟨_, rfl, _, _, rfl, rfl, _, rfl, ?_⟩
    rw [decide_eq_false (by omega)]
    refine iteF ?_
    refine ⟨_, rfl, .inl ⟨rfl, _, SqL.of upd_same⟩, _, rfl, n, rfl, log2_lt (by omega), p, [], _, rfl, rfl, upd_same, (by show 0 < sizeLine; decide), ?_⟩
    refine ⟨⟨_, rfl⟩, _, rfl, p, [V.str (dec n)], rfl, SqL.of upd_same, fun q hq => ?_⟩
    refine ⟨_, q, [dec n], rfl, rfl, .inl (SqL.of upd_same), ?_, ?_⟩
    · have := dec_len h0 h1
      show ((dec n).length + 0) + 1 * (Str.ofString "").length ≤ _
      have e : (Str.ofString "").length = 0 := by decide +kernel
      omega
    · rw [TL.join_eq]
      refine k _ fun b o e => ?_
      have hb := ne_of_none e hp
      have : upd (upd H p (.lst [])) p (.lst ([] ++ [V.str (dec n)])) b = some o := by rw [upd_ne hb, upd_ne hb]; exact e
      rw [upd_ne (ne_of_none this hq)]
      exact this
theorem scSgn : FnScope ["number", "text"] ["number", "text"] (defScope sSgn) := ⟨rfl, rfl, rfl, by decide +kernel, rfl, by decide +kernel, by decide +kernel⟩
theorem ok_sgn {f : Addr} {fd : FuncData} (F : Fun K "_signed" "_signed" sSgn f fd) : FnOk P w K mg base CX0 1 f fd ["number", "text"] spSgn := by
  refine F.ok scSgn (fun vs H Q E h => ?_) (fun cdv A outer s H vs Q E hr h => ?_)
  · obtain ⟨n, z, rfl, _⟩ := h
    rfl
  · obtain ⟨n, z, rfl, hz, k⟩ := h
    refine ⟨_, pss_one (ps_ret (pe_ifExp (pt_cmpR op_lt (pv 0) pe_int (nomark _)) (pe_joined (.cons pe_str (.cons (pe_fmt (pv 1)) .nil))) (pe_joined (.cons pe_str (.cons (pe_fmt (pv 1)) .nil))))), ?_⟩
    have hs : z.length ≤ sizeLine := Nat.le_of_lt (small1000 hz)
    refine ⟨_, rfl, _, _, rfl, rfl, _, rfl, ?_⟩
    have hl3 : (sg n ++ z).length ≤ sizeLine := by rw [len_app, sg_len]; exact Nat.le_trans (by omega : 3 + z.length ≤ 1003) (by decide)
    have h3 : (sg n).length ≤ sizeLine := by rw [sg_len]; decide
    unfold sg at k hl3 h3
    by_cases hn : n < 0
    · rw [decide_eq_true hn]
      refine iteT ?_
      rw [if_pos hn] at k hl3 h3
      refine ⟨_, rfl, by rw [Str.empty_app]; exact h3, ?_⟩
      refine ⟨_, rfl, .inl ⟨z, rfl, hs, z, rfl, ?_, ?_⟩⟩
      · rw [Str.empty_app]; exact hl3
      · rw [Str.empty_app]; exact k
    · rw [decide_eq_false hn]
      refine iteF ?_
      rw [if_neg hn] at k hl3 h3
      refine ⟨_, rfl, by rw [Str.empty_app]; exact h3, ?_⟩
      refine ⟨_, rfl, .inl ⟨z, rfl, hs, z, rfl, ?_, ?_⟩⟩
      · rw [Str.empty_app]; exact hl3
      · rw [Str.empty_app]; exact k
theorem scTerm : FnScope ["name", "coefficient"] ["name", "coefficient"] (defScope sTerm) := ⟨rfl, rfl, rfl, by decide +kernel, rfl, by decide +kernel, by decide +kernel⟩
theorem ok_term {f fS fD : Addr} {fd dS dD : FuncData} (F : Fun K "_term" "_term" sTerm f fd) (T : Pc mg) (ES : FnOk P w K mg base CX0 1 fS dS ["number", "text"] spSgn) (GS : Df K mg "_signed" fS) (bS : Binds K dS ["number", "text"] [])
    (ED : FnOk P w K mg base CX0 1 fD dD ["number"] spDec) (GD : Df K mg "_decimal" fD) (bD : Binds K dD ["number"] []) : FnOk P w K mg base CX0 2 f fd ["name", "coefficient"] spTerm := by
  refine F.ok scTerm (fun vs H Q E h => ?_) (fun cdv A outer s H vs Q E hr h => ?_)
  · obtain ⟨n, z, rfl, _⟩ := h
    rfl
  · obtain ⟨n, z, rfl, hz, hn, k⟩ := h
    refine ⟨_, pss_cons (ps_if (pt_cmpR op_eq (pe_callB call_abs (by rfl) T.abs (by decide +kernel) (pa_cons (pv 1) pa_nil)) pe_int (nomark _)) (pss_one (ps_ret (pe_call ES hr rfl GS.mg GS.kp bS .nil pass0 (pa_cons (pv 1) (pa_cons (pv 0) pa_nil))))) pss_nil)
      (pss_one (ps_ret (pe_call ES hr rfl GS.mg GS.kp bS .nil pass0 (pa_cons (pv 1) (pa_cons
        (pe_joined (.cons (pe_fmt (pe_call ED hr rfl GD.mg GD.kp bD .nil pass0 (pa_cons (pe_callB call_abs (by rfl) T.abs (by decide +kernel) (pa_cons (pv 1) pa_nil)) pa_nil))) (.cons pe_str (.cons (pe_fmt (pv 0)) .nil)))) pa_nil))))), ?_⟩
    have ha0 : 0 ≤ aint n := by unfold aint; split <;> omega
    refine ⟨_, rfl, _, rfl, rfl, _, rfl, ?_⟩
    show if decide (V.int (aint n) = V.int 1) = true then _ else _
    refine ite2 (fun h1 => ?_) (fun h1 => ?_)
    · have h1' : aint n = 1 := V.int.inj (of_decide_eq_true h1)
      refine ⟨_, rfl, _, rfl, n, z, rfl, by omega, ?_⟩
      have := k H (Same.refl H)
      unfold term at this
      rw [if_pos h1'] at this
      exact this
    · have h1' : ¬ aint n = 1 := fun e => h1 (decide_eq_true (congrArg V.int e))
      refine ⟨_, rfl, _, rfl, _, rfl, aint n, rfl, ha0, hn, fun H2 s2 => ?_⟩
      have hd := dec_len ha0 hn
      have hs1 : (dec (aint n)).length ≤ sizeLine := Nat.le_of_lt (small1000 (by omega))
      have h1s : (Str.ofString "*").length = 1 := by decide +kernel
      refine .inl ⟨_, rfl, hs1, _, rfl, ?_, _, rfl, ?_, _, rfl, .inl ⟨z, rfl, Nat.le_of_lt (small1000 (by omega)), _, rfl, ?_, ?_⟩⟩
      · rw [Str.empty_app]; exact hs1
      · rw [Str.empty_app, len_app, h1s]; exact Nat.le_of_lt (small1000 (by omega))
      · rw [Str.empty_app, len_app, len_app, h1s]; exact Nat.le_of_lt (small1000 (by omega))
      · rw [Str.empty_app]
        refine ⟨n, _, rfl, ?_, ?_⟩
        · rw [len_app, len_app, h1s]; omega
        · have := k H2 s2
          unfold term at this
          rw [if_neg h1'] at this
          exact this
end
end OS
namespace OS
open PySem L2
/-- a dict comprehension over anything walked -/
theorem dc_it {J : It} {n : Nat} {G : Hp → Prop} {Y : Nat → Hp → V → Hp → Prop} (w : Walk J n G Y) {g : TG} {tt : TT} {tk tv : TE} {vs : List Nat} {σ : L2.St} {H1 : Hp} {D : Addr} {Qd : Hp → Prop} (Pv : Nat → Hp → Prop) (h0 : Pv 0 (upd H1 D (.dK []))) (hG : ∀ i H, i ≤ n → Pv i H → G H)
    (hs : ∀ i x H H', i < n → Pv i H → Y i H x H' → g x (wipe σ vs) H' fun σ2 H2 => wipe σ2 vs = wipe σ vs ∧ tt σ2 H2 fun b H3 =>
      if b = true then tk σ2 H3 fun y H4 => tv σ2 H4 fun z H5 => ∃ kvs k, y = kV k ∧ H5 D = some (.dK kvs) ∧ kvs.length < sizeLine ∧ Pv (i + 1) (upd H5 D (.dK (putK kvs k z))) else Pv (i + 1) H3) (hd : ∀ H, Pv n H → Qd H) :
    ∃ W : Nat → Nat → Hp → Prop, (∃ m, W 0 m (upd H1 D (.dK []))) ∧ ∀ i m H, W i m H →
      (J.stop i H ∧ Qd H) ∨ (J.go i H ∧ ∃ Nx : Hp → Prop, (∀ H', Nx H' → ∃ m', m' < m ∧ W (i + 1) m' H') ∧ ∀ x H', J.yld i H x H' → g x (wipe σ vs) H' fun σ2 H2 => wipe σ2 vs = wipe σ vs ∧ tt σ2 H2 fun b H3 =>
        if b = true then tk σ2 H3 fun y H4 => tv σ2 H4 fun z H5 => ∃ kvs k, y = kV k ∧ H5 D = some (.dK kvs) ∧ kvs.length < sizeLine ∧ Nx (upd H5 D (.dK (putK kvs k z))) else Nx H3) := by
  refine ⟨fun i m H => m = n - i ∧ i ≤ n ∧ Pv i H, ⟨n, by simp, Nat.zero_le _, h0⟩, ?_⟩
  rintro i m H ⟨rfl, hi, p⟩
  have q := hG i H hi p
  by_cases hlt : i < n
  · refine .inr ⟨w.goes i H hlt q, Pv (i + 1), fun H' p' => ⟨n - (i + 1), by omega, rfl, hlt, p'⟩, fun x H' y => ?_⟩
    exact hs i x H H' hlt p (w.yields i H x H' hlt q y)
  · have e : i = n := by omega
    subst e
    exact .inl ⟨w.stops H q, hd H p⟩
theorem FunD.ok0 {P : Program} {w : World} {K : PySem.W.Frag} {mg : Str → Option Value} {base : Heap} {x qual : Str} {params : Arguments} {body : List Stmt} {scope : Scope} {dvs : List V} {kws : List (Str × V)} {f : Addr} {fd : FuncData} {N ps : List Str} {k : Nat} {sp : Sp}
    (F : FunD K x qual params body scope dvs kws f fd) (S : FnScope N ps scope) (len : ∀ vs H Q E, sp vs H Q E → vs.length = ps.length)
    (hbody : ∀ (cdv : Value) (A : Around) (outer : List Env) (s : Shared) (H : Hp) (vs : List V) (Q : VK) (E : XK), Room k (A.deeper (PyProof.Rows.envOfC qual scope s.heap.objs.size f cdv)) → sp vs H Q E →
      ∃ t, PSs (cxOf CX0 P w K mg base N qual scope f cdv A outer s H E).nox body t ∧ t { nx := fun _ H' => Q .non H', rt := Q } (L2.start N vs) H) : FnOk P w K mg base CX0 (k + 1) f fd ps sp := by
  refine F.ok S len fun cdv A outer s H vs Q E hr h => ?_
  obtain ⟨t, h, q⟩ := hbody cdv A outer s H vs Q E hr h
  exact ⟨t, h.nox, q⟩
/-! ### a form as it stands -/
theorem kcc : ¬ (("_coefficients" : Str) = "_constant") := by decide +kernel
def ffl (d : Addr) (c : Int) : List (Str × V) := putF "_constant" (.int c) (putF "_coefficients" (.ref d) [])
theorem ffl_cf (d : Addr) (c : Int) : (ffl d c).lookup ("_coefficients" : Str) = some (.ref d) := by
  unfold ffl
  rw [lookup_putF, if_neg kcc, lookup_putF, if_pos rfl]
theorem ffl_ct (d : Addr) (c : Int) : (ffl d c).lookup ("_constant" : Str) = some (.int c) := by
  unfold ffl
  rw [lookup_putF, if_pos rfl]
theorem ffl_no (d : Addr) (c : Int) {m : Str} (h1 : ¬ m = "_constant") (h2 : ¬ m = "_coefficients") : (ffl d c).lookup m = none := by
  unfold ffl
  rw [lookup_putF, if_neg h1, lookup_putF, if_neg h2]
  rfl
/-- at p stands the form with the coefficients cs (names rising, none 0) and the constant c -/
structure FormAt (C : Addr) (H : Hp) (p : Addr) (cs : Cf) (c : Int) : Prop where
  ob : ∃ d dx, H p = some (.ins C dx (ffl d c)) ∧ H d = some (.dK (dk cs))
  can : Can cs
  len : cs.length < 64
  gd : ∀ e ∈ cs, good e.1 = true
theorem FormAt.same {C : Addr} {H H' : Hp} {p : Addr} {cs : Cf} {c : Int} (F : FormAt C H p cs c) (s : Same H H') : FormAt C H' p cs c := by
  obtain ⟨⟨d, dx, a, b⟩, k, l, g⟩ := F
  exact ⟨⟨d, dx, s _ _ a, s _ _ b⟩, k, l, g⟩
theorem FormAt.kb {C : Addr} {H H' : Hp} {p st cl : Addr} {cs : Cf} {c : Int} {m : Nat} (F : FormAt C H p cs c) (S : StAt H st cl m) (s : Kb st cl H H') : FormAt C H' p cs c := by
  obtain ⟨⟨d, dx, a, b⟩, k, l, g⟩ := F
  obtain ⟨⟨q, c', e1, _⟩, ⟨ns, e2, _⟩, _⟩ := S
  exact ⟨⟨d, dx, s _ _ a (ne_of a e1 (by intro z; cases z)) (ne_of a e2 (by intro z; cases z)), s _ _ b (ne_of b e1 (by intro z; cases z)) (ne_of b e2 (by intro z; cases z))⟩, k, l, g⟩
theorem good_len {z : Str} (h : good z = true) : z.length ≤ 6 ∧ 1 ≤ z.length := by
  unfold good at h
  have := Str.len_list z
  by_cases h1 : z = "mod"
  · rw [if_pos h1] at h; cases h
  · rw [if_neg h1] at h
    by_cases h2 : z.cps.toList.length < 1 ∨ 6 < z.cps.toList.length
    · rw [if_pos h2] at h; cases h
    · omega
structure FTx (K : PySem.W.Frag) (mg : Str → Option Value) (C : Addr) : Prop where
  cl : Cls K C
  nF : NoAttr K C "_coefficients"
  nT : NoAttr K C "_constant"
  srt : mg "sorted" = none
/-- Form.__init__(self, coefficients, constant), all keys names -/
def spInit (C : Addr) : Sp := fun vs H Q _ => ∃ (p dx d : Addr) (kvs : Cf) (c : Int), vs = [.ref p, .ref d, .int c] ∧ H p = some (.ins C dx []) ∧ H d = some (.dK (dk kvs)) ∧ (kvs.map (·.1)).Nodup ∧ kvs.length < 64 ∧ (∀ e ∈ kvs, good e.1 = true) ∧
  ∀ (cs : Cf) (H' : Hp), (∀ k, look cs k = look kvs k) → FormAt C H' p cs c → (∃ d' dx', H' p = some (.ins C dx' (ffl d' c)) ∧ H' d' = some (.dK (dk cs)) ∧ H d' = none) → (∀ b o, H b = some o → b ≠ p → H' b = some o) → Q .non H'
section
variable {P : Program} {w : World} {K : PySem.W.Frag} {mg : Str → Option Value} {base : Heap}
abbrev nInit : List Str := ["self", "coefficients", "constant", "name", "names"]
theorem scInit : FnScope nInit ["self", "coefficients", "constant"] (defScope sForm_init) := ⟨rfl, rfl, rfl, by decide +kernel, rfl, by decide +kernel, by decide +kernel⟩
theorem ok_init {f fV C : Addr} {fd dV : FuncData} {dvs : List V} (F : FunD K "__init__" "Form.__init__" (defArgs sForm_init) (defBody sForm_init) (defScope sForm_init) dvs [] f fd) (T : FTx K mg C)
    (EV : FnOk P w K mg base CX0 1 fV dV ["text"] spValid) (GV : Df K mg "valid_name" fV) (bV : Binds K dV ["text"] []) : FnOk P w K mg base CX0 2 f fd ["self", "coefficients", "constant"] (spInit C) := by
  refine FunD.ok0 F scInit (fun vs H Q E h => ?_) (fun cdv A outer s H vs Q E hr h => ?_)
  · obtain ⟨p, dx, d, kvs, c, rfl, _⟩ := h
    rfl
  · obtain ⟨p, dx, d, kvs, c, rfl, hp, hd, nd, hlen, hgd, k⟩ := h
    have hu := hu_of hr
    refine ⟨_, pss_cons (ps_lock (ps_for PassesOwn.never rfl (pi_keys (pv 1)) (pg_name (i := 3) scInit.nd rfl (Or.inl rfl)) (pss_one (ps_if (pt_not (pt_val (pe_call EV hr rfl GV.mg GV.kp bV .nil pass0 (pa_cons (pv 3) pa_nil)))) pss_never pss_nil))))
      (pss_cons (ps_set (i := 4) scInit.nd rfl (Or.inl rfl) (pe_callB (call_sortedD rfl) (by rfl) T.srt (by decide +kernel) (pa_cons (pv 1) pa_nil)))
      (pss_cons (ps_fld (pv 0) (pe_dc (own := [("name", 3)]) (g := gName 3) rfl scInit.nd (pi_list (pv 4)) (blkOk_by (own := [("name", 3)]) (N := nInit) (sc := defScope sForm_init) (by decide +kernel))
          (fun _ _ _ _ _ => pg_name (i := 3) scInit.nd rfl (Or.inl rfl)) (fun _ _ _ _ _ => pts_one (pt_cmpR op_ne (pe_dget hu (pv 1) (pv 3) (fun _ _ => rfl)) pe_int (nomark _))) (fun _ _ _ _ _ => pv 3) (fun _ _ _ _ _ => pe_dget hu (pv 1) (pv 3) (fun _ _ => rfl))) rfl)
      (pss_one (ps_fld (pv 0) (pv 2) rfl)))), ?_⟩
    have npd : p ≠ d := ne_of hp hd (by intro z; cases z)
    refine ⟨d, _, hd, trivial, fun od => ?_⟩
    refine ⟨_, rfl, d, od, rfl, .inl ⟨_, upd_same, ?_⟩⟩
    refine for_it walk_keys (fun i σ H' => (∃ v, σ = [some (.ref p), some (.ref d), some (.int c), v, none]) ∧ Same (upd H d (.frz od (.dK (dk kvs)))) H') ⟨⟨none, rfl⟩, Same.refl _⟩ (fun i σ H' _ h => h.2 _ _ upd_same) ?_ ?_
    · rintro i x σ H1 H2 hi ⟨⟨v, rfl⟩, s1⟩ ⟨rfl, k', v', hkv, rfl⟩
      rw [dk_len] at hi
      have he : (dk kvs)[i]? = some (Sum.inr (kvs[i]).1, V.int (kvs[i]).2) := by
        unfold dk
        rw [List.getElem?_map, List.getElem?_eq_getElem hi]
        rfl
      rw [he] at hkv
      cases hkv
      have hg : good (kvs[i]).1 = true := hgd _ (List.getElem_mem hi)
      refine ⟨_, rfl, _, rfl, by have := (good_len hg).1; omega, fun H3 s3 => ?_⟩
      refine ⟨_, rfl, ?_⟩
      rw [hg]
      refine iteF ?_
      exact ⟨⟨_, rfl⟩, s1.trans s3⟩
    · rintro σ H1 ⟨⟨v, rfl⟩, s1⟩
      refine ⟨s1 _ _ upd_same, ?_⟩
      obtain ⟨H2, hH2⟩ : ∃ H2, H2 = upd H1 d (.dK (dk kvs)) := ⟨_, rfl⟩
      have s2 : Same H H2 := by
        intro b o e
        rw [hH2]
        by_cases hb : b = d
        · subst hb
          rw [upd_same, ← hd, e]
        · rw [upd_ne hb]
          exact s1 b o (by rw [upd_ne hb]; exact e)
      rw [← hH2]
      have hd2 := s2 _ _ hd
      refine ⟨_, rfl, d, dk kvs, kvs.map (·.1), rfl, Rd.of hd2, ?_, by rw [List.length_map]; exact hlen, fun ys l perm srt hl => ?_⟩
      · unfold dk
        rw [List.map_map, List.map_map]
        rfl
      have ynd : ys.Nodup := perm.nodup_iff.mpr nd
      have yasc : Asc ys := sorted_asc srt ynd
      have ylen : ys.length < 64 := by rw [perm.length_eq, List.length_map]; exact hlen
      have nld : l ≠ d := (ne_of_none hd2 hl).symm
      have npl : p ≠ l := ne_of_none (s2 _ _ hp) hl
      refine ⟨_, rfl, l, rfl, ⟨_, SqL.of upd_same⟩, fun D hD => ?_⟩
      obtain ⟨H3, hH3⟩ : ∃ H3, H3 = upd H2 l (.lst (ys.map V.str)) := ⟨_, rfl⟩
      rw [← hH3] at hD
      have s3 : Same H H3 := by
        intro b o e
        rw [hH3, upd_ne (ne_of_none (s2 b o e) hl)]
        exact s2 b o e
      have hl3 : H3 l = some (.lst (ys.map V.str)) := by rw [hH3]; exact upd_same
      rw [← hH3]
      have hlook : ∀ y ∈ ys, lookO kvs y = some (look kvs y) := by
        intro y hy
        have : y ∈ kvs.map (·.1) := perm.mem_iff.mp hy
        cases q : lookO kvs y with
        | none => exact absurd this (lookO_none.mp q)
        | some z => unfold look; rw [q]; rfl
      refine dc_it (walk_list (K := K) (a := l) (xs := ys.map V.str)) (fun i H' => Same H3 H' ∧ H' D = some (.dK (dk (pick (look kvs) (ys.take i))))) ⟨?_, ?_⟩ (fun i H' _ h => SqL.of (h.1 _ _ hl3)) ?_ ?_
      · intro b o e
        rw [upd_ne (ne_of_none e hD)]
        exact e
      · rw [upd_same]
        rfl
      · rintro i x H4 H5 hi ⟨s4, s5⟩ ⟨rfl, hx⟩
        rw [List.length_map] at hi
        have hyi : ys[i]? = some ys[i] := List.getElem?_eq_getElem hi
        rw [List.getElem?_map, hyi] at hx
        obtain rfl : V.str ys[i] = x := Option.some.inj hx
        have hmem : ys[i] ∈ ys := List.getElem_mem hi
        have hnew : ys[i] ∉ (pick (look kvs) (ys.take i)).map (·.1) := by
          rw [pick_names]
          intro m
          have m1 := (List.mem_filter.mp m).1
          have tk : ys.take (i + 1) = ys.take i ++ [ys[i]] := by rw [List.take_succ, hyi]; rfl
          have nd2 : (ys.take (i + 1)).Nodup := List.Sublist.nodup (List.take_sublist _ _) ynd
          rw [tk] at nd2
          exact (List.nodup_append.mp nd2).2.2 _ m1 _ (List.mem_singleton.mpr rfl) rfl
        have hd5 : H5 d = some (.dK (dk kvs)) := s4 _ _ (s3 _ _ hd)
        have hv : valV (dk kvs) (Sum.inr ys[i] : Key) = some (V.int (look kvs ys[i])) := by rw [valV_dk, hlook _ hmem]; rfl
        have hget : DGet H5 d (V.str ys[i]) (some (V.int (look kvs ys[i]))) := by rw [← hv]; exact DGet.k (k := Sum.inr ys[i]) hd5
        have htk : ys.take (i + 1) = ys.take i ++ [ys[i]] := by rw [List.take_succ, hyi]; rfl
        refine ⟨rfl, ?_⟩
        refine ⟨_, rfl, _, rfl, d, _, rfl, hget, rfl, _, rfl, ?_⟩
        by_cases hz : look kvs ys[i] = 0
        · rw [show (!decide (V.int (look kvs ys[i]) = V.int 0)) = false by rw [hz]; simp]
          refine iteF ?_
          refine ⟨s4, ?_⟩
          rw [htk, pick_snoc, if_neg (fun z => z hz)]
          exact s5
        · rw [show (!decide (V.int (look kvs ys[i]) = V.int 0)) = true by rw [decide_eq_false (fun z => hz (V.int.inj z))]; rfl]
          refine iteT ?_
          refine ⟨_, rfl, _, rfl, _, rfl, d, _, rfl, hget, _, Sum.inr ys[i], rfl, s5, ?_, ?_, ?_⟩
          · rw [dk_len]
            have h1 : (pick (look kvs) (ys.take i)).length ≤ ys.length := by
              unfold pick
              rw [List.length_map]
              exact Nat.le_trans (List.length_filter_le _ _) (by rw [List.length_take]; exact Nat.min_le_right _ _)
            exact small1000 (by omega)
          · intro b o e
            rw [upd_ne (ne_of_none e hD)]
            exact s4 b o e
          · rw [upd_same, dk_put_new hnew, htk, pick_snoc, if_pos hz]
      · rintro H4 ⟨s4, s5⟩
        rw [List.length_map, List.take_length] at s5
        have hp4 : H4 p = some (.ins C dx []) := s4 _ _ (s3 _ _ hp)
        have npD : p ≠ D := ne_of_none (s3 _ _ hp) hD
        refine ⟨_, rfl, p, C, dx, _, rfl, hp4, T.cl, T.nF, (by show 0 < 1000; decide), ?_⟩
        refine ⟨_, rfl, _, rfl, p, C, dx, _, rfl, upd_same, T.cl, T.nT, (by show 1 < 1000; decide), ?_⟩
        have hpk : ∀ q, look (pick (look kvs) ys) q = look kvs q := pick_look yasc fun q hq => perm.mem_iff.mpr (by
          cases Classical.em (q ∈ kvs.map (·.1)) with
          | inl z => exact z
          | inr z => exact absurd (look_none z) hq)
        have hDf : (L2.upd (L2.upd H4 p (.ins C dx (putF "_coefficients" (.ref D) []))) p (.ins C dx (ffl D c))) D = some (.dK (dk (pick (look kvs) ys))) := by
          rw [upd_ne npD.symm, upd_ne npD.symm]
          exact s5
        refine k (pick (look kvs) ys) _ hpk ⟨⟨D, dx, upd_same, ?_⟩, pick_can yasc, ?_, ?_⟩ ⟨D, dx, upd_same, hDf, s3.free hD⟩ ?_
        · rw [upd_ne npD.symm, upd_ne npD.symm]
          exact s5
        · have h1 : (pick (look kvs) ys).length ≤ ys.length := by
            unfold pick
            rw [List.length_map]
            exact List.length_filter_le _ _
          omega
        · intro e he
          have hm : e.1 ∈ ys := by
            have : e.1 ∈ (pick (look kvs) ys).map (·.1) := List.mem_map.mpr ⟨e, he, rfl⟩
            rw [pick_names] at this
            exact (List.mem_filter.mp this).1
          obtain ⟨e', he', q⟩ := List.mem_map.mp (perm.mem_iff.mp hm)
          rw [← q]
          exact hgd e' he'
        · intro b o e hb
          rw [upd_ne hb, upd_ne hb]
          exact s4 _ _ (s3 _ _ e)
end
end OS
namespace OS
open PySem L2
def pieces (cs : Cf) (c : Int) : List Str := cs.map (fun e => term e.1 e.2) ++ (if c ≠ 0 ∨ cs = [] then [sg c ++ dec (aint c)] else [])
def joinedT (cs : Cf) (c : Int) : Str := Str.join (Str.ofString "") (pieces cs c)
/-- the text of a form -/
def ftext (cs : Cf) (c : Int) : Str := (if Txt.startswith (joinedT cs c) (Str.ofString " - ") = true then (Str.ofString "-") else (Str.ofString "")) ++ cutS (joinedT cs c) (some 3) none
/-- numbers that are written at once -/
structure Small (cs : Cf) (c : Int) : Prop where
  cs : ∀ e ∈ cs, aint e.2 < 10 ^ 64
  c : aint c < 10 ^ 64
def spStr (C : Addr) : Sp := fun vs H Q _ => ∃ (p : Addr) (cs : Cf) (c : Int), vs = [.ref p] ∧ FormAt C H p cs c ∧ Small cs c ∧ ∀ H', Same H H' → Q (.str (ftext cs c)) H'
theorem sum_le : ∀ (ys : List Str), (∀ y ∈ ys, y.length ≤ 100) → (ys.map (·.length)).sum ≤ 100 * ys.length
  | [], _ => Nat.le_refl _
  | y :: ys, h => by
    rw [List.map_cons, List.sum_cons, List.length_cons]
    have := sum_le ys fun z hz => h z (List.mem_cons_of_mem _ hz)
    have := h y List.mem_cons_self
    omega
theorem join_len : ∀ (ys : List Str), (Str.join (Str.ofString "") ys).length = (ys.map (·.length)).sum
  | [] => rfl
  | [y] => by simp [Str.join]
  | y :: z :: r => by
    show (y ++ (Str.ofString "") ++ Str.join (Str.ofString "") (z :: r)).length = _
    rw [len_app, len_app, join_len (z :: r)]
    have : (Str.ofString "").length = 0 := by decide +kernel
    rw [this]
    simp only [List.map_cons, List.sum_cons]
    omega
theorem aint0 (n : Int) : 0 ≤ aint n := by unfold aint; split <;> omega
theorem term_len {z : Str} {n : Int} (hz : z.length ≤ 10) (h : aint n < 10 ^ 64) : (term z n).length ≤ 100 := by
  unfold term
  rw [len_app, sg_len]
  split
  · omega
  · rw [len_app, len_app]
    have := dec_len (aint0 n) h
    have e : (Str.ofString "*").length = 1 := by decide +kernel
    omega
theorem pieces_len {cs : Cf} {c : Int} (S : Small cs c) (hl : cs.length < 64) (hg : ∀ e ∈ cs, good e.1 = true) : (∀ y ∈ pieces cs c, y.length ≤ 100) ∧ (pieces cs c).length ≤ 64 := by
  constructor
  · intro y hy
    unfold pieces at hy
    rcases List.mem_append.mp hy with h | h
    · obtain ⟨e, he, rfl⟩ := List.mem_map.mp h
      exact term_len (by have := (good_len (hg e he)).1; omega) (S.cs e he)
    · split at h
      · rw [List.mem_singleton.mp h, len_app, sg_len]
        have := dec_len (aint0 c) S.c
        omega
      · cases h
  · unfold pieces
    rw [List.length_append, List.length_map]
    split
    · show cs.length + 1 ≤ 64
      omega
    · show cs.length + 0 ≤ 64
      omega
section
variable {P : Program} {w : World} {K : PySem.W.Frag} {mg : Str → Option Value} {base : Heap}
abbrev nStr : List Str := ["self", "pieces", "joined", "sign", "unsigned", "name", "coefficient"]
theorem scStr : FnScope nStr ["self"] (defScope sForm_str) := ⟨rfl, rfl, rfl, by decide +kernel, rfl, by decide +kernel, by decide +kernel⟩
theorem ok_str {f C fS fD fT : Addr} {fd dS dD dT : FuncData} (F : Fun K "__str__" "Form.__str__" sForm_str f fd) (T : FTx K mg C) (mA : mg "abs" = none)
    (ES : FnOk P w K mg base CX0 1 fS dS ["number", "text"] spSgn) (GS : Df K mg "_signed" fS) (bS : Binds K dS ["number", "text"] [])
    (ED : FnOk P w K mg base CX0 1 fD dD ["number"] spDec) (GD : Df K mg "_decimal" fD) (bD : Binds K dD ["number"] [])
    (ET : FnOk P w K mg base CX0 2 fT dT ["name", "coefficient"] spTerm) (GT : Df K mg "_term" fT) (bT : Binds K dT ["name", "coefficient"] []) : FnOk P w K mg base CX0 3 f fd ["self"] (spStr C) := by
  refine F.ok scStr (fun vs H Q E h => ?_) (fun cdv A outer s H vs Q E hr h => ?_)
  · obtain ⟨p, cs, c, rfl, _⟩ := h
    rfl
  · obtain ⟨p, cs, c, rfl, ⟨⟨d, dx, hp, hd⟩, can, hlen, hgd⟩, sm, k⟩ := h
    have hr1 : Room 1 _ := hr.mono (by decide)
    refine ⟨_, pss_cons (ps_lock (ps_setLc (i := 1) (own := [("name", 5), ("coefficient", 6)]) (g := gTup K 2 (gCons (gName 5) (gCons (gName 6) gNil))) (tt := tYes) rfl scStr.nd rfl rfl (sw_true rfl rfl rfl (by decide +kernel)) (pi_items (pe_fld (pv 0) rfl)) (blkOk_by (own := [("name", 5), ("coefficient", 6)]) (N := nStr) (sc := defScope sForm_str) (by decide +kernel))
          (fun _ _ _ _ _ => pg_tup rfl (pgs_cons (pg_name (i := 5) scStr.nd rfl (Or.inl rfl)) (pgs_cons (pg_name (i := 6) scStr.nd rfl (Or.inl rfl)) pgs_nil))) (fun _ _ _ _ _ => pts_nil)
          (fun _ _ _ _ _ => pe_call ET hr rfl GT.mg GT.kp bT .nil pass0 (pa_cons (pv 5) (pa_cons (pv 6) pa_nil)))))
      (C8.pss_cut (ps_if (PW.pt (pw_or (pt_cmpR op_ne (pe_fld (pv 0) rfl) pe_int (nomark _)) (pw_or1 (pt_not (pt_truth (pv 1) (by intro _; rfl))))))
        (pss_one (ps_expr (pe_bm PySem.F.plainAttrs_list PySem.F.slot_list_append PySem.F.type_list_append mt_append (pv 1) (pa_cons (pe_call ES hr1 rfl GS.mg GS.kp bS .nil pass0 (pa_cons (pe_fld (pv 0) rfl) (pa_cons
          (pe_call ED hr1 rfl GD.mg GD.kp bD .nil pass0 (pa_cons (pe_callB call_abs (by rfl) mA (by decide +kernel) (pa_cons (pe_fld (pv 0) rfl) pa_nil)) pa_nil)) pa_nil))) pa_nil)))) pss_nil)
      (pss_cons (ps_set (i := 2) scStr.nd rfl (Or.inl rfl) (pe_join pe_str (pv 1)))
      (pss_cons (ps_set (i := 3) scStr.nd rfl (Or.inl rfl) (pe_ifExp (pt_val (pe_m1 PySem.F.slot_str_startswith PySem.F.type_str_startswith mt_startswith (pv 2) pe_str)) pe_str pe_str))
      (pss_cons (ps_set (i := 4) scStr.nd rfl (Or.inl rfl) (pe_slice sl_str (pv 2) (po_some pe_int) po_none))
      (pss_one (ps_ret (pe_joined (.cons (pe_fmt (pv 3)) (.cons (pe_fmt (pv 4)) .nil))))))))), ?_⟩
    have npd : p ≠ d := ne_of hp hd (by intro z; cases z)
    refine ⟨d, _, hd, trivial, fun od => ?_⟩
    obtain ⟨H1, hH1⟩ : ∃ H1, H1 = upd H d (.frz od (.dK (dk cs))) := ⟨_, rfl⟩
    rw [← hH1]
    have hp1 : H1 p = some (.ins C dx (ffl d c)) := by rw [hH1, upd_ne npd]; exact hp
    have hd1 : H1 d = some (.frz od (.dK (dk cs))) := by rw [hH1]; exact upd_same
    refine ⟨_, rfl, p, C, dx, _, _, rfl, hp1, T.cl, T.nF, ffl_cf d c, d, od, _, rfl, hd1, fun D hD => ?_⟩
    refine lc_it walk_items (fun i H' => Same H1 H' ∧ H' D = some (.lst (((cs.take i).map fun e => term e.1 e.2).map V.str))) ⟨?_, ?_⟩ (fun i H' _ h => h.1 _ _ hd1) ?_ ?_
    · intro b o e
      rw [upd_ne (ne_of_none e hD)]
      exact e
    · rw [upd_same]
      rfl
    · rintro i x H2 H3 hi ⟨s1, s2⟩ ⟨t, x1, y1, rfl, nt, rfl, e1, e2⟩
      rw [dk_len] at hi
      have he : (dk cs)[i]? = some (Sum.inr (cs[i]).1, V.int (cs[i]).2) := by
        unfold dk
        rw [List.getElem?_map, List.getElem?_eq_getElem hi]
        rfl
      have e1 : Option.map (fun kv : Key × V => kV kv.1) (dk cs)[i]? = some x1 := e1
      have e2 : Option.map Prod.snd (dk cs)[i]? = some y1 := e2
      rw [he] at e1 e2
      cases e1
      cases e2
      have hm : cs[i] ∈ cs := List.getElem_mem hi
      refine ⟨t, _, rfl, .inl (.inl upd_same), rfl, _, _, rfl, _, _, rfl, rfl, rfl, ?_⟩
      refine ⟨_, rfl, _, rfl, _, _, rfl, by have := (good_len (hgd _ hm)).1; omega, sm.cs _ hm, fun H4 s4 => ?_⟩
      have sH : Same H2 H4 := fun b o e => s4 b o (by rw [upd_ne (ne_of_none e nt)]; exact e)
      refine ⟨_, sH _ _ s2, ?_, sameUpd (s1.trans sH) hD, ?_⟩
      · rw [List.length_map, List.length_map, List.length_take]
        exact small1000 (by omega)
      · rw [upd_same, List.take_succ, List.getElem?_eq_getElem hi, List.map_append, List.map_append]
        rfl
    · rintro H2 ⟨s1, s2⟩
      rw [dk_len, List.take_length] at s2
      refine ⟨s1 _ _ hd1, ?_⟩
      obtain ⟨H3, hH3⟩ : ∃ H3, H3 = upd H2 d (.dK (dk cs)) := ⟨_, rfl⟩
      rw [← hH3]
      have s3 : Same H H3 := by
        intro b o e
        rw [hH3]
        by_cases hb : b = d
        · subst hb
          rw [upd_same, ← hd, e]
        · rw [upd_ne hb]
          exact s1 b o (by rw [hH1, upd_ne hb]; exact e)
      have nDd : D ≠ d := (ne_of_none hd1 hD).symm
      have hD3 : H3 D = some (.lst ((cs.map fun e => term e.1 e.2).map V.str)) := by rw [hH3, upd_ne nDd]; exact s2
      have hDn : H D = none := by
        cases q : H D with
        | none => rfl
        | some o =>
          have : H1 D = some o := by rw [hH1, upd_ne nDd]; exact q
          rw [hD] at this
          cases this
      refine ⟨fun σ H' => σ = [some (.ref p), some (.ref D), none, none, none, none, none] ∧ Same H H' ∧ H' D = some (.lst ((pieces cs c).map V.str)), ?_, ?_⟩
      · refine ⟨_, rfl, p, C, dx, _, _, rfl, s3 _ _ hp, T.cl, T.nT, ffl_ct d c, rfl, _, rfl, ?_⟩
        have app : ∀ (h : c ≠ 0 ∨ cs = []), (tVar 1 : TE) [some (.ref p), some (.ref D), none, none, none, none, none] H3 (fun x H' => True) := fun _ => ⟨_, rfl, trivial⟩
        by_cases hc : c = 0
        · rw [show (!decide (V.int c = V.int 0)) = false by rw [hc]; simp]
          refine iteF ?_
          refine ⟨_, rfl, _, .inl ⟨_, SqL.of hD3, rfl⟩, ?_⟩
          by_cases h0 : cs = []
          · subst h0
            subst hc
            refine iteT ?_
            refine ⟨_, rfl, .inl ⟨rfl, _, SqL.of hD3⟩, _, rfl, p, C, dx, _, _, rfl, s3 _ _ hp, T.cl, T.nT, ffl_ct d 0, _, rfl, p, C, dx, _, _, rfl, s3 _ _ hp, T.cl, T.nT, ffl_ct d 0, _, rfl, 0, rfl, by decide, by decide, fun H4 s4 => ?_⟩
            refine ⟨0, _, rfl, ?_, D, _, _, rfl, rfl, s4 _ _ hD3, (by show 0 < sizeLine; decide), rfl, ?_, ?_⟩
            · have := dec_len (n := 0) (by decide) (by decide); omega
            · exact sameUpd (s3.trans s4) hDn
            · rw [upd_same]
              rfl
          · refine (show if (!(!((cs.map fun e => term e.1 e.2).map V.str).isEmpty)) = true then _ else _ from ?_)
            rw [show (!(!((cs.map fun e => term e.1 e.2).map V.str).isEmpty)) = false by
              cases cs with
              | nil => exact absurd rfl h0
              | cons a r => rfl]
            refine iteF ?_
            refine ⟨rfl, s3, ?_⟩
            rw [hD3]
            unfold pieces
            rw [if_neg (by rintro (z | z); exact z hc; exact h0 z), List.append_nil]
        · rw [show (!decide (V.int c = V.int 0)) = true by rw [decide_eq_false (fun z => hc (V.int.inj z))]; rfl]
          refine iteT ?_
          refine ⟨_, rfl, .inl ⟨rfl, _, SqL.of hD3⟩, _, rfl, p, C, dx, _, _, rfl, s3 _ _ hp, T.cl, T.nT, ffl_ct d c, _, rfl, p, C, dx, _, _, rfl, s3 _ _ hp, T.cl, T.nT, ffl_ct d c, _, rfl, aint c, rfl, aint0 c, sm.c, fun H4 s4 => ?_⟩
          refine ⟨c, _, rfl, ?_, D, _, _, rfl, rfl, s4 _ _ hD3, ?_, rfl, ?_, ?_⟩
          · have := dec_len (aint0 c) sm.c; omega
          · rw [List.length_map, List.length_map]
            exact small1000 (by omega)
          · exact sameUpd (s3.trans s4) hDn
          · rw [upd_same]
            unfold pieces
            rw [if_pos (Or.inl hc), List.map_append]
            rfl
      rintro σ' H4 ⟨rfl, s4, hD4⟩
      obtain ⟨pl1, pl2⟩ := pieces_len sm hlen hgd
      have hsum := sum_le _ pl1
      have hjl : (joinedT cs c).length ≤ 6400 := by unfold joinedT; rw [join_len]; omega
      have hjs : (joinedT cs c).length ≤ sizeLine := Nat.le_trans hjl (by decide)
      refine ⟨⟨_, rfl⟩, _, rfl, _, D, pieces cs c, rfl, rfl, .inl (SqL.of hD4), ?_, ?_⟩
      · rw [show (Str.ofString "").length = 0 by decide +kernel]
        omega
      rw [TL.join_eq]
      show tSeq _ _ _ [some (.ref p), some (.ref D), some (.str (joinedT cs c)), none, none, none, none] H4
      have fin := k H4 s4
      unfold ftext at fin
      have hcl : (cutS (joinedT cs c) (some 3) none).length ≤ 6400 := by
        rw [Str.len_list]
        show (((joinedT cs c).cps.toList.drop _).take _).length ≤ 6400
        rw [List.length_take, List.length_drop, ← Str.len_list]
        omega
      refine ⟨_, rfl, ⟨_, rfl⟩, _, _, rfl, rfl, _, rfl, ?_⟩
      by_cases hst : Txt.startswith (joinedT cs c) (Str.ofString " - ") = true
      all_goals first
        | (rw [if_pos hst] at fin
           rw [hst]
           refine iteT ?_)
        | (rw [if_neg hst] at fin
           rw [show Txt.startswith (joinedT cs c) (Str.ofString " - ") = false from by simpa using hst]
           refine iteF ?_)
      · refine ⟨_, rfl, _, rfl, _, rfl, hjs, ?_⟩
        refine ⟨_, rfl, .inl ⟨_, rfl, by decide +kernel, _, rfl, by decide +kernel, _, rfl, .inl ⟨_, rfl, Nat.le_trans hcl (by decide), _, rfl, ?_, ?_⟩⟩⟩
        · rw [Str.empty_app, len_app]
          have : (Str.ofString "-").length = 1 := by decide +kernel
          exact Nat.le_trans (by omega : _ ≤ 6401) (by decide)
        · rw [Str.empty_app]
          exact fin
      · refine ⟨_, rfl, _, rfl, _, rfl, hjs, ?_⟩
        refine ⟨_, rfl, .inl ⟨_, rfl, by decide +kernel, _, rfl, by decide +kernel, _, rfl, .inl ⟨_, rfl, Nat.le_trans hcl (by decide), _, rfl, ?_, ?_⟩⟩⟩
        · rw [Str.empty_app, len_app]
          have : (Str.ofString "").length = 0 := by decide +kernel
          exact Nat.le_trans (by omega : _ ≤ 6401) (by decide)
        · rw [Str.empty_app]
          exact fin
end
end OS
namespace OS
open PySem L2 PySem.Spec PyProof.Rows
section
variable {X : Cx}
/-- name = {.. : .. for ..} on one line, the name a local -/
theorem ps_setDc {i : Nat} {y : Str} {py : Pos} {kx vx tg iter : Expr} {ifs : List Expr} {scope : Scope} {own : List (Str × Nat)} {pos spos : Pos} {wi : TI} {g : TG} {tt : TT} {tk tv : TE} (hc : X.calm = true) (hN : X.N.Nodup) (hy : X.N[i]? = some y) (hyl : X.env.scope.names.lookup y = some .local)
    (hsw : swapsWith (.DictComp kx vx [⟨tg, iter, ifs, 0⟩] scope pos) (some (.Name y py)) spos.line X.env = pure true) (hi : PI X tg iter wi) (ok : BlkOk X.N X.env.scope scope own)
    (hg : ∀ (s : Shared) (H : Hp) (C : Addr) (cl : List (Str × Addr)) (fp : List Addr), PG (X.blk s H scope (compEnvC scope cl C X.env) fp) tg g) (ht : ∀ (s : Shared) (H : Hp) (C : Addr) (cl : List (Str × Addr)) (fp : List Addr), PTs (X.blk s H scope (compEnvC scope cl C X.env) fp) ifs tt)
    (hk : ∀ (s : Shared) (H : Hp) (C : Addr) (cl : List (Str × Addr)) (fp : List Addr), PE (X.blk s H scope (compEnvC scope cl C X.env) fp) kx tk)
    (he : ∀ (s : Shared) (H : Hp) (C : Addr) (cl : List (Str × Addr)) (fp : List Addr), PE (X.blk s H scope (compEnvC scope cl C X.env) fp) vx tv) (hs : ∀ x, foldedSetIterable iter X.env x = pure x := by intro _; rfl) :
    PS X (.Assign [.Name y py] (.DictComp kx vx [⟨tg, iter, ifs, 0⟩] scope pos) spos) (tAsg (tDc wi g tt tk tv (own.map (·.2))) (gName i)) := by
  refine ⟨fun pins s σ H D I h => ?_⟩
  rw [exec_Assign_Name_used _ _ _ _ hsw]
  refine wpAny_bind (wpAny_standAt (wpAny_bind ?_))
  show wpAny _ X.A (do let _ ← comprehension (.DictComp kx vx [⟨tg, iter, ifs, 0⟩] scope pos) scope X.env (firstIterPos [⟨tg, iter, ifs, 0⟩] pos) newDict false (eval iter X.env) (some (assign (.Name y py) X.env))) _ _ s
  have h : tDc wi g tt tk tv (own.map (·.2)) σ H (fun x H1 => gName i x σ H1 D.nx) := h
  refine wpAny_bind (thn (dc_core (Qf := fun _ s' => SP X pins D .next s') hc hN I hi ok hg ht hk he hs h fun L C s' m H' I' q hn f => ?_) fun _ s' hq => wpAny_pure (wpAny_pure hq))
  show wpAny _ _ (assign (.Name y py) X.env (.ref L)) _ _ _
  refine wpAny_assign_Name (store_ok2 (v := V.ref L) I' hN hy (.inl hyl) rfl (fun s2 I2 ⟨a, sb, ha⟩ => ?_) (.inr hyl))
  obtain ⟨f0, f1, f2, f3, f4, f5⟩ := f
  have haC : C ≠ a := by
    rcases ha with z | z
    · rw [z]; exact f1
    · exact fun e => f4 y a z e.symm
  refine ⟨m, hn.sameBut sb haC, fun h3 sb3 => ?_⟩
  exact ⟨_, H', I2.turned (t' := s2.toks) (fun b o hb e => (sb3.2 b hb).trans e) f0 f1 f3 f4 f5, q⟩
theorem sw_trueD {kx vx : Expr} {gs : List Comprehension} {scope : Scope} {pos py : Pos} {y : Str} {l : Nat} {env : Env} (hk : env.scope.kind = .function) (hy : env.scope.names.lookup y = some .local) (hl : (py.line == pos.line) = true)
    (ha : (scope.names.any fun (n, k) => n == y && (k == .local || k == .cell)) = false) : swapsWith (.DictComp kx vx gs scope pos) (some (.Name y py)) l env = pure true := by
  have ky : env.kindOf y = some .local := hy
  have hb : env.blockKind = .function := by unfold Env.blockKind; rw [hk]; rfl
  unfold swapsWith
  simp only [hb, ky, ha, Expr.pos, hl]
  rfl
end
/-- the new form's dict is new-/
def Frs (C : Addr) (H H' : Hp) (q : Addr) (c : Int) : Prop := ∃ d dx, H' q = some (.ins C dx (ffl d c)) ∧ H d = none
theorem fr_of {C q : Addr} {H0 H H' : Hp} {c : Int} {cs : Cf} (h : ∃ d' dx', H' q = some (.ins C dx' (ffl d' c)) ∧ H' d' = some (.dK (dk cs)) ∧ H0 d' = none) (k : ∀ b, H0 b = none → H b = none) : Frs C H H' q c := by
  obtain ⟨d, dx, e1, _, e3⟩ := h
  exact ⟨d, dx, e1, k _ e3⟩
theorem Frs.back {C q : Addr} {H0 H H' : Hp} {c : Int} (h : Frs C H0 H' q c) (s : Same H H0) : Frs C H H' q c := by
  obtain ⟨d, dx, e1, e3⟩ := h
  exact ⟨d, dx, e1, s.free e3⟩
/-- multiples of a form: int on the right -/
def spMul (C : Addr) : Sp := fun vs H Q _ => ∃ (p : Addr) (cs : Cf) (c k : Int), vs = [.ref p, .int k] ∧ FormAt C H p cs c ∧ (k.natAbs < 10 ^ 18 ∨ ((∀ e ∈ cs, e.2.natAbs < 10 ^ 18) ∧ c.natAbs < 10 ^ 18)) ∧
  ∀ (q : Addr) (ds : Cf) (H' : Hp), (∀ x, look ds x = look cs x * k) → FormAt C H' q ds (c * k) → Same H H' → H q = none → Frs C H H' q (c * k) → Q (.ref q) H'
/-- the negative -/
def spNeg (C : Addr) : Sp := fun vs H Q _ => ∃ (p : Addr) (cs : Cf) (c : Int), vs = [.ref p] ∧ FormAt C H p cs c ∧
  ∀ (q : Addr) (ds : Cf) (H' : Hp), (∀ x, look ds x = - look cs x) → FormAt C H' q ds (- c) → Same H H' → H q = none → Frs C H H' q (- c) → Q (.ref q) H'
/-- what an operator of Form asks of its class and of int -/
structure OpF (K : PySem.W.Frag) (C : Addr) (m r : Str) (f : Addr) : Prop where
  own : Own K C m f
  first : PySem.W.selfFirst K C = true
  back : ∃ g : Addr, PySem.W.findIn K (.ref C) r = some (some (.ref g))
  int1 : ∃ fo, PySem.W.findIn K (.type "int") m = some fo
  int2 : ∃ ro, PySem.W.findIn K (.type "int") r = some ro
  sub : PySem.W.subIn K (.type "int") (.ref C) = some false
def mulC (cs : Cf) (k : Int) : Cf := cs.map fun e => (e.1, e.2 * k)
theorem mulC_names (cs : Cf) (k : Int) : (mulC cs k).map (·.1) = cs.map (·.1) := by
  unfold mulC
  rw [List.map_map]
  rfl
theorem mulC_look (k : Int) : ∀ (cs : Cf) (x : Str), look (mulC cs k) x = look cs x * k
  | [], x => by simp [look, lookO, mulC]
  | e :: r, x => by
    have ih := mulC_look k r x
    unfold look at ih ⊢
    show (lookO ((e.1, e.2 * k) :: mulC r k) x).getD 0 = _
    rw [lookO_cons, lookO_cons]
    by_cases h : e.1 = x
    · rw [if_pos h, if_pos h]; rfl
    · rw [if_neg h, if_neg h]; exact ih
section
variable {P : Program} {w : World} {K : PySem.W.Frag} {mg : Str → Option Value} {base : Heap}
abbrev nMul : List Str := ["self", "other", "multiplied", "name", "coefficient"]
theorem scMul : FnScope nMul ["self", "other"] (defScope sForm_mul) := ⟨rfl, rfl, rfl, by decide +kernel, rfl, by decide +kernel, by decide +kernel⟩
theorem ok_mul {f fI C : Addr} {fd dI : FuncData} (F : Fun K "__mul__" "Form.__mul__" sForm_mul f fd) (T : FTx K mg C) (mI : mg "isinstance" = none) (mN : mg "int" = none) (mC : mg "Form" = some (.ref C)) (M : Mk K C fI)
    (EI : FnOk P w K mg base CX0 2 fI dI ["self", "coefficients", "constant"] (spInit C)) (bI : Binds K dI ["self", "coefficients", "constant"] []) : FnOk P w K mg base CX0 4 f fd ["self", "other"] (spMul C) := by
  refine F.ok scMul (fun vs H Q E h => ?_) (fun cdv A outer s H vs Q E hr h => ?_)
  · obtain ⟨p, cs, c, kk, rfl, _⟩ := h
    rfl
  · obtain ⟨p, cs, c, kk, rfl, FA, hk, k⟩ := h
    obtain ⟨⟨d, dx, hp, hd⟩, can, hlen, hgd⟩ := id FA
    have hr1 : Room 3 _ := hr
    refine ⟨_, pss_cons (ps_if (pt_not (pt_val (pe_callB call_isi (by rfl) mI (by decide +kernel) (pa_cons (pv 1) (pa_cons (pe_bltn (v := V.ty "int") (u := .type "int") (by rfl) mN (by decide +kernel) rfl) pa_nil))))) pss_never pss_nil)
      (pss_cons (ps_lock (ps_setDc (i := 2) (own := [("name", 3), ("coefficient", 4)]) (g := gTup K 2 (gCons (gName 3) (gCons (gName 4) gNil))) (tt := tYes) rfl scMul.nd rfl rfl (sw_trueD rfl rfl rfl (by decide +kernel)) (pi_items (pe_fld (pv 0) rfl)) (blkOk_by (own := [("name", 3), ("coefficient", 4)]) (N := nMul) (sc := defScope sForm_mul) (by decide +kernel))
          (fun _ _ _ _ _ => pg_tup rfl (pgs_cons (pg_name (i := 3) scMul.nd rfl (Or.inl rfl)) (pgs_cons (pg_name (i := 4) scMul.nd rfl (Or.inl rfl)) pgs_nil))) (fun _ _ _ _ _ => pts_nil)
          (fun _ _ _ _ _ => pv 3) (fun _ _ _ _ _ => pe_op op_mul (pv 4) (pv 1))))
      (pss_one (ps_ret (pe_make M EI hr1 rfl mC bI .nil pass0 (pa_cons (pv 2) (pa_cons (pe_op op_mul (pe_fld (pv 0) rfl) (pv 1)) pa_nil)))))), ?_⟩
    have npd : p ≠ d := ne_of hp hd (by intro z; cases z)
    refine ⟨_, rfl, _, _, _, _, true, rfl, .ty "int", .base (.int _), kit_ty (by decide +kernel), _, rfl, ?_⟩
    refine iteF ?_
    refine ⟨d, _, hd, trivial, fun od => ?_⟩
    obtain ⟨H1, hH1⟩ : ∃ H1, H1 = upd H d (.frz od (.dK (dk cs))) := ⟨_, rfl⟩
    rw [← hH1]
    have hp1 : H1 p = some (.ins C dx (ffl d c)) := by rw [hH1, upd_ne npd]; exact hp
    have hd1 : H1 d = some (.frz od (.dK (dk cs))) := by rw [hH1]; exact upd_same
    have hmul : ∀ e ∈ cs, CMul e.2 kk := by
      intro e he
      rcases hk with h | h
      · exact .inr ⟨by omega, by omega⟩
      · have := h.1 e he
        exact .inl ⟨by omega, by omega⟩
    have hmulc : CMul c kk := by
      rcases hk with h | h
      · exact .inr ⟨by omega, by omega⟩
      · have := h.2
        exact .inl ⟨by omega, by omega⟩
    refine ⟨_, rfl, p, C, dx, _, _, rfl, hp1, T.cl, T.nF, ffl_cf d c, d, od, _, rfl, hd1, fun D hD => ?_⟩
    refine dc_it walk_items (fun i H' => Same H1 H' ∧ H' D = some (.dK (dk (mulC (cs.take i) kk)))) ⟨?_, ?_⟩ (fun i H' _ h => h.1 _ _ hd1) ?_ ?_
    · intro b o e
      rw [upd_ne (ne_of_none e hD)]
      exact e
    · rw [upd_same]
      rfl
    · rintro i x H2 H3 hi ⟨s1, s2⟩ ⟨t, x1, y1, rfl, nt, rfl, e1, e2⟩
      rw [dk_len] at hi
      have he : (dk cs)[i]? = some (Sum.inr (cs[i]).1, V.int (cs[i]).2) := by
        unfold dk
        rw [List.getElem?_map, List.getElem?_eq_getElem hi]
        rfl
      have e1 : Option.map (fun kv : Key × V => kV kv.1) (dk cs)[i]? = some x1 := e1
      have e2 : Option.map Prod.snd (dk cs)[i]? = some y1 := e2
      rw [he] at e1 e2
      cases e1
      cases e2
      have hm : cs[i] ∈ cs := List.getElem_mem hi
      have htk : cs.take (i + 1) = cs.take i ++ [cs[i]] := by rw [List.take_succ, List.getElem?_eq_getElem hi]; rfl
      have hnew : (cs[i]).1 ∉ (mulC (cs.take i) kk).map (·.1) := by
        rw [mulC_names]
        intro m
        have nd2 : ((cs.take (i + 1)).map (·.1)).Nodup := List.Sublist.nodup (List.Sublist.map _ (List.take_sublist _ _)) can.nd
        rw [htk, List.map_append] at nd2
        exact (List.nodup_append.mp nd2).2.2 _ m _ (List.mem_singleton.mpr rfl) rfl
      have hDt : (upd H2 t (.tup [V.str (cs[i]).1, V.int (cs[i]).2])) D = some (.dK (dk (mulC (cs.take i) kk))) := by
        rw [upd_ne (ne_of_none s2 nt)]
        exact s2
      refine ⟨t, _, rfl, .inl (.inl upd_same), rfl, _, _, rfl, _, _, rfl, rfl, rfl, ?_⟩
      refine ⟨_, rfl, _, rfl, _, rfl, _, _, rfl, rfl, hmul _ hm, _, Sum.inr (cs[i]).1, rfl, hDt, ?_, ?_, ?_⟩
      · rw [dk_len]
        unfold mulC
        rw [List.length_map, List.length_take]
        exact small1000 (by omega)
      · exact sameUpd (sameUpd s1 (s1.free nt)) hD
      · rw [upd_same, dk_put_new hnew, htk]
        unfold mulC
        rw [List.map_append]
        rfl
    · rintro H2 ⟨s1, s2⟩
      rw [dk_len, List.take_length] at s2
      refine ⟨s1 _ _ hd1, ?_⟩
      obtain ⟨H3, hH3⟩ : ∃ H3, H3 = upd H2 d (.dK (dk cs)) := ⟨_, rfl⟩
      rw [← hH3]
      have s3 : Same H H3 := by
        intro b o e
        rw [hH3]
        by_cases hb : b = d
        · subst hb
          rw [upd_same, ← hd, e]
        · rw [upd_ne hb]
          exact s1 b o (by rw [hH1, upd_ne hb]; exact e)
      have nDd : D ≠ d := (ne_of_none hd1 hD).symm
      have hD3 : H3 D = some (.dK (dk (mulC cs kk))) := by rw [hH3, upd_ne nDd]; exact s2
      refine ⟨_, rfl, _, rfl, p, C, dx, _, _, rfl, s3 _ _ hp, T.cl, T.nT, ffl_ct d c, _, rfl, _, _, rfl, rfl, hmulc, ?_⟩
      intro q qd nq nqd nqq
      have s4 : Same H3 (upd (upd H3 qd (.own q)) q (.ins C qd [])) := sameUpd (sameUpd (Same.refl _) nqd) nq
      refine ⟨q, qd, D, mulC cs kk, c * kk, rfl, upd_same, s4 _ _ hD3, ?_, ?_, ?_, fun ds H5 hl FA5 hff s5 => ⟨rfl, ?_⟩⟩
      · rw [mulC_names]; exact can.nd
      · unfold mulC; rw [List.length_map]; exact hlen
      · intro e he
        obtain ⟨e', he', rfl⟩ := List.mem_map.mp he
        exact hgd e' he'
      · refine k q ds H5 (fun x => by rw [hl, mulC_look]) FA5 (fun b o e => ?_) (s3.free nq) (fr_of hff fun b e => s3.free (s4.free e))
        exact s5 b o (s4 _ _ (s3 _ _ e)) (ne_of_none (s3 _ _ e) nq)
theorem scNeg : FnScope ["self"] ["self"] (defScope sForm_neg) := ⟨rfl, rfl, rfl, by decide +kernel, rfl, by decide +kernel, by decide +kernel⟩
theorem ok_neg {f fM C : Addr} {fd dM : FuncData} (F : Fun K "__neg__" "Form.__neg__" sForm_neg f fd) (EM : FnOk P w K mg base CX0 4 fM dM ["self", "other"] (spMul C)) (bM : Binds K dM ["self", "other"] []) (O : OpF K C "__mul__" "__rmul__" fM) :
    FnOk P w K mg base CX0 5 f fd ["self"] (spNeg C) := by
  refine F.ok scNeg (fun vs H Q E h => ?_) (fun cdv A outer s H vs Q E hr h => ?_)
  · obtain ⟨p, cs, c, rfl, _⟩ := h
    rfl
  · obtain ⟨p, cs, c, rfl, FA, k⟩ := h
    obtain ⟨⟨d, dx, hp, hd⟩, can, hlen, hgd⟩ := id FA
    obtain ⟨g, hb⟩ := O.back
    obtain ⟨fo, h1⟩ := O.int1
    obtain ⟨ro, h2⟩ := O.int2
    refine ⟨_, pss_one (ps_ret (pe_op (op_ownI (op := .Mult) EM O.own O.first hb (.inr ⟨g, rfl⟩) h1 h2 O.sub hr bM pass0) (pv 0) (pe_un un_neg pe_int))), ?_⟩
    refine ⟨_, rfl, _, rfl, p, dx, _, _, rfl, rfl, hp, p, cs, c, _, rfl, FA, .inl (by decide), fun q ds H' hl FA' s' nq fr => ?_⟩
    have e1 : c * -1 = - c := by omega
    rw [e1] at FA' fr
    exact k q ds H' (fun x => by rw [hl]; omega) FA' s' nq fr
end
end OS
namespace OS
open PySem L2
def spCf (C : Addr) : Sp := fun vs H Q _ => ∃ (p : Addr) (cs : Cf) (c : Int), vs = [.ref p] ∧ FormAt C H p cs c ∧ ∀ d, H d = none → Q (.ref d) (L2.upd H d (.dK (dk cs)))
def spCt (C : Addr) : Sp := fun vs H Q _ => ∃ (p : Addr) (cs : Cf) (c : Int), vs = [.ref p] ∧ FormAt C H p cs c ∧ Q (.int c) H
def spGi (C : Addr) : Sp := fun vs H Q _ => ∃ (p : Addr) (cs : Cf) (c : Int) (x : Str), vs = [.ref p, .str x] ∧ FormAt C H p cs c ∧ Q (.int (look cs x)) H
def spCn (C : Addr) : Sp := fun vs H Q _ => ∃ (p : Addr) (cs : Cf) (c : Int) (x : Str), vs = [.ref p, .str x] ∧ FormAt C H p cs c ∧ Q (.bl (lookO cs x).isSome) H
def spLn (C : Addr) : Sp := fun vs H Q _ => ∃ (p : Addr) (cs : Cf) (c : Int), vs = [.ref p] ∧ FormAt C H p cs c ∧ Q (.int cs.length) H
section
variable {P : Program} {w : World} {K : PySem.W.Frag} {mg : Str → Option Value} {base : Heap} {f C : Addr} {fd : FuncData}
theorem scCf : FnScope ["self"] ["self"] (defScope sForm_coefficients) := ⟨rfl, rfl, rfl, by decide +kernel, rfl, by decide +kernel, by decide +kernel⟩
theorem scCt : FnScope ["self"] ["self"] (defScope sForm_constant) := ⟨rfl, rfl, rfl, by decide +kernel, rfl, by decide +kernel, by decide +kernel⟩
theorem scGi : FnScope ["self", "name"] ["self", "name"] (defScope sForm_getitem) := ⟨rfl, rfl, rfl, by decide +kernel, rfl, by decide +kernel, by decide +kernel⟩
theorem scCn : FnScope ["self", "name"] ["self", "name"] (defScope sForm_contains) := ⟨rfl, rfl, rfl, by decide +kernel, rfl, by decide +kernel, by decide +kernel⟩
theorem scLn : FnScope ["self"] ["self"] (defScope sForm_len) := ⟨rfl, rfl, rfl, by decide +kernel, rfl, by decide +kernel, by decide +kernel⟩
theorem ok_cf (F : Fun K "coefficients" "Form.coefficients" sForm_coefficients f fd) (T : FTx K mg C) (mD : mg "dict" = none) : FnOk P w K mg base CX0 1 f fd ["self"] (spCf C) := by
  refine F.ok scCf (fun vs H Q E h => ?_) (fun cdv A outer s H vs Q E hr h => ?_)
  · obtain ⟨p, cs, c, rfl, _⟩ := h
    rfl
  · obtain ⟨p, cs, c, rfl, ⟨⟨d, dx, hp, hd⟩, _, _, _⟩, k⟩ := h
    refine ⟨_, pss_one (ps_ret (pe_callTy call_dictD (by rfl) mD (by decide +kernel) (pa_cons (pe_fld (pv 0) rfl) pa_nil))), ?_⟩
    exact ⟨_, rfl, p, C, dx, _, _, rfl, hp, T.cl, T.nF, ffl_cf d c, d, dk cs, rfl, Rd.of hd, fun kd nkd => k kd nkd⟩
theorem ok_ct (F : Fun K "constant" "Form.constant" sForm_constant f fd) (T : FTx K mg C) : FnOk P w K mg base CX0 1 f fd ["self"] (spCt C) := by
  refine F.ok scCt (fun vs H Q E h => ?_) (fun cdv A outer s H vs Q E hr h => ?_)
  · obtain ⟨p, cs, c, rfl, _⟩ := h
    rfl
  · obtain ⟨p, cs, c, rfl, ⟨⟨d, dx, hp, hd⟩, _, _, _⟩, k⟩ := h
    refine ⟨_, pss_one (ps_ret (pe_fld (pv 0) rfl)), ?_⟩
    exact ⟨_, rfl, p, C, dx, _, _, rfl, hp, T.cl, T.nT, ffl_ct d c, k⟩
theorem ok_gi (F : Fun K "__getitem__" "Form.__getitem__" sForm_getitem f fd) (T : FTx K mg C) : FnOk P w K mg base CX0 1 f fd ["self", "name"] (spGi C) := by
  refine F.ok scGi (fun vs H Q E h => ?_) (fun cdv A outer s H vs Q E hr h => ?_)
  · obtain ⟨p, cs, c, x, rfl, _⟩ := h
    rfl
  · obtain ⟨p, cs, c, x, rfl, ⟨⟨d, dx, hp, hd⟩, _, _, _⟩, k⟩ := h
    have hu := hu_of hr
    refine ⟨_, pss_one (ps_ret (pe_dget2 hu (pe_fld (pv 0) rfl) (pv 1) pe_int ⟨rfl, rfl, rfl, rfl⟩)), ?_⟩
    have hg : DGet H d (V.str x) ((lookO cs x).map V.int) := by
      rw [← valV_dk]
      exact DGet.k (k := Sum.inr x) hd
    refine ⟨_, rfl, p, C, dx, _, _, rfl, hp, T.cl, T.nF, ffl_cf d c, d, rfl, .inl ⟨_, .inl hd⟩, _, rfl, _, hg, ?_⟩
    have e : ((lookO cs x).map V.int).getD (V.int 0) = V.int (look cs x) := by
      unfold look
      cases lookO cs x <;> rfl
    rw [e]
    exact k
theorem ok_cn (F : Fun K "__contains__" "Form.__contains__" sForm_contains f fd) (T : FTx K mg C) : FnOk P w K mg base CX0 1 f fd ["self", "name"] (spCn C) := by
  refine F.ok scCn (fun vs H Q E h => ?_) (fun cdv A outer s H vs Q E hr h => ?_)
  · obtain ⟨p, cs, c, x, rfl, _⟩ := h
    rfl
  · obtain ⟨p, cs, c, x, rfl, ⟨⟨d, dx, hp, hd⟩, _, _, _⟩, k⟩ := h
    have hu := hu_of hr
    refine ⟨_, pss_one (ps_ret (pe_cmp (pc_din hu (pv 1) (pe_fld (pv 0) rfl)))), ?_⟩
    have hg : DGet H d (V.str x) ((lookO cs x).map V.int) := by
      rw [← valV_dk]
      exact DGet.k (k := Sum.inr x) hd
    refine ⟨_, rfl, _, rfl, p, C, dx, _, _, rfl, hp, T.cl, T.nF, ffl_cf d c, d, _, rfl, hg, ?_⟩
    rw [Option.isSome_map]
    exact k
theorem ok_ln (F : Fun K "__len__" "Form.__len__" sForm_len f fd) (T : FTx K mg C) (mL : mg "len" = none) : FnOk P w K mg base CX0 1 f fd ["self"] (spLn C) := by
  refine F.ok scLn (fun vs H Q E h => ?_) (fun cdv A outer s H vs Q E hr h => ?_)
  · obtain ⟨p, cs, c, rfl, _⟩ := h
    rfl
  · obtain ⟨p, cs, c, rfl, ⟨⟨d, dx, hp, hd⟩, _, _, _⟩, k⟩ := h
    refine ⟨_, pss_one (ps_ret (pe_callB call_lenD (by rfl) mL PySem.boot_len (pa_cons (pe_fld (pv 0) rfl) pa_nil))), ?_⟩
    refine ⟨_, rfl, p, C, dx, _, _, rfl, hp, T.cl, T.nF, ffl_cf d c, d, _, rfl, hd, ?_⟩
    rw [dk_len]
    exact k
end
end OS
namespace OS
open PySem L2
/-! ### drawn names, integers, parts -/
theorem StAt.mono {H : Hp} {st cl : Addr} {m n : Nat} (S : StAt H st cl m) (h : m ≤ n) : StAt H st cl n := by
  obtain ⟨⟨p, c, a, b, d⟩, e, f⟩ := S
  exact ⟨⟨p, c, a, b, by omega⟩, e, f⟩
theorem Kb.refl {st cl : Addr} (H : Hp) : Kb st cl H H := fun _ _ e _ _ => e
theorem Kb.trans {st cl : Addr} {H H1 H2 : Hp} (a : Kb st cl H H1) (b : Kb st cl H1 H2) : Kb st cl H H2 := fun x o e h1 h2 => b x o (a x o e h1 h2) h1 h2
theorem Kb.same {st cl : Addr} {H H1 H2 : Hp} (a : Kb st cl H H1) (b : Same H1 H2) : Kb st cl H H2 := fun x o e h1 h2 => b x o (a x o e h1 h2)
theorem Kb.new {st cl D : Addr} {H H1 : Hp} {o : HO} (a : Kb st cl H H1) (h : H D = none) : Kb st cl H (L2.upd H1 D o) := fun x u e h1 h2 => by
  rw [upd_ne (ne_of_none e h)]
  exact a x u e h1 h2
/-- what is free behind draws was free ahead -/
theorem StAt.free {st cl D : Addr} {H H1 : Hp} {m n : Nat} (S : StAt H st cl m) (S1 : StAt H1 st cl n) (a : Kb st cl H H1) (h : H1 D = none) : H D = none := by
  obtain ⟨d1, d2⟩ := S1.nst h
  cases q : H D with
  | none => rfl
  | some o => rw [a D o q d1 d2] at h; cases h
abbrev chS : Str := "abcdefghijklmnopqrstuvwxyz0123456789"
theorem chS_len : chS.cps.toList.length = 36 := by decide +kernel
theorem chS_low : ∀ j : Fin 26, chS.cps.toList[j.val]'(by rw [chS_len]; omega) ∈ lowL.cps.toList := by decide +kernel
theorem chS_ok : ∀ j : Fin 36, chOk (chS.cps.toList[j.val]'(by rw [chS_len]; exact j.isLt)) = true := by decide +kernel
theorem good_of {z : Str} {c : Nat} {r : List Nat} (e : z.cps.toList = c :: r) (hl : r.length ≤ 5) (hc : c ∈ lowL.cps.toList) (hr : ∀ x ∈ r, chOk x = true) (hm : z ≠ "mod") : good z = true := by
  unfold good
  rw [if_neg hm, e, if_neg (by simp; omega)]
  show (if c ∈ lowL.cps.toList then _ else _) = true
  rw [if_pos hc, List.all_cons]
  rw [show chOk c = true by unfold chOk; rw [decide_eq_true hc]; rfl, Bool.true_and]
  exact List.all_eq_true.mpr hr
theorem tl_sign (c : Nat) : TL.tl (⟨#[c]⟩ : Str) = [c] := rfl
def spName : Sp := fun vs H Q _ => ∃ (st cl : Addr) (m : Nat), vs = [.ref st] ∧ StAt H st cl m ∧ m ≤ 900000000 ∧
  ∀ (z : Str) (H' : Hp), good z = true → StAt H' st cl (m + 8) → Kb st cl H H' → Q (.str z) H'
/-- the size of a drawn integer -/
def Bnd (n : Int) : Prop := n.natAbs ≤ 21000000000000000000000000000
def spInt : Sp := fun vs H Q _ => ∃ (st cl : Addr) (m : Nat), vs = [.ref st] ∧ StAt H st cl m ∧ m ≤ 900000000 ∧
  ∀ (n : Int) (H' : Hp), Bnd n → StAt H' st cl (m + 3) → Kb st cl H H' → Q (.int n) H'
/-- drawn parts -/
structure PartsOk (kvs : Cf) (n : Nat) : Prop where
  nd : (kvs.map (·.1)).Nodup
  len : kvs.length ≤ n
  gd : ∀ e ∈ kvs, good e.1 = true
  bd : ∀ e ∈ kvs, Bnd e.2
def spParts : Sp := fun vs H Q _ => ∃ (st cl : Addr) (m : Nat), vs = [.ref st] ∧ StAt H st cl m ∧ m ≤ 800000000 ∧
  ∀ (d : Addr) (kvs : Cf) (H' : Hp), H d = none → H' d = some (.dK (dk kvs)) → PartsOk kvs 4 → StAt H' st cl (m + 100) → Kb st cl H H' → Q (.ref d) H'
end OS
namespace OS
open PySem PySem.Spec PySem.W PySem.Calls PyProof.Rows
section
variable {prog : Program} {w : World} {A : Around} {E : Value → Shared → Prop} {s : Shared} {K : Frag} {x C L f : Addr} {h₀ : Heap} {m : Str → Option Value} {ox : Obj} {od : Option Obj} {b tb : Value}
theorem ne_own {Q : Value → Shared → Prop} (hu : A.units + 1 < cLine) (F : Fr h₀ L s.heap m) (X₀ : K.In h₀) (I : InstAt s.heap x ox C od) (hb : Looks (model prog w) s.heap (typeOf b) tb) (hn : notFirst K C tb = true)
    (hne : findIn K (.ref C) "__ne__" = some (some (.builtin "object.__ne__"))) (hs : findIn K (.ref C) "__eq__" = some (some (.ref f))) (hf : isFn K (.ref f) = true) (hob : subIn K (.ref C) (.type "object") = some true)
    (h : wpAny (model prog w) A.in1 (call (.ref f) [.ref x, b]) (fun v s' => ∃ r, v = .bool r ∧ Q (.bool (!r)) s') E s) : wpAny (model prog w) A (richCompare .NotEq (.ref x) b) Q E s := by
  have X := X₀.keeps F.keep
  have L0 : Looks (model prog w) s.heap (typeOf (.ref x)) (.ref C) := I.type
  have sub : Looks (model prog w) s.heap (isInstance (.ref x) (.type "object")) true := L0.andThen (looks_subIn X hob)
  have body : wpAny (model prog w) A (call (.builtin "object.__ne__") [.ref x, b]) (fun v s' => ∃ r, v = .bool r ∧ Q (.bool r) s') E s := by
    refine wpAny_call (codeAny_call_builtin PySem.F.cmp_object.ne.plain PySem.F.cmpEntry_ne ?_)
    refine @check_slot (model prog w) _ _ s "object.__ne__" "object" "__ne__" (.ref x) [b] [] _ PySem.F.cmpKind_ne PySem.F.cmpSplit_ne sub (PySem.F.cmpArgs_ne _ _) ?_
    unfold Builtin.«object.__ne__»
    refine wpAny_bind (wpAny_of_eq (a := ((Value.ref x : Value), [b])) (by first | rfl | (simp only [slotArgs]; rfl)) ?_)
    refine wpAny_bind (wpAny_cRoomFor hu ?_)
    refine wpAny_bind (ifBound_K X I hs hf (wpAny_mono h (fun v s' hv => ?_) fun _ _ e => e))
    obtain ⟨r, rfl, q⟩ := hv
    refine wpAny_bind (wpAny_truthy_bool (wpAny_pure ?_))
    exact ⟨_, rfl, q⟩
  have one : wpAny (model prog w) A (tryCompare (.ref x) "__ne__" b) (fun r s' => ∃ v, r = some v ∧ Q v s') E s := by
    unfold tryCompare
    refine wpAny_bind ?_
    simp only [callSpecialIfBound?, bindSpecialIfBound?]
    refine wpAny_holding (wpAny_bind (wpAny_bind (wpAny_bind (I.type.here ((looks_findIn X hne).here ?_)))))
    refine wpAny_bind (wpAny_askSetting (wpAny_ite ?_))
    have bnd : Looks (model prog w) s.heap (bindSpecial (.builtin "object.__ne__") (.ref x)) (.builtin "object.__ne__", [.ref x]) := Looks.of_pure (PySem.F.cmp_object.ne.bind _)
    have fin : wpAny (model prog w) A (call (.builtin "object.__ne__") ([.ref x] ++ [b]) >>= fun v => pure (some v)) (fun r s' => wpAny (model prog w) A (match r with | some .notImplemented | none => pure none | some v => pure (some v)) (fun r s' => ∃ v, r = some v ∧ Q v s') E s') E s :=
      wpAny_bind (wpAny_mono body (fun v s' h' => by
        obtain ⟨r, rfl, q⟩ := h'
        exact wpAny_pure (wpAny_pure ⟨_, rfl, q⟩)) fun _ _ h' => h')
    split
    · exact wpAny_bind (bnd.here (wpAny_pure (by exact fin)))
    · exact wpAny_tryCatch (wpAny_bind (bnd.here (wpAny_pure (by exact fin))))
  unfold richCompare
  simp only [oneThing_ref]
  refine wpAny_holding (wpAny_bind (wpAny_cRoomFor (Nat.lt_of_succ_lt hu) ?_))
  refine wpAny_bind (I.type.here (wpAny_bind (hb.here ?_)))
  split
  · rename_i q
    have e : subIn K tb (.ref C) = some false := by
      rcases Bool.or_eq_true_iff.mp hn with e | e
      · rw [beq_iff_eq.mp e] at q; simp at q
      · exact beq_iff_eq.mp e
    refine wpAny_bind ((looks_subIn X e).here ?_)
    simp only [Bool.false_eq_true, if_false]
    refine wpAny_bind (wpAny_mono one (fun r s' z => ?_) fun _ _ e => e)
    obtain ⟨v, rfl, hq⟩ := z
    exact wpAny_pure hq
  · refine wpAny_bind (wpAny_pure ?_)
    simp only [Bool.false_eq_true, if_false]
    refine wpAny_bind (wpAny_mono one (fun r s' z => ?_) fun _ _ e => e)
    obtain ⟨v, rfl, hq⟩ := z
    exact wpAny_pure hq
end
end OS
namespace OS
open PySem PySem.Spec PySem.W PySem.Calls PyProof.Rows
section
variable {prog : Program} {w : World} {A : Around} {E : Value → Shared → Prop} {s : Shared} {K : Frag} {x C L f : Addr} {h₀ : Heap} {m : Str → Option Value} {ox : Obj} {od : Option Obj} {cd : ClassData}
/-- a plain class: itself and object -/
structure Mro2 (K : Frag) (C : Addr) : Prop where
  ex : ∃ cd, clsIn K C = some cd ∧ cd.mro = [.ref C, .type "object"]
theorem no_inplace {M : Model} {h : Heap} {nm : String} {add : Bool} (X : K.In h) (m2 : Mro2 K C) (h1 : findIn K (.ref C) (dunderI nm) = some none) (h2 : findIn K (.type "object") (dunderI nm) = some none) : Looks M h (fillsInplaceSlot (.ref C) nm add) false := by
  intro A Q E s k q
  obtain ⟨cd, hc, hm⟩ := m2.ex
  have Lm : Looks M h (mroOf (.ref C)) cd.mro := (looks_clsIn X hc).andThen (f := fun cd => pure cd.mro) .now
  have Lm' := Lm.keeps k
  obtain ⟨hh, g, d, tt, os⟩ := s
  have X' : K.In hh := X.keeps k
  have L1 : Looks M hh (typeLookup (.ref C) (dunderI nm)) none := looks_findIn X' h1
  have L2 : Looks M hh (typeLookup (.type "object") (dunderI nm)) none := looks_findIn X' h2
  unfold fillsInplaceSlot
  refine wpAny_bind (Lm'.at ?_)
  rw [hm]
  simp only [List.anyM_cons, List.anyM_nil]
  repeat lk
  exact q
theorem bin1_same {nm : String} {b : Value} {Q : Value → Shared → Prop} (X : K.In s.heap) (I : InstAt s.heap x ox C od) (hb : Looks (model prog w) s.heap (typeOf b) (.ref C)) (hc : selfFirst K C = true)
    (hs : findIn K (.ref C) (PySem.dunder nm) = some (some (.ref f))) (hf : isFn K (.ref f) = true)
    (h : wpAny (model prog w) A (call (.ref f) [.ref x, b]) (PySem.W.CmpBack Q) E s) : wpAny (model prog w) A (binaryOp1 nm (.ref x) b) (fun r s' => ∃ v, r = some v ∧ Q v s') E s := by
  obtain ⟨cd, rest, hcd, hm⟩ := ksp_first hc
  unfold binaryOp1
  refine wpAny_bind (I.type.here (wpAny_bind (hb.here (wpAny_bind ((fills_K X hcd hm hs).here ?_)))))
  simp only [beq_self_eq_true, if_true]
  refine wpAny_bind (wpAny_pure ?_)
  simp only [Bool.and_false, Bool.false_eq_true, if_false, Bool.false_and]
  refine wpAny_bind (wpAny_pure ?_)
  simp only [Bool.false_eq_true, if_false]
  refine wpAny_bind (m := tryMethod (.ref x) _ b) ?_
  unfold tryMethod
  refine wpAny_bind (special_fn X I hs (beq_iff_eq.mp hf) (wpAny_mono h (fun v s' hv => ?_) fun _ _ e => e))
  cases v <;> first | exact hv.elim | exact wpAny_pure (wpAny_pure ⟨_, rfl, hv⟩)
theorem bin1_T {nm T : String} {b : Value} {fo ro rc : Option Value} {Q : Value → Shared → Prop} (X : K.In s.heap) (I : InstAt s.heap x ox C od) (hb : typeOf b = pure (.type T)) (hc : selfFirst K C = true)
    (hs : findIn K (.ref C) (PySem.dunder nm) = some (some (.ref f))) (hf : isFn K (.ref f) = true) (hr : findIn K (.ref C) (dunderR nm) = some rc) (hp : rc = none ∨ ∃ g : Addr, rc = some (.ref g))
    (h1 : findIn K (.type T) (PySem.dunder nm) = some fo) (h2 : findIn K (.type T) (dunderR nm) = some ro) (hsub : subIn K (.type T) (.ref C) = some false)
    (h : wpAny (model prog w) A (call (.ref f) [.ref x, b]) (PySem.W.CmpBack Q) E s) : wpAny (model prog w) A (binaryOp1 nm (.ref x) b) (fun r s' => ∃ v, r = some v ∧ Q v s') E s := by
  obtain ⟨cd, rest, hcd, hm⟩ := ksp_first hc
  have one := ksp_try X I hs hf h
  obtain ⟨hh, g, d, tt, os⟩ := s
  have L1 : Looks (model prog w) hh (typeOf (.ref x)) (.ref C) := I.type
  have L2 : Looks (model prog w) hh (typeOf b) (.type T) := Looks.of_pure hb
  have L3 : Looks (model prog w) hh (fillsNumberSlot (.ref C) nm) true := fills_K X hcd hm hs
  have L4 : Looks (model prog w) hh (fillsNumberSlot (.type T) nm) ((fo.isSome && !isSeqSlot fo) || (ro.isSome && !isSeqSlot ro)) := ksp_fillsT X h1 h2
  have L5 : Looks (model prog w) hh (isSubtype (.type T) (.ref C)) false := looks_subIn X hsub
  have L6 : Looks (model prog w) hh (numberSlotInPython (.ref C) nm) true := ksp_inPy X hs hr hp
  have L7 : Looks (model prog w) hh (numberSlotInPython (.type T) nm) false := Looks.of_pure rfl
  have L8 : Looks (model prog w) hh (typeLookup (.type T) (dunderR nm)) ro := looks_findIn X h2
  generalize ((fo.isSome && !isSeqSlot fo) || (ro.isSome && !isSeqSlot ro)) = right at L4
  have hne : (Value.ref C == Value.type T) = false := Bool.eq_false_iff.mpr fun q => by cases beq_iff_eq.mp q
  unfold binaryOp1
  refine wpAny_bind (L1.at (wpAny_bind (L2.at (wpAny_bind (L3.at ?_)))))
  simp only [hne, Bool.false_eq_true, if_false]
  cases right with
  | false =>
    ksp_lk
    refine wpAny_mono one (fun r s' hr' => ?_) fun _ _ e => e
    obtain ⟨v, rfl, hq⟩ := hr'
    ksp_lk
    exact ⟨_, rfl, hq⟩
  | true =>
    ksp_lk
    refine wpAny_mono one (fun r s' hr' => ?_) fun _ _ e => e
    obtain ⟨v, rfl, hq⟩ := hr'
    ksp_lk
    exact ⟨_, rfl, hq⟩
theorem inplace_own {op : Operator} {b : Value} {Q : Value → Shared → Prop} (X : K.In s.heap) (I : InstAt s.heap x ox C od) (m2 : Mro2 K C) (h1 : findIn K (.ref C) (dunderI op.info.2) = some none) (h2 : findIn K (.type "object") (dunderI op.info.2) = some none)
    (h : wpAny (model prog w) A (binaryOp1 op.info.2 (.ref x) b) (fun r s' => ∃ v, r = some v ∧ Q v s') E s) : wpAny (model prog w) A (inplaceOp op (.ref x) b) Q E s := by
  have L2 : Looks (model prog w) s.heap (fillsInplaceSlot (.ref C) op.info.2 (op == .Add)) false := no_inplace X m2 h1 h2
  unfold inplaceOp
  refine wpAny_holding (wpAny_bind (I.type.here ?_))
  refine wpAny_bind (L2.here ?_)
  simp only [Bool.false_eq_true, if_false]
  refine wpAny_bind (wpAny_mono h (fun r s' hr' => ?_) fun _ _ e => e)
  obtain ⟨v, rfl, hq⟩ := hr'
  exact wpAny_pure hq
end
end OS
namespace OS
open PySem L2 PySem.Spec PyProof.Rows
section
variable {X : Cx} {CX : CXT} {n : Nat} {f C : Addr} {fd : FuncData} {ps : List Str} {sp : Sp} {E : XK}
theorem plain_at {pins : List (Addr × Obj)} {σ : L2.St} {H : Hp} {s : Shared} {a dx : Addr} {fs : List (Str × V)} (I : Inv X pins σ H s) (h : H a = some (.ins C dx fs)) : ∃ ox od, PySem.W.InstAt s.heap a ox C od ∧ ox.data = .plain := StX.insC_at I (.inr ⟨dx, fs, h⟩)
/-- int op instance, by the instance's reflected method -/
def rR1 (C : Addr) (sp : Sp) (E : XK) : R2 := fun x y H Q => ∃ a dx fs i, x = .int i ∧ y = .ref a ∧ H a = some (.ins C dx fs) ∧ sp [y, x] H Q E
theorem op_refl {op : Operator} {id : String} {g : Addr} {fo ro : Option Value} (F : FnOk X.prog X.w X.K X.mg X.base CX n f fd ps sp) (o : Own X.K C (dunderR op.info.2) f) (hc : PySem.W.selfFirst X.K C = true)
    (hs : PySem.W.findIn X.K (.ref C) (PySem.dunder op.info.2) = some (some (.ref g))) (h1 : PySem.W.findIn X.K (.type "int") (PySem.dunder op.info.2) = some fo) (h2 : PySem.W.findIn X.K (.type "int") (dunderR op.info.2) = some ro)
    (hsub : PySem.W.subIn X.K (.ref C) (.type "int") = some false) (dc : Decl X.prog X.w op.info.2 id) (hr : Room n X.A) (hb : Binds X.K fd ps []) (hx : Passes CX X E) : OpR X (binaryOp op) (rR1 C sp E) := by
  intro pins s σ H x y v u Q I rx ry h
  obtain ⟨a, dx, fs, i, rfl, rfl, ha, q⟩ := h
  cases ry
  obtain ⟨t, rfl⟩ := rx
  obtain ⟨ox, od, J, hd⟩ := plain_at I ha
  obtain ⟨m, hF⟩ := I.fr
  exact int_op_own hF I.ok.mod.kin J J.1 hd hc hs o.at_ o.fn h1 h2 hsub dc (run_at F ⟨hr, rfl⟩ hb hx I v2i q fun v u H' s' I' rv qv => notImpl rv ⟨v, H', I', rv, qv⟩)
/-- == and != by the own __eq__ -/
def rEqO (C : Addr) (sp : Sp) (E : XK) (g : Bool → Bool) : R2 := fun x y H Q => ∃ p dx fs, x = .ref p ∧ H p = some (.ins C dx fs) ∧ ((∃ i, y = .int i) ∨ ∃ b dy gs, y = .ref b ∧ H b = some (.ins C dy gs)) ∧ sp [x, y] H (fun v H' => ∃ k, v = .bl k ∧ Q (.bl (g k)) H') E
structure EqF (K : PySem.W.Frag) (C f : Addr) : Prop where
  own : Own K C "__eq__" f
  sub : PySem.W.subIn K (.type "int") (.ref C) = some false
  ne : PySem.W.findIn K (.ref C) "__ne__" = some (some (.builtin "object.__ne__"))
  ob : PySem.W.subIn K (.ref C) (.type "object") = some true
theorem eq_pre {pins : List (Addr × Obj)} {σ : L2.St} {H : Hp} {s : Shared} {y : V} {u : Value} (O : EqF X.K C f) (I : Inv X pins σ H s) (ry : RelV y u) (h : (∃ i, y = .int i) ∨ ∃ b dy gs, y = .ref b ∧ H b = some (.ins C dy gs)) :
    ∃ tb, PySem.W.Looks (model X.prog X.w) s.heap (typeOf u) tb ∧ PySem.W.notFirst X.K C tb = true := by
  rcases h with ⟨i, rfl⟩ | ⟨b, dy, gs, rfl, hb⟩
  · obtain ⟨t, rfl⟩ := ry
    exact ⟨.type "int", PySem.W.Looks.of_pure rfl, by unfold PySem.W.notFirst; rw [O.sub]; rfl⟩
  · cases ry
    obtain ⟨ox, od, J, hd⟩ := plain_at I hb
    exact ⟨.ref C, J.type, by unfold PySem.W.notFirst; simp⟩
theorem op_eqO (F : FnOk X.prog X.w X.K X.mg X.base CX n f fd ps sp) (O : EqF X.K C f) (hu : X.A.units < cLine) (hr : Room n X.A) (hb : Binds X.K fd ps []) (hx : Passes CX X E) : OpR X (compareOp .Eq) (rEqO C sp E id) := by
  intro pins s σ H x y v u Q I rx ry h
  obtain ⟨p, dx, fs, rfl, hp, hy, q⟩ := h
  cases rx
  obtain ⟨ox, od, J, hd⟩ := plain_at I hp
  obtain ⟨tb, hl, hn⟩ := eq_pre O I ry hy
  obtain ⟨m, hF⟩ := I.fr
  have rv : Vals [V.ref p, y] [Value.ref p, u] := .cons rfl (.cons ry .nil)
  show wpAny _ _ (richCompare .Eq (.ref p) u) _ _ _
  refine PySem.W.cmp_K hu hF I.ok.mod.kin J hl hn O.own.at_ O.own.fn (run_at F ⟨hr, rfl⟩ hb hx I rv q fun v u H' s' I' rv qv => ?_)
  obtain ⟨k, rfl, qv⟩ := qv
  cases rv
  exact ⟨.bl (id k), H', I', rfl, qv⟩
theorem op_neO (F : FnOk X.prog X.w X.K X.mg X.base CX n f fd ps sp) (O : EqF X.K C f) (hu : X.A.units + 1 < cLine) (hr : Room (n + 1) X.A) (hb : Binds X.K fd ps []) (hx : Passes CX X E) : OpR X (compareOp .NotEq) (rEqO C sp E not) := by
  intro pins s σ H x y v u Q I rx ry h
  obtain ⟨p, dx, fs, rfl, hp, hy, q⟩ := h
  cases rx
  obtain ⟨ox, od, J, hd⟩ := plain_at I hp
  obtain ⟨tb, hl, hn⟩ := eq_pre O I ry hy
  obtain ⟨m, hF⟩ := I.fr
  have rv : Vals [V.ref p, y] [Value.ref p, u] := .cons rfl (.cons ry .nil)
  show wpAny _ _ (richCompare .NotEq (.ref p) u) _ _ _
  refine ne_own hu hF I.ok.mod.kin J hl hn O.ne O.own.at_ O.own.fn O.ob (run_at F (Sub.in1 (n := n) ⟨hr, rfl⟩) hb hx I rv q fun v u H' s' I' rv qv => ?_)
  obtain ⟨k, rfl, qv⟩ := qv
  cases rv
  exact ⟨k, rfl, .bl (!k), H', I', rfl, qv⟩
/-- x op= y, x an instance without the in-place method -/
structure IpF (K : PySem.W.Frag) (C : Addr) (m : Str) : Prop where
  m2 : Mro2 K C
  h1 : PySem.W.findIn K (.ref C) m = some none
  h2 : PySem.W.findIn K (.type "object") m = some none
theorem ip_own2 {op : Operator} (F : FnOk X.prog X.w X.K X.mg X.base CX n f fd ps sp) (o : Own X.K C (PySem.dunder op.info.2) f) (hc : PySem.W.selfFirst X.K C = true) (ip : IpF X.K C (dunderI op.info.2))
    (hr : Room n X.A) (hb : Binds X.K fd ps []) (hx : Passes CX X E) : PIp X op (rB2 C sp E) := by
  intro pins s σ H x y v u Q I rx ry h
  obtain ⟨a, dx, fs, b, dy, gs, rfl, rfl, ha, hb', q⟩ := h
  cases rx
  cases ry
  obtain ⟨ox, od, J, _⟩ := plain_at I ha
  obtain ⟨oy, oe, J', _⟩ := plain_at I hb'
  exact inplace_own I.kIn J ip.m2 ip.h1 ip.h2 (bin1_same I.kIn J J'.type hc o.at_ o.fn (run_at F ⟨hr, rfl⟩ hb hx I v2 q fun v u H' s' I' rv qv => notImpl rv ⟨v, H', I', rv, qv⟩))
theorem ip_ownI {op : Operator} {fo ro rc : Option Value} (F : FnOk X.prog X.w X.K X.mg X.base CX n f fd ps sp) (o : Own X.K C (PySem.dunder op.info.2) f) (hc : PySem.W.selfFirst X.K C = true) (ip : IpF X.K C (dunderI op.info.2))
    (hrr : PySem.W.findIn X.K (.ref C) (dunderR op.info.2) = some rc) (hp : rc = none ∨ ∃ g : Addr, rc = some (.ref g)) (h1 : PySem.W.findIn X.K (.type "int") (PySem.dunder op.info.2) = some fo) (h2 : PySem.W.findIn X.K (.type "int") (dunderR op.info.2) = some ro)
    (hsub : PySem.W.subIn X.K (.type "int") (.ref C) = some false) (hr : Room n X.A) (hb : Binds X.K fd ps []) (hx : Passes CX X E) : PIp X op (rB1 C sp E) := by
  intro pins s σ H x y v u Q I rx ry h
  obtain ⟨a, dx, fs, i, rfl, rfl, ha, q⟩ := h
  cases rx
  obtain ⟨t, rfl⟩ := ry
  obtain ⟨ox, od, J, _⟩ := plain_at I ha
  exact inplace_own I.kIn J ip.m2 ip.h1 ip.h2 (bin1_T (T := "int") I.kIn J rfl hc o.at_ o.fn hrr hp h1 h2 hsub (run_at F ⟨hr, rfl⟩ hb hx I v2i q fun v u H' s' I' rv qv => notImpl rv ⟨v, H', I', rv, qv⟩))
end
end OS
namespace OS
open PySem L2
/-- what isinstance asks of the class of forms -/
structure InF (K : PySem.W.Frag) (C : Addr) : Prop where
  cl : Cls K C
  ha : PySem.W.findIn K (.ref C) "__class__" = some (some (.builtin "object.__class__"))
  hn : PySem.W.specialIn K (.builtin "object.__class__") "__get__" = some (some (.builtin "getset_descriptor.__get__"))
  ht : PySem.W.takesIn K (.builtin "object.__class__") = some true
  hm : PySem.W.mroIn K C (.type "object") = some true
  noint : PySem.W.subIn K (.ref C) (.type "int") = some false
  cls : PySem.W.typeIn K (.ref C) = some (.type "type")
  intno : PySem.W.subIn K (.type "int") (.ref C) = some false
theorem InF.ty {K : PySem.W.Frag} {C a dx : Addr} {H : Hp} {fs : List (Str × V)} (I : InF K C) (h : H a = some (.ins C dx fs)) : TyX K H (.ref a) (.ref C) := .base (.ins h I.cl I.ha I.hn I.ht I.hm)
theorem InF.kint {K : PySem.W.Frag} {C : Addr} (I : InF K C) : PySem.W.kitOne K (.ref C) (.type "int") = some false := by
  unfold PySem.W.kitOne
  rw [if_neg (show ¬ ((Value.ref C == Value.type "int") = true) from Bool.false_ne_true)]
  show (if PySem.W.kitMeta "int" = true then PySem.W.subIn K (.ref C) (.type "int") else none) = some false
  rw [if_pos (by decide +kernel)]
  exact I.noint
theorem InF.kself {K : PySem.W.Frag} {C : Addr} : PySem.W.kitOne K (.ref C) (.ref C) = some true := by
  unfold PySem.W.kitOne
  rw [if_pos (by simp)]
theorem InF.kform {K : PySem.W.Frag} {C : Addr} (I : InF K C) : PySem.W.kitOne K (.type "int") (.ref C) = some false := by
  unfold PySem.W.kitOne
  rw [if_neg (show ¬ ((Value.type "int" == Value.ref C) = true) from Bool.false_ne_true)]
  obtain ⟨cd, hc, _⟩ := PySem.W.any_some I.cl.hd
  show (if ((PySem.W.clsIn K C).isSome && PySem.W.typeIn K (.ref C) == some (.type "type")) = true then PySem.W.subIn K (.type "int") (.ref C) else none) = some false
  rw [if_pos (by rw [hc, I.cls] <;> rfl)]
  exact I.intno
/-- the sum of two lists of parts -/
def addC : Cf → Cf → Cf
  | cs, [] => cs
  | cs, e :: r => addC (putC cs e.1 (look cs e.1 + e.2)) r
theorem addC_snoc : ∀ (cs ds : Cf) (e : Str × Int), addC cs (ds ++ [e]) = putC (addC cs ds) e.1 (look (addC cs ds) e.1 + e.2)
  | cs, [], e => rfl
  | cs, x :: r, e => addC_snoc (putC cs x.1 (look cs x.1 + x.2)) r e
theorem addC_nd : ∀ {ds cs : Cf}, (cs.map (·.1)).Nodup → ((addC cs ds).map (·.1)).Nodup
  | [], _, h => h
  | e :: r, cs, h => addC_nd (ds := r) (cs := putC cs e.1 (look cs e.1 + e.2)) (putC_nd h)
theorem addC_len : ∀ (ds cs : Cf), (addC cs ds).length ≤ cs.length + ds.length
  | [], cs => Nat.le_refl _
  | e :: r, cs => by
    have h1 := addC_len r (putC cs e.1 (look cs e.1 + e.2))
    have h2 := putC_len cs e.1 (look cs e.1 + e.2)
    show (addC (putC cs e.1 (look cs e.1 + e.2)) r).length ≤ cs.length + (r.length + 1)
    omega
theorem addC_gd {P : Str → Prop} : ∀ {ds cs : Cf}, (∀ e ∈ cs, P e.1) → (∀ e ∈ ds, P e.1) → ∀ e ∈ addC cs ds, P e.1
  | [], _, h, _, e, he => h e he
  | x :: r, cs, h, k, e, he => addC_gd (ds := r) (fun y hy => by
      rcases putC_mem hy with q | q
      · rw [q]; exact k x List.mem_cons_self
      · exact h y q) (fun y hy => k y (List.mem_cons_of_mem _ hy)) e he
theorem putC_look2 (cs : Cf) (k : Str) (v : Int) (j : Str) : look (putC cs k v) j = if j = k then v else look cs j := by
  unfold look
  rw [putC_look]
  by_cases h : j = k
  · rw [if_pos h, if_pos h]; rfl
  · rw [if_neg h, if_neg h]
theorem addC_look : ∀ {ds : Cf} (cs : Cf), (ds.map (·.1)).Nodup → ∀ x, look (addC cs ds) x = look cs x + look ds x
  | [], cs, _, x => by
    have : look ([] : Cf) x = 0 := rfl
    rw [this, Int.add_zero]
    rfl
  | e :: r, cs, nd, x => by
    have nd' : (e.1 :: r.map (·.1)).Nodup := nd
    obtain ⟨h1, h2⟩ := List.nodup_cons.mp nd'
    show look (addC (putC cs e.1 (look cs e.1 + e.2)) r) x = _
    rw [addC_look _ h2, putC_look2]
    have e1 : look (e :: r) x = if e.1 = x then e.2 else look r x := by
      unfold look
      rw [lookO_cons]
      by_cases q : e.1 = x
      · rw [if_pos q, if_pos q]; rfl
      · rw [if_neg q, if_neg q]
    rw [e1]
    by_cases q : x = e.1
    · rw [if_pos q, if_pos q.symm, q, look_none h1]
      omega
    · rw [if_neg q, if_neg (fun z => q z.symm)]
def spAdd (C : Addr) : Sp := fun vs H Q _ => ∃ (p : Addr) (cs : Cf) (c : Int) (y : V), vs = [.ref p, y] ∧ FormAt C H p cs c ∧
  ((∃ i, y = .int i ∧ ∀ (q : Addr) (es : Cf) (H' : Hp), (∀ x, look es x = look cs x) → FormAt C H' q es (c + i) → Same H H' → H q = none → Frs C H H' q (c + i) → Q (.ref q) H') ∨
   (∃ (r : Addr) (ds : Cf) (e : Int), y = .ref r ∧ FormAt C H r ds e ∧ cs.length + ds.length < 64 ∧ ∀ (q : Addr) (es : Cf) (H' : Hp), (∀ x, look es x = look cs x + look ds x) → FormAt C H' q es (c + e) → Same H H' → H q = none → Frs C H H' q (c + e) → Q (.ref q) H'))
section
variable {P : Program} {w : World} {K : PySem.W.Frag} {mg : Str → Option Value} {base : Heap}
abbrev nAdd : List Str := ["self", "other", "total", "name", "coefficient"]
theorem scAdd : FnScope nAdd ["self", "other"] (defScope sForm_add) := ⟨rfl, rfl, rfl, by decide +kernel, rfl, by decide +kernel, by decide +kernel⟩
theorem ok_add {f fI C : Addr} {fd dI : FuncData} (F : Fun K "__add__" "Form.__add__" sForm_add f fd) (T : FTx K mg C) (I : InF K C) (mI : mg "isinstance" = none) (mN : mg "int" = none) (mD : mg "dict" = none) (mC : mg "Form" = some (.ref C)) (M : Mk K C fI)
    (EI : FnOk P w K mg base CX0 2 fI dI ["self", "coefficients", "constant"] (spInit C)) (bI : Binds K dI ["self", "coefficients", "constant"] []) : FnOk P w K mg base CX0 4 f fd ["self", "other"] (spAdd C) := by
  refine F.ok scAdd (fun vs H Q E h => ?_) (fun cdv A outer s H vs Q E hr h => ?_)
  · obtain ⟨p, cs, c, y, rfl, _⟩ := h
    rfl
  · obtain ⟨p, cs, c, y, rfl, FA, hy⟩ := h
    obtain ⟨⟨d, dx, hp, hd⟩, can, hlen, hgd⟩ := id FA
    have hu := hu_of hr
    have hr1 : Room 3 _ := hr
    refine ⟨_, pss_cons (ps_if (pt_val (pe_callB call_isi (by rfl) mI (by decide +kernel) (pa_cons (pv 1) (pa_cons (pe_bltn (v := V.ty "int") (u := .type "int") (by rfl) mN (by decide +kernel) rfl) pa_nil))))
        (pss_one (ps_ret (pe_make M EI hr1 rfl mC bI .nil pass0 (pa_cons (pe_fld (pv 0) rfl) (pa_cons (pe_op op_add (pe_fld (pv 0) rfl) (pv 1)) pa_nil))))) pss_nil)
      (pss_cons (ps_if (pt_not (pt_val (pe_callB call_isi (by rfl) mI (by decide +kernel) (pa_cons (pv 1) (pa_cons (pe_glob (v := V.ref C) rfl mC rfl) pa_nil))))) pss_never pss_nil)
      (pss_cons (ps_set (i := 2) scAdd.nd rfl (Or.inl rfl) (pe_callTy call_dictD (by rfl) mD (by decide +kernel) (pa_cons (pe_fld (pv 0) rfl) pa_nil)))
      (pss_cons (ps_lock (ps_for PassesOwn.never rfl (pi_items (pe_fld (pv 1) rfl)) (pg_tup rfl (pgs_cons (pg_name (i := 3) scAdd.nd rfl (Or.inl rfl)) (pgs_cons (pg_name (i := 4) scAdd.nd rfl (Or.inl rfl)) pgs_nil)))
        (pss_one (ps_dput hu (pv 2) (pv 3) (pe_op op_add (pe_dget2 hu (pv 2) (pv 3) pe_int ⟨rfl, rfl, rfl, rfl⟩) (pv 4)) rfl))))
      (pss_one (ps_ret (pe_make M EI hr1 rfl mC bI .nil pass0 (pa_cons (pv 2) (pa_cons (pe_op op_add (pe_fld (pv 0) rfl) (pe_fld (pv 1) rfl)) pa_nil)))))))), ?_⟩
    rcases hy with ⟨i, rfl, k⟩ | ⟨r, ds, e, rfl, FB, hl2, k⟩
    · refine ⟨_, rfl, _, _, _, _, true, rfl, .ty "int", .base (.int _), kit_ty (by decide +kernel), _, rfl, ?_⟩
      refine iteT ?_
      refine ⟨_, rfl, p, C, dx, _, _, rfl, hp, T.cl, T.nF, ffl_cf d c, ?_⟩
      refine ⟨_, rfl, p, C, dx, _, _, rfl, hp, T.cl, T.nT, ffl_ct d c, _, rfl, _, _, rfl, rfl, ?_⟩
      intro q qd nq nqd nqq
      have s4 : Same H (L2.upd (L2.upd H qd (.own q)) q (.ins C qd [])) := sameUpd (sameUpd (Same.refl _) nqd) nq
      refine ⟨q, qd, d, cs, c + i, rfl, upd_same, s4 _ _ hd, can.nd, hlen, hgd, fun es H5 hl FA5 hff s5 => ⟨rfl, ?_⟩⟩
      exact k q es H5 hl FA5 (fun b o e => s5 b o (s4 _ _ e) (ne_of_none e nq)) nq (fr_of hff fun b e => s4.free e)
    · obtain ⟨⟨d2, dx2, hr2, hd2⟩, can2, hlen2, hgd2⟩ := id FB
      refine ⟨_, rfl, _, _, _, _, false, rfl, .ty "int", I.ty hr2, I.kint, _, rfl, ?_⟩
      refine iteF ?_
      refine ⟨_, rfl, _, _, _, _, true, rfl, .own C, I.ty hr2, InF.kself, _, rfl, ?_⟩
      refine iteF ?_
      refine ⟨_, rfl, p, C, dx, _, _, rfl, hp, T.cl, T.nF, ffl_cf d c, d, dk cs, rfl, Rd.of hd, fun D hD => ?_⟩
      obtain ⟨H1, hH1⟩ : ∃ H1, H1 = L2.upd H D (.dK (dk cs)) := ⟨_, rfl⟩
      have s1 : Same H H1 := by rw [hH1]; exact sameUpd (Same.refl _) hD
      have hD1 : H1 D = some (.dK (dk cs)) := by rw [hH1]; exact upd_same
      rw [← hH1]
      have nDd2 : D ≠ d2 := (ne_of_none hd2 hD).symm
      refine ⟨d2, _, s1 _ _ hd2, trivial, fun od => ?_⟩
      obtain ⟨H2, hH2⟩ : ∃ H2, H2 = L2.upd H1 d2 (.frz od (.dK (dk ds))) := ⟨_, rfl⟩
      rw [← hH2]
      have hd2f : H2 d2 = some (.frz od (.dK (dk ds))) := by rw [hH2]; exact upd_same
      have nrd2 : r ≠ d2 := ne_of hr2 hd2 (by intro z; cases z)
      have k2 : ∀ b o, H b = some o → b ≠ d2 → H2 b = some o := fun b o e n => by rw [hH2, upd_ne n]; exact s1 _ _ e
      have hDb : H2 D = some (.dK (dk cs)) := by rw [hH2, upd_ne nDd2]; exact hD1
      refine ⟨_, rfl, r, C, dx2, _, _, rfl, k2 _ _ hr2 nrd2, T.cl, T.nF, ffl_cf d2 e, d2, od, _, rfl, hd2f, ?_⟩
      refine for_it walk_items (fun i σ H' => (∃ v w, σ = [some (.ref p), some (.ref r), some (.ref D), v, w]) ∧ H' D = some (.dK (dk (addC cs (ds.take i)))) ∧ ∀ b o, H2 b = some o → b ≠ D → H' b = some o) ⟨⟨none, none, rfl⟩, hDb, fun b o e _ => e⟩ (fun i σ H' _ h => h.2.2 _ _ hd2f nDd2.symm) ?_ ?_
      · rintro i x σ H3 H4 hi ⟨⟨v, w', rfl⟩, e3, s3⟩ ⟨t, x1, y1, rfl, nt, rfl, e1, e2⟩
        rw [dk_len] at hi
        have he : (dk ds)[i]? = some (Sum.inr (ds[i]).1, V.int (ds[i]).2) := by
          unfold dk
          rw [List.getElem?_map, List.getElem?_eq_getElem hi]
          rfl
        have e1 : Option.map (fun kv : Key × V => kV kv.1) (dk ds)[i]? = some x1 := e1
        have e2 : Option.map Prod.snd (dk ds)[i]? = some y1 := e2
        rw [he] at e1 e2
        obtain rfl : V.str (ds[i]).1 = x1 := Option.some.inj e1
        obtain rfl : V.int (ds[i]).2 = y1 := Option.some.inj e2
        have htk : ds.take (i + 1) = ds.take i ++ [ds[i]] := by rw [List.take_succ, List.getElem?_eq_getElem hi]; rfl
        have nDt : D ≠ t := ne_of_none e3 nt
        have hDt : (L2.upd H3 t (.tup [V.str (ds[i]).1, V.int (ds[i]).2])) D = some (.dK (dk (addC cs (ds.take i)))) := by rw [upd_ne nDt]; exact e3
        have hget : DGet (L2.upd H3 t (.tup [V.str (ds[i]).1, V.int (ds[i]).2])) D (V.str (ds[i]).1) ((lookO (addC cs (ds.take i)) (ds[i]).1).map V.int) := by
          rw [← valV_dk]
          exact DGet.k (k := Sum.inr (ds[i]).1) hDt
        refine ⟨t, _, rfl, .inl (.inl upd_same), rfl, _, _, rfl, _, _, rfl, rfl, ?_⟩
        refine ⟨_, rfl, D, rfl, .inl ⟨_, .inl hDt⟩, _, rfl, _, hget, ?_⟩
        have hgd : ((lookO (addC cs (ds.take i)) (ds[i]).1).map V.int).getD (V.int 0) = V.int (look (addC cs (ds.take i)) (ds[i]).1) := by
          unfold look
          cases lookO (addC cs (ds.take i)) (ds[i]).1 <;> rfl
        rw [hgd]
        have hln := addC_len (ds.take i) cs
        rw [List.length_take] at hln
        refine ⟨_, rfl, _, _, rfl, rfl, _, rfl, _, rfl, D, _, rfl, DPut.k (k := Sum.inr (ds[i]).1) hDt (by rw [dk_len]; exact small1000 (by omega)), ?_⟩
        refine ⟨⟨_, _, rfl⟩, ?_, fun b o e n => ?_⟩
        · rw [upd_same, dk_put, htk, addC_snoc]
        · rw [upd_ne n, upd_ne (ne_of_none (s3 b o e n) nt)]
          exact s3 b o e n
      · rintro σ H3 ⟨⟨v, w', rfl⟩, e3, s3⟩
        rw [dk_len, List.take_length] at e3
        refine ⟨s3 _ _ hd2f nDd2.symm, ?_⟩
        obtain ⟨H4, hH4⟩ : ∃ H4, H4 = L2.upd H3 d2 (.dK (dk ds)) := ⟨_, rfl⟩
        rw [← hH4]
        have s4 : Same H H4 := by
          intro b o eb
          rw [hH4]
          by_cases q : b = d2
          · rw [q, upd_same]
            rw [q, hd2] at eb
            exact eb
          · rw [upd_ne q]
            exact s3 _ _ (k2 _ _ eb q) (ne_of_none eb hD)
        have hD4 : H4 D = some (.dK (dk (addC cs ds))) := by rw [hH4, upd_ne nDd2]; exact e3
        refine ⟨_, rfl, _, rfl, p, C, dx, _, _, rfl, s4 _ _ hp, T.cl, T.nT, ffl_ct d c, ?_⟩
        refine ⟨_, rfl, r, C, dx2, _, _, rfl, s4 _ _ hr2, T.cl, T.nT, ffl_ct d2 e, _, _, rfl, rfl, ?_⟩
        intro q qd nq nqd nqq
        have s5 : Same H4 (L2.upd (L2.upd H4 qd (.own q)) q (.ins C qd [])) := sameUpd (sameUpd (Same.refl _) nqd) nq
        refine ⟨q, qd, D, addC cs ds, c + e, rfl, upd_same, s5 _ _ hD4, addC_nd can.nd, Nat.lt_of_le_of_lt (addC_len ds cs) hl2, addC_gd (P := fun z => good z = true) hgd hgd2, fun es H5 hl FA5 hff s6 => ⟨rfl, ?_⟩⟩
        exact k q es H5 (fun x => by rw [hl, addC_look cs can2.nd]) FA5 (fun b o eb => s6 b o (s5 _ _ (s4 _ _ eb)) (ne_of_none (s4 _ _ eb) nq)) (s4.free nq) (fr_of hff fun b e => s4.free (s5.free e))
end
end OS
namespace OS
open PySem L2 PySem.Spec PyProof.Rows
def UnR.or' {X : Cx} {f : Value → Sem Value} {r r' : V → Hp → VK → Prop} (h : UnR X f r) (h' : UnR X f r') : UnR X f (fun x H Q => r x H Q ∨ r' x H Q) := by
  intro pins s σ H x v Q I rx q
  rcases q with q | q
  · exact h pins s σ H x v Q I rx q
  · exact h' pins s σ H x v Q I rx q
def OpR.or' {X : Cx} {f : Value → Value → Sem Value} {r r' : R2} (h : OpR X f r) (h' : OpR X f r') : OpR X f (fun x y H Q => r x y H Q ∨ r' x y H Q) := by
  intro pins s σ H x y v u Q I rx ry q
  rcases q with q | q
  · exact h pins s σ H x y v u Q I rx ry q
  · exact h' pins s σ H x y v u Q I rx ry q
def eqC : Cf → Cf → Bool
  | [], _ => true
  | e :: r, ds => match lookO ds e.1 with
    | none => false
    | some v => decide (e.2 = v) && eqC r ds
theorem hits_dk {A : Around} {s : Shared} {ds : Cf} {vb : List (Key × Value)} (rb : KV (dk ds) vb) : ∀ {cs : Cf} {va : List (Key × Value)}, KV (dk cs) va → PySem.W.KeqHits A s vb va (eqC cs ds)
  | [], va, ra => by
    unfold KV dk at ra
    cases ra
    exact .nil
  | e :: r, va, ra => by
    unfold KV at ra
    have ra' : Paired _ ((Sum.inr e.1, V.int e.2) :: dk r) va := ra
    cases ra' with
    | @cons _ q _ qs h t =>
      obtain ⟨h1, h2⟩ := h
      obtain ⟨k, v⟩ := q
      have h1' : (Sum.inr e.1 : Key) = k := h1
      have rv := rb.val (Sum.inr e.1 : Key)
      rw [valV_dk] at rv
      unfold eqC
      subst h1'
      cases hq : lookO ds e.1 with
      | none =>
        rw [hq] at rv
        exact .miss (RelO.none_of rv)
      | some z =>
        rw [hq] at rv
        obtain ⟨y, hy, ry⟩ := RelO.some_of rv
        obtain ⟨t1, rfl⟩ := (show ∃ t, v = Value.int e.2 t from h2)
        obtain ⟨t2, rfl⟩ := (show ∃ t, y = Value.int z t from ry)
        have hb := SeqAt.EqAt.int_int (A := A) (s := s) e.2 t1 z t2
        rw [show (e.2 == z) = decide (e.2 = z) from rfl] at hb
        exact .hit hy hb (hits_dk rb t)
section
variable {X : Cx}
theorem op_eqC (hu : X.A.units < cLine) : OpR X (compareOp .Eq) (fun x y H Q => ∃ a b cs ds, x = .ref a ∧ y = .ref b ∧ H a = some (.dK (dk cs)) ∧ H b = some (.dK (dk ds)) ∧ Q (.bl (cs.length == ds.length && eqC cs ds)) H) := by
  intro pins s σ H x y v u Q I rx ry h
  obtain ⟨a, b, cs, ds, rfl, rfl, ea, eb, q⟩ := h
  obtain rfl : v = Value.ref a := rx
  obtain rfl : u = Value.ref b := ry
  obtain ⟨_, ya, va, ra, da⟩ := (show ObjOk X.prog X.w H s.heap a (.dK (dk cs)) from I.hok a _ ea)
  obtain ⟨_, yb, vb, rb, db⟩ := (show ObjOk X.prog X.w H s.heap b (.dK (dk ds)) from I.hok b _ eb)
  have la : va.length = cs.length := by rw [← Paired.length ra, dk_len]
  have lb : vb.length = ds.length := by rw [← Paired.length rb, dk_len]
  exact PySem.W.keq_eq (knd := mixKind X.prog X.w) ya yb da db hu (fun _ => hits_dk rb ra) (fin_bl I q (by rw [la, lb]))
end
theorem nd_sub : ∀ {l m : List Str}, l.Nodup → (∀ x ∈ l, x ∈ m) → l.length ≤ m.length
  | [], _, _, _ => Nat.zero_le _
  | a :: l, m, nd, s => by
    obtain ⟨h1, h2⟩ := List.nodup_cons.mp nd
    have ha := s a List.mem_cons_self
    have ih := nd_sub (l := l) (m := m.erase a) h2 fun x hx => (List.mem_erase_of_ne (fun e => h1 (by rw [← e]; exact hx))).mpr (s x (List.mem_cons_of_mem _ hx))
    rw [List.length_erase_of_mem ha] at ih
    have : 0 < m.length := List.length_pos_of_mem ha
    rw [List.length_cons]
    omega
theorem eqC_self {ds : Cf} (nd : (ds.map (·.1)).Nodup) : ∀ {cs : Cf}, (∀ e ∈ cs, e ∈ ds) → eqC cs ds = true
  | [], _ => rfl
  | e :: r, h => by
    unfold eqC
    rw [lookO_of_mem nd (k := e.1) (v := e.2) (h e List.mem_cons_self)]
    show (decide (e.2 = e.2) && eqC r ds) = true
    rw [eqC_self nd fun x hx => h x (List.mem_cons_of_mem _ hx)]
    simp
theorem eqC_all {ds : Cf} : ∀ {cs : Cf}, eqC cs ds = true → ∀ e ∈ cs, lookO ds e.1 = some e.2
  | [], _, e, he => by cases he
  | x :: r, h, e, he => by
    unfold eqC at h
    cases hq : lookO ds x.1 with
    | none => rw [hq] at h; cases h
    | some v =>
      rw [hq] at h
      obtain ⟨h1, h2⟩ := Bool.and_eq_true_iff.mp h
      rcases List.mem_cons.mp he with q | q
      · rw [q, hq, of_decide_eq_true h1]
      · exact eqC_all h2 e q
theorem eqC_can {cs ds : Cf} (h : Can cs) (k : Can ds) : (cs.length == ds.length && eqC cs ds) = decide (cs = ds) := by
  by_cases e : cs = ds
  · subst e
    rw [eqC_self h.nd fun _ h => h]
    simp
  · rw [decide_eq_false e]
    refine Bool.eq_false_iff.mpr fun q => e ?_
    obtain ⟨hl, hq⟩ := Bool.and_eq_true_iff.mp q
    have hl : cs.length = ds.length := by simpa using hl
    have ha := eqC_all hq
    have hsub : ∀ x ∈ cs.map (·.1), x ∈ ds.map (·.1) := by
      intro x hx
      obtain ⟨y, hy, rfl⟩ := List.mem_map.mp hx
      exact List.mem_map.mpr ⟨_, lookO_mem (ha y hy), rfl⟩
    refine h.unique k fun x => ?_
    by_cases hx : x ∈ cs.map (·.1)
    · obtain ⟨y, hy, rfl⟩ := List.mem_map.mp hx
      unfold look
      rw [ha y hy, lookO_of_mem h.nd (k := y.1) (v := y.2) hy]
    · rw [look_none hx]
      have hn : x ∉ ds.map (·.1) := by
        intro hd
        have := nd_sub (l := x :: cs.map (·.1)) (m := ds.map (·.1)) (List.nodup_cons.mpr ⟨hx, h.nd⟩) fun z hz => by
          rcases List.mem_cons.mp hz with w | w
          · rw [w]; exact hd
          · exact hsub z w
        rw [List.length_cons, List.length_map, List.length_map] at this
        omega
      rw [look_none hn]
end OS
namespace OS
open PySem L2
def spEqF (C : Addr) : Sp := fun vs H Q _ => ∃ (p : Addr) (cs : Cf) (c : Int) (y : V), vs = [.ref p, y] ∧ FormAt C H p cs c ∧
  ((∃ i, y = .int i ∧ Q (.bl false) H) ∨ ∃ (r : Addr) (ds : Cf) (e : Int), y = .ref r ∧ FormAt C H r ds e ∧ Q (.bl (decide (cs = ds) && decide (c = e))) H)
/-- the form of the sum with an int -/
def spRadd (C : Addr) : Sp := fun vs H Q _ => ∃ (p : Addr) (cs : Cf) (c i : Int), vs = [.ref p, .int i] ∧ FormAt C H p cs c ∧
  ∀ (q : Addr) (es : Cf) (H' : Hp), (∀ x, look es x = look cs x) → FormAt C H' q es (c + i) → Same H H' → H q = none → Frs C H H' q (c + i) → Q (.ref q) H'
def spSub (C : Addr) : Sp := fun vs H Q _ => ∃ (p : Addr) (cs : Cf) (c : Int) (y : V), vs = [.ref p, y] ∧ FormAt C H p cs c ∧
  ((∃ i, y = .int i ∧ ∀ (q : Addr) (es : Cf) (H' : Hp), (∀ x, look es x = look cs x) → FormAt C H' q es (c - i) → Same H H' → H q = none → Frs C H H' q (c - i) → Q (.ref q) H') ∨
   (∃ (r : Addr) (ds : Cf) (e : Int), y = .ref r ∧ FormAt C H r ds e ∧ cs.length + ds.length < 64 ∧ ∀ (q : Addr) (es : Cf) (H' : Hp), (∀ x, look es x = look cs x - look ds x) → FormAt C H' q es (c - e) → Same H H' → H q = none → Frs C H H' q (c - e) → Q (.ref q) H'))
def spRsub (C : Addr) : Sp := fun vs H Q _ => ∃ (p : Addr) (cs : Cf) (c i : Int), vs = [.ref p, .int i] ∧ FormAt C H p cs c ∧
  ∀ (q : Addr) (es : Cf) (H' : Hp), (∀ x, look es x = - look cs x) → FormAt C H' q es (i - c) → Same H H' → H q = none → Frs C H H' q (i - c) → Q (.ref q) H'
section
variable {P : Program} {w : World} {K : PySem.W.Frag} {mg : Str → Option Value} {base : Heap}
theorem scEq : FnScope ["self", "other"] ["self", "other"] (defScope sForm_eq) := ⟨rfl, rfl, rfl, by decide +kernel, rfl, by decide +kernel, by decide +kernel⟩
theorem scRadd : FnScope ["self", "other"] ["self", "other"] (defScope sForm_radd) := ⟨rfl, rfl, rfl, by decide +kernel, rfl, by decide +kernel, by decide +kernel⟩
theorem scSub : FnScope ["self", "other"] ["self", "other"] (defScope sForm_sub) := ⟨rfl, rfl, rfl, by decide +kernel, rfl, by decide +kernel, by decide +kernel⟩
theorem scRsub : FnScope ["self", "other"] ["self", "other"] (defScope sForm_rsub) := ⟨rfl, rfl, rfl, by decide +kernel, rfl, by decide +kernel, by decide +kernel⟩
theorem scRmul : FnScope ["self", "other"] ["self", "other"] (defScope sForm_rmul) := ⟨rfl, rfl, rfl, by decide +kernel, rfl, by decide +kernel, by decide +kernel⟩
theorem neg_len {cs ds : Cf} (h : Can cs) (k : Can ds) (e : ∀ x, look ds x = - look cs x) : ds.length = cs.length := by
  have h1 : ds.map (·.1) = cs.map (·.1) := asc_unique k.asc h.asc fun x => by
    rw [k.mem_iff, h.mem_iff, e]
    omega
  have := congrArg List.length h1
  rwa [List.length_map, List.length_map] at this
theorem ok_eq {f C : Addr} {fd : FuncData} (F : Fun K "__eq__" "Form.__eq__" sForm_eq f fd) (T : FTx K mg C) (I : InF K C) (mI : mg "isinstance" = none) (mC : mg "Form" = some (.ref C)) : FnOk P w K mg base CX0 1 f fd ["self", "other"] (spEqF C) := by
  refine F.ok scEq (fun vs H Q E h => ?_) (fun cdv A outer s H vs Q E hr h => ?_)
  · obtain ⟨p, cs, c, y, rfl, _⟩ := h
    rfl
  · obtain ⟨p, cs, c, y, rfl, FA, hy⟩ := h
    obtain ⟨⟨d, dx, hp, hd⟩, can, hlen, hgd⟩ := id FA
    refine ⟨_, pss_one (ps_ret (pe_and (pe_callB call_isi (by rfl) mI (by decide +kernel) (pa_cons (pv 1) (pa_cons (pe_glob (v := V.ref C) rfl mC rfl) pa_nil)))
      (pe_and (pe_cmpR (op_eqC hr.units0) (pe_fld (pv 0) rfl) (pe_fld (pv 1) rfl) (nomark _)) (pe_one (pe_cmpR op_eq (pe_fld (pv 0) rfl) (pe_fld (pv 1) rfl) (nomark _)))))), ?_⟩
    rcases hy with ⟨i, rfl, k⟩ | ⟨r, ds, e, rfl, FB, k⟩
    · refine ⟨_, rfl, _, _, _, _, false, rfl, .own C, .base (.int _), I.kform, _, rfl, ?_⟩
      exact iteF k
    · obtain ⟨⟨d2, dx2, hr2, hd2⟩, can2, hlen2, hgd2⟩ := id FB
      refine ⟨_, rfl, _, _, _, _, true, rfl, .own C, I.ty hr2, InF.kself, _, rfl, ?_⟩
      refine iteT ?_
      refine ⟨_, rfl, p, C, dx, _, _, rfl, hp, T.cl, T.nF, ffl_cf d c, ?_⟩
      refine ⟨_, rfl, r, C, dx2, _, _, rfl, hr2, T.cl, T.nF, ffl_cf d2 e, d, d2, cs, ds, rfl, rfl, hd, hd2, _, rfl, ?_⟩
      rw [eqC_can can can2]
      by_cases hq : cs = ds
      · rw [decide_eq_true hq] at k ⊢
        refine iteT ?_
        refine ⟨_, rfl, p, C, dx, _, _, rfl, hp, T.cl, T.nT, ffl_ct d c, ?_⟩
        refine ⟨_, rfl, r, C, dx2, _, _, rfl, hr2, T.cl, T.nT, ffl_ct d2 e, rfl, ?_⟩
        have : decide (V.int c = V.int e) = (true && decide (c = e)) := by
          by_cases z : c = e
          · rw [decide_eq_true z, decide_eq_true (congrArg V.int z)]; rfl
          · rw [decide_eq_false z, decide_eq_false (fun q => z (V.int.inj q))]; rfl
        rw [this]
        exact k
      · rw [decide_eq_false hq] at k ⊢
        exact iteF k
theorem ok_radd {f fA C : Addr} {fd dA : FuncData} (F : Fun K "__radd__" "Form.__radd__" sForm_radd f fd) (EA : FnOk P w K mg base CX0 4 fA dA ["self", "other"] (spAdd C)) (bA : Binds K dA ["self", "other"] []) (O : OpF K C "__add__" "__radd__" fA) :
    FnOk P w K mg base CX0 5 f fd ["self", "other"] (spRadd C) := by
  refine F.ok scRadd (fun vs H Q E h => ?_) (fun cdv A outer s H vs Q E hr h => ?_)
  · obtain ⟨p, cs, c, i, rfl, _⟩ := h
    rfl
  · obtain ⟨p, cs, c, i, rfl, FA, k⟩ := h
    obtain ⟨⟨d, dx, hp, hd⟩, _, _, _⟩ := id FA
    obtain ⟨g, hb⟩ := O.back
    obtain ⟨fo, h1⟩ := O.int1
    obtain ⟨ro, h2⟩ := O.int2
    refine ⟨_, pss_one (ps_ret (pe_op (op_ownI (op := .Add) EA O.own O.first hb (.inr ⟨g, rfl⟩) h1 h2 O.sub hr bA pass0) (pv 0) (pv 1))), ?_⟩
    exact ⟨_, rfl, _, rfl, p, dx, _, _, rfl, rfl, hp, p, cs, c, _, rfl, FA, .inl ⟨i, rfl, k⟩⟩
theorem ok_rmul {f fM C : Addr} {fd dM : FuncData} (F : Fun K "__rmul__" "Form.__rmul__" sForm_rmul f fd) (EM : FnOk P w K mg base CX0 4 fM dM ["self", "other"] (spMul C)) (bM : Binds K dM ["self", "other"] []) (O : OpF K C "__mul__" "__rmul__" fM) :
    FnOk P w K mg base CX0 5 f fd ["self", "other"] (spMul C) := by
  refine F.ok scRmul (fun vs H Q E h => ?_) (fun cdv A outer s H vs Q E hr h => ?_)
  · obtain ⟨p, cs, c, i, rfl, _⟩ := h
    rfl
  · obtain ⟨p, cs, c, i, rfl, FA, hk, k⟩ := h
    obtain ⟨⟨d, dx, hp, hd⟩, _, _, _⟩ := id FA
    obtain ⟨g, hb⟩ := O.back
    obtain ⟨fo, h1⟩ := O.int1
    obtain ⟨ro, h2⟩ := O.int2
    refine ⟨_, pss_one (ps_ret (pe_op (op_ownI (op := .Mult) EM O.own O.first hb (.inr ⟨g, rfl⟩) h1 h2 O.sub hr bM pass0) (pv 0) (pv 1))), ?_⟩
    exact ⟨_, rfl, _, rfl, p, dx, _, _, rfl, rfl, hp, p, cs, c, _, rfl, FA, hk, k⟩
theorem ok_sub {f fA fN C : Addr} {fd dA dN : FuncData} (F : Fun K "__sub__" "Form.__sub__" sForm_sub f fd) (EA : FnOk P w K mg base CX0 4 fA dA ["self", "other"] (spAdd C)) (bA : Binds K dA ["self", "other"] []) (O : OpF K C "__add__" "__radd__" fA)
    (EN : FnOk P w K mg base CX0 5 fN dN ["self"] (spNeg C)) (bN : Binds K dN ["self"] []) (ON : Own K C "__neg__" fN) : FnOk P w K mg base CX0 6 f fd ["self", "other"] (spSub C) := by
  refine F.ok scSub (fun vs H Q E h => ?_) (fun cdv A outer s H vs Q E hr h => ?_)
  · obtain ⟨p, cs, c, i, rfl, _⟩ := h
    rfl
  · obtain ⟨p, cs, c, y, rfl, FA, hy⟩ := h
    obtain ⟨⟨d, dx, hp, hd⟩, can, _, _⟩ := id FA
    obtain ⟨g, hb⟩ := O.back
    obtain ⟨fo, h1⟩ := O.int1
    obtain ⟨ro, h2⟩ := O.int2
    have hr4 : Room 4 _ := hr.mono (by decide)
    have hr5 : Room 5 _ := hr
    refine ⟨_, pss_one (ps_ret (pe_op (OpR.or' (op_ownI (op := .Add) EA O.own O.first hb (.inr ⟨g, rfl⟩) h1 h2 O.sub hr4 bA pass0) (op_own2 (op := .Add) EA O.own O.first hr4 bA pass0)) (pv 0) (pe_un (UnR.or' un_neg (un_negO EN ON hr5 bN pass0)) (pv 1)))), ?_⟩
    rcases hy with ⟨i, rfl, k⟩ | ⟨r, ds, e, rfl, FB, hl2, k⟩
    · refine ⟨_, rfl, _, rfl, .inl ⟨_, rfl, .inl ⟨p, dx, _, _, rfl, rfl, hp, p, cs, c, _, rfl, FA, .inl ⟨-i, rfl, ?_⟩⟩⟩⟩
      intro q es H' hl FN s nq fr
      exact k q es H' hl FN s nq fr
    · obtain ⟨⟨d2, dx2, hr2, hd2⟩, can2, _, _⟩ := id FB
      refine ⟨_, rfl, _, rfl, .inr ⟨r, dx2, _, rfl, hr2, r, ds, e, rfl, FB, fun q es H' hl FN s nq _ => .inr ?_⟩⟩
      obtain ⟨⟨d3, dx3, hq3, hd3⟩, can3, _, _⟩ := id FN
      refine ⟨p, dx, _, q, dx3, _, rfl, rfl, s _ _ hp, hq3, p, cs, c, _, rfl, FA.same s, .inr ⟨q, es, _, rfl, FN, by rw [neg_len can2 can3 hl]; exact hl2, fun q2 es2 H2 hl3 FN2 s2 nq2 fr2 => ?_⟩⟩
      exact k q2 es2 H2 (fun x => by rw [hl3, hl]; omega) FN2 (s.trans s2) (s.free nq2) (fr2.back s)
theorem ok_rsub {f fA fN C : Addr} {fd dA dN : FuncData} (F : Fun K "__rsub__" "Form.__rsub__" sForm_rsub f fd) (EA : FnOk P w K mg base CX0 4 fA dA ["self", "other"] (spAdd C)) (bA : Binds K dA ["self", "other"] []) (O : OpF K C "__add__" "__radd__" fA)
    (EN : FnOk P w K mg base CX0 5 fN dN ["self"] (spNeg C)) (bN : Binds K dN ["self"] []) (ON : Own K C "__neg__" fN) : FnOk P w K mg base CX0 6 f fd ["self", "other"] (spRsub C) := by
  refine F.ok scRsub (fun vs H Q E h => ?_) (fun cdv A outer s H vs Q E hr h => ?_)
  · obtain ⟨p, cs, c, i, rfl, _⟩ := h
    rfl
  · obtain ⟨p, cs, c, i, rfl, FA, k⟩ := h
    obtain ⟨⟨d, dx, hp, hd⟩, can, _, _⟩ := id FA
    obtain ⟨g, hb⟩ := O.back
    obtain ⟨fo, h1⟩ := O.int1
    obtain ⟨ro, h2⟩ := O.int2
    have hr4 : Room 4 _ := hr.mono (by decide)
    have hr5 : Room 5 _ := hr
    refine ⟨_, pss_one (ps_ret (pe_op (op_ownI (op := .Add) EA O.own O.first hb (.inr ⟨g, rfl⟩) h1 h2 O.sub hr4 bA pass0) (pe_un (un_negO EN ON hr5 bN pass0) (pv 0)) (pv 1))), ?_⟩
    refine ⟨_, rfl, p, dx, _, rfl, hp, p, cs, c, rfl, FA, fun q es H' hl FN s nq _ => ?_⟩
    obtain ⟨⟨d3, dx3, hq3, hd3⟩, can3, _, _⟩ := id FN
    refine ⟨_, rfl, q, dx3, _, _, rfl, rfl, hq3, q, es, _, _, rfl, FN, .inl ⟨i, rfl, fun q2 es2 H2 hl3 FN2 s2 nq2 fr2 => ?_⟩⟩
    have e1 : -c + i = i - c := by omega
    rw [e1] at FN2 fr2
    exact k q2 es2 H2 (fun x => by rw [hl3, hl]) FN2 (s.trans s2) (s.free nq2) (fr2.back s)
end
end OS
namespace OS
open PySem L2
theorem cut3 (j : Str) : TL.tl (cutS j none (some 3)) = (TL.tl j).take 3 := by
  show ((j.cps.toList.drop (HT.sIx j.length 0 none)).take (HT.sIx j.length j.length (some ((3 : Nat) : Int)) - HT.sIx j.length 0 none)) = _
  rw [HT.sIx_none, HT.sIx_nat, List.drop_zero, Nat.sub_zero]
  by_cases h : 3 ≤ j.length
  · rw [Nat.min_eq_left h]
  · rw [Nat.min_eq_right (by omega), List.take_of_length_le (by rw [← Str.len_list]; exact Nat.le_refl _), List.take_of_length_le (by have := Str.len_list j; show j.cps.toList.length ≤ 3; omega)]
theorem sw_cut (j y : Str) (hy : y.length = 3) : Txt.startswith j y = decide (cutS j none (some 3) = y) := by
  have hly : (TL.tl y).length = 3 := by rw [← hy]; exact (Str.len_list y).symm
  have hne : TL.tl y ≠ [] := fun e => by rw [e] at hly; cases hly
  have e1 : (cutS j none (some 3) = y) ↔ (TL.tl j).take 3 = TL.tl y := by
    rw [← cut3]
    exact ⟨fun e => by rw [e], fun e => Str.ext_list e⟩
  have e2 : Txt.startswith j y = true ↔ (TL.tl j).take 3 = TL.tl y := by
    show (decide (0 + y.length ≤ j.length) && PySem.Builtin.Str.subAt j y 0) = true ↔ _
    have := TL.at_iff (x := j) hne 0
    rw [List.drop_zero] at this
    rw [Bool.and_eq_true, decide_eq_true_eq]
    refine Iff.trans this ?_
    show (((TL.tl j).take (TL.tl y).length) == TL.tl y) = true ↔ _
    rw [hly, beq_iff_eq]
  by_cases h : cutS j none (some 3) = y
  · rw [decide_eq_true h]
    exact e2.mpr (e1.mp h)
  · rw [decide_eq_false h]
    cases q : Txt.startswith j y with
    | false => rfl
    | true => exact absurd (e1.mpr (e2.mp q)) h
theorem join_snoc : ∀ (l : List Str) (x : Str), Str.join (Str.ofString "") (l ++ [x]) = Str.join (Str.ofString "") l ++ x
  | [], x => (Str.empty_app x).symm
  | [y], x => by
    show y ++ (Str.ofString "") ++ x = y ++ x
    rw [Str.app_assoc, show (Str.ofString "") ++ x = x from Str.empty_app x]
  | y :: z :: r, x => by
    show y ++ (Str.ofString "") ++ Str.join (Str.ofString "") ((z :: r) ++ [x]) = (y ++ (Str.ofString "") ++ Str.join (Str.ofString "") (z :: r)) ++ x
    rw [join_snoc (z :: r) x, Str.app_assoc, Str.app_assoc, Str.app_assoc]
/-- the same as pieces, without the lone zero -/
def pieces2 (cs : Cf) (c : Int) : List Str := cs.map (fun e => term e.1 e.2) ++ (if c ≠ 0 then [sg c ++ dec (aint c)] else [])
theorem pieces2_eq {cs : Cf} {c : Int} (h : ¬ (cs = [] ∧ c = 0)) : pieces cs c = pieces2 cs c := by
  unfold pieces pieces2
  by_cases hc : c = 0
  · rw [if_neg (show ¬ c ≠ 0 from fun z => z hc), if_neg (by rintro (z | z); exact z hc; exact h ⟨z, hc⟩)]
  · rw [if_pos (show c ≠ 0 from hc), if_pos (Or.inl hc)]
theorem join_ne {l : List Str} {x : Str} (h : x ∈ l) (hx : 0 < x.length) : Str.join (Str.ofString "") l ≠ Str.ofString "" := by
  intro e
  have e2 : (Str.join (Str.ofString "") l).length = 0 := by rw [e]; decide +kernel
  rw [join_len] at e2
  have : ∀ (l : List Str), x ∈ l → x.length ≤ (l.map (·.length)).sum := by
    intro l
    induction l with
    | nil => intro h; cases h
    | cons y r ih =>
      intro h
      rw [List.map_cons, List.sum_cons]
      rcases List.mem_cons.mp h with q | q
      · rw [q]; omega
      · have := ih q; omega
  have := this l h
  omega
theorem pieces2_ne {cs : Cf} {c : Int} (h : ¬ (cs = [] ∧ c = 0)) : Str.join (Str.ofString "") (pieces2 cs c) ≠ Str.ofString "" := by
  by_cases hc : c = 0
  · cases cs with
    | nil => exact absurd ⟨rfl, hc⟩ h
    | cons e r =>
      refine join_ne (x := term e.1 e.2) ?_ ?_
      · unfold pieces2
        exact List.mem_append_left _ List.mem_cons_self
      · unfold term
        rw [len_app, sg_len]
        omega
  · refine join_ne (x := sg c ++ dec (aint c)) ?_ ?_
    · unfold pieces2
      rw [if_pos (show c ≠ 0 from hc)]
      exact List.mem_append_right _ List.mem_cons_self
    · rw [len_app, sg_len]
      omega
theorem ftext_zero : ftext [] 0 = Str.ofString "0" := by decide +kernel
theorem ftext_cut {cs : Cf} {c : Int} (h : ¬ (cs = [] ∧ c = 0)) {T : Str} (hT : T = Str.join (Str.ofString "") (pieces2 cs c)) :
    ftext cs c = if cutS T none (some 3) = Str.ofString " - " then (Str.ofString "-") ++ cutS T (some 3) none else cutS T (some 3) none := by
  have hj : joinedT cs c = T := by unfold joinedT; rw [pieces2_eq h, hT]
  unfold ftext
  rw [hj, sw_cut T _ (by decide +kernel)]
  by_cases q : cutS T none (some 3) = Str.ofString " - "
  · rw [decide_eq_true q, if_pos rfl, if_pos q]
  · rw [decide_eq_false q, if_neg Bool.false_ne_true, if_neg q]
    exact Str.empty_app _
def spText : Sp := fun vs H Q _ => ∃ (d : Addr) (kvs cs : Cf) (c : Int), vs = [.ref d, .int c] ∧ H d = some (.dK (dk kvs)) ∧ (kvs.map (·.1)).Nodup ∧ kvs.length < 64 ∧ (∀ e ∈ kvs, good e.1 = true) ∧ (∀ e ∈ kvs, aint e.2 < 10 ^ 64) ∧ aint c < 10 ^ 64 ∧ Can cs ∧ (∀ x, look cs x = look kvs x) ∧
  ∀ H', Same H H' → Q (.str (ftext cs c)) H'
theorem look_small {kvs : Cf} (h : ∀ e ∈ kvs, aint e.2 < 10 ^ 64) (k : Str) : aint (look kvs k) < 10 ^ 64 := by
  unfold look
  cases q : lookO kvs k with
  | none => decide
  | some v => exact h _ (lookO_mem q)
/-- the signs " + ", " - " as the law picks them -/
theorem sg_pick (n : Int) : ([V.str " + ", V.str " - "] : List V)[(if decide (n < 0) = true then (1 : Int) else 0).toNat]? = some (V.str (sg n)) := by
  unfold sg
  by_cases h : n < 0
  · rw [decide_eq_true h, if_pos rfl, if_pos h]
    rfl
  · rw [decide_eq_false h, if_neg Bool.false_ne_true, if_neg h]
    rfl
section
variable {P : Program} {w : World} {K : PySem.W.Frag} {mg : Str → Option Value} {base : Heap}
abbrev nText : List Str := ["_law_parts", "_law_offset", "_law_text_here", "_law_name", "_law_term"]
theorem scText : FnScope nText ["_law_parts", "_law_offset"] (defScope s_text) := ⟨rfl, rfl, rfl, by decide +kernel, rfl, by decide +kernel, by decide +kernel⟩
theorem ok_text {f : Addr} {fd : FuncData} (F : Fun K "_law_text" "_law_text" s_text f fd) (mS : mg "sorted" = none) (mA : mg "abs" = none) (mT : mg "str" = none) (mI : mg "int" = none) : FnOk P w K mg base CX0 1 f fd ["_law_parts", "_law_offset"] spText := by
  refine F.ok scText (fun vs H Q E h => ?_) (fun cdv A outer s H vs Q E hr h => ?_)
  · obtain ⟨d, kvs, cs, c, rfl, _⟩ := h
    rfl
  · obtain ⟨d, kvs, cs, c, rfl, hd, nd, hlen, hgd, hsm, hcs, can, hlk, k⟩ := h
    have hu := hu_of hr
    refine ⟨_, pss_cons (ps_set (i := 2) scText.nd rfl (Or.inl rfl) pe_str)
      (pss_cons (ps_for PassesOwn.never rfl (pi_list (pe_callB (call_sortedD rfl) (by rfl) mS (by decide +kernel) (pa_cons (pv 0) pa_nil))) (pg_name (i := 3) scText.nd rfl (Or.inl rfl))
        (pss_one (ps_if (pt_cmpR op_ne (pe_dget hu (pv 0) (pv 3) (fun _ _ => rfl)) pe_int (nomark _))
          (pss_cons (ps_set (i := 4) scText.nd rfl (Or.inl rfl) (pv 3))
          (C8.pss_cut (ps_if (pt_cmpR op_ne (pe_callB call_abs (by rfl) mA (by decide +kernel) (pa_cons (pe_dget hu (pv 0) (pv 3) (fun _ _ => rfl)) pa_nil)) pe_int (nomark _))
            (pss_one (ps_set (i := 4) scText.nd rfl (Or.inl rfl) (pe_op op_add_str (pe_op op_add_str (pe_callTy call_str_int (by rfl) mT (by decide +kernel) (pa_cons (pe_callB call_abs (by rfl) mA (by decide +kernel) (pa_cons (pe_dget hu (pv 0) (pv 3) (fun _ _ => rfl)) pa_nil)) pa_nil)) pe_str) (pv 3)))) pss_nil)
          (pss_one (ps_set (i := 2) scText.nd rfl (Or.inl rfl) (pe_op op_add_str (pe_op op_add_str (pv 2) (pe_ix ix_list (pe_lst (pa_cons pe_str (pa_cons pe_str pa_nil)))
            (pe_callTy call_int1 (by rfl) mI (by decide +kernel) (pa_cons (pe_cmpR op_lt (pe_dget hu (pv 0) (pv 3) (fun _ _ => rfl)) pe_int (nomark _)) pa_nil)) fun _ _ => rfl)) (pv 4)))))) pss_nil)))
      (C8.pss_cut (ps_if (pt_cmpR op_ne (pv 1) pe_int (nomark _)) (pss_one (ps_set (i := 2) scText.nd rfl (Or.inl rfl) (pe_op op_add_str (pe_op op_add_str (pv 2) (pe_ix ix_list (pe_lst (pa_cons pe_str (pa_cons pe_str pa_nil)))
            (pe_callTy call_int1 (by rfl) mI (by decide +kernel) (pa_cons (pe_cmpR op_lt (pv 1) pe_int (nomark _)) pa_nil)) fun _ _ => rfl))
            (pe_callTy call_str_int (by rfl) mT (by decide +kernel) (pa_cons (pe_callB call_abs (by rfl) mA (by decide +kernel) (pa_cons (pv 1) pa_nil)) pa_nil))))) pss_nil)
      (pss_cons (ps_if (pt_cmpR op_eq (pv 2) pe_str (nomark _)) (pss_one (ps_ret pe_str)) pss_nil)
      (pss_cons (ps_if (pt_cmpR op_eq (pe_slice sl_str (pv 2) po_none (po_some pe_int)) pe_str (nomark _)) (pss_one (ps_ret (pe_op op_add_str pe_str (pe_slice sl_str (pv 2) (po_some pe_int) po_none)))) pss_nil)
      (pss_one (ps_ret (pe_slice sl_str (pv 2) (po_some pe_int) po_none))))))), ?_⟩
    refine ⟨_, rfl, d, dk kvs, kvs.map (·.1), rfl, Rd.of hd, ?_, by rw [List.length_map]; exact hlen, fun ys l perm srt hl => ?_⟩
    · unfold dk
      rw [List.map_map, List.map_map]
      rfl
    have ynd : ys.Nodup := perm.nodup_iff.mpr nd
    have yasc : Asc ys := sorted_asc srt ynd
    have ylen : ys.length < 64 := by rw [perm.length_eq, List.length_map]; exact hlen
    have s1 : Same H (L2.upd H l (.lst (ys.map V.str))) := sameUpd (Same.refl _) hl
    obtain ⟨H1, hH1⟩ : ∃ H1, H1 = L2.upd H l (.lst (ys.map V.str)) := ⟨_, rfl⟩
    rw [← hH1] at s1
    have hl1 : H1 l = some (.lst (ys.map V.str)) := by rw [hH1]; exact upd_same
    rw [← hH1]
    have hgs : ∀ q ∈ ys, q.length ≤ 6 := by
      intro q hq
      obtain ⟨e', he', e⟩ := List.mem_map.mp (perm.mem_iff.mp hq)
      rw [← e]
      exact (good_len (hgd e' he')).1
    have hpk : cs = pick (look kvs) ys := can.unique (pick_can yasc) fun x => by
      rw [hlk, pick_look yasc]
      intro q hq
      refine perm.mem_iff.mpr ?_
      cases Classical.em (q ∈ kvs.map (·.1)) with
      | inl z => exact z
      | inr z => exact absurd (look_none z) hq
    have tlen : ∀ i, (Str.join (Str.ofString "") ((pick (look kvs) (ys.take i)).map fun e => term e.1 e.2)).length ≤ 6400 := by
      intro i
      rw [join_len]
      have h1 : ((pick (look kvs) (ys.take i)).map fun e => term e.1 e.2).length ≤ 64 := by
        rw [List.length_map]
        unfold pick
        rw [List.length_map]
        exact Nat.le_trans (List.length_filter_le _ _) (by rw [List.length_take]; omega)
      have h2 := sum_le ((pick (look kvs) (ys.take i)).map fun e => term e.1 e.2) (fun y hy => by
        obtain ⟨e, he, rfl⟩ := List.mem_map.mp hy
        unfold pick at he
        obtain ⟨q, hq, rfl⟩ := List.mem_map.mp he
        exact term_len (by have := hgs q (List.mem_of_mem_take (List.mem_filter.mp hq).1); show q.length ≤ 10; omega) (look_small hsm q))
      omega
    refine ⟨l, rfl, ⟨_, SqL.of hl1⟩, ?_⟩
    refine for_list (K := K) (a := l) (xs := ys.map V.str) (fun i σ H' => (∃ v w, σ = [some (.ref d), some (.int c), some (.str (Str.join (Str.ofString "") ((pick (look kvs) (ys.take i)).map fun e => term e.1 e.2))), v, w]) ∧ Same H1 H')
      ⟨⟨none, none, rfl⟩, Same.refl _⟩ (fun i σ H' _ h => SqL.of (h.2 _ _ hl1)) ?_ ?_
    · rintro i x σ H2 hx ⟨⟨v, w', rfl⟩, s2⟩
      rw [List.getElem?_map] at hx
      cases hyi : ys[i]? with
      | none => rw [hyi] at hx; cases hx
      | some y =>
        rw [hyi] at hx
        obtain rfl : V.str y = x := Option.some.inj hx
        have hmem : y ∈ ys := List.mem_of_getElem? hyi
        have hd2 : H2 d = some (.dK (dk kvs)) := s2 _ _ (s1 _ _ hd)
        have hlo : lookO kvs y = some (look kvs y) := by
          have : y ∈ kvs.map (·.1) := perm.mem_iff.mp hmem
          cases q : lookO kvs y with
          | none => exact absurd this (lookO_none.mp q)
          | some z => unfold look; rw [q]; rfl
        have hg : ∀ H', Same H2 H' → DGet H' d (V.str y) (some (V.int (look kvs y))) := by
          intro H' s'
          have hv : valV (dk kvs) (Sum.inr y : Key) = some (V.int (look kvs y)) := by rw [valV_dk, hlo]; rfl
          rw [← hv]
          exact DGet.k (k := Sum.inr y) (s' _ _ hd2)
        have htk : ys.take (i + 1) = ys.take i ++ [y] := by rw [List.take_succ, hyi]; rfl
        have hyl := hgs y hmem
        have hsy := look_small hsm y
        have ha0 := aint0 (look kvs y)
        refine ⟨_, rfl, _, rfl, d, _, rfl, hg _ (Same.refl _), rfl, _, rfl, ?_⟩
        by_cases hz : look kvs y = 0
        · rw [show (!decide (V.int (look kvs y) = V.int 0)) = false by rw [hz]; simp]
          refine iteF ?_
          refine ⟨⟨some (V.str y), w', ?_⟩, s2⟩
          rw [htk, pick_snoc, if_neg (fun z => z hz)]
          rfl
        · rw [show (!decide (V.int (look kvs y) = V.int 0)) = true by rw [decide_eq_false (fun z => hz (V.int.inj z))]; rfl]
          refine iteT ?_
          refine ⟨_, rfl, ?_⟩
          have hnl := term_len (z := y) (n := look kvs y) (by omega) hsy
          have hterm : term y (look kvs y) = sg (look kvs y) ++ (if aint (look kvs y) = 1 then y else dec (aint (look kvs y)) ++ (Str.ofString "*") ++ y) := rfl
          refine ⟨fun σ H' => H' = H2 ∧ ∃ t, t = (if aint (look kvs y) = 1 then y else dec (aint (look kvs y)) ++ (Str.ofString "*") ++ y) ∧ σ = [some (.ref d), some (.int c), some (.str (Str.join (Str.ofString "") ((pick (look kvs) (ys.take i)).map fun e => term e.1 e.2))), some (.str y), some (.str t)], ?_, ?_⟩
          · refine ⟨_, rfl, _, rfl, d, _, rfl, hg _ (Same.refl _), _, rfl, rfl, _, rfl, ?_⟩
            show if (!decide (V.int (aint (look kvs y)) = V.int 1)) = true then _ else _
            by_cases h1 : aint (look kvs y) = 1
            · rw [show (!decide (V.int (aint (look kvs y)) = V.int 1)) = false by rw [h1]; simp]
              refine iteF ?_
              exact ⟨rfl, _, (if_pos h1).symm, rfl⟩
            · rw [show (!decide (V.int (aint (look kvs y)) = V.int 1)) = true by rw [decide_eq_false (fun z => h1 (V.int.inj z))]; rfl]
              refine iteT ?_
              have hdl := dec_len ha0 hsy
              have hst : (Str.ofString "*").length = 1 := by decide +kernel
              refine ⟨_, rfl, _, rfl, d, _, rfl, hg _ (Same.refl _), _, rfl, _, rfl, log2_lt ?_, _, _, rfl, rfl, ?_, _, rfl, _, _, rfl, rfl, ?_, rfl, _, (if_neg h1).symm, rfl⟩
              · show (aint (look kvs y)).natAbs < 10 ^ 64
                omega
              · show (dec (aint (look kvs y))).length + (Str.ofString "*").length ≤ sizeLine
                exact Nat.le_of_lt (small1000 (by omega))
              · show (dec (aint (look kvs y)) ++ (Str.ofString "*")).length + y.length ≤ sizeLine
                rw [len_app]
                exact Nat.le_of_lt (small1000 (by omega))
          · rintro σ H3 ⟨rfl, t, ht, rfl⟩
            refine ⟨_, rfl, by show 2 ≤ sizeLine; decide, fun L hL => ?_⟩
            have sL : Same H3 (L2.upd H3 L (.lst [V.str " + ", V.str " - "])) := sameUpd (Same.refl _) hL
            refine ⟨_, rfl, _, rfl, d, _, rfl, hg _ sL, _, _, rfl, rfl, .inr ⟨_, rfl, ?_⟩⟩
            refine ⟨L, _, _, V.str (sg (look kvs y)), rfl, rfl, SqL.of upd_same, atI_in (by split <;> decide) (sg_pick (look kvs y)), ?_⟩
            have htl := tlen i
            have hsg := sg_len (look kvs y)
            have htt : (sg (look kvs y)).length + t.length ≤ 100 := by rw [← len_app, ht, ← hterm]; exact hnl
            refine ⟨_, _, rfl, rfl, Nat.le_trans (by omega : _ ≤ 6600) (by decide), _, rfl, _, _, rfl, rfl, ?_, ⟨some (V.str y), some (V.str t), ?_⟩, ?_⟩
            · rw [len_app]
              exact Nat.le_trans (by omega : _ ≤ 6600) (by decide)
            · rw [htk, pick_snoc, if_pos hz, List.map_append]
              show _ = ([some (V.ref d), some (V.int c), some (V.str (Str.join (Str.ofString "") ((pick (look kvs) (ys.take i)).map (fun e => term e.1 e.2) ++ [term y (look kvs y)]))), some (V.str y), some (V.str t)] : List (Option V))
              rw [join_snoc, hterm, ← ht, ← Str.app_assoc]
              rfl
            · exact s2.trans sL
    · rintro σ H2 ⟨⟨v, w', rfl⟩, s2⟩
      rw [List.length_map, List.take_length, ← hpk]
      have tl6 := tlen ys.length
      rw [List.take_length, ← hpk] at tl6
      refine ⟨fun σ H' => Same H H' ∧ σ = [some (.ref d), some (.int c), some (.str (Str.join (Str.ofString "") (pieces2 cs c))), v, w'], ?_, ?_⟩
      · refine ⟨_, rfl, rfl, _, rfl, ?_⟩
        by_cases hc : c = 0
        · rw [show (!decide (V.int c = V.int 0)) = false by rw [hc]; simp]
          refine iteF ?_
          refine ⟨s1.trans s2, ?_⟩
          unfold pieces2
          rw [if_neg (show ¬ c ≠ 0 from fun z => z hc), List.append_nil]
        · rw [show (!decide (V.int c = V.int 0)) = true by rw [decide_eq_false (fun z => hc (V.int.inj z))]; rfl]
          refine iteT ?_
          refine ⟨_, rfl, by show 2 ≤ sizeLine; decide, fun L hL => ?_⟩
          have sL : Same H2 (L2.upd H2 L (.lst [V.str " + ", V.str " - "])) := sameUpd (Same.refl _) hL
          refine ⟨_, rfl, _, _, rfl, rfl, .inr ⟨_, rfl, ?_⟩⟩
          refine ⟨L, _, _, V.str (sg c), rfl, rfl, SqL.of upd_same, atI_in (by split <;> decide) (sg_pick c), ?_⟩
          have hsg := sg_len c
          have hdl := dec_len (aint0 c) hcs
          refine ⟨_, _, rfl, rfl, Nat.le_trans (by omega : _ ≤ 6600) (by decide), _, rfl, _, rfl, _, rfl, log2_lt ?_, _, _, rfl, rfl, ?_, (s1.trans s2).trans sL, ?_⟩
          · show (aint c).natAbs < 10 ^ 64
            have := aint0 c
            omega
          · show (Str.join (Str.ofString "") (cs.map fun e => term e.1 e.2) ++ sg c).length + (dec (aint c)).length ≤ sizeLine
            rw [len_app]
            exact Nat.le_trans (by omega : _ ≤ 6600) (by decide)
          · unfold pieces2
            rw [if_pos (show c ≠ 0 from hc), join_snoc, ← Str.app_assoc]
            rfl
      · rintro σ H3 ⟨s3, rfl⟩
        obtain ⟨T, hT⟩ : ∃ T, T = Str.join (Str.ofString "") (pieces2 cs c) := ⟨_, rfl⟩
        rw [← hT]
        have hTl : T.length ≤ 6500 := by
          rw [hT]
          unfold pieces2
          by_cases hc : c = 0
          · rw [if_neg (show ¬ c ≠ 0 from fun z => z hc), List.append_nil]
            omega
          · rw [if_pos (show c ≠ 0 from hc), join_snoc, len_app, len_app]
            have hsg := sg_len c
            have hdl := dec_len (aint0 c) hcs
            omega
        have hTs : T.length ≤ sizeLine := Nat.le_trans hTl (by decide)
        refine ⟨_, rfl, rfl, _, rfl, ?_⟩
        by_cases h0 : cs = [] ∧ c = 0
        · have e : T = Str.ofString "" := by rw [hT, h0.1, h0.2]; rfl
          rw [decide_eq_true (congrArg V.str e)]
          refine iteT ?_
          have := k H3 s3
          rw [h0.1, h0.2, ftext_zero] at this
          exact this
        · have e : T ≠ Str.ofString "" := by rw [hT]; exact pieces2_ne h0
          rw [decide_eq_false (fun z => e (V.str.inj z))]
          refine iteF ?_
          have fin := k H3 s3
          rw [ftext_cut h0 hT] at fin
          refine ⟨_, rfl, _, rfl, _, rfl, hTs, rfl, _, rfl, ?_⟩
          have hcl : (cutS T (some 3) none).length ≤ 6500 := by
            rw [Str.len_list]
            show (((T).cps.toList.drop _).take _).length ≤ 6500
            rw [List.length_take, List.length_drop, ← Str.len_list]
            omega
          by_cases q : cutS T none (some 3) = Str.ofString " - "
          · rw [if_pos q] at fin
            rw [decide_eq_true (congrArg V.str q)]
            refine iteT ?_
            refine ⟨_, rfl, _, rfl, _, rfl, hTs, _, _, rfl, rfl, ?_, fin⟩
            show (Str.ofString "-").length + _ ≤ _
            have : (Str.ofString "-").length = 1 := by decide +kernel
            exact Nat.le_trans (by omega : _ ≤ 6600) (by decide)
          · rw [if_neg q] at fin
            rw [decide_eq_false (fun z => q (V.str.inj z))]
            refine iteF ?_
            exact ⟨_, rfl, _, rfl, _, rfl, hTs, fin⟩
end
end OS
namespace OS
open PySem L2
def Mid (n : Int) : Prop := n.natAbs < 2 ^ 200
end OS
namespace OS
open PySem L2 PySem.Spec PyProof.Rows
section
variable {X : Cx} {e : Expr} {t : TE}
/-- e, its value locked from here on (a new thing that is only walked over) -/
def tFz (t : TE) : TE := fun σ H Q => t σ H fun x H1 => ∃ d u, x = V.ref d ∧ H1 d = some u ∧ Mut (some u) ∧ ∀ od, Q x (L2.upd H1 d (.frz od u))
theorem pe_frz (h : PE X e t) : PE X e (tFz t) := by
  refine ⟨fun pins s σ H Q I hw => ?_⟩
  refine thn (h.run pins s σ H _ I hw) fun v s1 ⟨x, H1, I1, r, d, u, ex, hd, mu, q⟩ => ?_
  obtain ⟨od, I2⟩ := I1.lock hd mu
  exact ⟨x, _, I2, r, q od⟩
end
end OS
namespace OS
open PySem L2
/-! ### rows of a name and a number -/
def RowsAt (H : Hp) : List Addr → Cf → Prop
  | [], [] => True
  | r :: rs, e :: cs => H r = some (.lst [.str e.1, .int e.2]) ∧ RowsAt H rs cs
  | _, _ => False
theorem RowsAt.mono {H H' : Hp} : ∀ {rs : List Addr} {cs : Cf}, RowsAt H rs cs → Same H H' → RowsAt H' rs cs
  | [], [], _, _ => trivial
  | _ :: _, _ :: _, h, s => ⟨s _ _ h.1, RowsAt.mono h.2 s⟩
  | [], _ :: _, h, _ => h.elim
  | _ :: _, [], h, _ => h.elim
theorem RowsAt.but {H H' : Hp} (s : ∀ r (x : Str) (n : Int), H r = some (.lst [.str x, .int n]) → H' r = some (.lst [.str x, .int n])) : ∀ {rs : List Addr} {cs : Cf}, RowsAt H rs cs → RowsAt H' rs cs
  | [], [], _ => trivial
  | _ :: _, _ :: _, h => ⟨s _ _ _ h.1, RowsAt.but s h.2⟩
  | [], _ :: _, h => h.elim
  | _ :: _, [], h => h.elim
theorem rows_put {H : Hp} {T D r : Addr} {x : Str} {n : Int} {rs : List Addr} {o1 o2 : HO} (e : H D = some (.lst (rs.map V.ref))) (hT : H T = none) (h : H r = some (.lst [.str x, .int n])) : (L2.upd (L2.upd H T o1) D o2) r = some (.lst [.str x, .int n]) := by
  have h1 : r ≠ D := by
    intro q
    rw [q, e] at h
    cases rs with
    | nil => cases h
    | cons a l => cases h
  rw [upd_ne h1, upd_ne (ne_of_none h hT)]
  exact h
theorem RowsAt.snoc {H : Hp} {r : Addr} {e : Str × Int} (hr : H r = some (.lst [.str e.1, .int e.2])) : ∀ {rs : List Addr} {cs : Cf}, RowsAt H rs cs → RowsAt H (rs ++ [r]) (cs ++ [e])
  | [], [], _ => ⟨hr, trivial⟩
  | _ :: _, _ :: _, h => ⟨h.1, RowsAt.snoc hr h.2⟩
  | [], _ :: _, h => h.elim
  | _ :: _, [], h => h.elim
theorem RowsAt.length {H : Hp} : ∀ {rs : List Addr} {cs : Cf}, RowsAt H rs cs → rs.length = cs.length
  | [], [], _ => rfl
  | _ :: _, _ :: _, h => congrArg Nat.succ (RowsAt.length h.2)
  | [], _ :: _, h => h.elim
  | _ :: _, [], h => h.elim
def rowsD (cs : Cf) : List PyData := cs.map fun e => .list [.str e.1, .int e.2]
theorem RowsAt.dp {K : PySem.W.Frag} {H : Hp} : ∀ {rs : List Addr} {cs : Cf}, RowsAt H rs cs → DpAll K H (rs.map V.ref) (rowsD cs)
  | [], [], _ => .nil
  | _ :: _, _ :: _, h => .cons (.lst (SqL.of h.1) (.cons (.str _) (.cons (.int _) .nil))) (RowsAt.dp h.2)
  | [], _ :: _, h => h.elim
  | _ :: _, [], h => h.elim
theorem low_lt : ∀ c ∈ lowL.cps.toList, c < 1114112 := by decide +kernel
theorem dig_lt : ∀ c ∈ digL.cps.toList, c < 1114112 := by decide +kernel
theorem good_ok {z : Str} (h : good z = true) : (z.cps.all (· < 0x110000)) = true := by
  unfold good at h
  by_cases h1 : z = "mod"
  · rw [if_pos h1] at h; cases h
  · rw [if_neg h1] at h
    by_cases h2 : z.cps.toList.length < 1 ∨ 6 < z.cps.toList.length
    · rw [if_pos h2] at h; cases h
    · rw [if_neg h2] at h
      by_cases h3 : z.cps.toList.headD 0 ∈ lowL.cps.toList
      · rw [if_pos h3] at h
        rw [← Array.all_toList]
        refine List.all_eq_true.mpr fun c hc => ?_
        have := List.all_eq_true.mp h c hc
        unfold chOk at this
        rw [Bool.or_eq_true, decide_eq_true_eq, decide_eq_true_eq] at this
        rcases this with q | q
        · exact decide_eq_true (low_lt c q)
        · exact decide_eq_true (dig_lt c q)
      · rw [if_neg h3] at h; cases h
theorem rows_lay : ∀ (cs : Cf), (∀ e ∈ cs, good e.1 = true) → PyData.canLayAll0 (rowsD cs) = true ∧ PyData.depthAll (rowsD cs) ≤ 2
  | [], _ => ⟨rfl, by simp [rowsD, PyData.depthAll]⟩
  | e :: cs, h => by
    obtain ⟨h1, h2⟩ := rows_lay cs fun e' he => h e' (List.mem_cons_of_mem _ he)
    have hg : PyData.strOk e.1 = true := good_ok (h e (List.mem_cons_self ..))
    unfold rowsD at h1 h2 ⊢
    refine ⟨?_, ?_⟩
    · simp [PyData.canLay0, PyData.canLayAll0, hg, h1]
    · simp [PyData.depth, PyData.depthAll]
      omega
theorem rows_shaped {cs : Cf} (h : ∀ e ∈ cs, good e.1 = true) : PySem.SeqAt.shaped (.list (rowsD cs)) = true := by
  obtain ⟨h1, h2⟩ := rows_lay cs h
  unfold SeqAt.shaped
  rw [Bool.and_eq_true]
  refine ⟨by simp [PyData.canLay0, h1], decide_eq_true ?_⟩
  simp [PyData.depth]
  omega
end OS
namespace OS
open PySem L2
theorem sum_perm {l m : List Int} (h : l.Perm m) : l.sum = m.sum := by
  induction h with
  | nil => rfl
  | cons x _ ih => rw [List.sum_cons, List.sum_cons, ih]
  | swap x y l => simp only [List.sum_cons]; omega
  | trans _ _ a b => rw [a, b]
theorem sum_pick (g h : Str → Int) : ∀ ys : List Str, ((pick g ys).map fun e => e.2 * h e.1).sum = (ys.map fun y => g y * h y).sum
  | [] => rfl
  | y :: r => by
    have ih := sum_pick g h r
    have e : pick g (y :: r) = if g y ≠ 0 then (y, g y) :: pick g r else pick g r := by
      unfold pick
      by_cases q : g y = 0
      · rw [if_neg (fun z => z q), List.filter_cons, if_neg (by simp [q])]
      · rw [if_pos q, List.filter_cons, if_pos (by simp [q])]
        rfl
    rw [e, List.map_cons, List.sum_cons, ← ih]
    by_cases q : g y = 0
    · rw [if_neg (fun z => z q), q]
      omega
    · rw [if_pos q, List.map_cons, List.sum_cons]
theorem sum_kvs {kvs : Cf} (nd : (kvs.map (·.1)).Nodup) (h : Str → Int) : (kvs.map fun e => e.2 * h e.1).sum = ((kvs.map (·.1)).map fun y => look kvs y * h y).sum := by
  rw [List.map_map]
  congr 1
  refine List.map_congr_left fun e he => ?_
  show e.2 * h e.1 = look kvs e.1 * h e.1
  unfold look
  rw [lookO_of_mem nd (k := e.1) (v := e.2) he]
  rfl
theorem look_mid {kvs : Cf} (h : ∀ e ∈ kvs, Mid e.2) (k : Str) : Mid (look kvs k) := by
  unfold look
  cases q : lookO kvs k with
  | none => unfold Mid; decide +kernel
  | some v => exact h _ (lookO_mem q)
theorem can_some {cs : Cf} (h : Can cs) {k : Str} : (lookO cs k).isSome = !decide (look cs k = 0) := by
  cases q : lookO cs k with
  | none =>
    have : look cs k = 0 := by unfold look; rw [q]; rfl
    rw [this]; rfl
  | some v =>
    have e : look cs k = v := by unfold look; rw [q]; rfl
    have := h.nz _ (lookO_mem q)
    rw [e, decide_eq_false this]; rfl
end OS
namespace OS
open PySem L2
def scaleC (ls : Cf) (k : Int) : Cf := ls.map fun e => (e.1, k * e.2)
theorem scaleC_names (ls : Cf) (k : Int) : (scaleC ls k).map (·.1) = ls.map (·.1) := by
  unfold scaleC
  rw [List.map_map]
  rfl
theorem scaleC_look (k : Int) : ∀ (ls : Cf) (x : Str), look (scaleC ls k) x = k * look ls x
  | [], x => by simp [look, lookO, scaleC]
  | e :: r, x => by
    have ih := scaleC_look k r x
    unfold look at ih ⊢
    show (lookO ((e.1, k * e.2) :: scaleC r k) x).getD 0 = _
    rw [lookO_cons, lookO_cons]
    by_cases h : e.1 = x
    · rw [if_pos h, if_pos h]; rfl
    · rw [if_neg h, if_neg h]; exact ih
def sumC (kvs ls : Cf) (k : Int) : Cf := addC kvs (scaleC ls k)
theorem sumC_look {kvs ls : Cf} {k : Int} (nd : (ls.map (·.1)).Nodup) (x : Str) : look (sumC kvs ls k) x = look kvs x + k * look ls x := by
  unfold sumC
  rw [addC_look _ (by rw [scaleC_names]; exact nd), scaleC_look]
theorem sumC_nd {kvs ls : Cf} {k : Int} (nd : (kvs.map (·.1)).Nodup) : ((sumC kvs ls k).map (·.1)).Nodup := addC_nd nd
theorem sumC_len (kvs ls : Cf) (k : Int) : (sumC kvs ls k).length ≤ kvs.length + ls.length := by
  have := addC_len (scaleC ls k) kvs
  unfold sumC
  unfold scaleC at this ⊢
  rw [List.length_map] at this
  exact this
theorem sumC_gd {kvs ls : Cf} {k : Int} (h : ∀ e ∈ kvs, good e.1 = true) (h2 : ∀ e ∈ ls, good e.1 = true) : ∀ e ∈ sumC kvs ls k, good e.1 = true :=
  addC_gd (P := fun z => good z = true) h fun e he => by
    obtain ⟨e', he', rfl⟩ := List.mem_map.mp he
    exact h2 e' he'
theorem look_of_mem {kvs : Cf} (nd : (kvs.map (·.1)).Nodup) {e : Str × Int} (he : e ∈ kvs) : look kvs e.1 = e.2 := by
  unfold look
  rw [lookO_of_mem nd (k := e.1) (v := e.2) he]
  rfl
def spSum : Sp := fun vs H Q _ => ∃ (a b : Addr) (kvs ls : Cf) (k : Int), vs = [.ref a, .ref b, .int k] ∧ H a = some (.dK (dk kvs)) ∧ H b = some (.dK (dk ls)) ∧ (ls.map (·.1)).Nodup ∧ kvs.length + ls.length < 64 ∧ (∀ e ∈ ls, Mid e.2) ∧ Mid k ∧
  ∀ (T : Addr) (H' : Hp), H T = none → H' T = some (.dK (dk (sumC kvs ls k))) → Same H H' → Q (.ref T) H'
section
variable {P : Program} {w : World} {K : PySem.W.Frag} {mg : Str → Option Value} {base : Heap}
abbrev nSum : List Str := ["_law_first", "_law_second", "_law_factor", "_law_parts", "_law_name"]
theorem scSum : FnScope nSum ["_law_first", "_law_second", "_law_factor"] (defScope s_sum) := ⟨rfl, rfl, rfl, by decide +kernel, rfl, by decide +kernel, by decide +kernel⟩
theorem ok_sum {f : Addr} {fd : FuncData} (F : Fun K "_law_sum" "_law_sum" s_sum f fd) (mD : mg "dict" = none) : FnOk P w K mg base CX0 1 f fd ["_law_first", "_law_second", "_law_factor"] spSum := by
  refine F.ok scSum (fun vs H Q E h => ?_) (fun cdv A outer s H vs Q E hr h => ?_)
  · obtain ⟨a, b, kvs, ls, k, rfl, _⟩ := h
    rfl
  · obtain ⟨a, b, kvs, ls, kk, rfl, ha, hb, nd, hlen, hm, mk, k⟩ := h
    have hu := hu_of hr
    refine ⟨_, pss_cons (ps_set (i := 3) scSum.nd rfl (Or.inl rfl) (pe_callTy call_dictD (by rfl) mD (by decide +kernel) (pa_cons (pv 0) pa_nil)))
      (pss_cons (ps_lock (ps_for PassesOwn.never rfl (pi_keys (pv 1)) (pg_name (i := 4) scSum.nd rfl (Or.inl rfl))
        (pss_one (ps_dput hu (pv 3) (pv 4) (pe_op op_add (pe_dget2 hu (pv 3) (pv 4) pe_int ⟨rfl, rfl, rfl, rfl⟩) (pe_op op_mulW (pv 2) (pe_dget hu (pv 1) (pv 4) (fun _ _ => rfl)))) rfl))))
      (pss_one (ps_ret (pv 3)))), ?_⟩
    refine ⟨_, rfl, a, dk kvs, rfl, Rd.of ha, fun D hD => ?_⟩
    obtain ⟨H1, hH1⟩ : ∃ H1, H1 = L2.upd H D (.dK (dk kvs)) := ⟨_, rfl⟩
    have s1 : Same H H1 := by rw [hH1]; exact sameUpd (Same.refl _) hD
    have hD1 : H1 D = some (.dK (dk kvs)) := by rw [hH1]; exact upd_same
    rw [← hH1]
    have nDb : D ≠ b := (ne_of_none hb hD).symm
    refine ⟨b, _, s1 _ _ hb, trivial, fun od => ?_⟩
    obtain ⟨H2, hH2⟩ : ∃ H2, H2 = L2.upd H1 b (.frz od (.dK (dk ls))) := ⟨_, rfl⟩
    rw [← hH2]
    have hb2 : H2 b = some (.frz od (.dK (dk ls))) := by rw [hH2]; exact upd_same
    have k2 : ∀ x o, H x = some o → x ≠ b → H2 x = some o := fun x o e n => by rw [hH2, upd_ne n]; exact s1 _ _ e
    have hD2 : H2 D = some (.dK (dk kvs)) := by rw [hH2, upd_ne nDb]; exact hD1
    refine ⟨_, rfl, b, od, rfl, .inl ⟨_, hb2, ?_⟩⟩
    refine for_it walk_keys (fun i σ H' => (∃ v, σ = [some (.ref a), some (.ref b), some (.int kk), some (.ref D), v]) ∧ H' D = some (.dK (dk (addC kvs (scaleC (ls.take i) kk)))) ∧ ∀ x o, H2 x = some o → x ≠ D → H' x = some o) ⟨⟨none, rfl⟩, hD2, fun x o e _ => e⟩ (fun i σ H' _ h => h.2.2 _ _ hb2 nDb.symm) ?_ ?_
    · rintro i x σ H3 H4 hi ⟨⟨v, rfl⟩, e3, s3⟩ ⟨rfl, k', v', hkv, rfl⟩
      rw [dk_len] at hi
      have he : (dk ls)[i]? = some (Sum.inr (ls[i]).1, V.int (ls[i]).2) := by
        unfold dk
        rw [List.getElem?_map, List.getElem?_eq_getElem hi]
        rfl
      rw [he] at hkv
      cases hkv
      have hmm : ls[i] ∈ ls := List.getElem_mem hi
      have htk : ls.take (i + 1) = ls.take i ++ [ls[i]] := by rw [List.take_succ, List.getElem?_eq_getElem hi]; rfl
      have hget : DGet H4 D (V.str (ls[i]).1) ((lookO (addC kvs (scaleC (ls.take i) kk)) (ls[i]).1).map V.int) := by
        rw [← valV_dk]
        exact DGet.k (k := Sum.inr (ls[i]).1) e3
      have hgb : DGet H4 b (V.str (ls[i]).1) (some (V.int (ls[i]).2)) := by
        have hv : valV (dk ls) (Sum.inr (ls[i]).1 : Key) = some (V.int (ls[i]).2) := by rw [valV_dk, lookO_of_mem nd (k := (ls[i]).1) (v := (ls[i]).2) hmm]; rfl
        rw [← hv]
        exact .inl ⟨dk ls, Sum.inr (ls[i]).1, .inr ⟨od, s3 _ _ hb2 nDb.symm⟩, rfl, rfl⟩
      have hgd : ((lookO (addC kvs (scaleC (ls.take i) kk)) (ls[i]).1).map V.int).getD (V.int 0) = V.int (look (addC kvs (scaleC (ls.take i) kk)) (ls[i]).1) := by
        unfold look
        cases lookO (addC kvs (scaleC (ls.take i) kk)) (ls[i]).1 <;> rfl
      have hln := sumC_len kvs (ls.take i) kk
      unfold sumC at hln
      rw [List.length_take] at hln
      refine ⟨_, rfl, D, rfl, .inl ⟨_, .inl e3⟩, _, rfl, _, hget, ?_⟩
      rw [hgd]
      refine ⟨_, rfl, _, rfl, _, rfl, b, _, rfl, hgb, _, _, rfl, rfl, wide_mul mk (hm _ hmm) (by decide) (by decide) (by decide), _, _, rfl, rfl, ?_⟩
      refine ⟨_, rfl, _, rfl, D, _, rfl, DPut.k (k := Sum.inr (ls[i]).1) e3 (by rw [dk_len]; exact small1000 (by omega)), ?_⟩
      refine ⟨⟨_, rfl⟩, ?_, fun x o e n => by rw [upd_ne n]; exact s3 x o e n⟩
      rw [upd_same, dk_put, htk]
      unfold scaleC
      rw [List.map_append]
      show _ = some (HO.dK (dk (addC kvs (List.map (fun e => (e.1, kk * e.2)) (ls.take i) ++ [((ls[i]).1, kk * (ls[i]).2)]))))
      rw [addC_snoc]
    · rintro σ H3 ⟨⟨v, rfl⟩, e3, s3⟩
      rw [dk_len, List.take_length] at e3
      refine ⟨s3 _ _ hb2 nDb.symm, ?_⟩
      refine ⟨_, rfl, k D _ hD (by rw [upd_ne nDb]; exact e3) fun x o e => ?_⟩
      by_cases q : x = b
      · rw [q, upd_same]
        rw [q, hb] at e
        exact e
      · rw [upd_ne q]
        exact s3 _ _ (k2 _ _ e q) (ne_of_none e hD)
end
end OS
namespace OS
open PySem L2
theorem FormAt.dd {C : Addr} {H : Hp} {p d dx : Addr} {cs : Cf} {c : Int} (F : FormAt C H p cs c) (h : H p = some (.ins C dx (ffl d c))) : H d = some (.dK (dk cs)) := by
  obtain ⟨d', dx', h1, h2⟩ := F.ob
  rw [h] at h1
  have e := (HO.ins.inj (Option.some.inj h1)).2.2
  have e2 := ffl_cf d c
  rw [e, ffl_cf] at e2
  have e3 : d' = d := V.ref.inj (Option.some.inj e2)
  subst e3
  exact h2
end OS
namespace OS
open PySem L2
def nm4 : List Str := ["x", "y", "x1", "ab"]
theorem nm4_good : ∀ z ∈ nm4, good z = true := by decide +kernel
structure P4 (kvs : Cf) : Prop where
  nd : (kvs.map (·.1)).Nodup
  nm : ∀ e ∈ kvs, e.1 ∈ nm4
  bd : ∀ e ∈ kvs, e.2.natAbs ≤ 10 ^ 22
theorem P4.len {kvs : Cf} (h : P4 kvs) : kvs.length ≤ 4 := by
  have := nd_sub (m := nm4) h.nd fun x hx => by
    obtain ⟨e, he, rfl⟩ := List.mem_map.mp hx
    exact h.nm e he
  rw [List.length_map] at this
  exact this
theorem P4.gd {kvs : Cf} (h : P4 kvs) : ∀ e ∈ kvs, good e.1 = true := fun e he => nm4_good _ (h.nm e he)
theorem P4.mid {kvs : Cf} (h : P4 kvs) : ∀ e ∈ kvs, Mid e.2 := fun e he => Nat.lt_of_le_of_lt (h.bd e he) (by decide +kernel)
theorem p4_nil : P4 [] := ⟨List.nodup_nil, (fun e he => by cases he), fun e he => by cases he⟩
theorem p4_put {kvs : Cf} (h : P4 kvs) {k : Str} {v : Int} (hk : k ∈ nm4) (hv : v.natAbs ≤ 10 ^ 22) : P4 (putC kvs k v) := by
  refine ⟨putC_nd h.nd, fun e he => ?_, fun e he => ?_⟩
  · rcases putC_mem he with q | q
    · subst q; exact hk
    · exact h.nm e q
  · rcases putC_mem he with q | q
    · subst q; exact hv
    · exact h.bd e q
/-- a model: a tuple of a dict and an integer -/
structure Md (H : Hp) (t : Addr) (kvs : Cf) (c : Int) : Prop where
  ob : ∃ d, H t = some (.tup [.ref d, .int c]) ∧ H d = some (.dK (dk kvs))
theorem Md.same {H H' : Hp} {t : Addr} {kvs : Cf} {c : Int} (h : Md H t kvs c) (s : Same H H') : Md H' t kvs c := by
  obtain ⟨d, a, b⟩ := h.ob
  exact ⟨d, s _ _ a, s _ _ b⟩
def spSmall : Sp := fun vs H Q _ => ∃ (st cl : Addr) (m : Nat), vs = [.ref st] ∧ StAt H st cl m ∧ m ≤ 900000000 ∧
  ∀ (D : Addr) (kvs : Cf) (H' : Hp), H D = none → H' D = some (.dK (dk kvs)) → P4 kvs → StAt H' st cl (m + 10) → Kb st cl H H' → Q (.ref D) H'
def spSize : Sp := fun vs H Q _ => ∃ (t : Addr) (kvs : Cf) (c : Int), vs = [.ref t] ∧ Md H t kvs c ∧ P4 kvs ∧
  ∀ (m : Int) (H' : Hp), Same H H' → (c.natAbs : Int) ≤ m → (∀ e ∈ kvs, (e.2.natAbs : Int) ≤ m) → Q (.int m) H'
/-- a plain model -/
def PlAt (H : Hp) (T : Addr) (cs : Cf) (c : Int) : Prop := ∃ (L : Addr) (rs : List Addr), H T = some (.tup [.ref L, .int c]) ∧ H L = some (.lst (rs.map V.ref)) ∧ RowsAt H rs cs
theorem PlAt.same {H H' : Hp} {T : Addr} {cs : Cf} {c : Int} (h : PlAt H T cs c) (s : Same H H') : PlAt H' T cs c := by
  obtain ⟨L, rs, a, b, r⟩ := h
  exact ⟨L, rs, s _ _ a, s _ _ b, r.mono s⟩
def plD (cs : Cf) (c : Int) : PyData := .tuple [.list (rowsD cs), .int c]
theorem PlAt.dp {K : PySem.W.Frag} {H : Hp} {T : Addr} {cs : Cf} {c : Int} (h : PlAt H T cs c) : Dp K H (.ref T) (plD cs c) := by
  obtain ⟨L, rs, a, b, r⟩ := h
  exact .tup (SqT.of a) (.cons (.lst (SqL.of b) r.dp) (.cons (.int c) .nil))
theorem pl_shaped {cs : Cf} (h : ∀ e ∈ cs, good e.1 = true) (c : Int) : PySem.SeqAt.shaped (plD cs c) = true := by
  obtain ⟨h1, h2⟩ := rows_lay cs h
  unfold plD SeqAt.shaped
  rw [Bool.and_eq_true]
  refine ⟨by simp [PyData.canLay0, PyData.canLayAll0, h1], decide_eq_true ?_⟩
  simp [PyData.depth, PyData.depthAll]
  omega
theorem rows_eqv : ∀ (cs ds : Cf), PyData.eqvAll (rowsD cs) (rowsD ds) = decide (cs = ds)
  | [], [] => by simp [rowsD, PyData.eqvAll]
  | [], _ :: _ => by simp [rowsD, PyData.eqvAll]
  | _ :: _, [] => by simp [rowsD, PyData.eqvAll]
  | (x, n) :: cs, (y, m) :: ds => by
    have ih := rows_eqv cs ds
    unfold rowsD at ih ⊢
    rw [List.map_cons, List.map_cons, PyData.eqvAll, ih]
    simp only [PyData.eqv, PyData.eqvAll, Bool.and_true]
    by_cases h1 : x = y <;> by_cases h2 : n = m <;> by_cases h3 : cs = ds <;> simp [h1, h2, h3]
theorem pl_eqv (cs ds : Cf) (c d : Int) : PyData.eqv (plD cs c) (plD ds d) = (decide (cs = ds) && decide (c = d)) := by
  unfold plD
  simp only [PyData.eqv, PyData.eqvAll, rows_eqv, Bool.and_true]
  by_cases h : c = d <;> simp [h]
def spPlain : Sp := fun vs H Q _ => ∃ (t : Addr) (kvs cs : Cf) (c : Int), vs = [.ref t] ∧ Md H t kvs c ∧ P4 kvs ∧ Can cs ∧ (∀ x, look cs x = look kvs x) ∧
  ∀ (T : Addr) (H' : Hp), Same H H' → PlAt H' T cs c → Q (.ref T) H'
end OS
namespace OS
open PySem L2
section
variable {P : Program} {w : World} {K : PySem.W.Frag} {mg : Str → Option Value} {base : Heap}
abbrev nSml : List Str := ["_law_state", "_law_parts", "_law_k"]
theorem scSml : FnScope nSml ["_law_state"] (defScope s_small) := ⟨rfl, rfl, rfl, by decide +kernel, rfl, by decide +kernel, by decide +kernel⟩
theorem ok_sml {f fT : Addr} {fd dT : FuncData} (F : Fun K "_law_small" "_law_small" s_small f fd) (mR : mg "range" = none)
    (ET : FnOk P w K mg base CX0 1 fT dT ["_law_state", "_law_limit"] spTake) (GT : Df K mg "_law_take" fT) (bT : Binds K dT ["_law_state", "_law_limit"] []) : FnOk P w K mg base CX0 2 f fd ["_law_state"] spSmall := by
  refine F.ok scSml (fun vs H Q E h => ?_) (fun cdv A outer s H vs Q E hr h => ?_)
  · obtain ⟨st, cl, m, rfl, _⟩ := h
    rfl
  · obtain ⟨st, cl, m, rfl, S, hm, k⟩ := h
    have hu := hu_of hr
    refine ⟨_, pss_cons (ps_set (i := 1) scSml.nd rfl (Or.inl rfl) pe_dnewK)
      (pss_cons (ps_for PassesOwn.never rfl (pi_range1 rfl mR (pa_cons (pe_call ET hr rfl GT.mg GT.kp bT .nil pass0 (pa_cons (pv 0) (pa_cons pe_int pa_nil))) pa_nil)) (pg_name (i := 2) scSml.nd rfl (Or.inl rfl))
        (pss_one (ps_dput hu (pv 1) (pe_ix ix_list (pe_lst (pa_cons pe_str (pa_cons pe_str (pa_cons pe_str (pa_cons pe_str pa_nil))))) (pe_call ET hr rfl GT.mg GT.kp bT .nil pass0 (pa_cons (pv 0) (pa_cons pe_int pa_nil))) fun _ _ => rfl)
          (pe_op op_sub (pe_call ET hr rfl GT.mg GT.kp bT .nil pass0 (pa_cons (pv 0) (pa_cons pe_int pa_nil))) pe_int) rfl)))
      (pss_one (ps_ret (pv 1)))), ?_⟩
    intro D hD
    obtain ⟨n1, n2⟩ := S.nst hD
    have S1 := S.upd (o := .dK []) n1 n2
    refine ⟨_, rfl, st, cl, m, 4, rfl, S1, by omega, by decide, by decide, fun n H1 a0 a1 S2 k2 => ?_⟩
    have kb : Kb st cl H H1 := fun b o e h1 h2 => k2 b o (by rw [upd_ne (ne_of_none e hD)]; exact e) h1 h2
    have hD1 : H1 D = some (.dK []) := k2 _ _ upd_same n1 n2
    refine ⟨_, rfl, by omega, by omega, for_range (lo := 0) (n := n.toNat) (fun i σ H' => (∃ v, σ = [some (.ref st), some (.ref D), v]) ∧ StAt H' st cl (m + 1 + 2 * i) ∧ Kb st cl H H' ∧ ∃ kvs, H' D = some (.dK (dk kvs)) ∧ P4 kvs) ⟨⟨none, rfl⟩, S2, kb, [], hD1, p4_nil⟩ ?_ ?_⟩
    · rintro i σ H2 hi ⟨⟨v, rfl⟩, S3, kb3, kvs, hk3, p4⟩
      refine ⟨_, rfl, st, cl, m + 1 + 2 * i, 41, rfl, S3, by omega, by decide, by decide, fun x H3 x0 x1 S4 k4 => ?_⟩
      refine ⟨_, _, rfl, rfl, _, rfl, by show 4 ≤ sizeLine; decide, fun l hl => ?_⟩
      obtain ⟨n3, n4⟩ := S4.nst hl
      have hk4 := k4 _ _ hk3 n1 n2
      have S5 := S4.upd (o := .lst [V.str "x", V.str "y", V.str "x1", V.str "ab"]) n3 n4
      refine ⟨_, rfl, st, cl, m + 1 + 2 * i + 1, 4, rfl, S5, by omega, by decide, by decide, fun q H4 q0 q1 S6 k6 => ?_⟩
      have el : H4 l = some (.lst [V.str "x", V.str "y", V.str "x1", V.str "ab"]) := k6 _ _ upd_same n3 n4
      have hk6 : H4 D = some (.dK (dk kvs)) := k6 _ _ (by rw [upd_ne (ne_of_none hk4 hl)]; exact hk4) n1 n2
      obtain ⟨z, hz, hzm⟩ : ∃ z : Str, atI [V.str "x", V.str "y", V.str "x1", V.str "ab"] q = some (V.str z) ∧ z ∈ nm4 := by
        have : q = 0 ∨ q = 1 ∨ q = 2 ∨ q = 3 := by omega
        rcases this with rfl | rfl | rfl | rfl
        · exact ⟨"x", rfl, by decide +kernel⟩
        · exact ⟨"y", rfl, by decide +kernel⟩
        · exact ⟨"x1", rfl, by decide +kernel⟩
        · exact ⟨"ab", rfl, by decide +kernel⟩
      refine ⟨l, _, q, V.str z, rfl, rfl, SqL.of el, hz, ?_⟩
      have hlen := p4.len
      refine ⟨D, _, rfl, DPut.k (k := Sum.inr z) hk6 (by rw [dk_len]; exact small1000 (by omega)), ?_⟩
      refine ⟨⟨_, rfl⟩, (S6.upd n1 n2).mono (by omega), ?_, putC kvs z (x - 20), ?_, p4_put p4 hzm (by omega)⟩
      · intro b o e h1 h2
        have e3 := kb3 b o e h1 h2
        have e4 := k4 _ _ e3 h1 h2
        have e6 := k6 _ _ (by rw [upd_ne (ne_of_none e4 hl)]; exact e4) h1 h2
        rw [upd_ne (ne_of_none e hD)]
        exact e6
      · rw [upd_same, dk_put]
    · rintro σ H2 ⟨⟨v, rfl⟩, S3, kb3, kvs, hk3, p4⟩
      exact ⟨_, rfl, k D kvs H2 hD hk3 p4 (S3.mono (by omega)) kb3⟩
abbrev nSz : List Str := ["_law_model", "_law_parts", "_law_constant", "_law_name"]
theorem scSz : FnScope nSz ["_law_model"] (defScope s_size) := ⟨rfl, rfl, rfl, by decide +kernel, rfl, by decide +kernel, by decide +kernel⟩
theorem ok_sz {f : Addr} {fd : FuncData} (F : Fun K "_law_size" "_law_size" s_size f fd) (mX : mg "max" = none) (mA : mg "abs" = none) : FnOk P w K mg base CX0 1 f fd ["_law_model"] spSize := by
  refine F.ok scSz (fun vs H Q E h => ?_) (fun cdv A outer s H vs Q E hr h => ?_)
  · obtain ⟨t, kvs, c, rfl, _⟩ := h
    rfl
  · obtain ⟨t, kvs, c, rfl, M, p4, k⟩ := h
    obtain ⟨g, ht, hg⟩ := M.ob
    have hu := hu_of hr
    refine ⟨_, pss_cons (ps_asg (pv 0) (pg_tup rfl (pgs_cons (pg_name (i := 1) scSz.nd rfl (Or.inr rfl)) (pgs_cons (pg_name (i := 2) scSz.nd rfl (Or.inl rfl)) pgs_nil))))
      (pss_one (ps_ret (pe_callB (cr_max rfl) (by rfl) mX (by decide +kernel) (pa_cons (pe_op op_cat (pe_lst (pa_cons (pe_callB call_abs (by rfl) mA (by decide +kernel) (pa_cons (pv 2) pa_nil)) pa_nil))
        (pe_lock (pe_lc (own := [("_law_name", 3)]) (g := gName 3) (tt := tYes) rfl scSz.nd (pi_keys (pv 1)) (blkOk_by (own := [("_law_name", 3)]) (N := nSz) (sc := defScope s_size) (by decide +kernel))
            (fun _ _ _ _ _ => pg_name (i := 3) scSz.nd rfl (Or.inl rfl)) (fun _ _ _ _ _ => pts_nil) (fun _ _ _ _ _ => pe_callB call_abs (by rfl) mA (by decide +kernel) (pa_cons (pe_dget hu (pv 1) (pv 3) (fun _ _ => rfl)) pa_nil))))) pa_nil)))), ?_⟩
    refine ⟨_, rfl, t, _, rfl, .inl (.inl ht), rfl, _, _, rfl, _, _, rfl, rfl, ?_⟩
    refine ⟨_, rfl, _, rfl, by show 1 ≤ sizeLine; decide, fun l hl => ?_⟩
    obtain ⟨H1, hH1⟩ : ∃ H1, H1 = L2.upd H l (.lst [V.int (if c < 0 then -c else c)]) := ⟨_, rfl⟩
    have s1 : Same H H1 := by rw [hH1]; exact sameUpd (Same.refl _) hl
    have hl1 : H1 l = some (.lst [V.int (if c < 0 then -c else c)]) := by rw [hH1]; exact upd_same
    rw [← hH1]
    have hg1 := s1 _ _ hg
    have nlg : l ≠ g := (ne_of_none hg hl).symm
    refine ⟨g, _, hg1, trivial, fun od => ?_⟩
    obtain ⟨H2, hH2⟩ : ∃ H2, H2 = L2.upd H1 g (.frz od (.dK (dk kvs))) := ⟨_, rfl⟩
    rw [← hH2]
    have hg2 : H2 g = some (.frz od (.dK (dk kvs))) := by rw [hH2]; exact upd_same
    have k2 : ∀ x o, H1 x = some o → x ≠ g → H2 x = some o := fun x o e n => by rw [hH2, upd_ne n]; exact e
    refine ⟨_, rfl, g, od, rfl, .inl ⟨_, hg2, fun D hD => ?_⟩⟩
    refine lc_it walk_keys (fun i H' => Same H2 H' ∧ H' D = some (.lst (((kvs.take i).map fun e => if e.2 < 0 then -e.2 else e.2).map V.int))) ⟨sameUpd (Same.refl _) hD, by rw [upd_same]; rfl⟩ (fun i H' _ h => h.1 _ _ hg2) ?_ ?_
    · rintro i x H5 H6 hi ⟨s5, e5⟩ ⟨rfl, k', v', hkv, rfl⟩
      rw [dk_len] at hi
      have he : (dk kvs)[i]? = some (Sum.inr (kvs[i]).1, V.int (kvs[i]).2) := by
        unfold dk
        rw [List.getElem?_map, List.getElem?_eq_getElem hi]
        rfl
      rw [he] at hkv
      cases hkv
      have hget : DGet H6 g (V.str (kvs[i]).1) (some (V.int (kvs[i]).2)) := by
        have hv : valV (dk kvs) (Sum.inr (kvs[i]).1 : Key) = some (V.int (kvs[i]).2) := by rw [valV_dk, lookO_of_mem p4.nd (k := (kvs[i]).1) (v := (kvs[i]).2) (List.getElem_mem hi)]; rfl
        rw [← hv]
        exact .inl ⟨dk kvs, Sum.inr (kvs[i]).1, .inr ⟨od, s5 _ _ hg2⟩, rfl, rfl⟩
      have hlen := p4.len
      refine ⟨rfl, ?_⟩
      refine ⟨_, rfl, _, rfl, g, _, rfl, hget, _, rfl, ?_⟩
      refine ⟨_, e5, ?_, sameUpd s5 hD, ?_⟩
      · rw [List.length_map, List.length_map, List.length_take]
        exact small1000 (by omega)
      · rw [upd_same, List.take_succ, List.getElem?_eq_getElem hi, List.map_append, List.map_append]
        rfl
    rintro H5 ⟨s5, e5⟩
    rw [dk_len, List.take_length] at e5
    refine ⟨s5 _ _ hg2, ?_⟩
    have nDg : D ≠ g := (ne_of_none hg2 hD).symm
    obtain ⟨H6, hH6⟩ : ∃ H6, H6 = L2.upd H5 g (.dK (dk kvs)) := ⟨_, rfl⟩
    rw [← hH6]
    have s6 : Same H1 H6 := by
      intro b o e
      rw [hH6]
      by_cases q : b = g
      · rw [q, upd_same]
        rw [q, hg1] at e
        exact e
      · rw [upd_ne q]
        exact s5 _ _ (k2 _ _ e q)
    have e6 : H6 D = some (.lst ((kvs.map fun e => if e.2 < 0 then -e.2 else e.2).map V.int)) := by rw [hH6, upd_ne nDg]; exact e5
    have hlen := p4.len
    refine ⟨l, D, _, _, rfl, rfl, s6 _ _ hl1, e6, ?_, fun r hr6 => ?_⟩
    · rw [List.length_map, List.length_map]
      show 1 + kvs.length ≤ sizeLine
      exact Nat.le_of_lt (small1000 (by omega))
    refine ⟨r, (if c < 0 then -c else c) :: kvs.map (fun e => if e.2 < 0 then -e.2 else e.2), rfl, SqL.of (by rw [upd_same]; rfl), Nat.zero_lt_succ _, fun mx hm hle => ?_⟩
    refine k mx _ ((s1.trans s6).trans (sameUpd (Same.refl _) hr6)) ?_ ?_
    · have := hle (if c < 0 then -c else c) (by simp)
      split at this <;> omega
    · intro e he
      have := hle (if e.2 < 0 then -e.2 else e.2) (List.mem_cons_of_mem _ (List.mem_map.mpr ⟨e, he, rfl⟩))
      split at this <;> omega
abbrev nPl : List Str := ["_law_model", "_law_parts", "_law_constant", "_law_name"]
theorem scPl : FnScope nPl ["_law_model"] (defScope s_plain) := ⟨rfl, rfl, rfl, by decide +kernel, rfl, by decide +kernel, by decide +kernel⟩
theorem ok_pl {f : Addr} {fd : FuncData} (F : Fun K "_law_plain" "_law_plain" s_plain f fd) (mS : mg "sorted" = none) : FnOk P w K mg base CX0 1 f fd ["_law_model"] spPlain := by
  refine F.ok scPl (fun vs H Q E h => ?_) (fun cdv A outer s H vs Q E hr h => ?_)
  · obtain ⟨t, kvs, cs, c, rfl, _⟩ := h
    rfl
  · obtain ⟨t, kvs, cs, c, rfl, M, p4, hcan, hlk, k⟩ := h
    obtain ⟨g, ht, hg⟩ := M.ob
    have hu := hu_of hr
    have hlen := p4.len
    refine ⟨_, pss_cons (ps_asg (pv 0) (pg_tup rfl (pgs_cons (pg_name (i := 1) scPl.nd rfl (Or.inr rfl)) (pgs_cons (pg_name (i := 2) scPl.nd rfl (Or.inl rfl)) pgs_nil))))
      (pss_one (ps_ret (pe_tup (pa_cons (pe_lc (own := [("_law_name", 3)]) (g := gName 3) rfl scPl.nd (pi_list (pe_callB (call_sortedD rfl) (by rfl) mS (by decide +kernel) (pa_cons (pv 1) pa_nil))) (blkOk_by (own := [("_law_name", 3)]) (N := nPl) (sc := defScope s_plain) (by decide +kernel))
            (fun _ _ _ _ _ => pg_name (i := 3) scPl.nd rfl (Or.inl rfl)) (fun _ _ _ _ _ => pts_one (pt_cmpR op_ne (pe_dget hu (pv 1) (pv 3) (fun _ _ => rfl)) pe_int (nomark _))) (fun _ _ _ _ _ => pe_lst (pa_cons (pv 3) (pa_cons (pe_dget hu (pv 1) (pv 3) (fun _ _ => rfl)) pa_nil)))) (pa_cons (pv 2) pa_nil))))), ?_⟩
    refine ⟨_, rfl, t, _, rfl, .inl (.inl ht), rfl, _, _, rfl, _, _, rfl, rfl, ?_⟩
    refine ⟨_, rfl, g, dk kvs, kvs.map (·.1), rfl, Rd.of hg, ?_, by rw [List.length_map]; omega, fun ys l perm srt hl => ?_⟩
    · unfold dk
      rw [List.map_map, List.map_map]
      rfl
    have ynd : ys.Nodup := perm.nodup_iff.mpr p4.nd
    have yasc : Asc ys := sorted_asc srt ynd
    have ylen : ys.length ≤ 4 := by rw [perm.length_eq, List.length_map]; exact hlen
    obtain ⟨H1, hH1⟩ : ∃ H1, H1 = L2.upd H l (.lst (ys.map V.str)) := ⟨_, rfl⟩
    have s1 : Same H H1 := by rw [hH1]; exact sameUpd (Same.refl _) hl
    have hl1 : H1 l = some (.lst (ys.map V.str)) := by rw [hH1]; exact upd_same
    rw [← hH1]
    have hpk : cs = pick (look kvs) ys := hcan.unique (pick_can yasc) fun x => by
      rw [hlk, pick_look yasc]
      intro q hq
      refine perm.mem_iff.mpr ?_
      cases Classical.em (q ∈ kvs.map (·.1)) with
      | inl z => exact z
      | inr z => exact absurd (look_none z) hq
    refine ⟨l, rfl, ⟨_, SqL.of hl1⟩, fun D hD => ?_⟩
    refine lc_list (K := K) (a := l) (xs := ys.map V.str) (fun i H' => Same H1 H' ∧ ∃ rs', H' D = some (.lst (rs'.map V.ref)) ∧ RowsAt H' rs' (pick (look kvs) (ys.take i))) ⟨sameUpd (Same.refl _) hD, [], by rw [upd_same]; rfl, trivial⟩ (fun i H' _ h => SqL.of (h.1 _ _ hl1)) ?_ ?_
    · rintro i x H2 hx ⟨s2, rs', e2, r2⟩
      rw [List.getElem?_map] at hx
      cases hyi : ys[i]? with
      | none => rw [hyi] at hx; cases hx
      | some y =>
        rw [hyi] at hx
        obtain rfl : V.str y = x := Option.some.inj hx
        have hmem : y ∈ ys := List.mem_of_getElem? hyi
        have hg2 : H2 g = some (.dK (dk kvs)) := s2 _ _ (s1 _ _ hg)
        have hlo : lookO kvs y = some (look kvs y) := by
          have : y ∈ kvs.map (·.1) := perm.mem_iff.mp hmem
          cases q : lookO kvs y with
          | none => exact absurd this (lookO_none.mp q)
          | some z => unfold look; rw [q]; rfl
        have hgt : DGet H2 g (V.str y) (some (V.int (look kvs y))) := by
          have hv : valV (dk kvs) (Sum.inr y : Key) = some (V.int (look kvs y)) := by rw [valV_dk, hlo]; rfl
          rw [← hv]
          exact DGet.k (k := Sum.inr y) hg2
        have htk : ys.take (i + 1) = ys.take i ++ [y] := by rw [List.take_succ, hyi]; rfl
        refine ⟨rfl, ?_⟩
        refine ⟨_, rfl, _, rfl, g, _, rfl, hgt, rfl, _, rfl, ?_⟩
        by_cases hz : look kvs y = 0
        · rw [show (!decide (V.int (look kvs y) = V.int 0)) = false by rw [hz]; simp]
          refine iteF ?_
          refine ⟨s2, rs', e2, ?_⟩
          rw [htk, pick_snoc, if_neg (fun z => z hz)]
          exact r2
        · rw [show (!decide (V.int (look kvs y) = V.int 0)) = true by rw [decide_eq_false (fun z => hz (V.int.inj z))]; rfl]
          refine iteT ?_
          refine ⟨_, rfl, _, rfl, _, rfl, g, _, rfl, hgt, by show 2 ≤ sizeLine; decide, fun T hT => ?_⟩
          have sT : Same H2 (L2.upd H2 T (.lst [V.str y, V.int (look kvs y)])) := sameUpd (Same.refl _) hT
          have nTD : T ≠ D := (ne_of_none e2 hT).symm
          refine ⟨_, sT _ _ e2, ?_, sameUpd (s2.trans sT) hD, rs' ++ [T], ?_, ?_⟩
          · have h1 : (pick (look kvs) (ys.take i)).length ≤ ys.length := by
              unfold pick
              rw [List.length_map]
              exact Nat.le_trans (List.length_filter_le _ _) (by rw [List.length_take]; exact Nat.min_le_right _ _)
            rw [List.length_map, r2.length]
            exact small1000 (by omega)
          · rw [upd_same, List.map_append]
            rfl
          · rw [htk, pick_snoc, if_pos hz]
            refine RowsAt.snoc (e := (y, look kvs y)) ?_ (RowsAt.but ?_ r2)
            · rw [upd_ne nTD, upd_same]
            · exact fun r x n hr => rows_put e2 hT hr
    rintro H2 ⟨s2, rs', e2, r2⟩
    rw [List.length_map, List.take_length, ← hpk] at r2
    refine ⟨_, rfl, by show 2 ≤ sizeLine; decide, fun T hT => ?_⟩
    have sT := sameUpd (o := .tup [V.ref D, V.int c]) (Same.refl H2) hT
    exact k T _ ((s1.trans s2).trans sT) ⟨D, rs', upd_same, sT _ _ e2, r2.mono sT⟩
end
end OS
namespace OS
open PySem L2
/-- a register: a form and its model -/
structure Rg (C : Addr) (H : Hp) (p t : Addr) : Prop where
  ex : ∃ (cs kvs : Cf) (c : Int), FormAt C H p cs c ∧ Md H t kvs c ∧ P4 kvs ∧ c.natAbs ≤ 10 ^ 22 ∧ ∀ x, look cs x = look kvs x
theorem Rg.same {C : Addr} {H H' : Hp} {p t : Addr} (h : Rg C H p t) (s : Same H H') : Rg C H' p t := by
  obtain ⟨cs, kvs, c, a, b, d⟩ := h.ex
  exact ⟨cs, kvs, c, a.same s, b.same s, d⟩
structure Regs (C : Addr) (H : Hp) (F M : Addr) (ps ts : List Addr) : Prop where
  f : H F = some (.lst (ps.map V.ref))
  m : H M = some (.lst (ts.map V.ref))
  lf : ps.length = 3
  lm : ts.length = 3
  r : ∀ i, i < 3 → Rg C H (ps.getD i 0) (ts.getD i 0)
theorem Regs.same {C : Addr} {H H' : Hp} {F M : Addr} {ps ts : List Addr} (h : Regs C H F M ps ts) (s : Same H H') : Regs C H' F M ps ts :=
  ⟨s _ _ h.f, s _ _ h.m, h.lf, h.lm, fun i hi => (h.r i hi).same s⟩
theorem refs_at {ps : List Addr} {i : Nat} (hl : ps.length = 3) (hi : i < 3) {k : Int} (hk : k = (i : Int)) : atI (ps.map V.ref) k = some (V.ref (ps.getD i 0)) := by
  refine atI_in (by omega) ?_
  rw [show k.toNat = i by omega, List.getElem?_map, List.getElem?_eq_getElem (by omega), List.getD_eq_getElem?_getD, List.getElem?_eq_getElem (by omega)]
  rfl
structure Gets6 (P : Program) (w : World) (K : PySem.W.Frag) (mg : Str → Option Value) (base : Heap) (C : Addr) where
  (fA fB fE pA pB : Addr)
  (dA dB dE : FuncData)
  cl : Cls K C
  A : PropOf K C "coefficients" pA fA
  B : PropOf K C "constant" pB fB
  E_ : EqF K C fE
  EA : FnOk P w K mg base CX0 1 fA dA ["self"] (spCf C)
  EB : FnOk P w K mg base CX0 1 fB dB ["self"] (spCt C)
  EE : FnOk P w K mg base CX0 1 fE dE ["self", "other"] (spEqF C)
  bA : Binds K dA ["self"] []
  bB : Binds K dB ["self"] []
  bE : Binds K dE ["self", "other"] []
def spAg (C : Addr) : Sp := fun vs H Q _ => ∃ (F M : Addr) (ps ts : List Addr), vs = [.ref F, .ref M] ∧ Regs C H F M ps ts ∧ ∀ H', Same H H' → Q (.bl true) H'
section
variable {P : Program} {w : World} {K : PySem.W.Frag} {mg : Str → Option Value} {base : Heap}
abbrev nAg : List Str := ["_law_forms", "_law_models", "_law_i", "_law_told", "_law_listed", "_law_name", "_law_k", "_law_alike"]
theorem scAg : FnScope nAg ["_law_forms", "_law_models"] (defScope s_agrees) := ⟨rfl, rfl, rfl, by decide +kernel, rfl, by decide +kernel, by decide +kernel⟩
theorem ok_ag {f C fP : Addr} {fd dP : FuncData} (F : Fun K "_law_agrees" "_law_agrees" s_agrees f fd) (mR : mg "range" = none) (Z : Gets6 P w K mg base C)
    (EP : FnOk P w K mg base CX0 1 fP dP ["_law_model"] spPlain) (GP : Df K mg "_law_plain" fP) (bP : Binds K dP ["_law_model"] []) : FnOk P w K mg base CX0 3 f fd ["_law_forms", "_law_models"] (spAg C) := by
  obtain ⟨fA, fB, fE, pA, pB, dA, dB, dE, cl, A, B, E_, EA, EB, EE, bA, bB, bE⟩ := Z
  refine F.ok scAg (fun vs H Q E h => ?_) (fun cdv A' outer s H vs Q E hr h => ?_)
  · obtain ⟨F, M, ps, ts, rfl, _⟩ := h
    rfl
  · obtain ⟨F, M, ps, ts, rfl, R, k⟩ := h
    have hu := hu_of hr
    have hr1 : Room 1 _ := hr.mono (by decide)
    have hr2 : Room 2 _ := hr
    refine ⟨_, pss_cons (ps_for PassesOwn.never rfl (pi_range1 rfl mR (pa_cons pe_int pa_nil)) (pg_name (i := 2) scAg.nd rfl (Or.inl rfl))
        (pss_cons (ps_set (i := 3) scAg.nd rfl (Or.inr rfl) (pe_prop (pe_ix ix_list (pv 0) (pv 2) fun _ _ => rfl) cl A EA hr2 bA .nil pass0 rfl))
        (pss_cons (ps_lock (ps_setLc (i := 4) (own := [("_law_name", 5)]) (g := gName 5) (tt := tYes) rfl scAg.nd rfl rfl (sw_true rfl rfl rfl (by decide +kernel)) (pi_keys (pv 3)) (blkOk_by (own := [("_law_name", 5)]) (N := nAg) (sc := defScope s_agrees) (by decide +kernel))
            (fun _ _ _ _ _ => pg_name (i := 5) scAg.nd rfl (Or.inl rfl)) (fun _ _ _ _ _ => pts_nil) (fun _ _ _ _ _ => pe_lst (pa_cons (pv 5) (pa_cons (pe_dget hu (pv 3) (pv 5) (fun _ _ => rfl)) pa_nil)))))
        (pss_cons (ps_if (pt_cmpR (op_neD hr.units) (pe_tup (pa_cons (pv 4) (pa_cons (pe_prop (pe_ix ix_list (pv 0) (pv 2) fun _ _ => rfl) cl B EB hr2 bB .nil pass0 rfl) pa_nil))) (pe_call EP hr1 rfl GP.mg GP.kp bP .nil pass0 (pa_cons (pe_ix ix_list (pv 1) (pv 2) fun _ _ => rfl) pa_nil)) (nomark _)) (pss_one (ps_ret pe_bl)) pss_nil)
        (pss_one (ps_for PassesOwn.never rfl (pi_range1 rfl mR (pa_cons pe_int pa_nil)) (pg_name (i := 6) scAg.nd rfl (Or.inl rfl))
          (pss_cons (ps_set (i := 7) scAg.nd rfl (Or.inl rfl) (pe_cmpR (op_eqD hr.units) (pe_call EP hr1 rfl GP.mg GP.kp bP .nil pass0 (pa_cons (pe_ix ix_list (pv 1) (pv 2) fun _ _ => rfl) pa_nil)) (pe_call EP hr1 rfl GP.mg GP.kp bP .nil pass0 (pa_cons (pe_ix ix_list (pv 1) (pv 6) fun _ _ => rfl) pa_nil)) (nomark _)))
          (pss_one (ps_if (pt_cmpR op_ne (pe_cmpR (op_eqO EE E_ hr.units0 hr1 bE pass0) (pe_ix ix_list (pv 0) (pv 2) fun _ _ => rfl) (pe_ix ix_list (pv 0) (pv 6) fun _ _ => rfl) (nomark _)) (pv 7) (nomark _)) (pss_one (ps_ret pe_bl)) pss_nil)))))))))
      (pss_one (ps_ret pe_bl)), ?_⟩
    refine ⟨3, rfl, by decide, by decide, for_range (lo := 0) (n := 3) (fun i σ H' => Same H H' ∧ ∃ v1 v2 v3 v5 v6 v7, σ = [some (.ref F), some (.ref M), v1, v2, v3, v5, v6, v7]) ⟨Same.refl _, _, _, _, _, _, _, rfl⟩ ?_ ?_⟩
    · rintro i σ H1 hi ⟨s1, v1, v2, v3, v5, v6, v7, rfl⟩
      have R1 := R.same s1
      obtain ⟨cs, kvs, c, FA, Mm, p4, bc, hlk⟩ := (R1.r i hi).ex
      obtain ⟨d, dx, hp, hd⟩ := FA.ob
      have nC : (cs.map (·.1)).Nodup := FA.can.nd
      have hclen := FA.len
      obtain ⟨p, hpe⟩ : ∃ p, p = ps.getD i 0 := ⟨_, rfl⟩
      obtain ⟨t, hte⟩ : ∃ t, t = ts.getD i 0 := ⟨_, rfl⟩
      rw [← hpe] at FA hp
      rw [← hte] at Mm
      have atp : atI (ps.map V.ref) (0 + (i : Int)) = some (V.ref p) := by rw [hpe]; exact refs_at R.lf hi (by omega)
      have att : atI (ts.map V.ref) (0 + (i : Int)) = some (V.ref t) := by rw [hte]; exact refs_at R.lm hi (by omega)
      refine ⟨_, rfl, _, rfl, F, _, _, V.ref p, rfl, rfl, SqL.of R1.f, atp, p, dx, _, rfl, hp, p, cs, c, rfl, FA, fun td htd => ?_⟩
      obtain ⟨H3, hH3⟩ : ∃ H3, H3 = L2.upd H1 td (.dK (dk cs)) := ⟨_, rfl⟩
      have s3 : Same H1 H3 := by rw [hH3]; exact sameUpd (Same.refl _) htd
      have ht3 : H3 td = some (.dK (dk cs)) := by rw [hH3]; exact upd_same
      rw [← hH3]
      refine ⟨td, _, ht3, trivial, fun od => ?_⟩
      obtain ⟨H4, hH4⟩ : ∃ H4, H4 = L2.upd H3 td (.frz od (.dK (dk cs))) := ⟨_, rfl⟩
      rw [← hH4]
      have ht4 : H4 td = some (.frz od (.dK (dk cs))) := by rw [hH4]; exact upd_same
      have s4 : Same H1 H4 := by rw [hH4]; exact sameUpd s3 htd
      refine ⟨_, rfl, td, od, rfl, .inl ⟨_, ht4, fun D1 hD1 => ?_⟩⟩
      refine lc_it walk_keys (fun i H' => Same H4 H' ∧ ∃ rs', H' D1 = some (.lst (rs'.map V.ref)) ∧ RowsAt H' rs' (cs.take i)) ⟨sameUpd (Same.refl _) hD1, [], by rw [upd_same]; rfl, trivial⟩ (fun i H' _ h => h.1 _ _ ht4) ?_ ?_
      · rintro i x H5 H6 hi ⟨s5, rs', e5, r5⟩ ⟨rfl, k', v', hkv, rfl⟩
        rw [dk_len] at hi
        have he : (dk cs)[i]? = some (Sum.inr (cs[i]).1, V.int (cs[i]).2) := by
          unfold dk
          rw [List.getElem?_map, List.getElem?_eq_getElem hi]
          rfl
        rw [he] at hkv
        cases hkv
        have hget : DGet H6 td (V.str (cs[i]).1) (some (V.int (cs[i]).2)) := by
          have hv : valV (dk cs) (Sum.inr (cs[i]).1 : Key) = some (V.int (cs[i]).2) := by rw [valV_dk, lookO_of_mem nC (k := (cs[i]).1) (v := (cs[i]).2) (List.getElem_mem hi)]; rfl
          rw [← hv]
          exact .inl ⟨dk cs, Sum.inr (cs[i]).1, .inr ⟨od, s5 _ _ ht4⟩, rfl, rfl⟩
        refine ⟨rfl, ?_⟩
        refine ⟨_, rfl, _, rfl, _, rfl, td, _, rfl, hget, by show 2 ≤ sizeLine; decide, fun T hT => ?_⟩
        have sT : Same H6 (L2.upd H6 T (.lst [V.str (cs[i]).1, V.int (cs[i]).2])) := sameUpd (Same.refl _) hT
        have nTD : T ≠ D1 := (ne_of_none e5 hT).symm
        refine ⟨_, sT _ _ e5, ?_, sameUpd (s5.trans sT) hD1, rs' ++ [T], ?_, ?_⟩
        · rw [List.length_map, r5.length, List.length_take]
          exact small1000 (by omega)
        · rw [upd_same, List.map_append]
          rfl
        · rw [List.take_succ, List.getElem?_eq_getElem hi]
          refine RowsAt.snoc (e := cs[i]) ?_ (RowsAt.but ?_ r5)
          · rw [upd_ne nTD, upd_same]
            rfl
          · exact fun r x n hr => rows_put e5 hT hr
      rintro H5 ⟨s5, rs1, e5, r5⟩
      rw [dk_len, List.take_length] at r5
      refine ⟨s5 _ _ ht4, ?_⟩
      have nDt : D1 ≠ td := (ne_of_none ht4 hD1).symm
      obtain ⟨H6, hH6⟩ : ∃ H6, H6 = L2.upd H5 td (.dK (dk cs)) := ⟨_, rfl⟩
      rw [← hH6]
      have s6 : Same H1 H6 := by rw [hH6]; exact sameUpd (s4.trans s5) htd
      have r6 : RowsAt H6 rs1 cs := RowsAt.but (fun r x n hr => by
        rw [hH6, upd_ne (fun e => by rw [e, s5 _ _ ht4] at hr; cases hr)]
        exact hr) r5
      have e6 : H6 D1 = some (.lst (rs1.map V.ref)) := by rw [hH6, upd_ne nDt]; exact e5
      have FA6 := FA.same s6
      have hp6 := s6 _ _ hp
      refine ⟨_, rfl, _, rfl, _, rfl, F, _, _, V.ref p, rfl, rfl, SqL.of (R1.same s6).f, atp, p, dx, _, rfl, hp6, p, cs, c, rfl, FA6, by show 2 ≤ sizeLine; decide, fun T hT => ?_⟩
      have sT := sameUpd (o := .tup [V.ref D1, V.int c]) (Same.refl H6) hT
      have PT : PlAt (L2.upd H6 T (.tup [V.ref D1, V.int c])) T cs c := ⟨D1, rs1, upd_same, sT _ _ e6, r6.mono sT⟩
      obtain ⟨H7, hH7⟩ : ∃ H7, H7 = L2.upd H6 T (.tup [V.ref D1, V.int c]) := ⟨_, rfl⟩
      rw [← hH7] at PT sT ⊢
      have s7 := s6.trans sT
      refine ⟨_, rfl, _, rfl, M, _, _, V.ref t, rfl, rfl, SqL.of (R1.same s7).m, att, t, kvs, cs, c, rfl, Mm.same s7, p4, FA.can, hlk, fun T2 H8 s8 PT2 => ?_⟩
      have sh := pl_shaped FA.gd c
      refine ⟨_, _, (PT.same s8).dp, PT2.dp, sh, sh, _, rfl, ?_⟩
      rw [SeqAt.eqv_refl _ (SeqAt.canLay_of_shaped sh)]
      refine iteF ?_
      have s18 := s7.trans s8
      refine ⟨3, rfl, by decide, by decide, for_range (lo := 0) (n := 3) (fun k σ H' => Same H8 H' ∧ ∃ v2 v3 v5 v6 v7, σ = [some (.ref F), some (.ref M), some (.int (0 + (i : Int))), v2, v3, v5, v6, v7]) ⟨Same.refl _, _, _, _, _, _, rfl⟩ ?_ ?_⟩
      · rintro j σ H9 hj ⟨s9, w2, w3, w5, w6, w7, rfl⟩
        have s19 := s18.trans s9
        have R9 := R1.same s19
        obtain ⟨ds, lvs, e, FB, Mn, q4, be, hlm⟩ := (R9.r j hj).ex
        obtain ⟨d2, dy, hq, hd2⟩ := FB.ob
        obtain ⟨q, hqe⟩ : ∃ q, q = ps.getD j 0 := ⟨_, rfl⟩
        obtain ⟨u, hue⟩ : ∃ u, u = ts.getD j 0 := ⟨_, rfl⟩
        rw [← hqe] at FB hq
        rw [← hue] at Mn
        have atq : atI (ps.map V.ref) (0 + (j : Int)) = some (V.ref q) := by rw [hqe]; exact refs_at R.lf hj (by omega)
        have atu : atI (ts.map V.ref) (0 + (j : Int)) = some (V.ref u) := by rw [hue]; exact refs_at R.lm hj (by omega)
        refine ⟨_, rfl, _, rfl, M, _, _, V.ref t, rfl, rfl, SqL.of R9.m, att, t, kvs, cs, c, rfl, Mm.same s19, p4, FA.can, hlk, fun T3 H10 s10 PT3 => ?_⟩
        have R10 := R9.same s10
        refine ⟨_, rfl, _, rfl, M, _, _, V.ref u, rfl, rfl, SqL.of R10.m, atu, u, lvs, ds, e, rfl, Mn.same s10, q4, FB.can, hlm, fun T4 H11 s11 PT4 => ?_⟩
        have R11 := R10.same s11
        refine ⟨_, _, (PT3.same s11).dp, PT4.dp, sh, pl_shaped FB.gd e, ?_⟩
        rw [pl_eqv]
        have s1B := (s19.trans s10).trans s11
        refine ⟨_, rfl, _, rfl, F, _, _, V.ref p, rfl, rfl, SqL.of R11.f, atp, _, rfl, _, rfl, F, _, _, V.ref q, rfl, rfl, SqL.of R11.f, atq, ?_⟩
        refine ⟨p, dx, _, rfl, s1B _ _ hp, .inr ⟨q, dy, _, rfl, (s10.trans s11) _ _ hq⟩, p, cs, c, _, rfl, FA.same s1B, .inr ⟨q, ds, e, rfl, FB.same (s10.trans s11), _, rfl, ?_⟩⟩
        refine ⟨_, rfl, rfl, _, rfl, ?_⟩
        have e0 : ∀ b : Bool, (!decide (V.bl b = V.bl b)) = false := fun b => by simp
        show if (!decide (V.bl (id (decide (cs = ds) && decide (c = e))) = V.bl (decide (cs = ds) && decide (c = e)))) = true then _ else _
        rw [show id (decide (cs = ds) && decide (c = e)) = (decide (cs = ds) && decide (c = e)) from rfl, e0]
        refine iteF ?_
        exact ⟨(s9.trans s10).trans s11, _, _, _, _, _, rfl⟩
      · rintro σ H9 ⟨s9, w2, w3, w5, w6, w7, rfl⟩
        exact ⟨(s1.trans s18).trans s9, _, _, _, _, _, _, rfl⟩
    · rintro σ H1 ⟨s1, v1, v2, v3, v5, v6, v7, rfl⟩
      exact k H1 s1
end
end OS
namespace OS
open PySem L2
structure Ops (P : Program) (w : World) (K : PySem.W.Frag) (mg : Str → Option Value) (base : Heap) (C : Addr) where
  (fAd fRa fSu fRs fMu fRm fNe fI : Addr)
  (dAd dRa dSu dRs dMu dRm dNe dI : FuncData)
  Ad : FnOk P w K mg base CX0 4 fAd dAd ["self", "other"] (spAdd C)
  Ra : FnOk P w K mg base CX0 5 fRa dRa ["self", "other"] (spRadd C)
  Su : FnOk P w K mg base CX0 6 fSu dSu ["self", "other"] (spSub C)
  Rs : FnOk P w K mg base CX0 6 fRs dRs ["self", "other"] (spRsub C)
  Mu : FnOk P w K mg base CX0 4 fMu dMu ["self", "other"] (spMul C)
  Rm : FnOk P w K mg base CX0 5 fRm dRm ["self", "other"] (spMul C)
  Ne : FnOk P w K mg base CX0 5 fNe dNe ["self"] (spNeg C)
  In : FnOk P w K mg base CX0 2 fI dI ["self", "coefficients", "constant"] (spInit C)
  bAd : Binds K dAd ["self", "other"] []
  bRa : Binds K dRa ["self", "other"] []
  bSu : Binds K dSu ["self", "other"] []
  bRs : Binds K dRs ["self", "other"] []
  bMu : Binds K dMu ["self", "other"] []
  bRm : Binds K dRm ["self", "other"] []
  bNe : Binds K dNe ["self"] []
  bI : Binds K dI ["self", "coefficients", "constant"] []
  OA : OpF K C "__add__" "__radd__" fAd
  OS_ : OpF K C "__sub__" "__rsub__" fSu
  OM : OpF K C "__mul__" "__rmul__" fMu
  oRa : Own K C "__radd__" fRa
  oRs : Own K C "__rsub__" fRs
  oRm : Own K C "__rmul__" fRm
  oNe : Own K C "__neg__" fNe
  M : Mk K C fI
  mC : mg "Form" = some (.ref C)
  I : InF K C
end OS
namespace OS
open PySem L2
theorem Md.kb {H H' : Hp} {t st cl : Addr} {kvs : Cf} {c : Int} {m : Nat} (h : Md H t kvs c) (S : StAt H st cl m) (s : Kb st cl H H') : Md H' t kvs c := by
  obtain ⟨d, a, b⟩ := h.ob
  obtain ⟨⟨q, c', e1, _⟩, ⟨ns, e2, _⟩, _⟩ := S
  exact ⟨d, s _ _ a (ne_of a e1 (by intro z; cases z)) (ne_of a e2 (by intro z; cases z)), s _ _ b (ne_of b e1 (by intro z; cases z)) (ne_of b e2 (by intro z; cases z))⟩
theorem Rg.kb {C : Addr} {H H' : Hp} {p t st cl : Addr} {m : Nat} (h : Rg C H p t) (S : StAt H st cl m) (s : Kb st cl H H') : Rg C H' p t := by
  obtain ⟨cs, kvs, c, a, b, d⟩ := h.ex
  exact ⟨cs, kvs, c, a.kb S s, b.kb S s, d⟩
theorem refs_ne {H : Hp} {F st cl : Addr} {ps : List Addr} {m : Nat} (S : StAt H st cl m) (h : H F = some (.lst (ps.map V.ref))) (hl : ps.length = 3) : F ≠ st ∧ F ≠ cl := by
  obtain ⟨⟨q, c', e1, _⟩, ⟨ns, e2, _⟩, _⟩ := S
  match ps, hl with
  | [a, b, c], _ =>
    constructor
    · intro e
      rw [e, e1] at h
      cases h
    · intro e
      rw [e, e2] at h
      cases ns with
      | nil => cases h
      | cons n ns => cases h
theorem Regs.kb {C : Addr} {H H' : Hp} {F M st cl : Addr} {ps ts : List Addr} {m : Nat} (h : Regs C H F M ps ts) (S : StAt H st cl m) (s : Kb st cl H H') : Regs C H' F M ps ts :=
  ⟨s _ _ h.f (refs_ne S h.f h.lf).1 (refs_ne S h.f h.lf).2, s _ _ h.m (refs_ne S h.m h.lm).1 (refs_ne S h.m h.lm).2, h.lf, h.lm, fun i hi => (h.r i hi).kb S s⟩
theorem look_bd {kvs : Cf} {B : Nat} (h : ∀ e ∈ kvs, e.2.natAbs ≤ B) (x : Str) : (look kvs x).natAbs ≤ B := by
  unfold look
  cases q : lookO kvs x with
  | none => simp
  | some v => exact h _ (lookO_mem q)
theorem mul_bd {k x : Int} (hk : k.natAbs ≤ 20) (hx : x.natAbs ≤ 10 ^ 20) : (k * x).natAbs ≤ 20 * 10 ^ 20 := by
  rw [Int.natAbs_mul]
  exact Nat.mul_le_mul hk hx
theorem p4_sum {kvs ls : Cf} {k : Int} (h : P4 kvs) (h2 : P4 ls) (b1 : ∀ e ∈ kvs, e.2.natAbs ≤ 10 ^ 20) (b2 : ∀ e ∈ ls, e.2.natAbs ≤ 10 ^ 20) (hk : k.natAbs ≤ 20) : P4 (sumC kvs ls k) := by
  refine ⟨sumC_nd h.nd, addC_gd (P := fun z => z ∈ nm4) h.nm (fun e he => ?_), fun e he => ?_⟩
  · unfold scaleC at he
    obtain ⟨e', h', rfl⟩ := List.mem_map.mp he
    exact h2.nm e' h'
  · rw [← look_of_mem (sumC_nd h.nd) he, sumC_look h2.nd]
    have a := look_bd b1 e.1
    have b := mul_bd hk (look_bd b2 e.1)
    have : (look kvs e.1 + k * look ls e.1).natAbs ≤ (look kvs e.1).natAbs + (k * look ls e.1).natAbs := Int.natAbs_add_le _ _
    have h3 : 10 ^ 20 + 20 * 10 ^ 20 ≤ 10 ^ 22 := by decide
    omega
theorem lk_nil (x : Str) : look [] x = 0 := rfl
theorem cs_len {cs kvs : Cf} (hc : Can cs) (p4 : P4 kvs) (h : ∀ x, look cs x = look kvs x) : cs.length ≤ 4 := by
  have := nd_sub (m := nm4) hc.nd fun x hx => by
    have h1 := (hc.mem_iff x).mp hx
    rw [h x] at h1
    cases q : lookO kvs x with
    | none => unfold look at h1; rw [q] at h1; exact absurd rfl h1
    | some v => exact p4.nm _ (lookO_mem q)
  rw [List.length_map] at this
  exact this
theorem rg_mk {C : Addr} {H : Hp} {q T1 T2 : Addr} {es kvs : Cf} {c : Int} (FQ : FormAt C H q es c) (hT : H T1 = some (.dK (dk kvs))) (hT2 : H T2 = none) (p4 : P4 kvs) (bc : c.natAbs ≤ 10 ^ 22) (lk : ∀ x, look es x = look kvs x) : Rg C (L2.upd H T2 (.tup [.ref T1, .int c])) q T2 :=
  ⟨es, kvs, c, FQ.same (sameUpd (Same.refl _) hT2), ⟨T1, upd_same, sameUpd (Same.refl _) hT2 _ _ hT⟩, p4, bc, lk⟩
def spStep (C : Addr) : Sp := fun vs H Q _ => ∃ (st cl F M : Addr) (ps ts : List Addr) (m : Nat), vs = [.ref st, .ref F, .ref M] ∧ StAt H st cl m ∧ m ≤ 800000000 ∧ Regs C H F M ps ts ∧
  ∀ (T q t : Addr) (i : Int) (H' : Hp), 0 ≤ i → i < 3 → H' T = some (.tup [.int i, .ref q, .ref t]) → Rg C H' q t → StAt H' st cl (m + 20) → Kb st cl H H' → Q (.ref T) H'
section
variable {P : Program} {w : World} {K : PySem.W.Frag} {mg : Str → Option Value} {base : Heap}
abbrev nSp : List Str := ["_law_state", "_law_forms", "_law_models", "_law_i", "_law_j", "_law_k", "_law_n", "_law_plan", "_law_p", "_law_c", "_law_q", "_law_d", "_law_parts"]
theorem scSp : FnScope nSp ["_law_state", "_law_forms", "_law_models"] (defScope s_step) := ⟨rfl, rfl, rfl, by decide +kernel, rfl, by decide +kernel, by decide +kernel⟩
theorem ok_sp {f fT fM fS fZ C : Addr} {fd dT dM dS dZ : FuncData} (F : Fun K "_law_step" "_law_step" s_step f fd) (mD : mg "dict" = none) (mX : mg "max" = none) (Z : Ops P w K mg base C)
    (ET : FnOk P w K mg base CX0 1 fT dT ["_law_state", "_law_limit"] spTake) (GT : Df K mg "_law_take" fT) (bT : Binds K dT ["_law_state", "_law_limit"] [])
    (EM : FnOk P w K mg base CX0 2 fM dM ["_law_state"] spSmall) (GM : Df K mg "_law_small" fM) (bM : Binds K dM ["_law_state"] [])
    (ES : FnOk P w K mg base CX0 1 fS dS ["_law_first", "_law_second", "_law_factor"] spSum) (GS : Df K mg "_law_sum" fS) (bS : Binds K dS ["_law_first", "_law_second", "_law_factor"] [])
    (EZ : FnOk P w K mg base CX0 1 fZ dZ ["_law_model"] spSize) (GZ : Df K mg "_law_size" fZ) (bZ : Binds K dZ ["_law_model"] []) : FnOk P w K mg base CX0 7 f fd ["_law_state", "_law_forms", "_law_models"] (spStep C) := by
  obtain ⟨fAd, fRa, fSu, fRs, fMu, fRm, fNe, fI, dAd, dRa, dSu, dRs, dMu, dRm, dNe, dI, Ad, Ra, Su, Rs, Mu, Rm, Ne, In, bAd, bRa, bSu, bRs, bMu, bRm, bNe, bI, OA, OS_, OM, oRa, oRs, oRm, oNe, M, mC, I⟩ := Z
  refine F.ok scSp (fun vs H Q E h => ?_) (fun cdv A outer s H vs Q E hr h => ?_)
  · obtain ⟨st, cl, F, Mo, ps, ts, m, rfl, _⟩ := h
    rfl
  · obtain ⟨st, cl, F, Mo, ps, ts, m, rfl, S, hm, R, k⟩ := h
    obtain ⟨gOA, hOAb⟩ := OA.back
    obtain ⟨foA, hOA1⟩ := OA.int1
    obtain ⟨roA, hOA2⟩ := OA.int2
    obtain ⟨gOS_, hOS_b⟩ := OS_.back
    obtain ⟨foS, hOS_1⟩ := OS_.int1
    obtain ⟨roS, hOS_2⟩ := OS_.int2
    obtain ⟨gOM, hOMb⟩ := OM.back
    obtain ⟨foM, hOM1⟩ := OM.int1
    obtain ⟨roM, hOM2⟩ := OM.int2
    have hr1 : Room 1 _ := hr.mono (by decide)
    have hr2 : Room 2 _ := hr.mono (by decide)
    have hr3 : Room 3 _ := hr.mono (by decide)
    have hr_Ad : Room 4 _ := hr.mono (by decide)
    have hr_Mu : Room 4 _ := hr.mono (by decide)
    have hr_Rm : Room 5 _ := hr.mono (by decide)
    have hr_Ne : Room 5 _ := hr.mono (by decide)
    have hr_Su : Room 6 _ := hr
    have hr_Rs : Room 6 _ := hr
    refine ⟨_, pss_cons (ps_set (i := 3) scSp.nd rfl (Or.inl rfl) (pe_call ET hr1 rfl GT.mg GT.kp bT .nil pass0 (pa_cons (pv 0) (pa_cons pe_int pa_nil))))
      (pss_cons (ps_set (i := 4) scSp.nd rfl (Or.inl rfl) (pe_call ET hr1 rfl GT.mg GT.kp bT .nil pass0 (pa_cons (pv 0) (pa_cons pe_int pa_nil))))
      (pss_cons (ps_set (i := 5) scSp.nd rfl (Or.inl rfl) (pe_call ET hr1 rfl GT.mg GT.kp bT .nil pass0 (pa_cons (pv 0) (pa_cons pe_int pa_nil))))
      (pss_cons (ps_set (i := 6) scSp.nd rfl (Or.inl rfl) (pe_op op_sub (pe_call ET hr1 rfl GT.mg GT.kp bT .nil pass0 (pa_cons (pv 0) (pa_cons pe_int pa_nil))) pe_int))
      (pss_cons (ps_set (i := 7) scSp.nd rfl (Or.inl rfl) (pe_call ET hr1 rfl GT.mg GT.kp bT .nil pass0 (pa_cons (pv 0) (pa_cons pe_int pa_nil))))
      (pss_cons (ps_asg (pe_ix ix_list (pv 2) (pv 4) fun _ _ => rfl) (pg_tup rfl (pgs_cons (pg_name (i := 8) scSp.nd rfl (Or.inl rfl)) (pgs_cons (pg_name (i := 9) scSp.nd rfl (Or.inl rfl)) pgs_nil))))
      (pss_cons (ps_asg (pe_ix ix_list (pv 2) (pv 5) fun _ _ => rfl) (pg_tup rfl (pgs_cons (pg_name (i := 10) scSp.nd rfl (Or.inl rfl)) (pgs_cons (pg_name (i := 11) scSp.nd rfl (Or.inl rfl)) pgs_nil))))
      (C8.pss_cut (ps_if (PW.pt (pw_or (pt_cmpR op_eq (pv 7) pe_int (nomark _)) (pw_or1 (pt_cmpR op_gt (pe_callB (call_max2 rfl) (by rfl) mX (by decide +kernel) (pa_cons (pe_call EZ hr1 rfl GZ.mg GZ.kp bZ .nil pass0 (pa_cons (pe_ix ix_list (pv 2) (pv 4) fun _ _ => rfl) pa_nil)) (pa_cons (pe_call EZ hr1 rfl GZ.mg GZ.kp bZ .nil pass0 (pa_cons (pe_ix ix_list (pv 2) (pv 5) fun _ _ => rfl) pa_nil)) pa_nil))) (pe_op op_pow pe_int pe_int) (nomark _)))))
        (pss_cons (ps_set (i := 12) scSp.nd rfl (Or.inl rfl) (pe_call EM hr2 rfl GM.mg GM.kp bM .nil pass0 (pa_cons (pv 0) pa_nil)))
        (pss_one (ps_ret (pe_tup (pa_cons (pv 3) (pa_cons (pe_make M In hr3 rfl mC bI .nil pass0 (pa_cons (pe_callTy call_dictD (by rfl) mD (by decide +kernel) (pa_cons (pv 12) pa_nil)) (pa_cons (pv 6) pa_nil))) (pa_cons (pe_tup (pa_cons (pv 12) (pa_cons (pv 6) pa_nil))) pa_nil))))))) pss_nil)
      (pss_cons (ps_if (pt_cmpR op_eq (pv 7) pe_int (nomark _)) (pss_one (ps_ret (pe_tup (pa_cons (pv 3) (pa_cons (pe_op (op_own2 (op := .Add) Ad OA.own OA.first hr_Ad bAd pass0) (pe_ix ix_list (pv 1) (pv 4) fun _ _ => rfl) (pe_ix ix_list (pv 1) (pv 5) fun _ _ => rfl)) (pa_cons (pe_tup (pa_cons (pe_call ES hr1 rfl GS.mg GS.kp bS .nil pass0 (pa_cons (pv 8) (pa_cons (pv 10) (pa_cons pe_int pa_nil)))) (pa_cons (pe_op op_add (pv 9) (pv 11)) pa_nil))) pa_nil)))))) pss_nil)
      (pss_cons (ps_if (pt_cmpR op_eq (pv 7) pe_int (nomark _)) (pss_one (ps_ret (pe_tup (pa_cons (pv 3) (pa_cons (pe_op (op_own2 (op := .Sub) Su OS_.own OS_.first hr_Su bSu pass0) (pe_ix ix_list (pv 1) (pv 4) fun _ _ => rfl) (pe_ix ix_list (pv 1) (pv 5) fun _ _ => rfl)) (pa_cons (pe_tup (pa_cons (pe_call ES hr1 rfl GS.mg GS.kp bS .nil pass0 (pa_cons (pv 8) (pa_cons (pv 10) (pa_cons (pe_un un_neg pe_int) pa_nil)))) (pa_cons (pe_op op_sub (pv 9) (pv 11)) pa_nil))) pa_nil)))))) pss_nil)
      (pss_cons (ps_if (pt_cmpR op_eq (pv 7) pe_int (nomark _)) (pss_one (ps_ret (pe_tup (pa_cons (pv 3) (pa_cons (pe_un (un_negO Ne oNe hr_Ne bNe pass0) (pe_ix ix_list (pv 1) (pv 4) fun _ _ => rfl)) (pa_cons (pe_tup (pa_cons (pe_call ES hr1 rfl GS.mg GS.kp bS .nil pass0 (pa_cons pe_dnewK (pa_cons (pv 8) (pa_cons (pe_un un_neg pe_int) pa_nil)))) (pa_cons (pe_un un_neg (pv 9)) pa_nil))) pa_nil)))))) pss_nil)
      (pss_cons (ps_if (pt_cmpR op_eq (pv 7) pe_int (nomark _)) (pss_one (ps_ret (pe_tup (pa_cons (pv 3) (pa_cons (pe_op (op_refl (op := .Mult) Rm oRm OM.first OM.own.at_ hOM1 hOM2 I.noint decl_mul hr_Rm bRm pass0) (pv 6) (pe_ix ix_list (pv 1) (pv 4) fun _ _ => rfl)) (pa_cons (pe_tup (pa_cons (pe_call ES hr1 rfl GS.mg GS.kp bS .nil pass0 (pa_cons pe_dnewK (pa_cons (pv 8) (pa_cons (pv 6) pa_nil)))) (pa_cons (pe_op op_mulW (pv 9) (pv 6)) pa_nil))) pa_nil)))))) pss_nil)
      (pss_cons (ps_if (pt_cmpR op_eq (pv 7) pe_int (nomark _)) (pss_one (ps_ret (pe_tup (pa_cons (pv 3) (pa_cons (pe_op (op_ownI (op := .Add) Ad OA.own OA.first hOAb (.inr ⟨gOA, rfl⟩) hOA1 hOA2 OA.sub hr_Ad bAd pass0) (pe_ix ix_list (pv 1) (pv 4) fun _ _ => rfl) (pv 6)) (pa_cons (pe_tup (pa_cons (pv 8) (pa_cons (pe_op op_add (pv 9) (pv 6)) pa_nil))) pa_nil)))))) pss_nil)
      (pss_cons (ps_if (pt_cmpR op_eq (pv 7) pe_int (nomark _)) (pss_one (ps_ret (pe_tup (pa_cons (pv 3) (pa_cons (pe_op (op_refl (op := .Sub) Rs oRs OS_.first OS_.own.at_ hOS_1 hOS_2 I.noint decl_sub hr_Rs bRs pass0) (pv 6) (pe_ix ix_list (pv 1) (pv 4) fun _ _ => rfl)) (pa_cons (pe_tup (pa_cons (pe_call ES hr1 rfl GS.mg GS.kp bS .nil pass0 (pa_cons pe_dnewK (pa_cons (pv 8) (pa_cons (pe_un un_neg pe_int) pa_nil)))) (pa_cons (pe_op op_sub (pv 6) (pv 9)) pa_nil))) pa_nil)))))) pss_nil)
      (pss_cons (ps_if (pt_cmpR op_eq (pv 7) pe_int (nomark _)) (pss_one (ps_ret (pe_tup (pa_cons (pv 3) (pa_cons (pe_op (op_ownI (op := .Mult) Mu OM.own OM.first hOMb (.inr ⟨gOM, rfl⟩) hOM1 hOM2 OM.sub hr_Mu bMu pass0) (pe_ix ix_list (pv 1) (pv 4) fun _ _ => rfl) (pv 6)) (pa_cons (pe_tup (pa_cons (pe_call ES hr1 rfl GS.mg GS.kp bS .nil pass0 (pa_cons pe_dnewK (pa_cons (pv 8) (pa_cons (pv 6) pa_nil)))) (pa_cons (pe_op op_mulW (pv 9) (pv 6)) pa_nil))) pa_nil)))))) pss_nil)
      (pss_one (ps_ret (pe_tup (pa_cons (pv 3) (pa_cons (pe_ix ix_list (pv 1) (pv 4) fun _ _ => rfl) (pa_cons (pe_tup (pa_cons (pv 8) (pa_cons (pv 9) pa_nil))) pa_nil)))))))))))))))))))), ?_⟩
    refine ⟨_, rfl, st, cl, m, 3, rfl, S, by omega, by decide, by decide, fun i H1 i0 i1 S1 k1 => ?_⟩
    refine ⟨_, rfl, st, cl, m + 1, 3, rfl, S1, by omega, by decide, by decide, fun j H2 j0 j1 S2 k2 => ?_⟩
    refine ⟨_, rfl, st, cl, m + 2, 3, rfl, S2, by omega, by decide, by decide, fun l H3 l0 l1 S3 k3 => ?_⟩
    refine ⟨_, rfl, st, cl, m + 3, 41, rfl, S3, by omega, by decide, by decide, fun x H4 x0 x1 S4 k4 => ?_⟩
    refine ⟨_, _, rfl, rfl, ?_⟩
    obtain ⟨n, hn⟩ : ∃ n : Int, n = x - 20 := ⟨_, rfl⟩
    rw [show (fun i j => V.int (i - j)) x 20 = V.int n by rw [hn]]
    have bn : n.natAbs ≤ 20 := by omega
    refine ⟨_, rfl, st, cl, m + 4, 9, rfl, S4, by omega, by decide, by decide, fun plan H5 p0 p1 S5 k5 => ?_⟩
    have kb5 : Kb st cl H H5 := (((k1.trans k2).trans k3).trans k4).trans k5
    have R5 := R.kb S kb5
    have hj : j.toNat < 3 := by omega
    have hl : l.toNat < 3 := by omega
    obtain ⟨csj, kvj, cj, FJ, MJ, PJ, bcj, lj⟩ := (R5.r j.toNat hj).ex
    obtain ⟨csl, kvl, ck, FL, ML, PL, bcl, ll⟩ := (R5.r l.toNat hl).ex
    have atpj : atI (ps.map V.ref) j = some (V.ref (ps.getD j.toNat 0)) := refs_at R.lf hj (by omega)
    have atpl : atI (ps.map V.ref) l = some (V.ref (ps.getD l.toNat 0)) := refs_at R.lf hl (by omega)
    have attj : atI (ts.map V.ref) j = some (V.ref (ts.getD j.toNat 0)) := refs_at R.lm hj (by omega)
    have attl : atI (ts.map V.ref) l = some (V.ref (ts.getD l.toNat 0)) := refs_at R.lm hl (by omega)
    obtain ⟨pj, hpj0⟩ : ∃ pj, pj = ps.getD j.toNat 0 := ⟨_, rfl⟩
    obtain ⟨pl, hpl0⟩ : ∃ pl, pl = ps.getD l.toNat 0 := ⟨_, rfl⟩
    obtain ⟨tj, htj0⟩ : ∃ tj, tj = ts.getD j.toNat 0 := ⟨_, rfl⟩
    obtain ⟨tl, htl0⟩ : ∃ tl, tl = ts.getD l.toNat 0 := ⟨_, rfl⟩
    rw [← hpj0] at atpj FJ
    rw [← hpl0] at atpl FL
    rw [← htj0] at attj MJ
    rw [← htl0] at attl ML
    obtain ⟨dj, htj, hdj⟩ := MJ.ob
    obtain ⟨dl, htl, hdl⟩ := ML.ob
    have lenj := PJ.len
    have lenl := PL.len
    have clj := cs_len FJ.can PJ lj
    have cll := cs_len FL.can PL ll
    refine ⟨_, rfl, _, rfl, Mo, _, _, V.ref tj, rfl, rfl, SqL.of R5.m, attj, tj, _, rfl, .inl (.inl htj), rfl, _, _, rfl, _, _, rfl, rfl, ?_⟩
    refine ⟨_, rfl, _, rfl, Mo, _, _, V.ref tl, rfl, rfl, SqL.of R5.m, attl, tl, _, rfl, .inl (.inl htl), rfl, _, _, rfl, _, _, rfl, rfl, ?_⟩
    have fin : ∀ (Hb : Hp) (q t : Addr) (mm : Nat), StAt Hb st cl mm → mm ≤ m + 20 → Kb st cl H Hb → Rg C Hb q t → ∀ T3, Hb T3 = none → Q (.ref T3) (L2.upd Hb T3 (.tup [.int i, .ref q, .ref t])) := by
      intro Hb q t mm Sb hmm kb rg T3 hT3
      have sT := sameUpd (o := .tup [V.int i, V.ref q, V.ref t]) (Same.refl Hb) hT3
      exact k T3 q t i _ i0 i1 upd_same (rg.same sT) ((Sb.same sT).mono hmm) (kb.same sT)
    have e20 : ((10 : Int) ^ (20 : Int).toNat) = 100000000000000000000 := by decide
    have n20 : (10 : Nat) ^ 20 = 100000000000000000000 := by decide
    refine ⟨fun σ H' => Same H5 H' ∧ ((∀ e ∈ kvj, e.2.natAbs ≤ 10 ^ 20) ∧ (∀ e ∈ kvl, e.2.natAbs ≤ 10 ^ 20) ∧ cj.natAbs ≤ 10 ^ 20 ∧ ck.natAbs ≤ 10 ^ 20) ∧ σ = [some (.ref st), some (.ref F), some (.ref Mo), some (.int i), some (.int j), some (.int l), some (.int n), some (.int plan), some (.ref dj), some (.int cj), some (.ref dl), some (.int ck), none], ?_, ?_⟩
    · refine ⟨_, rfl, rfl, _, rfl, ?_⟩
      refine ite2 (fun h => ?b1) (fun h => ?r1)
      case' r1 =>
        refine ⟨_, rfl, _, rfl, Mo, _, _, V.ref tj, rfl, rfl, SqL.of R5.m, attj, tj, kvj, cj, rfl, MJ, PJ, fun m1 H6 s6 b1 b1' => ?_⟩
        refine ⟨_, rfl, _, rfl, Mo, _, _, V.ref tl, rfl, rfl, SqL.of (R5.same s6).m, attl, tl, kvl, ck, rfl, ML.same s6, PL, fun m2 H7 s7 b2 b2' => ?_⟩
        refine ⟨m1, m2, rfl, _, _, rfl, rfl, ⟨by decide, by decide, by decide⟩, _, _, rfl, rfl, _, rfl, ?_⟩
        refine ite2 (fun h2 => ?b2) (fun h2 => ?r2)
      case' r2 =>
        have hmx : ¬ (if m2 > m1 then m2 else m1) > 100000000000000000000 := fun q => h2 (by rw [e20]; exact decide_eq_true q)
        have hm1 : m1 ≤ 100000000000000000000 := by split at hmx <;> omega
        have hm2 : m2 ≤ 100000000000000000000 := by split at hmx <;> omega
        refine ⟨s6.trans s7, ⟨fun e he => ?_, fun e he => ?_, by omega, by omega⟩, rfl⟩
        · have := b1' e he
          omega
        · have := b2' e he
          omega
      case' b1 => have sB := Same.refl H5
      case' b2 => have sB := s6.trans s7
      all_goals
        refine ⟨_, rfl, st, cl, m + 5, rfl, S5.same sB, by omega, fun D kvs H8 hD hD8 p4 S8 k8 => ?_⟩
        refine ⟨_, rfl, ?_⟩
        refine ⟨_, rfl, D, dk kvs, rfl, Rd.of hD8, fun d' nd' => ?_⟩
        refine ⟨_, rfl, ?_⟩
        intro q qd nq nqd nqq
        have sq : Same (L2.upd H8 d' (.dK (dk kvs))) (L2.upd (L2.upd (L2.upd H8 d' (.dK (dk kvs))) qd (.own q)) q (.ins C qd [])) := sameUpd (sameUpd (Same.refl _) nqd) nq
        have klen := p4.len
        refine ⟨q, qd, d', kvs, n, rfl, upd_same, sq _ _ upd_same, p4.nd, by omega, p4.gd, fun cs H9 hlk FA _ s9 => ⟨rfl, ?_⟩⟩
        have s89 : Same H8 H9 := fun b u e => s9 b u (sq _ _ (by rw [upd_ne (ne_of_none e nd')]; exact e)) (fun z => by
          have : (L2.upd H8 d' (.dK (dk kvs))) b = some u := by rw [upd_ne (ne_of_none e nd')]; exact e
          rw [z, nq] at this
          cases this)
        refine ⟨_, rfl, _, rfl, by show 2 ≤ sizeLine; decide, fun T2 hT2 => ?_⟩
        refine ⟨by show 3 ≤ sizeLine; decide, fun T3 hT3 => ?_⟩
        have s9T := sameUpd (o := .tup [V.ref D, V.int n]) s89 (s89.free hT2)
        exact fin _ q T2 (m + 15) ((S8.same s9T).mono (by omega)) (by omega) (((kb5.same sB).trans k8).same s9T) (rg_mk FA (s89 _ _ hD8) hT2 p4 (by omega) hlk) T3 hT3
    rintro σ H6 ⟨sB, ⟨bj, bl, b3, b4⟩, rfl⟩
    have R6 := R5.same sB
    have FJ6 := FJ.same sB
    have FL6 := FL.same sB
    obtain ⟨fdj, dxj, hpj, _⟩ := FJ6.ob
    obtain ⟨fdl, dxl, hpl, _⟩ := FL6.ob
    have hdj6 := sB _ _ hdj
    have hdl6 := sB _ _ hdl
    have S6 := S5.same sB
    have kb6 := kb5.same sB
    have mk1 : Mid 1 := by unfold Mid; decide +kernel
    have mkm : Mid (-1) := by unfold Mid; decide +kernel
    have mkn : Mid n := Nat.lt_of_le_of_lt bn (by decide +kernel)
    have mko : ∀ c : Int, c.natAbs ≤ 10 ^ 20 → (c * n).natAbs ≤ 10 ^ 22 := by
      intro c hc
      rw [Int.natAbs_mul]
      calc c.natAbs * n.natAbs ≤ 10 ^ 20 * 20 := Nat.mul_le_mul hc bn
        _ ≤ 10 ^ 22 := by decide
    have n22 : (10 : Nat) ^ 22 = 10000000000000000000000 := by decide
    have one : ∀ (H8 : Hp) (q : Addr) (es : Cf) (c : Int) (kk : Int), Same H6 H8 → FormAt C H8 q es c → c.natAbs ≤ 10 ^ 22 → kk.natAbs ≤ 20 → (∀ x, look es x = kk * look csj x) → ∀ (T1 : Addr) (H9 : Hp), H9 T1 = some (.dK (dk (sumC [] kvj kk))) → Same H8 H9 → ∀ T2, H9 T2 = none → ∀ T3, (L2.upd H9 T2 (.tup [.ref T1, .int c])) T3 = none → Q (.ref T3) (L2.upd (L2.upd H9 T2 (.tup [.ref T1, .int c])) T3 (.tup [.int i, .ref q, .ref T2])) := by
      intro H8 q es c kk s8 FQ bc bk hl T1 H9 hT s9 T2 hT2 T3 hT3
      have s9T := sameUpd (o := .tup [V.ref T1, V.int c]) (s8.trans s9) ((s8.trans s9).free hT2)
      refine fin _ q T2 (m + 5) (S6.same s9T) (by omega) (kb6.same s9T) (rg_mk (FQ.same s9) hT hT2 (p4_sum p4_nil PJ (fun e he => by cases he) bj bk) bc fun x => ?_) T3 hT3
      rw [hl, lj, sumC_look PJ.nd, lk_nil, Int.zero_add]
    -- 0
    refine ⟨_, rfl, rfl, _, rfl, ?_⟩
    refine ite2 (fun h0 => ?_) (fun h0 => ?_)
    · refine ⟨_, rfl, _, rfl, _, rfl, F, _, _, V.ref pj, rfl, rfl, SqL.of R6.f, atpj, _, rfl, _, rfl, F, _, _, V.ref pl, rfl, rfl, SqL.of R6.f, atpl, ?_⟩
      refine ⟨pj, dxj, _, pl, dxl, _, rfl, rfl, hpj, hpl, pj, csj, cj, _, rfl, FJ6, .inr ⟨pl, csl, ck, rfl, FL6, by omega, fun q es H8 hl FQ s8 nq fr => ?_⟩⟩
      refine ⟨_, rfl, _, rfl, dj, dl, kvj, kvl, 1, rfl, s8 _ _ hdj6, s8 _ _ hdl6, PL.nd, by omega, PL.mid, mk1, fun T1 H9 nT hT s9 => ?_⟩
      refine ⟨_, rfl, _, rfl, _, _, rfl, rfl, by show 2 ≤ sizeLine; decide, fun T2 hT2 => ?_⟩
      refine ⟨by show 3 ≤ sizeLine; decide, fun T3 hT3 => ?_⟩
      have s9T := sameUpd (o := .tup [V.ref T1, V.int (cj + ck)]) (s8.trans s9) ((s8.trans s9).free hT2)
      refine fin _ q T2 (m + 5) (S6.same s9T) (by omega) (kb6.same s9T) (rg_mk (FQ.same s9) hT hT2 (p4_sum PJ PL bj bl (by decide)) (by omega) fun x => ?_) T3 hT3
      rw [hl, lj, ll, sumC_look PL.nd, Int.one_mul]
    -- 1
    refine ⟨_, rfl, rfl, _, rfl, ?_⟩
    refine ite2 (fun h1 => ?_) (fun h1 => ?_)
    · refine ⟨_, rfl, _, rfl, _, rfl, F, _, _, V.ref pj, rfl, rfl, SqL.of R6.f, atpj, _, rfl, _, rfl, F, _, _, V.ref pl, rfl, rfl, SqL.of R6.f, atpl, ?_⟩
      refine ⟨pj, dxj, _, pl, dxl, _, rfl, rfl, hpj, hpl, pj, csj, cj, _, rfl, FJ6, .inr ⟨pl, csl, ck, rfl, FL6, by omega, fun q es H8 hl FQ s8 nq fr => ?_⟩⟩
      refine ⟨_, rfl, _, rfl, _, rfl, dj, dl, kvj, kvl, -1, rfl, s8 _ _ hdj6, s8 _ _ hdl6, PL.nd, by omega, PL.mid, mkm, fun T1 H9 nT hT s9 => ?_⟩
      refine ⟨_, rfl, _, rfl, _, _, rfl, rfl, by show 2 ≤ sizeLine; decide, fun T2 hT2 => ?_⟩
      refine ⟨by show 3 ≤ sizeLine; decide, fun T3 hT3 => ?_⟩
      have s9T := sameUpd (o := .tup [V.ref T1, V.int (cj - ck)]) (s8.trans s9) ((s8.trans s9).free hT2)
      refine fin _ q T2 (m + 5) (S6.same s9T) (by omega) (kb6.same s9T) (rg_mk (FQ.same s9) hT hT2 (p4_sum PJ PL bj bl (by decide)) (by omega) fun x => ?_) T3 hT3
      rw [hl, lj, ll, sumC_look PL.nd, Int.neg_one_mul, Int.sub_eq_add_neg]
    -- 2
    refine ⟨_, rfl, rfl, _, rfl, ?_⟩
    refine ite2 (fun h2 => ?_) (fun h2 => ?_)
    · refine ⟨_, rfl, _, rfl, _, rfl, F, _, _, V.ref pj, rfl, rfl, SqL.of R6.f, atpj, ?_⟩
      refine ⟨pj, dxj, _, rfl, hpj, pj, csj, cj, rfl, FJ6, fun q es H8 hl FQ s8 nq fr => ?_⟩
      intro e he
      refine ⟨_, rfl, _, rfl, e, dj, [], kvj, -1, rfl, upd_same, by rw [upd_ne (ne_of_none (s8 _ _ hdj6) he)]; exact s8 _ _ hdj6, PJ.nd, by show 0 + kvj.length < 64; omega, PJ.mid, mkm, fun T1 H9 nT hT s9 => ?_⟩
      refine ⟨_, rfl, _, rfl, by show 2 ≤ sizeLine; decide, fun T2 hT2 => ?_⟩
      refine ⟨by show 3 ≤ sizeLine; decide, fun T3 hT3 => ?_⟩
      exact one H8 q es (-cj) (-1) s8 FQ (by omega) (by decide) (fun x => by rw [hl, Int.neg_one_mul]) T1 H9 hT ((sameUpd (Same.refl _) he).trans s9) T2 hT2 T3 hT3
    -- 3
    refine ⟨_, rfl, rfl, _, rfl, ?_⟩
    refine ite2 (fun h3 => ?_) (fun h3 => ?_)
    · refine ⟨_, rfl, _, rfl, _, rfl, _, rfl, F, _, _, V.ref pj, rfl, rfl, SqL.of R6.f, atpj, ?_⟩
      refine ⟨pj, dxj, _, n, rfl, rfl, hpj, pj, csj, cj, n, rfl, FJ6, .inl (by omega), fun q es H8 hl FQ s8 nq fr => ?_⟩
      intro e he
      refine ⟨_, rfl, _, rfl, e, dj, [], kvj, n, rfl, upd_same, by rw [upd_ne (ne_of_none (s8 _ _ hdj6) he)]; exact s8 _ _ hdj6, PJ.nd, by show 0 + kvj.length < 64; omega, PJ.mid, mkn, fun T1 H9 nT hT s9 => ?_⟩
      refine ⟨_, rfl, _, rfl, _, _, rfl, rfl, wide_mul (a := 80) (b := 80) (by omega) (by omega) (by decide) (by decide) (by decide), by show 2 ≤ sizeLine; decide, fun T2 hT2 => ?_⟩
      refine ⟨by show 3 ≤ sizeLine; decide, fun T3 hT3 => ?_⟩
      exact one H8 q es (cj * n) n s8 FQ (mko _ b3) bn (fun x => by rw [hl, Int.mul_comm]) T1 H9 hT ((sameUpd (Same.refl _) he).trans s9) T2 hT2 T3 hT3
    -- 4
    refine ⟨_, rfl, rfl, _, rfl, ?_⟩
    refine ite2 (fun h4 => ?_) (fun h4 => ?_)
    · refine ⟨_, rfl, _, rfl, _, rfl, F, _, _, V.ref pj, rfl, rfl, SqL.of R6.f, atpj, _, rfl, ?_⟩
      refine ⟨pj, dxj, _, n, rfl, rfl, hpj, pj, csj, cj, _, rfl, FJ6, .inl ⟨n, rfl, fun q es H8 hl FQ s8 nq fr => ?_⟩⟩
      refine ⟨_, rfl, _, rfl, _, rfl, _, _, rfl, rfl, by show 2 ≤ sizeLine; decide, fun T2 hT2 => ?_⟩
      refine ⟨by show 3 ≤ sizeLine; decide, fun T3 hT3 => ?_⟩
      have s8T := sameUpd (o := .tup [V.ref dj, V.int (cj + n)]) s8 (s8.free hT2)
      exact fin _ q T2 (m + 5) (S6.same s8T) (by omega) (kb6.same s8T) (rg_mk FQ (s8 _ _ hdj6) hT2 PJ (by omega) fun x => by rw [hl, lj]) T3 hT3
    -- 5
    refine ⟨_, rfl, rfl, _, rfl, ?_⟩
    refine ite2 (fun h5 => ?_) (fun h5 => ?_)
    · refine ⟨_, rfl, _, rfl, _, rfl, _, rfl, F, _, _, V.ref pj, rfl, rfl, SqL.of R6.f, atpj, ?_⟩
      refine ⟨pj, dxj, _, n, rfl, rfl, hpj, pj, csj, cj, n, rfl, FJ6, fun q es H8 hl FQ s8 nq fr => ?_⟩
      intro e he
      refine ⟨_, rfl, _, rfl, e, dj, [], kvj, -1, rfl, upd_same, by rw [upd_ne (ne_of_none (s8 _ _ hdj6) he)]; exact s8 _ _ hdj6, PJ.nd, by show 0 + kvj.length < 64; omega, PJ.mid, mkm, fun T1 H9 nT hT s9 => ?_⟩
      refine ⟨_, rfl, _, rfl, _, _, rfl, rfl, by show 2 ≤ sizeLine; decide, fun T2 hT2 => ?_⟩
      refine ⟨by show 3 ≤ sizeLine; decide, fun T3 hT3 => ?_⟩
      exact one H8 q es (n - cj) (-1) s8 FQ (by omega) (by decide) (fun x => by rw [hl, Int.neg_one_mul]) T1 H9 hT ((sameUpd (Same.refl _) he).trans s9) T2 hT2 T3 hT3
    -- 6
    refine ⟨_, rfl, rfl, _, rfl, ?_⟩
    refine ite2 (fun h6 => ?_) (fun h6 => ?_)
    · refine ⟨_, rfl, _, rfl, _, rfl, F, _, _, V.ref pj, rfl, rfl, SqL.of R6.f, atpj, _, rfl, ?_⟩
      refine ⟨pj, dxj, _, n, rfl, rfl, hpj, pj, csj, cj, n, rfl, FJ6, .inl (by omega), fun q es H8 hl FQ s8 nq fr => ?_⟩
      intro e he
      refine ⟨_, rfl, _, rfl, e, dj, [], kvj, n, rfl, upd_same, by rw [upd_ne (ne_of_none (s8 _ _ hdj6) he)]; exact s8 _ _ hdj6, PJ.nd, by show 0 + kvj.length < 64; omega, PJ.mid, mkn, fun T1 H9 nT hT s9 => ?_⟩
      refine ⟨_, rfl, _, rfl, _, _, rfl, rfl, wide_mul (a := 80) (b := 80) (by omega) (by omega) (by decide) (by decide) (by decide), by show 2 ≤ sizeLine; decide, fun T2 hT2 => ?_⟩
      refine ⟨by show 3 ≤ sizeLine; decide, fun T3 hT3 => ?_⟩
      exact one H8 q es (cj * n) n s8 FQ (mko _ b3) bn (fun x => by rw [hl, Int.mul_comm]) T1 H9 hT ((sameUpd (Same.refl _) he).trans s9) T2 hT2 T3 hT3
    -- 7
    refine ⟨_, rfl, _, rfl, _, rfl, F, _, _, V.ref pj, rfl, rfl, SqL.of R6.f, atpj, _, rfl, _, rfl, by show 2 ≤ sizeLine; decide, fun T2 hT2 => ?_⟩
    refine ⟨by show 3 ≤ sizeLine; decide, fun T3 hT3 => ?_⟩
    have s8T := sameUpd (o := .tup [V.ref dj, V.int cj]) (Same.refl H6) hT2
    exact fin _ pj T2 (m + 5) (S6.same s8T) (by omega) (kb6.same s8T) (rg_mk FJ6 hdj6 hT2 PJ (by omega) lj) T3 hT3
end
end OS
namespace OS
open PySem L2
theorem get_list {X : Cx} : PGet X (fun o i H Q => ∃ p xs k v, o = .ref p ∧ i = .int k ∧ SqL X.K H p xs ∧ 0 ≤ k ∧ k < 2 ^ 63 ∧ xs[k.toNat]? = some v ∧ Q v H) := by
  intro pins s σ H o i ov iv Q I ro ri h
  obtain ⟨p, xs, k, v, rfl, rfl, hS, h0, h1, hv, q⟩ := h
  cases ro
  obtain ⟨t, rfl⟩ := ri
  obtain ⟨its, r, pl, hz⟩ := Inv.list I hS
  obtain ⟨u, hu, ru⟩ := Vals.get r hv
  exact wpAny_getItem_list pl.isList h0 h1 (by rw [List.getElem?_toArray]; exact hu) ⟨v, H, I, ru, q⟩
end OS
namespace OS
open PySem L2
structure Ips (K : PySem.W.Frag) (C : Addr) : Prop where
  a : IpF K C "__iadd__"
  s : IpF K C "__isub__"
  m : IpF K C "__imul__"
/-- a register is put in another's place -/
theorem getD_set {ps : List Addr} {i j : Nat} {p : Addr} (hi : i < ps.length) : (ps.set i p).getD j 0 = if i = j then p else ps.getD j 0 := by
  rw [List.getD_eq_getElem?_getD, List.getD_eq_getElem?_getD]
  by_cases h : i = j
  · subst h
    rw [if_pos rfl, List.getElem?_set_self hi]
    rfl
  · rw [if_neg h, List.getElem?_set_ne h]
theorem Regs.put {C : Addr} {H H' : Hp} {F M : Addr} {ps ts : List Addr} {i : Nat} {p t : Addr} (R : Regs C H F M ps ts) (hi : i < 3) (hf : H' F = some (.lst ((ps.set i p).map V.ref))) (hm : H' M = some (.lst ((ts.set i t).map V.ref))) (keep : ∀ b o, H b = some o → b ≠ F → b ≠ M → H' b = some o) (hr : Rg C H' p t) (hFM : ∀ b o, H b = some o → (∃ xs, o = .lst xs) ∨ (b ≠ F ∧ b ≠ M)) : Regs C H' F M (ps.set i p) (ts.set i t) := by
  refine ⟨hf, hm, by rw [List.length_set]; exact R.lf, by rw [List.length_set]; exact R.lm, fun j hj => ?_⟩
  rw [getD_set (by rw [R.lf]; exact hi), getD_set (by rw [R.lm]; exact hi)]
  by_cases h : i = j
  · rw [if_pos h, if_pos h]; exact hr
  · rw [if_neg h, if_neg h]
    obtain ⟨cs, kvs, c, ⟨⟨d, dx, a1, a2⟩, can, len, gd⟩, ⟨g, b1, b2⟩, r⟩ := (R.r j hj).ex
    have kp : ∀ b o, H b = some o → (∀ xs, o ≠ .lst xs) → H' b = some o := fun b o e n => by
      rcases hFM b o e with ⟨xs, q⟩ | ⟨q1, q2⟩
      · exact absurd q (n xs)
      · exact keep b o e q1 q2
    exact ⟨cs, kvs, c, ⟨⟨d, dx, kp _ _ a1 (fun _ z => by cases z), kp _ _ a2 (fun _ z => by cases z)⟩, can, len, gd⟩, ⟨g, kp _ _ b1 (fun _ z => by cases z), kp _ _ b2 (fun _ z => by cases z)⟩, r⟩
/-- what a step keeps: but for the lists of registers and the drawing state all stays -/
def Kr (st cl F M : Addr) (H H' : Hp) : Prop := ∀ b o, H b = some o → b ≠ st → b ≠ cl → b ≠ F → b ≠ M → H' b = some o
def spSgn6 (C : Addr) : Sp := fun vs H Q _ => ∃ (st cl F M : Addr) (ps ts : List Addr) (m : Nat), vs = [.ref st, .ref F, .ref M] ∧ StAt H st cl m ∧ m ≤ 800000000 ∧ Regs C H F M ps ts ∧ F ≠ M ∧
  ∀ (v : V) (ps' ts' : List Addr) (H' : Hp), Regs C H' F M ps' ts' → StAt H' st cl (m + 4) → Kr st cl F M H H' → Q v H'
section
variable {P : Program} {w : World} {K : PySem.W.Frag} {mg : Str → Option Value} {base : Heap}
abbrev nSn : List Str := ["_law_state", "_law_forms", "_law_models", "_law_i", "_law_k", "_law_n", "_law_plan", "_law_p", "_law_c", "_law_q", "_law_d"]
theorem scSn : FnScope nSn ["_law_state", "_law_forms", "_law_models"] (defScope s_sign) := ⟨rfl, rfl, rfl, by decide +kernel, rfl, by decide +kernel, by decide +kernel⟩
theorem ok_sn {f fT fS fZ C : Addr} {fd dT dS dZ : FuncData} (F : Fun K "_law_sign" "_law_sign" s_sign f fd) (mX : mg "max" = none) (Z : Ops P w K mg base C) (IP : Ips K C)
    (ET : FnOk P w K mg base CX0 1 fT dT ["_law_state", "_law_limit"] spTake) (GT : Df K mg "_law_take" fT) (bT : Binds K dT ["_law_state", "_law_limit"] [])
    (ES : FnOk P w K mg base CX0 1 fS dS ["_law_first", "_law_second", "_law_factor"] spSum) (GS : Df K mg "_law_sum" fS) (bS : Binds K dS ["_law_first", "_law_second", "_law_factor"] [])
    (EZ : FnOk P w K mg base CX0 1 fZ dZ ["_law_model"] spSize) (GZ : Df K mg "_law_size" fZ) (bZ : Binds K dZ ["_law_model"] []) : FnOk P w K mg base CX0 7 f fd ["_law_state", "_law_forms", "_law_models"] (spSgn6 C) := by
  obtain ⟨fAd, fRa, fSu, fRs, fMu, fRm, fNe, fI, dAd, dRa, dSu, dRs, dMu, dRm, dNe, dI, Ad, Ra, Su, Rs, Mu, Rm, Ne, In, bAd, bRa, bSu, bRs, bMu, bRm, bNe, bI, OA, OS_, OM, oRa, oRs, oRm, oNe, M, mC, I⟩ := Z
  refine F.ok scSn (fun vs H Q E h => ?_) (fun cdv A outer s H vs Q E hr h => ?_)
  · obtain ⟨st, cl, F, Mo, ps, ts, m, rfl, _⟩ := h
    rfl
  · obtain ⟨st, cl, F, Mo, ps, ts, m, rfl, S, hm, R, hFM, k⟩ := h
    obtain ⟨gOA, hOAb⟩ := OA.back
    obtain ⟨foA, hOA1⟩ := OA.int1
    obtain ⟨roA, hOA2⟩ := OA.int2
    obtain ⟨gOS_, hOS_b⟩ := OS_.back
    obtain ⟨foS, hOS_1⟩ := OS_.int1
    obtain ⟨roS, hOS_2⟩ := OS_.int2
    obtain ⟨gOM, hOMb⟩ := OM.back
    obtain ⟨foM, hOM1⟩ := OM.int1
    obtain ⟨roM, hOM2⟩ := OM.int2
    have hr1 : Room 1 _ := hr.mono (by decide)
    have hr_Ad : Room 4 _ := hr.mono (by decide)
    have hr_Mu : Room 4 _ := hr.mono (by decide)
    have hr_Su : Room 6 _ := hr
    refine ⟨_, pss_cons (ps_set (i := 3) scSn.nd rfl (Or.inl rfl) (pe_call ET hr1 rfl GT.mg GT.kp bT .nil pass0 (pa_cons (pv 0) (pa_cons pe_int pa_nil))))
      (pss_cons (ps_set (i := 4) scSn.nd rfl (Or.inl rfl) (pe_call ET hr1 rfl GT.mg GT.kp bT .nil pass0 (pa_cons (pv 0) (pa_cons pe_int pa_nil))))
      (pss_cons (ps_set (i := 5) scSn.nd rfl (Or.inl rfl) (pe_op op_sub (pe_call ET hr1 rfl GT.mg GT.kp bT .nil pass0 (pa_cons (pv 0) (pa_cons pe_int pa_nil))) pe_int))
      (pss_cons (ps_set (i := 6) scSn.nd rfl (Or.inl rfl) (pe_call ET hr1 rfl GT.mg GT.kp bT .nil pass0 (pa_cons (pv 0) (pa_cons pe_int pa_nil))))
      (pss_cons (ps_asg (pe_ix ix_list (pv 2) (pv 3) fun _ _ => rfl) (pg_tup rfl (pgs_cons (pg_name (i := 7) scSn.nd rfl (Or.inl rfl)) (pgs_cons (pg_name (i := 8) scSn.nd rfl (Or.inl rfl)) pgs_nil))))
      (pss_cons (ps_asg (pe_ix ix_list (pv 2) (pv 4) fun _ _ => rfl) (pg_tup rfl (pgs_cons (pg_name (i := 9) scSn.nd rfl (Or.inl rfl)) (pgs_cons (pg_name (i := 10) scSn.nd rfl (Or.inl rfl)) pgs_nil))))
      (C8.pss_cut (ps_if (PW.pt (pw_or (pt_cmpR op_gt (pe_callB (call_max2 rfl) (by rfl) mX (by decide +kernel) (pa_cons (pe_call EZ hr1 rfl GZ.mg GZ.kp bZ .nil pass0 (pa_cons (pe_ix ix_list (pv 2) (pv 3) fun _ _ => rfl) pa_nil)) (pa_cons (pe_call EZ hr1 rfl GZ.mg GZ.kp bZ .nil pass0 (pa_cons (pe_ix ix_list (pv 2) (pv 4) fun _ _ => rfl) pa_nil)) pa_nil))) (pe_op op_pow pe_int pe_int) (nomark _)) (pw_or1 (pt_cmpR op_gt (pv 6) pe_int (nomark _))))) (pss_one (ps_ret pe_bl)) pss_nil)
      (C8.pss_cut (ps_if (pt_cmpR op_eq (pv 6) pe_int (nomark _)) (pss_cons (ps_augS (pv 1) (pv 3) get_list (pv 5) (ip_ownI (op := .Add) Ad OA.own OA.first IP.a hOAb (.inr ⟨gOA, rfl⟩) hOA1 hOA2 OA.sub hr_Ad bAd pass0) set_list)
        (pss_one (ps_asg (pe_tup (pa_cons (pv 7) (pa_cons (pe_op op_add (pv 8) (pv 5)) pa_nil))) (pg_sub (pv 2) (pv 3) set_list)))) pss_nil)
      (C8.pss_cut (ps_if (pt_cmpR op_eq (pv 6) pe_int (nomark _)) (pss_cons (ps_augS (pv 1) (pv 3) get_list (pv 5) (ip_ownI (op := .Sub) Su OS_.own OS_.first IP.s hOS_b (.inr ⟨gOS_, rfl⟩) hOS_1 hOS_2 OS_.sub hr_Su bSu pass0) set_list)
        (pss_one (ps_asg (pe_tup (pa_cons (pv 7) (pa_cons (pe_op op_sub (pv 8) (pv 5)) pa_nil))) (pg_sub (pv 2) (pv 3) set_list)))) pss_nil)
      (C8.pss_cut (ps_if (pt_cmpR op_eq (pv 6) pe_int (nomark _)) (pss_cons (ps_augS (pv 1) (pv 3) get_list (pv 5) (ip_ownI (op := .Mult) Mu OM.own OM.first IP.m hOMb (.inr ⟨gOM, rfl⟩) hOM1 hOM2 OM.sub hr_Mu bMu pass0) set_list)
        (pss_one (ps_asg (pe_tup (pa_cons (pe_call ES hr1 rfl GS.mg GS.kp bS .nil pass0 (pa_cons pe_dnewK (pa_cons (pv 7) (pa_cons (pv 5) pa_nil)))) (pa_cons (pe_op op_mulW (pv 8) (pv 5)) pa_nil))) (pg_sub (pv 2) (pv 3) set_list)))) pss_nil)
      (C8.pss_cut (ps_if (pt_cmpR op_eq (pv 6) pe_int (nomark _)) (pss_cons (ps_augS (pv 1) (pv 3) get_list (pe_ix ix_list (pv 1) (pv 4) fun _ _ => rfl) (ip_own2 (op := .Add) Ad OA.own OA.first IP.a hr_Ad bAd pass0) set_list)
        (pss_one (ps_asg (pe_tup (pa_cons (pe_call ES hr1 rfl GS.mg GS.kp bS .nil pass0 (pa_cons (pv 7) (pa_cons (pv 9) (pa_cons pe_int pa_nil)))) (pa_cons (pe_op op_add (pv 8) (pv 10)) pa_nil))) (pg_sub (pv 2) (pv 3) set_list)))) pss_nil)
      (C8.pss_cut (ps_if (pt_cmpR op_eq (pv 6) pe_int (nomark _)) (pss_cons (ps_augS (pv 1) (pv 3) get_list (pe_ix ix_list (pv 1) (pv 4) fun _ _ => rfl) (ip_own2 (op := .Sub) Su OS_.own OS_.first IP.s hr_Su bSu pass0) set_list)
        (pss_one (ps_asg (pe_tup (pa_cons (pe_call ES hr1 rfl GS.mg GS.kp bS .nil pass0 (pa_cons (pv 7) (pa_cons (pv 9) (pa_cons (pe_un un_neg pe_int) pa_nil)))) (pa_cons (pe_op op_sub (pv 8) (pv 10)) pa_nil))) (pg_sub (pv 2) (pv 3) set_list)))) pss_nil)
      (pss_one (ps_ret pe_bl))))))))))))), ?_⟩
    refine ⟨_, rfl, st, cl, m, 3, rfl, S, by omega, by decide, by decide, fun i H1 i0 i1 S1 k1 => ?_⟩
    refine ⟨_, rfl, st, cl, m + 1, 3, rfl, S1, by omega, by decide, by decide, fun l H2 l0 l1 S2 k2 => ?_⟩
    refine ⟨_, rfl, st, cl, m + 2, 19, rfl, S2, by omega, by decide, by decide, fun x H3 x0 x1 S3 k3 => ?_⟩
    refine ⟨_, _, rfl, rfl, ?_⟩
    obtain ⟨n, hn⟩ : ∃ n : Int, n = x - 9 := ⟨_, rfl⟩
    rw [show (fun i j => V.int (i - j)) x 9 = V.int n by rw [hn]]
    have bn : n.natAbs ≤ 20 := by omega
    refine ⟨_, rfl, st, cl, m + 3, 8, rfl, S3, by omega, by decide, by decide, fun plan H5 p0 p1 S5 k5 => ?_⟩
    have kb5 : Kb st cl H H5 := ((k1.trans k2).trans k3).trans k5
    have R5 := R.kb S kb5
    have hj : i.toNat < 3 := by omega
    have hl : l.toNat < 3 := by omega
    obtain ⟨csj, kvj, cj, FJ, MJ, PJ, bcj, lj⟩ := (R5.r i.toNat hj).ex
    obtain ⟨csl, kvl, ck, FL, ML, PL, bcl, ll⟩ := (R5.r l.toNat hl).ex
    have atpj : atI (ps.map V.ref) i = some (V.ref (ps.getD i.toNat 0)) := refs_at R.lf hj (by omega)
    have atpl : atI (ps.map V.ref) l = some (V.ref (ps.getD l.toNat 0)) := refs_at R.lf hl (by omega)
    have attj : atI (ts.map V.ref) i = some (V.ref (ts.getD i.toNat 0)) := refs_at R.lm hj (by omega)
    have attl : atI (ts.map V.ref) l = some (V.ref (ts.getD l.toNat 0)) := refs_at R.lm hl (by omega)
    obtain ⟨pj, hpj0⟩ : ∃ pj, pj = ps.getD i.toNat 0 := ⟨_, rfl⟩
    obtain ⟨pl, hpl0⟩ : ∃ pl, pl = ps.getD l.toNat 0 := ⟨_, rfl⟩
    obtain ⟨tj, htj0⟩ : ∃ tj, tj = ts.getD i.toNat 0 := ⟨_, rfl⟩
    obtain ⟨tl, htl0⟩ : ∃ tl, tl = ts.getD l.toNat 0 := ⟨_, rfl⟩
    rw [← hpj0] at atpj FJ
    rw [← hpl0] at atpl FL
    rw [← htj0] at attj MJ
    rw [← htl0] at attl ML
    have getpj : (ps.map V.ref)[i.toNat]? = some (V.ref pj) := by
      rw [hpj0, List.getElem?_map, List.getElem?_eq_getElem (by rw [R.lf]; exact hj), List.getD_eq_getElem?_getD, List.getElem?_eq_getElem (by rw [R.lf]; exact hj)]
      rfl
    have ixf : ∀ ps : List Addr, ps.length = 3 → ixN (ps.map V.ref).length i = some i.toNat := fun ps h => by rw [List.length_map, h]; exact ixN_in i0 (by omega)
    obtain ⟨dj, htj, hdj⟩ := MJ.ob
    obtain ⟨dl, htl, hdl⟩ := ML.ob
    have lenj := PJ.len
    have lenl := PL.len
    have clj := cs_len FJ.can PJ lj
    have cll := cs_len FL.can PL ll
    have nFs := refs_ne S R.f R.lf
    have nMs := refs_ne S R.m R.lm
    refine ⟨_, rfl, _, rfl, Mo, _, _, V.ref tj, rfl, rfl, SqL.of R5.m, attj, tj, _, rfl, .inl (.inl htj), rfl, _, _, rfl, _, _, rfl, rfl, ?_⟩
    refine ⟨_, rfl, _, rfl, Mo, _, _, V.ref tl, rfl, rfl, SqL.of R5.m, attl, tl, _, rfl, .inl (.inl htl), rfl, _, _, rfl, _, _, rfl, rfl, ?_⟩
    have e20 : ((10 : Int) ^ (20 : Int).toNat) = 100000000000000000000 := by decide
    have n20 : (10 : Nat) ^ 20 = 100000000000000000000 := by decide
    have n22 : (10 : Nat) ^ 22 = 10000000000000000000000 := by decide
    refine ⟨fun σ H' => Same H5 H' ∧ ((∀ e ∈ kvj, e.2.natAbs ≤ 10 ^ 20) ∧ (∀ e ∈ kvl, e.2.natAbs ≤ 10 ^ 20) ∧ cj.natAbs ≤ 10 ^ 20 ∧ ck.natAbs ≤ 10 ^ 20) ∧ σ = [some (.ref st), some (.ref F), some (.ref Mo), some (.int i), some (.int l), some (.int n), some (.int plan), some (.ref dj), some (.int cj), some (.ref dl), some (.int ck)], ?_, ?_⟩
    · refine ⟨_, rfl, _, rfl, Mo, _, _, V.ref tj, rfl, rfl, SqL.of R5.m, attj, tj, kvj, cj, rfl, MJ, PJ, fun m1 H6 s6 b1 b1' => ?_⟩
      refine ⟨_, rfl, _, rfl, Mo, _, _, V.ref tl, rfl, rfl, SqL.of (R5.same s6).m, attl, tl, kvl, ck, rfl, ML.same s6, PL, fun m2 H7 s7 b2 b2' => ?_⟩
      refine ⟨m1, m2, rfl, _, _, rfl, rfl, ⟨by decide, by decide, by decide⟩, _, _, rfl, rfl, _, rfl, ?_⟩
      have sB := s6.trans s7
      refine ite2 (fun h2 => ?_) (fun h2 => ?_)
      · exact k _ ps ts H7 (R5.same sB) (S5.same sB) fun b o e n1 n2 n3 n4 => sB _ _ (kb5 b o e n1 n2)
      · have hmx : ¬ (if m2 > m1 then m2 else m1) > 100000000000000000000 := fun q => h2 (by rw [e20]; exact decide_eq_true q)
        have hm1 : m1 ≤ 100000000000000000000 := by split at hmx <;> omega
        have hm2 : m2 ≤ 100000000000000000000 := by split at hmx <;> omega
        refine ⟨_, rfl, _, _, rfl, rfl, _, rfl, ?_⟩
        refine ite2 (fun h3 => ?_) (fun h3 => ?_)
        · exact k _ ps ts H7 (R5.same sB) (S5.same sB) fun b o e n1 n2 n3 n4 => sB _ _ (kb5 b o e n1 n2)
        · refine ⟨sB, ⟨fun e he => ?_, fun e he => ?_, by omega, by omega⟩, rfl⟩
          · have := b1' e he
            omega
          · have := b2' e he
            omega
    rintro σ H7 ⟨sB, ⟨bj, bl, b3, b4⟩, rfl⟩
    have R7 := R5.same sB
    have FJ7 := FJ.same sB
    have FL7 := FL.same sB
    obtain ⟨fdj, dxj, hpj, _⟩ := FJ7.ob
    obtain ⟨fdl, dxl, hpl, _⟩ := FL7.ob
    have hdj7 := sB _ _ hdj
    have hdl7 := sB _ _ hdl
    have S7 := S5.same sB
    have kb7 := kb5.same sB
    have mk1 : Mid 1 := by unfold Mid; decide +kernel
    have mkm : Mid (-1) := by unfold Mid; decide +kernel
    have mkn : Mid n := Nat.lt_of_le_of_lt bn (by decide +kernel)
    have mko : ∀ c : Int, c.natAbs ≤ 10 ^ 20 → (c * n).natAbs ≤ 10 ^ 22 := by
      intro c hc
      rw [Int.natAbs_mul]
      calc c.natAbs * n.natAbs ≤ 10 ^ 20 * 20 := Nat.mul_le_mul hc bn
        _ ≤ 10 ^ 22 := by decide
    obtain ⟨Gd, hGd⟩ : ∃ Gd : Hp → Prop, Gd = fun H' => ∃ ps' ts', Regs C H' F Mo ps' ts' ∧ StAt H' st cl (m + 4) ∧ Kr st cl F Mo H H' := ⟨_, rfl⟩
    have gd0 : Gd H7 := by
      rw [hGd]
      exact ⟨ps, ts, R7, S7, fun b o e n1 n2 n3 n4 => kb7 b o e n1 n2⟩
    -- the form is stored
    have lstF : ∀ (H6 H8 : Hp) (q : Addr), Same H7 H6 → Same H6 H8 → H8 F = some (.lst (ps.map V.ref)) := fun H6 H8 q s s' => s' _ _ (s _ _ R7.f)
    have nf : ∀ (H8 : Hp) (q : Addr), Same H7 H8 → ∀ b o, H8 b = some o → (∀ xs, o ≠ .lst xs) → (L2.upd H8 F (.lst ((ps.set i.toNat q).map V.ref))) b = some o := by
      intro H8 q s8 b o e n1
      rw [upd_ne]
      · exact e
      · intro z
        rw [z, s8 _ _ R7.f] at e
        cases e
        exact n1 _ rfl
    have fin : ∀ (H8 Hx : Hp) (q : Addr) (es kvs' : Cf) (c' : Int) (T T1 : Addr), Same H7 H8 → FormAt C H8 q es c' → Same (L2.upd H8 F (.lst ((ps.set i.toNat q).map V.ref))) Hx → Hx T1 = some (.dK (dk kvs')) → Hx T = none → P4 kvs' → c'.natAbs ≤ 10 ^ 22 → (∀ x, look es x = look kvs' x) → Gd (L2.upd (L2.upd Hx T (.tup [.ref T1, .int c'])) Mo (.lst ((ts.set i.toNat T).map V.ref))) := by
      intro H8 Hx q es kvs' c' T T1 s8 FQ sx hT1 hT p4 bc lk
      have hM9 : (L2.upd H8 F (.lst ((ps.set i.toNat q).map V.ref))) Mo = some (.lst (ts.map V.ref)) := by rw [upd_ne hFM.symm]; exact s8 _ _ R7.m
      have hMx := sx _ _ hM9
      have hFx : Hx F = some (.lst ((ps.set i.toNat q).map V.ref)) := sx _ _ upd_same
      have nMT : Mo ≠ T := ne_of_none hMx hT
      have nFT : F ≠ T := ne_of_none hFx hT
      have sy := sameUpd (o := .tup [V.ref T1, V.int c']) (Same.refl Hx) hT
      have nl : ∀ b o, (L2.upd Hx T (.tup [.ref T1, .int c'])) b = some o → (∀ xs, o ≠ .lst xs) → (L2.upd (L2.upd Hx T (.tup [.ref T1, .int c'])) Mo (.lst ((ts.set i.toNat T).map V.ref))) b = some o := by
        intro b o e n1
        rw [upd_ne]
        · exact e
        · intro z
          rw [z, sy _ _ hMx] at e
          cases e
          exact n1 _ rfl
      rw [hGd]
      refine ⟨ps.set i.toNat q, ts.set i.toNat T, ?_, ?_, ?_⟩
      · refine R7.put hj ?_ upd_same ?_ ?_ ?_
        · rw [upd_ne hFM, upd_ne nFT]
          exact hFx
        · intro b o e n1 n2
          rw [upd_ne n2]
          exact sy _ _ (sx _ _ (by rw [upd_ne n1]; exact s8 _ _ e))
        · obtain ⟨⟨d, dx, a1, a2⟩, can, len, gd⟩ := FQ
          refine ⟨es, kvs', c', ⟨⟨d, dx, ?_, ?_⟩, can, len, gd⟩, ⟨T1, nl _ _ upd_same (fun _ z => by cases z), nl _ _ (sy _ _ hT1) (fun _ z => by cases z)⟩, p4, bc, lk⟩
          · exact nl _ _ (sy _ _ (sx _ _ (nf H8 q s8 _ _ a1 (fun _ z => by cases z)))) (fun _ z => by cases z)
          · exact nl _ _ (sy _ _ (sx _ _ (nf H8 q s8 _ _ a2 (fun _ z => by cases z)))) (fun _ z => by cases z)
        · intro b o e
          by_cases h1 : b = F
          · rw [h1, R7.f] at e
            cases e
            exact .inl ⟨_, rfl⟩
          · by_cases h2 : b = Mo
            · rw [h2, R7.m] at e
              cases e
              exact .inl ⟨_, rfl⟩
            · exact .inr ⟨h1, h2⟩
      · exact ((((S7.same s8).upd nFs.1 nFs.2).same sx).same sy).upd nMs.1 nMs.2
      · intro b o e n1 n2 n3 n4
        rw [upd_ne n4]
        exact sy _ _ (sx _ _ (by rw [upd_ne n3]; exact s8 _ _ (kb7 b o e n1 n2)))
    have setf : ∀ q : Addr, (ps.map V.ref).set i.toNat (V.ref q) = (ps.set i.toNat q).map V.ref := fun q => List.map_set.symm
    have sett : ∀ q : Addr, (ts.map V.ref).set i.toNat (V.ref q) = (ts.set i.toNat q).map V.ref := fun q => List.map_set.symm
    have gd := gd0
    have ss : (0 : Int) ≤ plan → Same H7 H7 := fun _ => Same.refl H7
    refine ⟨fun σ H' => σ = [some (.ref st), some (.ref F), some (.ref Mo), some (.int i), some (.int l), some (.int n), some (.int plan), some (.ref dj), some (.int cj), some (.ref dl), some (.int ck)] ∧ Gd H' ∧ ((1 : Int) ≤ plan → Same H7 H'), ?_, ?_⟩
    · refine ⟨_, rfl, rfl, _, rfl, ?_⟩
      refine ite2 (fun h => ?_) (fun h => ?_)
      · have hpq : plan = 0 := V.int.inj (of_decide_eq_true h)
        have s6 : Same H7 H7 := ss (by omega)
        have R6 := R7.same s6
        refine ⟨_, rfl, _, rfl, F, _, i, V.ref pj, rfl, rfl, SqL.of R6.f, i0, by omega, getpj, _, rfl, pj, dxj, _, n, rfl, rfl, s6 _ _ hpj, pj, csj, cj, _, rfl, FJ7.same s6, .inl ⟨n, rfl, fun q es H8 hl FQ s8 nq fr => ?_⟩⟩
        have s78 := s6.trans s8
        refine ⟨F, _, _, i.toNat, rfl, rfl, s78 _ _ R7.f, ixf ps R.lf, ?_⟩
        rw [setf]
        refine ⟨_, rfl, _, rfl, _, rfl, _, _, rfl, rfl, by show 2 ≤ sizeLine; decide, fun T hT => ?_⟩
        have hM9 : (L2.upd H8 F (.lst ((ps.set i.toNat q).map V.ref))) Mo = some (.lst (ts.map V.ref)) := by rw [upd_ne hFM.symm]; exact s78 _ _ R7.m
        refine ⟨_, rfl, _, rfl, Mo, _, _, i.toNat, rfl, rfl, by rw [upd_ne (ne_of_none hM9 hT)]; exact hM9, ixf ts R.lm, ?_⟩
        rw [sett]
        exact ⟨rfl, fin H8 _ q es kvj (cj + n) T dj s78 FQ (Same.refl _) (nf H8 q s78 _ _ (s78 _ _ hdj7) (fun _ z => by cases z)) hT PJ (by omega) (fun x => by rw [hl, lj]), fun q => by omega⟩
      · exact ⟨rfl, gd, fun q => ss (by omega)⟩
    rintro σ H6 ⟨rfl, gd, ss⟩
    refine ⟨fun σ H' => σ = [some (.ref st), some (.ref F), some (.ref Mo), some (.int i), some (.int l), some (.int n), some (.int plan), some (.ref dj), some (.int cj), some (.ref dl), some (.int ck)] ∧ Gd H' ∧ ((2 : Int) ≤ plan → Same H7 H'), ?_, ?_⟩
    · refine ⟨_, rfl, rfl, _, rfl, ?_⟩
      refine ite2 (fun h => ?_) (fun h => ?_)
      · have hpq : plan = 1 := V.int.inj (of_decide_eq_true h)
        have s6 : Same H7 H6 := ss (by omega)
        have R6 := R7.same s6
        refine ⟨_, rfl, _, rfl, F, _, i, V.ref pj, rfl, rfl, SqL.of R6.f, i0, by omega, getpj, _, rfl, pj, dxj, _, n, rfl, rfl, s6 _ _ hpj, pj, csj, cj, _, rfl, FJ7.same s6, .inl ⟨n, rfl, fun q es H8 hl FQ s8 nq fr => ?_⟩⟩
        have s78 := s6.trans s8
        refine ⟨F, _, _, i.toNat, rfl, rfl, s78 _ _ R7.f, ixf ps R.lf, ?_⟩
        rw [setf]
        refine ⟨_, rfl, _, rfl, _, rfl, _, _, rfl, rfl, by show 2 ≤ sizeLine; decide, fun T hT => ?_⟩
        have hM9 : (L2.upd H8 F (.lst ((ps.set i.toNat q).map V.ref))) Mo = some (.lst (ts.map V.ref)) := by rw [upd_ne hFM.symm]; exact s78 _ _ R7.m
        refine ⟨_, rfl, _, rfl, Mo, _, _, i.toNat, rfl, rfl, by rw [upd_ne (ne_of_none hM9 hT)]; exact hM9, ixf ts R.lm, ?_⟩
        rw [sett]
        exact ⟨rfl, fin H8 _ q es kvj (cj - n) T dj s78 FQ (Same.refl _) (nf H8 q s78 _ _ (s78 _ _ hdj7) (fun _ z => by cases z)) hT PJ (by omega) (fun x => by rw [hl, lj]), fun q => by omega⟩
      · exact ⟨rfl, gd, fun q => ss (by omega)⟩
    rintro σ H6 ⟨rfl, gd, ss⟩
    refine ⟨fun σ H' => σ = [some (.ref st), some (.ref F), some (.ref Mo), some (.int i), some (.int l), some (.int n), some (.int plan), some (.ref dj), some (.int cj), some (.ref dl), some (.int ck)] ∧ Gd H' ∧ ((3 : Int) ≤ plan → Same H7 H'), ?_, ?_⟩
    · refine ⟨_, rfl, rfl, _, rfl, ?_⟩
      refine ite2 (fun h => ?_) (fun h => ?_)
      · have hpq : plan = 2 := V.int.inj (of_decide_eq_true h)
        have s6 : Same H7 H6 := ss (by omega)
        have R6 := R7.same s6
        refine ⟨_, rfl, _, rfl, F, _, i, V.ref pj, rfl, rfl, SqL.of R6.f, i0, by omega, getpj, _, rfl, pj, dxj, _, n, rfl, rfl, s6 _ _ hpj, pj, csj, cj, n, rfl, FJ7.same s6, .inl (by omega), fun q es H8 hl FQ s8 nq fr => ?_⟩
        have s78 := s6.trans s8
        refine ⟨F, _, _, i.toNat, rfl, rfl, s78 _ _ R7.f, ixf ps R.lf, ?_⟩
        rw [setf]
        have hM9 : (L2.upd H8 F (.lst ((ps.set i.toNat q).map V.ref))) Mo = some (.lst (ts.map V.ref)) := by rw [upd_ne hFM.symm]; exact s78 _ _ R7.m
        have hd9 := nf H8 q s78 _ _ (s78 _ _ hdj7) (fun _ z => by cases z)
        intro e he
        have se := sameUpd (o := .dK []) (Same.refl (L2.upd H8 F (.lst ((ps.set i.toNat q).map V.ref)))) he
        refine ⟨_, rfl, _, rfl, e, dj, [], kvj, n, rfl, upd_same, se _ _ hd9, PJ.nd, by show 0 + kvj.length < 64; omega, PJ.mid, mkn, fun T1 H9 nT hT1 s9 => ?_⟩
        have se9 := se.trans s9
        refine ⟨_, rfl, _, rfl, _, _, rfl, rfl, wide_mul (a := 80) (b := 80) (by omega) (by omega) (by decide) (by decide) (by decide), by show 2 ≤ sizeLine; decide, fun T hT => ?_⟩
        have hMx := se9 _ _ hM9
        refine ⟨_, rfl, _, rfl, Mo, _, _, i.toNat, rfl, rfl, by rw [upd_ne (ne_of_none hMx hT)]; exact hMx, ixf ts R.lm, ?_⟩
        rw [sett]
        exact ⟨rfl, fin H8 _ q es (sumC [] kvj n) (cj * n) T T1 s78 FQ se9 hT1 hT (p4_sum p4_nil PJ (fun e he => by cases he) bj bn) (mko _ b3) (fun x => by rw [hl, lj, sumC_look PJ.nd, lk_nil, Int.zero_add, Int.mul_comm]), fun q => by omega⟩
      · exact ⟨rfl, gd, fun q => ss (by omega)⟩
    rintro σ H6 ⟨rfl, gd, ss⟩
    refine ⟨fun σ H' => σ = [some (.ref st), some (.ref F), some (.ref Mo), some (.int i), some (.int l), some (.int n), some (.int plan), some (.ref dj), some (.int cj), some (.ref dl), some (.int ck)] ∧ Gd H' ∧ ((4 : Int) ≤ plan → Same H7 H'), ?_, ?_⟩
    · refine ⟨_, rfl, rfl, _, rfl, ?_⟩
      refine ite2 (fun h => ?_) (fun h => ?_)
      · have hpq : plan = 3 := V.int.inj (of_decide_eq_true h)
        have s6 : Same H7 H6 := ss (by omega)
        have R6 := R7.same s6
        refine ⟨_, rfl, _, rfl, F, _, i, V.ref pj, rfl, rfl, SqL.of R6.f, i0, by omega, getpj, _, rfl, _, rfl, F, _, _, V.ref pl, rfl, rfl, SqL.of R6.f, atpl, pj, dxj, _, pl, dxl, _, rfl, rfl, s6 _ _ hpj, s6 _ _ hpl, pj, csj, cj, _, rfl, FJ7.same s6, .inr ⟨pl, csl, ck, rfl, FL7.same s6, by omega, fun q es H8 hl FQ s8 nq fr => ?_⟩⟩
        have s78 := s6.trans s8
        refine ⟨F, _, _, i.toNat, rfl, rfl, s78 _ _ R7.f, ixf ps R.lf, ?_⟩
        rw [setf]
        have hM9 : (L2.upd H8 F (.lst ((ps.set i.toNat q).map V.ref))) Mo = some (.lst (ts.map V.ref)) := by rw [upd_ne hFM.symm]; exact s78 _ _ R7.m
        have hd9 := nf H8 q s78 _ _ (s78 _ _ hdj7) (fun _ z => by cases z)
        have hd9' := nf H8 q s78 _ _ (s78 _ _ hdl7) (fun _ z => by cases z)
        refine ⟨_, rfl, _, rfl, dj, dl, kvj, kvl, 1, rfl, hd9, hd9', PL.nd, by omega, PL.mid, mk1, fun T1 H9 nT hT1 s9 => ?_⟩
        refine ⟨_, rfl, _, rfl, _, _, rfl, rfl, by show 2 ≤ sizeLine; decide, fun T hT => ?_⟩
        have hMx := s9 _ _ hM9
        refine ⟨_, rfl, _, rfl, Mo, _, _, i.toNat, rfl, rfl, by rw [upd_ne (ne_of_none hMx hT)]; exact hMx, ixf ts R.lm, ?_⟩
        rw [sett]
        exact ⟨rfl, fin H8 _ q es (sumC kvj kvl 1) (cj + ck) T T1 s78 FQ s9 hT1 hT (p4_sum PJ PL bj bl (by decide)) (by omega) (fun x => by rw [hl, lj, ll, sumC_look PL.nd, Int.one_mul]), fun q => by omega⟩
      · exact ⟨rfl, gd, fun q => ss (by omega)⟩
    rintro σ H6 ⟨rfl, gd, ss⟩
    refine ⟨fun σ H' => σ = [some (.ref st), some (.ref F), some (.ref Mo), some (.int i), some (.int l), some (.int n), some (.int plan), some (.ref dj), some (.int cj), some (.ref dl), some (.int ck)] ∧ Gd H' ∧ ((5 : Int) ≤ plan → Same H7 H'), ?_, ?_⟩
    · refine ⟨_, rfl, rfl, _, rfl, ?_⟩
      refine ite2 (fun h => ?_) (fun h => ?_)
      · have hpq : plan = 4 := V.int.inj (of_decide_eq_true h)
        have s6 : Same H7 H6 := ss (by omega)
        have R6 := R7.same s6
        refine ⟨_, rfl, _, rfl, F, _, i, V.ref pj, rfl, rfl, SqL.of R6.f, i0, by omega, getpj, _, rfl, _, rfl, F, _, _, V.ref pl, rfl, rfl, SqL.of R6.f, atpl, pj, dxj, _, pl, dxl, _, rfl, rfl, s6 _ _ hpj, s6 _ _ hpl, pj, csj, cj, _, rfl, FJ7.same s6, .inr ⟨pl, csl, ck, rfl, FL7.same s6, by omega, fun q es H8 hl FQ s8 nq fr => ?_⟩⟩
        have s78 := s6.trans s8
        refine ⟨F, _, _, i.toNat, rfl, rfl, s78 _ _ R7.f, ixf ps R.lf, ?_⟩
        rw [setf]
        have hM9 : (L2.upd H8 F (.lst ((ps.set i.toNat q).map V.ref))) Mo = some (.lst (ts.map V.ref)) := by rw [upd_ne hFM.symm]; exact s78 _ _ R7.m
        have hd9 := nf H8 q s78 _ _ (s78 _ _ hdj7) (fun _ z => by cases z)
        have hd9' := nf H8 q s78 _ _ (s78 _ _ hdl7) (fun _ z => by cases z)
        refine ⟨_, rfl, _, rfl, _, rfl, dj, dl, kvj, kvl, (-1), rfl, hd9, hd9', PL.nd, by omega, PL.mid, mkm, fun T1 H9 nT hT1 s9 => ?_⟩
        refine ⟨_, rfl, _, rfl, _, _, rfl, rfl, by show 2 ≤ sizeLine; decide, fun T hT => ?_⟩
        have hMx := s9 _ _ hM9
        refine ⟨_, rfl, _, rfl, Mo, _, _, i.toNat, rfl, rfl, by rw [upd_ne (ne_of_none hMx hT)]; exact hMx, ixf ts R.lm, ?_⟩
        rw [sett]
        exact ⟨rfl, fin H8 _ q es (sumC kvj kvl (-1)) (cj - ck) T T1 s78 FQ s9 hT1 hT (p4_sum PJ PL bj bl (by decide)) (by omega) (fun x => by rw [hl, lj, ll, sumC_look PL.nd, Int.neg_one_mul, Int.sub_eq_add_neg]), fun q => by omega⟩
      · exact ⟨rfl, gd, fun q => ss (by omega)⟩
    rintro σ H6 ⟨rfl, gd, ss⟩
    rw [hGd] at gd
    obtain ⟨ps', ts', R', S', K'⟩ := gd
    exact k _ ps' ts' H6 R' S' K'
end
end OS
namespace OS
open PySem L2
def spLaw (K : PySem.W.Frag) : Sp := fun vs H Q _ => ∃ (a : Addr) (ns : List Int), vs = [.ref a] ∧ SqL K H a (ns.map V.int) ∧ ns.length ≤ 63 ∧ ∀ H', Q (.bl true) H'
theorem can_small {cs kvs : Cf} (can : Can cs) (h : ∀ x, look cs x = look kvs x) (b : ∀ e ∈ kvs, aint e.2 < 10 ^ 64) : ∀ e ∈ cs, aint e.2 < 10 ^ 64 := by
  intro e he
  have e1 : look cs e.1 = e.2 := by
    unfold look
    rw [lookO_of_mem can.nd (k := e.1) (v := e.2) he]
    rfl
  rw [← e1, h]
  exact look_small b e.1
theorem aint_small {n : Int} (h : n.natAbs ≤ 10 ^ 22) : aint n < 10 ^ 64 := by
  have h1 : aint n ≤ n.natAbs := by unfold aint; split <;> omega
  have h2 : (10 : Nat) ^ 22 = 10000000000000000000000 := by decide
  have h3 : (10000000000000000000000 : Int) < 10 ^ 64 := by decide
  omega
theorem p4_a : P4 [("x", 1)] := ⟨by decide +kernel, by decide +kernel, by decide +kernel⟩
theorem p4_b : P4 [("y", -2), ("x", 3)] := ⟨by decide +kernel, by decide +kernel, by decide +kernel⟩
section
variable {P : Program} {w : World} {K : PySem.W.Frag} {mg : Str → Option Value} {base : Heap}
abbrev nLaw : List Str := ["_law_script", "_law_state", "_law_forms", "_law_models", "_law_step_here", "_law_at", "_law_form", "_law_model"]
theorem scLaw : FnScope nLaw ["_law_script"] (defScope sLaw) := ⟨rfl, rfl, rfl, by decide +kernel, rfl, by decide +kernel, by decide +kernel⟩
theorem ok_law {ds1 : List Value} {f fS fT fX fP fN fA fStr C : Addr} {fd dS dT dX dP dN dA dStr : FuncData} (F : Fun K "law" "law" sLaw f fd) (mR : mg "range" = none) (mL : mg "len" = none) (mMn : mg "min" = none) (mT : mg "str" = none) (Z : Ops P w K mg base C) (bI1 : Binds K Z.dI ["self", "coefficients", "constant"] ds1) (vI1 : Vals [V.int 0] ds1)
    (ES : FnOk P w K mg base CX0 1 fS dS ["_law_script"] (spStart K)) (GS : Df K mg "_law_start" fS) (bS : Binds K dS ["_law_script"] [])
    (ET : FnOk P w K mg base CX0 1 fT dT ["_law_state", "_law_limit"] spTake) (GT : Df K mg "_law_take" fT) (bT : Binds K dT ["_law_state", "_law_limit"] [])
    (EX : FnOk P w K mg base CX0 1 fX dX ["_law_parts", "_law_offset"] spText) (GX : Df K mg "_law_text" fX) (bX : Binds K dX ["_law_parts", "_law_offset"] [])
    (EP : FnOk P w K mg base CX0 7 fP dP ["_law_state", "_law_forms", "_law_models"] (spStep C)) (GP : Df K mg "_law_step" fP) (bP : Binds K dP ["_law_state", "_law_forms", "_law_models"] [])
    (EN : FnOk P w K mg base CX0 7 fN dN ["_law_state", "_law_forms", "_law_models"] (spSgn6 C)) (GN : Df K mg "_law_sign" fN) (bN : Binds K dN ["_law_state", "_law_forms", "_law_models"] [])
    (EA : FnOk P w K mg base CX0 3 fA dA ["_law_forms", "_law_models"] (spAg C)) (GA : Df K mg "_law_agrees" fA) (bA : Binds K dA ["_law_forms", "_law_models"] [])
    (EG : FnOk P w K mg base CX0 3 fStr dStr ["self"] (spStr C)) (OG : Own K C "__str__" fStr) (bG : Binds K dStr ["self"] []) : FnOk P w K mg base CX0 8 f fd ["_law_script"] (spLaw K) := by
  obtain ⟨fAd, fRa, fSu, fRs, fMu, fRm, fNe, fI, dAd, dRa, dSu, dRs, dMu, dRm, dNe, dI, Ad, Ra, Su, Rs, Mu, Rm, Ne, In, bAd, bRa, bSu, bRs, bMu, bRm, bNe, bI, OA, OS_, OM, oRa, oRs, oRm, oNe, M, mC, I⟩ := Z
  dsimp only at bI1
  refine F.ok scLaw (fun vs H Q E h => ?_) (fun cdv A outer s H vs Q E hr h => ?_)
  · obtain ⟨a, ns, rfl, _⟩ := h
    rfl
  · obtain ⟨a, ns, rfl, hS, hn, k⟩ := h
    have hr1 : Room 1 _ := hr.mono (by decide)
    have hr3 : Room 3 _ := hr.mono (by decide)
    have hr5 : Room 5 _ := hr.mono (by decide)
    refine ⟨_, pss_cons (ps_set (i := 1) scLaw.nd rfl (Or.inl rfl) (pe_call ES hr1 rfl GS.mg GS.kp bS .nil pass0 (pa_cons (pv 0) pa_nil)))
      (pss_cons (ps_set (i := 2) scLaw.nd rfl (Or.inl rfl) (pe_lst (pa_cons (pe_make M In hr3 rfl mC bI1 vI1 pass0 (pa_cons pe_dnewK pa_nil)) (pa_cons (pe_make M In hr3 rfl mC bI1 vI1 pass0 (pa_cons (pe_disp (pps_cons pe_str pe_int pps_nil) rfl rfl (by simp) (by decide)) pa_nil))
        (pa_cons (pe_make M In hr3 rfl mC bI .nil pass0 (pa_cons (pe_disp (pps_cons pe_str (pe_un un_neg pe_int) (pps_cons pe_str pe_int pps_nil)) rfl rfl (by simp) (by decide)) (pa_cons pe_int pa_nil))) pa_nil)))))
      (C8.pss_cut (ps_set (i := 3) scLaw.nd rfl (Or.inl rfl) (pe_lst (pa_cons (pe_tup (pa_cons pe_dnewK (pa_cons pe_int pa_nil))) (pa_cons (pe_tup (pa_cons (pe_disp (pps_cons pe_str pe_int pps_nil) rfl rfl (by simp) (by decide)) (pa_cons pe_int pa_nil)))
        (pa_cons (pe_tup (pa_cons (pe_disp (pps_cons pe_str (pe_un un_neg pe_int) (pps_cons pe_str pe_int pps_nil)) rfl rfl (by simp) (by decide)) (pa_cons pe_int pa_nil))) pa_nil)))))
      (pss_cons (ps_for PassesOwn.never rfl (pi_range1 rfl mR (pa_cons (pe_op op_add (pe_callB (call_min2 rfl) (by rfl) mMn (by decide +kernel) (pa_cons pe_int (pa_cons (pe_callB call_len_seq (by rfl) mL PySem.boot_len (pa_cons (pv 0) pa_nil)) pa_nil))) (pe_call ET hr1 rfl GT.mg GT.kp bT .nil pass0 (pa_cons (pv 1) (pa_cons pe_int pa_nil)))) pa_nil)) (pg_name (i := 4) scLaw.nd rfl (Or.inl rfl))
        (pss_cons (ps_asg (pe_call EP hr rfl GP.mg GP.kp bP .nil pass0 (pa_cons (pv 1) (pa_cons (pv 2) (pa_cons (pv 3) pa_nil)))) (pg_tup rfl (pgs_cons (pg_name (i := 5) scLaw.nd rfl (Or.inl rfl)) (pgs_cons (pg_name (i := 6) scLaw.nd rfl (Or.inl rfl)) (pgs_cons (pg_name (i := 7) scLaw.nd rfl (Or.inl rfl)) pgs_nil)))))
        (pss_cons (ps_asg (pv 6) (pg_sub (pv 2) (pv 5) set_list))
        (pss_cons (ps_asg (pv 7) (pg_sub (pv 3) (pv 5) set_list))
        (pss_cons (ps_expr (pe_call EN hr rfl GN.mg GN.kp bN .nil pass0 (pa_cons (pv 1) (pa_cons (pv 2) (pa_cons (pv 3) pa_nil)))))
        (pss_one (ps_if (pt_not (pt_val (pe_call EA hr3 rfl GA.mg GA.kp bA .nil pass0 (pa_cons (pv 2) (pa_cons (pv 3) pa_nil))))) (pss_one (ps_ret pe_bl)) pss_nil)))))))
      (pss_cons (ps_for PassesOwn.never rfl (pi_range1 rfl mR (pa_cons pe_int pa_nil)) (pg_name (i := 5) scLaw.nd rfl (Or.inl rfl))
        (pss_one (ps_if (pt_cmpR op_ne (pe_callTy (call_strO EG OG hr5 bG pass0) (by rfl) mT (by decide +kernel) (pa_cons (pe_ix ix_list (pv 2) (pv 5) fun _ _ => rfl) pa_nil)) (pe_call EX hr1 rfl GX.mg GX.kp bX .nil pass0 (pa_cons (pe_ix ix_tup (pe_ix ix_list (pv 3) (pv 5) fun _ _ => rfl) pe_int fun _ _ => rfl) (pa_cons (pe_ix ix_tup (pe_ix ix_list (pv 3) (pv 5) fun _ _ => rfl) pe_int fun _ _ => rfl) pa_nil))) (nomark _)) (pss_one (ps_ret pe_bl)) pss_nil)))
      (pss_one (ps_ret pe_bl)))))), ?_⟩
    refine ⟨_, rfl, a, ns, rfl, hS, hn, fun st cl H1 S1 s1 hst hcl => ?_⟩
    -- the forms
    intro D1 nD1
    have sA : Same H1 (L2.upd H1 D1 (.dK [])) := sameUpd (Same.refl _) nD1
    intro x1 xd1 nx1 nxd1 nxx1
    have sX1 := sameUpd (o := .ins C xd1 []) (sameUpd (o := .own x1) (Same.refl (L2.upd H1 D1 (.dK []))) nxd1) nx1
    refine ⟨x1, xd1, D1, [], 0, rfl, upd_same, sX1 _ _ upd_same, List.nodup_nil, by decide, (fun e he => by cases he), fun c1 G1 hl1 FA1 _ k1 => ⟨rfl, ?_⟩⟩
    have g1 : Same H1 G1 := fun y o e => k1 y o (sX1 _ _ (sA _ _ e)) (ne_of_none (sA _ _ e) nx1)
    intro D2 nD2
    refine ⟨upd_same, [(Sum.inr "x", V.int 1)], rfl, by decide, ?_⟩
    obtain ⟨G2, hG2⟩ : ∃ X, X = L2.upd (L2.upd G1 D2 (.dK [])) D2 (.dK (mergeK [] [(Sum.inr "x", V.int 1)])) := ⟨_, rfl⟩
    have sB : Same G1 G2 := by rw [hG2]; exact sameUpd (sameUpd (Same.refl _) nD2) nD2
    have eB : G2 D2 = some (.dK (dk [("x", 1)])) := by rw [hG2, upd_same]; rfl
    rw [← hG2]
    intro x2 xd2 nx2 nxd2 nxx2
    have sX2 := sameUpd (o := .ins C xd2 []) (sameUpd (o := .own x2) (Same.refl G2) nxd2) nx2
    refine ⟨x2, xd2, D2, [("x", 1)], 0, rfl, upd_same, sX2 _ _ eB, p4_a.nd, by decide, p4_a.gd, fun c2 G3 hl2 FA2 _ k2 => ⟨rfl, ?_⟩⟩
    have g2 : Same G1 G3 := fun y o e => k2 y o (sX2 _ _ (sB _ _ e)) (ne_of_none (sB _ _ e) nx2)
    intro D3 nD3
    refine ⟨_, rfl, upd_same, [(Sum.inr "y", V.int (-2)), (Sum.inr "x", V.int 3)], rfl, by decide, ?_⟩
    obtain ⟨G4, hG4⟩ : ∃ X, X = L2.upd (L2.upd G3 D3 (.dK [])) D3 (.dK (mergeK [] [(Sum.inr "y", V.int (-2)), (Sum.inr "x", V.int 3)])) := ⟨_, rfl⟩
    have sC : Same G3 G4 := by rw [hG4]; exact sameUpd (sameUpd (Same.refl _) nD3) nD3
    have eC : G4 D3 = some (.dK (dk [("y", -2), ("x", 3)])) := by rw [hG4, upd_same]; rfl
    rw [← hG4]
    intro x3 xd3 nx3 nxd3 nxx3
    have sX3 := sameUpd (o := .ins C xd3 []) (sameUpd (o := .own x3) (Same.refl G4) nxd3) nx3
    refine ⟨x3, xd3, D3, [("y", -2), ("x", 3)], 5, rfl, upd_same, sX3 _ _ eC, p4_b.nd, by decide, p4_b.gd, fun c3 G5 hl3 FA3 _ k3 => ⟨rfl, ?_⟩⟩
    have g3 : Same G3 G5 := fun y o e => k3 y o (sX3 _ _ (sC _ _ e)) (ne_of_none (sC _ _ e) nx3)
    refine ⟨by show 3 ≤ sizeLine; decide, fun F hF => ?_⟩
    obtain ⟨H2, hH2⟩ : ∃ H2, H2 = L2.upd G5 F (.lst [V.ref x1, V.ref x2, V.ref x3]) := ⟨_, rfl⟩
    have sF : Same G5 H2 := by rw [hH2]; exact sameUpd (Same.refl _) hF
    have hF2 : H2 F = some (.lst ([x1, x2, x3].map V.ref)) := by rw [hH2]; exact upd_same
    rw [← hH2]
    have FB1 := ((FA1.same g2).same g3).same sF
    have FB2 := (FA2.same g3).same sF
    have FB3 := FA3.same sF
    have s2 : Same H1 H2 := ((g1.trans g2).trans g3).trans sF
    -- the models
    refine ⟨fun σ H' => ∃ Mo ts, Regs C H' F Mo [x1, x2, x3] ts ∧ Same H1 H' ∧ F ≠ Mo ∧ σ = [some (.ref a), some (.ref st), some (.ref F), some (.ref Mo), none, none, none, none], ?_, ?_⟩
    · intro d1 nd1
      have t1 := sameUpd (o := .dK []) (Same.refl H2) nd1
      refine ⟨by show 2 ≤ sizeLine; decide, fun q1 hq1 => ?_⟩
      obtain ⟨J1, hJ1⟩ : ∃ J1, J1 = L2.upd (L2.upd H2 d1 (.dK [])) q1 (.tup [V.ref d1, V.int 0]) := ⟨_, rfl⟩
      have u1 : Same (L2.upd H2 d1 (.dK [])) J1 := by rw [hJ1]; exact sameUpd (Same.refl _) hq1
      have m1 : Md J1 q1 [] 0 := ⟨d1, by rw [hJ1]; exact upd_same, u1 _ _ upd_same⟩
      have v1 := t1.trans u1
      rw [← hJ1]
      intro d2 nd2
      refine ⟨upd_same, [(Sum.inr "x", V.int 1)], rfl, by decide, ?_⟩
      obtain ⟨J2, hJ2⟩ : ∃ X, X = L2.upd (L2.upd J1 d2 (.dK [])) d2 (.dK (mergeK [] [(Sum.inr "x", V.int 1)])) := ⟨_, rfl⟩
      have t2 : Same J1 J2 := by rw [hJ2]; exact sameUpd (sameUpd (Same.refl _) nd2) nd2
      have e2 : J2 d2 = some (.dK (dk [("x", 1)])) := by rw [hJ2, upd_same]; rfl
      rw [← hJ2]
      refine ⟨by show 2 ≤ sizeLine; decide, fun q2 hq2 => ?_⟩
      obtain ⟨J3, hJ3⟩ : ∃ J3, J3 = L2.upd J2 q2 (.tup [V.ref d2, V.int 0]) := ⟨_, rfl⟩
      have u2 : Same J2 J3 := by rw [hJ3]; exact sameUpd (Same.refl _) hq2
      have m2 : Md J3 q2 [("x", 1)] 0 := ⟨d2, by rw [hJ3]; exact upd_same, u2 _ _ e2⟩
      have v2 := t2.trans u2
      rw [← hJ3]
      intro d3 nd3
      refine ⟨_, rfl, upd_same, [(Sum.inr "y", V.int (-2)), (Sum.inr "x", V.int 3)], rfl, by decide, ?_⟩
      obtain ⟨J4, hJ4⟩ : ∃ X, X = L2.upd (L2.upd J3 d3 (.dK [])) d3 (.dK (mergeK [] [(Sum.inr "y", V.int (-2)), (Sum.inr "x", V.int 3)])) := ⟨_, rfl⟩
      have t3 : Same J3 J4 := by rw [hJ4]; exact sameUpd (sameUpd (Same.refl _) nd3) nd3
      have e3 : J4 d3 = some (.dK (dk [("y", -2), ("x", 3)])) := by rw [hJ4, upd_same]; rfl
      rw [← hJ4]
      refine ⟨by show 2 ≤ sizeLine; decide, fun q3 hq3 => ?_⟩
      obtain ⟨J5, hJ5⟩ : ∃ J5, J5 = L2.upd J4 q3 (.tup [V.ref d3, V.int 5]) := ⟨_, rfl⟩
      have u3 : Same J4 J5 := by rw [hJ5]; exact sameUpd (Same.refl _) hq3
      have m3 : Md J5 q3 [("y", -2), ("x", 3)] 5 := ⟨d3, by rw [hJ5]; exact upd_same, u3 _ _ e3⟩
      have v3 := t3.trans u3
      rw [← hJ5]
      refine ⟨by show 3 ≤ sizeLine; decide, fun Mo hMo => ?_⟩
      have sM := sameUpd (o := .lst [V.ref q1, V.ref q2, V.ref q3]) (Same.refl J5) hMo
      have sJ := (v1.trans v2).trans v3
      refine ⟨Mo, [q1, q2, q3], ⟨sM _ _ (sJ _ _ hF2), by rw [upd_same]; rfl, rfl, rfl, fun i hi => ?_⟩, s2.trans (sJ.trans sM), ne_of_none (sJ _ _ hF2) hMo, rfl⟩
      have : i = 0 ∨ i = 1 ∨ i = 2 := by omega
      rcases this with rfl | rfl | rfl
      · exact ⟨c1, [], 0, FB1.same (sJ.trans sM), m1.same ((v2.trans v3).trans sM), p4_nil, by decide, hl1⟩
      · exact ⟨c2, [("x", 1)], 0, FB2.same (sJ.trans sM), m2.same (v3.trans sM), p4_a, by decide, hl2⟩
      · exact ⟨c3, [("y", -2), ("x", 3)], 5, FB3.same (sJ.trans sM), m3.same sM, p4_b, by decide, hl3⟩
    rintro σ H3 ⟨Mo, ts0, R0, s3, hFM, rfl⟩
    have S3 := S1.same s3
    have hlen : (((ns.map V.int).length : Nat) : Int) = (ns.length : Int) := by rw [List.length_map]
    refine ⟨_, rfl, a, _, rfl, .inl ((s1.trans s3).seq hS), ?_⟩
    rw [hlen]
    refine ⟨63, (ns.length : Int), rfl, _, rfl, st, cl, 0, 12, rfl, S3, by omega, by decide, by decide, fun x H4 x0 x1 S4 k4 => ?_⟩
    have R4 := R0.kb S3 k4
    obtain ⟨N, hN, N0, N1⟩ : ∃ N : Int, (if (ns.length : Int) < 63 then (ns.length : Int) else 63) + x = N ∧ 0 ≤ N ∧ N ≤ 80 := ⟨_, rfl, by split <;> omega, by split <;> omega⟩
    refine ⟨_, _, rfl, rfl, _, rfl, ?_⟩
    rw [hN]
    refine ⟨by omega, by omega, for_range (lo := 0) (n := N.toNat) (fun i σ H' => (∃ ps ts, Regs C H' F Mo ps ts) ∧ StAt H' st cl (1 + 30 * i) ∧ ∃ v4 v5 v6 v7, σ = [some (.ref a), some (.ref st), some (.ref F), some (.ref Mo), v4, v5, v6, v7]) ⟨⟨_, _, R4⟩, S4, _, _, _, _, rfl⟩ ?_ ?_⟩
    · rintro i σ H5 hi ⟨⟨ps, ts, R5⟩, S5, v4, v5, v6, v7, rfl⟩
      refine ⟨_, rfl, _, rfl, _, rfl, st, cl, F, Mo, ps, ts, _, rfl, S5, by omega, R5, fun T q t j H6 j0 j1 hT rg S6 kb6 => ?_⟩
      refine ⟨T, _, rfl, .inl (.inl hT), rfl, _, _, rfl, _, _, rfl, _, _, rfl, rfl, ?_⟩
      have R6 := R5.kb S5 kb6
      have hj : j.toNat < 3 := by omega
      have nFs := refs_ne S6 R6.f R6.lf
      have nMs := refs_ne S6 R6.m R6.lm
      have ixf : ixN (ps.map V.ref).length j = some j.toNat := by rw [List.length_map, R5.lf]; exact ixN_in j0 (by omega)
      have ixm : ixN (ts.map V.ref).length j = some j.toNat := by rw [List.length_map, R5.lm]; exact ixN_in j0 (by omega)
      refine ⟨_, rfl, _, rfl, _, rfl, F, _, _, j.toNat, rfl, rfl, R6.f, ixf, ?_⟩
      rw [show (ps.map V.ref).set j.toNat (V.ref q) = (ps.set j.toNat q).map V.ref from List.map_set.symm]
      refine ⟨_, rfl, _, rfl, _, rfl, Mo, _, _, j.toNat, rfl, rfl, by rw [upd_ne hFM.symm]; exact R6.m, ixm, ?_⟩
      rw [show (ts.map V.ref).set j.toNat (V.ref t) = (ts.set j.toNat t).map V.ref from List.map_set.symm]
      obtain ⟨H7, hH7⟩ : ∃ H7, H7 = L2.upd (L2.upd H6 F (.lst ((ps.set j.toNat q).map V.ref))) Mo (.lst ((ts.set j.toNat t).map V.ref)) := ⟨_, rfl⟩
      have nl : ∀ b o, H6 b = some o → (∀ xs, o ≠ .lst xs) → H7 b = some o := by
        intro b o e n1
        rw [hH7, upd_ne, upd_ne]
        · exact e
        · intro z; rw [z, R6.f] at e; cases e; exact n1 _ rfl
        · intro z; rw [z, R6.m] at e; cases e; exact n1 _ rfl
      have R7 : Regs C H7 F Mo (ps.set j.toNat q) (ts.set j.toNat t) := by
        refine R6.put hj (by rw [hH7, upd_ne hFM, upd_same]) (by rw [hH7, upd_same]) (fun b o e n1 n2 => by rw [hH7, upd_ne n2, upd_ne n1]; exact e) ?_ ?_
        · obtain ⟨cs, kvs, c, ⟨⟨d, dx, a1, a2⟩, can, len, gd⟩, ⟨g, b1, b2⟩, r⟩ := rg.ex
          exact ⟨cs, kvs, c, ⟨⟨d, dx, nl _ _ a1 (fun _ z => by cases z), nl _ _ a2 (fun _ z => by cases z)⟩, can, len, gd⟩, ⟨g, nl _ _ b1 (fun _ z => by cases z), nl _ _ b2 (fun _ z => by cases z)⟩, r⟩
        · intro b o e
          by_cases h1 : b = F
          · rw [h1, R6.f] at e
            cases e
            exact .inl ⟨_, rfl⟩
          · by_cases h2 : b = Mo
            · rw [h2, R6.m] at e
              cases e
              exact .inl ⟨_, rfl⟩
            · exact .inr ⟨h1, h2⟩
      have S7 : StAt H7 st cl (1 + 30 * i + 20) := by rw [hH7]; exact (S6.upd nFs.1 nFs.2).upd nMs.1 nMs.2
      rw [← hH7]
      refine ⟨_, rfl, _, rfl, _, rfl, st, cl, F, Mo, _, _, _, rfl, S7, by omega, R7, hFM, fun v ps' ts' H8 R8 S8 _ => ?_⟩
      refine ⟨_, rfl, _, rfl, F, Mo, ps', ts', rfl, R8, fun H9 s9 => ?_⟩
      refine ⟨true, rfl, ?_⟩
      refine iteF ?_
      exact ⟨⟨_, _, R8.same s9⟩, (S8.same s9).mono (by omega), _, _, _, _, rfl⟩
    · rintro σ H5 ⟨⟨ps, ts, R5⟩, S5, v4, v5, v6, v7, rfl⟩
      refine ⟨3, rfl, by decide, by decide, for_range (lo := 0) (n := 3) (fun i σ H' => Same H5 H' ∧ ∃ v5, σ = [some (.ref a), some (.ref st), some (.ref F), some (.ref Mo), v4, v5, v6, v7]) ⟨Same.refl _, _, rfl⟩ ?_ ?_⟩
      · rintro i σ H6 hi ⟨s6, v5, rfl⟩
        have R6 := R5.same s6
        obtain ⟨cs, kvs, c, FA, Mm, p4, bc, hlk⟩ := (R6.r i hi).ex
        obtain ⟨d, dx, hp, hd⟩ := FA.ob
        obtain ⟨g, ht, hg⟩ := Mm.ob
        have ksm : ∀ e ∈ kvs, aint e.2 < 10 ^ 64 := fun e he => aint_small (p4.bd e he)
        have klen := p4.len
        refine ⟨_, rfl, _, rfl, F, _, _, _, rfl, rfl, SqL.of R6.f, refs_at R6.lf hi (by omega), ?_⟩
        refine ⟨_, dx, _, rfl, hp, _, cs, c, rfl, FA, ⟨can_small FA.can hlk ksm, aint_small bc⟩, fun H7 s7 => ⟨⟨_, rfl⟩, ?_⟩⟩
        have R7 := R6.same s7
        refine ⟨_, rfl, _, rfl, Mo, _, _, _, rfl, rfl, SqL.of R7.m, refs_at R7.lm hi (by omega), _, _, 0, _, rfl, rfl, SqT.of (s7 _ _ ht), rfl, ?_⟩
        refine ⟨_, rfl, _, rfl, Mo, _, _, _, rfl, rfl, SqL.of R7.m, refs_at R7.lm hi (by omega), _, _, 1, _, rfl, rfl, SqT.of (s7 _ _ ht), rfl, ?_⟩
        refine ⟨g, kvs, cs, c, rfl, s7 _ _ hg, p4.nd, by omega, p4.gd, ksm, aint_small bc, FA.can, hlk, fun H8 s8 => ?_⟩
        refine ⟨rfl, _, rfl, ?_⟩
        have e0 : ∀ z : Str, (!decide (V.str z = V.str z)) = false := fun z => by simp
        rw [e0]
        refine iteF ?_
        exact ⟨(s6.trans s7).trans s8, _, rfl⟩
      · rintro σ H6 ⟨s6, v5, rfl⟩
        exact k H6
end
end OS
namespace OS
open PySem L2
theorem all_mk {l : PySem.W.OpenLaw} {w : World} {K : PySem.W.Frag} {h : Heap} {mg : Str → Option Value} {fa C f1 f2 f3 f4 f5 f6 f7 f8 f9 f10 f11 f12 f13 f14 f15 f16 f17 f18 f19 f20 f21 f22 f23 f24 f25 f26 f27 : Addr} (X : K.In h) (G : h.Ns mainGlobals mg) (hfa : mg "law" = some (.ref fa))
    {od1 an1 od2 an2 od3 an3 od4 an4 od5 an5 od6 an6 od7 an7 od8 an8 od9 an9 od10 an10 od11 an11 od12 an12 od13 an13 od14 an14 od15 an15 od16 an16 od17 an17 od18 an18 od19 an19 od20 an20 od21 an21 od22 an22 od23 an23 od24 an24 od25 an25 od26 an26 od27 an27 : Option Addr} {sl1 sl2 sl3 sl4 sl5 sl6 sl7 sl8 sl9 sl10 sl11 sl12 sl13 sl14 sl15 sl16 sl17 sl18 sl19 sl20 sl21 sl22 sl23 sl24 sl25 sl26 sl27 : Array (Option Value)} {oc1 kV1 dc1 pm1 cd1 ct1 oc2 kV2 dc2 pm2 cd2 ct2 oc3 kV3 dc3 pm3 cd3 ct3 oc4 kV4 dc4 pm4 cd4 ct4 oc5 kV5 dc5 pm5 cd5 ct5 oc6 kV6 dc6 pm6 cd6 ct6 oc7 kV7 dc7 pm7 cd7 ct7 oc8 kV8 dc8 pm8 cd8 ct8 oc9 kV9 dc9 pm9 cd9 ct9 oc10 kV10 dc10 pm10 cd10 ct10 oc11 kV11 dc11 pm11 cd11 ct11 oc12 kV12 dc12 pm12 cd12 ct12 oc13 kV13 dc13 pm13 cd13 ct13 oc14 kV14 dc14 pm14 cd14 ct14 oc15 kV15 dc15 pm15 cd15 ct15 oc16 kV16 dc16 pm16 cd16 ct16 oc17 kV17 dc17 pm17 cd17 ct17 oc18 kV18 dc18 pm18 cd18 ct18 oc19 kV19 dc19 pm19 cd19 ct19 oc20 kV20 dc20 pm20 cd20 ct20 oc21 kV21 dc21 pm21 cd21 ct21 oc22 kV22 dc22 pm22 cd22 ct22 oc23 kV23 dc23 pm23 cd23 ct23 oc24 kV24 dc24 pm24 cd24 ct24 oc25 kV25 dc25 pm25 cd25 ct25 oc26 kV26 dc26 pm26 cd26 ct26 oc27 kV27 dc27 pm27 cd27 ct27 : Value} {t1 t2 t3 t4 t5 : Tok} {fo0 ro0 fo1 ro1 fo2 ro2 : Option Value} {ddC : Option Addr} {cdC : ClassData} {slC : Array (Option Value)} {T15 : Addr} {ocT15 : Value} {odT15 : Option Addr} {nT15 : Nat} {slT15 : Array (Option Value)} {tT15 : Tok} {p16 : Addr} {rest16 : List Value} {p17 : Addr} {rest17 : List Value}
    (aC : PySem.W.nsIn K mainGlobals "Form" = some (some (.ref C)))
    (a1 : PySem.W.nsIn K mainGlobals "_law_start" = some (some (.ref f1)))
    (l1 : K.lookup f1 = some ⟨oc1, od1, .func (PySem.W.fnOf "_law_start" "_law_start" (defArgs sStart) (defBody sStart) (defScope sStart) .none kV1 dc1 pm1 an1 cd1 ct1), sl1⟩)
    (c1 : PySem.W.codeIn K cd1 "_law_start" = true)
    (k1 : PySem.W.keepIn K (.ref f1) = true)
    (a2 : PySem.W.nsIn K mainGlobals "_law_take" = some (some (.ref f2)))
    (l2 : K.lookup f2 = some ⟨oc2, od2, .func (PySem.W.fnOf "_law_take" "_law_take" (defArgs sTake) (defBody sTake) (defScope sTake) .none kV2 dc2 pm2 an2 cd2 ct2), sl2⟩)
    (c2 : PySem.W.codeIn K cd2 "_law_take" = true)
    (k2 : PySem.W.keepIn K (.ref f2) = true)
    (a3 : PySem.W.nsIn K mainGlobals "_law_small" = some (some (.ref f3)))
    (l3 : K.lookup f3 = some ⟨oc3, od3, .func (PySem.W.fnOf "_law_small" "_law_small" (defArgs s_small) (defBody s_small) (defScope s_small) .none kV3 dc3 pm3 an3 cd3 ct3), sl3⟩)
    (c3 : PySem.W.codeIn K cd3 "_law_small" = true)
    (k3 : PySem.W.keepIn K (.ref f3) = true)
    (a4 : PySem.W.nsIn K mainGlobals "_law_sum" = some (some (.ref f4)))
    (l4 : K.lookup f4 = some ⟨oc4, od4, .func (PySem.W.fnOf "_law_sum" "_law_sum" (defArgs s_sum) (defBody s_sum) (defScope s_sum) .none kV4 dc4 pm4 an4 cd4 ct4), sl4⟩)
    (c4 : PySem.W.codeIn K cd4 "_law_sum" = true)
    (k4 : PySem.W.keepIn K (.ref f4) = true)
    (a5 : PySem.W.nsIn K mainGlobals "_law_size" = some (some (.ref f5)))
    (l5 : K.lookup f5 = some ⟨oc5, od5, .func (PySem.W.fnOf "_law_size" "_law_size" (defArgs s_size) (defBody s_size) (defScope s_size) .none kV5 dc5 pm5 an5 cd5 ct5), sl5⟩)
    (c5 : PySem.W.codeIn K cd5 "_law_size" = true)
    (k5 : PySem.W.keepIn K (.ref f5) = true)
    (a6 : PySem.W.nsIn K mainGlobals "_law_plain" = some (some (.ref f6)))
    (l6 : K.lookup f6 = some ⟨oc6, od6, .func (PySem.W.fnOf "_law_plain" "_law_plain" (defArgs s_plain) (defBody s_plain) (defScope s_plain) .none kV6 dc6 pm6 an6 cd6 ct6), sl6⟩)
    (c6 : PySem.W.codeIn K cd6 "_law_plain" = true)
    (k6 : PySem.W.keepIn K (.ref f6) = true)
    (a7 : PySem.W.nsIn K mainGlobals "_law_agrees" = some (some (.ref f7)))
    (l7 : K.lookup f7 = some ⟨oc7, od7, .func (PySem.W.fnOf "_law_agrees" "_law_agrees" (defArgs s_agrees) (defBody s_agrees) (defScope s_agrees) .none kV7 dc7 pm7 an7 cd7 ct7), sl7⟩)
    (c7 : PySem.W.codeIn K cd7 "_law_agrees" = true)
    (k7 : PySem.W.keepIn K (.ref f7) = true)
    (a8 : PySem.W.nsIn K mainGlobals "_law_step" = some (some (.ref f8)))
    (l8 : K.lookup f8 = some ⟨oc8, od8, .func (PySem.W.fnOf "_law_step" "_law_step" (defArgs s_step) (defBody s_step) (defScope s_step) .none kV8 dc8 pm8 an8 cd8 ct8), sl8⟩)
    (c8 : PySem.W.codeIn K cd8 "_law_step" = true)
    (k8 : PySem.W.keepIn K (.ref f8) = true)
    (a9 : PySem.W.nsIn K mainGlobals "_law_sign" = some (some (.ref f9)))
    (l9 : K.lookup f9 = some ⟨oc9, od9, .func (PySem.W.fnOf "_law_sign" "_law_sign" (defArgs s_sign) (defBody s_sign) (defScope s_sign) .none kV9 dc9 pm9 an9 cd9 ct9), sl9⟩)
    (c9 : PySem.W.codeIn K cd9 "_law_sign" = true)
    (k9 : PySem.W.keepIn K (.ref f9) = true)
    (a10 : PySem.W.nsIn K mainGlobals "_law_text" = some (some (.ref f10)))
    (l10 : K.lookup f10 = some ⟨oc10, od10, .func (PySem.W.fnOf "_law_text" "_law_text" (defArgs s_text) (defBody s_text) (defScope s_text) .none kV10 dc10 pm10 an10 cd10 ct10), sl10⟩)
    (c10 : PySem.W.codeIn K cd10 "_law_text" = true)
    (k10 : PySem.W.keepIn K (.ref f10) = true)
    (a11 : PySem.W.nsIn K mainGlobals "valid_name" = some (some (.ref f11)))
    (l11 : K.lookup f11 = some ⟨oc11, od11, .func (PySem.W.fnOf "valid_name" "valid_name" (defArgs sValid) (defBody sValid) (defScope sValid) .none kV11 dc11 pm11 an11 cd11 ct11), sl11⟩)
    (c11 : PySem.W.codeIn K cd11 "valid_name" = true)
    (k11 : PySem.W.keepIn K (.ref f11) = true)
    (a12 : PySem.W.nsIn K mainGlobals "_decimal" = some (some (.ref f12)))
    (l12 : K.lookup f12 = some ⟨oc12, od12, .func (PySem.W.fnOf "_decimal" "_decimal" (defArgs sDec) (defBody sDec) (defScope sDec) .none kV12 dc12 pm12 an12 cd12 ct12), sl12⟩)
    (c12 : PySem.W.codeIn K cd12 "_decimal" = true)
    (k12 : PySem.W.keepIn K (.ref f12) = true)
    (a13 : PySem.W.nsIn K mainGlobals "_signed" = some (some (.ref f13)))
    (l13 : K.lookup f13 = some ⟨oc13, od13, .func (PySem.W.fnOf "_signed" "_signed" (defArgs sSgn) (defBody sSgn) (defScope sSgn) .none kV13 dc13 pm13 an13 cd13 ct13), sl13⟩)
    (c13 : PySem.W.codeIn K cd13 "_signed" = true)
    (k13 : PySem.W.keepIn K (.ref f13) = true)
    (a14 : PySem.W.nsIn K mainGlobals "_term" = some (some (.ref f14)))
    (l14 : K.lookup f14 = some ⟨oc14, od14, .func (PySem.W.fnOf "_term" "_term" (defArgs sTerm) (defBody sTerm) (defScope sTerm) .none kV14 dc14 pm14 an14 cd14 ct14), sl14⟩)
    (c14 : PySem.W.codeIn K cd14 "_term" = true)
    (k14 : PySem.W.keepIn K (.ref f14) = true)
    (a15 : PySem.W.findIn K (.ref C) "__init__" = some (some (.ref f15)))
    (i15 : PySem.W.isFn K (.ref f15) = true)
    (l15 : K.lookup f15 = some ⟨oc15, od15, .func (PySem.W.fnOf "__init__" "Form.__init__" (defArgs sForm_init) (defBody sForm_init) (defScope sForm_init) (.ref T15) kV15 dc15 pm15 an15 cd15 ct15), sl15⟩)
    (lT15 : K.lookup T15 = some ⟨ocT15, odT15, .seq #[.int 0 tT15] nT15, slT15⟩)
    (c15 : PySem.W.codeIn K cd15 "Form.__init__" = true)
    (k15 : PySem.W.keepIn K (.ref f15) = true)
    (a16 : PySem.W.findIn K (.ref C) "coefficients" = some (some (.ref p16)))
    (g16 : PySem.W.specialIn K (.ref p16) "__get__" = some (some (.builtin "property.__get__")))
    (t16 : PySem.W.takesIn K (.ref p16) = some true)
    (r16 : PySem.W.recIn K p16 "property" = some (.ref f16 :: rest16))
    (l16 : K.lookup f16 = some ⟨oc16, od16, .func (PySem.W.fnOf "coefficients" "Form.coefficients" (defArgs sForm_coefficients) (defBody sForm_coefficients) (defScope sForm_coefficients) .none kV16 dc16 pm16 an16 cd16 ct16), sl16⟩)
    (c16 : PySem.W.codeIn K cd16 "Form.coefficients" = true)
    (k16 : PySem.W.keepIn K (.ref f16) = true)
    (a17 : PySem.W.findIn K (.ref C) "constant" = some (some (.ref p17)))
    (g17 : PySem.W.specialIn K (.ref p17) "__get__" = some (some (.builtin "property.__get__")))
    (t17 : PySem.W.takesIn K (.ref p17) = some true)
    (r17 : PySem.W.recIn K p17 "property" = some (.ref f17 :: rest17))
    (l17 : K.lookup f17 = some ⟨oc17, od17, .func (PySem.W.fnOf "constant" "Form.constant" (defArgs sForm_constant) (defBody sForm_constant) (defScope sForm_constant) .none kV17 dc17 pm17 an17 cd17 ct17), sl17⟩)
    (c17 : PySem.W.codeIn K cd17 "Form.constant" = true)
    (k17 : PySem.W.keepIn K (.ref f17) = true)
    (a18 : PySem.W.findIn K (.ref C) "__eq__" = some (some (.ref f18)))
    (i18 : PySem.W.isFn K (.ref f18) = true)
    (l18 : K.lookup f18 = some ⟨oc18, od18, .func (PySem.W.fnOf "__eq__" "Form.__eq__" (defArgs sForm_eq) (defBody sForm_eq) (defScope sForm_eq) .none kV18 dc18 pm18 an18 cd18 ct18), sl18⟩)
    (c18 : PySem.W.codeIn K cd18 "Form.__eq__" = true)
    (k18 : PySem.W.keepIn K (.ref f18) = true)
    (a19 : PySem.W.findIn K (.ref C) "__neg__" = some (some (.ref f19)))
    (i19 : PySem.W.isFn K (.ref f19) = true)
    (l19 : K.lookup f19 = some ⟨oc19, od19, .func (PySem.W.fnOf "__neg__" "Form.__neg__" (defArgs sForm_neg) (defBody sForm_neg) (defScope sForm_neg) .none kV19 dc19 pm19 an19 cd19 ct19), sl19⟩)
    (c19 : PySem.W.codeIn K cd19 "Form.__neg__" = true)
    (k19 : PySem.W.keepIn K (.ref f19) = true)
    (a20 : PySem.W.findIn K (.ref C) "__add__" = some (some (.ref f20)))
    (i20 : PySem.W.isFn K (.ref f20) = true)
    (l20 : K.lookup f20 = some ⟨oc20, od20, .func (PySem.W.fnOf "__add__" "Form.__add__" (defArgs sForm_add) (defBody sForm_add) (defScope sForm_add) .none kV20 dc20 pm20 an20 cd20 ct20), sl20⟩)
    (c20 : PySem.W.codeIn K cd20 "Form.__add__" = true)
    (k20 : PySem.W.keepIn K (.ref f20) = true)
    (a21 : PySem.W.findIn K (.ref C) "__radd__" = some (some (.ref f21)))
    (i21 : PySem.W.isFn K (.ref f21) = true)
    (l21 : K.lookup f21 = some ⟨oc21, od21, .func (PySem.W.fnOf "__radd__" "Form.__radd__" (defArgs sForm_radd) (defBody sForm_radd) (defScope sForm_radd) .none kV21 dc21 pm21 an21 cd21 ct21), sl21⟩)
    (c21 : PySem.W.codeIn K cd21 "Form.__radd__" = true)
    (k21 : PySem.W.keepIn K (.ref f21) = true)
    (a22 : PySem.W.findIn K (.ref C) "__sub__" = some (some (.ref f22)))
    (i22 : PySem.W.isFn K (.ref f22) = true)
    (l22 : K.lookup f22 = some ⟨oc22, od22, .func (PySem.W.fnOf "__sub__" "Form.__sub__" (defArgs sForm_sub) (defBody sForm_sub) (defScope sForm_sub) .none kV22 dc22 pm22 an22 cd22 ct22), sl22⟩)
    (c22 : PySem.W.codeIn K cd22 "Form.__sub__" = true)
    (k22 : PySem.W.keepIn K (.ref f22) = true)
    (a23 : PySem.W.findIn K (.ref C) "__rsub__" = some (some (.ref f23)))
    (i23 : PySem.W.isFn K (.ref f23) = true)
    (l23 : K.lookup f23 = some ⟨oc23, od23, .func (PySem.W.fnOf "__rsub__" "Form.__rsub__" (defArgs sForm_rsub) (defBody sForm_rsub) (defScope sForm_rsub) .none kV23 dc23 pm23 an23 cd23 ct23), sl23⟩)
    (c23 : PySem.W.codeIn K cd23 "Form.__rsub__" = true)
    (k23 : PySem.W.keepIn K (.ref f23) = true)
    (a24 : PySem.W.findIn K (.ref C) "__mul__" = some (some (.ref f24)))
    (i24 : PySem.W.isFn K (.ref f24) = true)
    (l24 : K.lookup f24 = some ⟨oc24, od24, .func (PySem.W.fnOf "__mul__" "Form.__mul__" (defArgs sForm_mul) (defBody sForm_mul) (defScope sForm_mul) .none kV24 dc24 pm24 an24 cd24 ct24), sl24⟩)
    (c24 : PySem.W.codeIn K cd24 "Form.__mul__" = true)
    (k24 : PySem.W.keepIn K (.ref f24) = true)
    (a25 : PySem.W.findIn K (.ref C) "__rmul__" = some (some (.ref f25)))
    (i25 : PySem.W.isFn K (.ref f25) = true)
    (l25 : K.lookup f25 = some ⟨oc25, od25, .func (PySem.W.fnOf "__rmul__" "Form.__rmul__" (defArgs sForm_rmul) (defBody sForm_rmul) (defScope sForm_rmul) .none kV25 dc25 pm25 an25 cd25 ct25), sl25⟩)
    (c25 : PySem.W.codeIn K cd25 "Form.__rmul__" = true)
    (k25 : PySem.W.keepIn K (.ref f25) = true)
    (a26 : PySem.W.findIn K (.ref C) "__str__" = some (some (.ref f26)))
    (i26 : PySem.W.isFn K (.ref f26) = true)
    (l26 : K.lookup f26 = some ⟨oc26, od26, .func (PySem.W.fnOf "__str__" "Form.__str__" (defArgs sForm_str) (defBody sForm_str) (defScope sForm_str) .none kV26 dc26 pm26 an26 cd26 ct26), sl26⟩)
    (c26 : PySem.W.codeIn K cd26 "Form.__str__" = true)
    (k26 : PySem.W.keepIn K (.ref f26) = true)
    (a27 : PySem.W.nsIn K mainGlobals "law" = some (some (.ref f27)))
    (l27 : K.lookup f27 = some ⟨oc27, od27, .func (PySem.W.fnOf "law" "law" (defArgs sLaw) (defBody sLaw) (defScope sLaw) .none kV27 dc27 pm27 an27 cd27 ct27), sl27⟩)
    (c27 : PySem.W.codeIn K cd27 "law" = true)
    (k27 : PySem.W.keepIn K (.ref f27) = true)
    (m1 : PySem.W.nsIn K mainGlobals "MOST_CHARACTERS" = some (some (.int 6 t1)))
    (m2 : PySem.W.nsIn K mainGlobals "LETTERS" = some (some (.str lowL t2)))
    (m3 : PySem.W.nsIn K mainGlobals "DIGITS" = some (some (.str digL t3)))
    (m4 : PySem.W.nsIn K mainGlobals "RESERVED" = some (some (.str "mod" t4)))
    (pg : PySem.W.plainGet K C Str.empty = true)
    (hd : PySem.W.hasDictIn K C = true)
    (po : PySem.W.plainOver K C = true)
    (sa : PySem.W.findIn K (.ref C) "__setattr__" = some (some (.builtin "object.__setattr__")))
    (mk : PySem.W.makesIn K C = true)
    (kc : PySem.W.keepIn K (.ref C) = true)
    (nF : PySem.W.findIn K (.ref C) "_coefficients" = some none)
    (nT : PySem.W.findIn K (.ref C) "_constant" = some none)
    (m5 : PySem.W.nsIn K mainGlobals "PIECE" = some (some (.int 10000000000000000000000000000000000000000000000000000000000000000 t5)))
    (sf : PySem.W.selfFirst K C = true)
    (sn : PySem.W.subIn K (.ref C) (.type "int") = some false)
    (so : PySem.W.subIn K (.ref C) (.type "object") = some true)
    (ty : PySem.W.typeIn K (.ref C) = some (.type "type"))
    (ha : PySem.W.findIn K (.ref C) "__class__" = some (some (.builtin "object.__class__")))
    (hm : PySem.W.mroIn K C (.type "object") = some true)
    (gn : PySem.W.specialIn K (.builtin "object.__class__") "__get__" = some (some (.builtin "getset_descriptor.__get__")))
    (gt : PySem.W.takesIn K (.builtin "object.__class__") = some true)
    (ne : PySem.W.findIn K (.ref C) "__ne__" = some (some (.builtin "object.__ne__")))
    (cL : K.lookup C = some ⟨.type "type", ddC, .cls cdC, slC⟩)
    (mr : cdC.mro = [.ref C, .type "object"])
    (in0 : PySem.W.findIn K (.type "int") "__add__" = some fo0)
    (ir0 : PySem.W.findIn K (.type "int") "__radd__" = some ro0)
    (ii0 : PySem.W.findIn K (.ref C) "__iadd__" = some none)
    (io0 : PySem.W.findIn K (.type "object") "__iadd__" = some none)
    (in1 : PySem.W.findIn K (.type "int") "__sub__" = some fo1)
    (ir1 : PySem.W.findIn K (.type "int") "__rsub__" = some ro1)
    (ii1 : PySem.W.findIn K (.ref C) "__isub__" = some none)
    (io1 : PySem.W.findIn K (.type "object") "__isub__" = some none)
    (in2 : PySem.W.findIn K (.type "int") "__mul__" = some fo2)
    (ir2 : PySem.W.findIn K (.type "int") "__rmul__" = some ro2)
    (ii2 : PySem.W.findIn K (.ref C) "__imul__" = some none)
    (io2 : PySem.W.findIn K (.type "object") "__imul__" = some none)
    (su : PySem.W.subIn K (.type "int") (.ref C) = some false)
    (z_len : PySem.W.nsIn K mainGlobals "len" = some none)
    (z_int : PySem.W.nsIn K mainGlobals "int" = some none)
    (z_max : PySem.W.nsIn K mainGlobals "max" = some none)
    (z_min : PySem.W.nsIn K mainGlobals "min" = some none)
    (z_abs : PySem.W.nsIn K mainGlobals "abs" = some none)
    (z_all : PySem.W.nsIn K mainGlobals "all" = some none)
    (z_range : PySem.W.nsIn K mainGlobals "range" = some none)
    (z_sorted : PySem.W.nsIn K mainGlobals "sorted" = some none)
    (z_str : PySem.W.nsIn K mainGlobals "str" = some none)
    (z_isinstance : PySem.W.nsIn K mainGlobals "isinstance" = some none)
    (z_dict : PySem.W.nsIn K mainGlobals "dict" = some none) :
    ∃ fd : FuncData, (∀ (s : Shared) (v : Value), BindsTo s fd ⟨[v], []⟩ [("_law_script", v)]) ∧ ∀ base : Heap, K.In base → base.Ns mainGlobals mg → FnOk l.prog w K mg base CX0 8 fa fd ["_law_script"] (spLaw K) := by
  have e := hfa.symm.trans (PySem.W.mg_of X G a27)
  cases e
  have F1 := fun_mk (st := sStart) l1 c1 k1
  have b1 := F1.binds (ps := ["_law_script"]) fun _ _ _ _ _ _ us hl => match us, hl with | [_], _ => rfl
  have F2 := fun_mk (st := sTake) l2 c2 k2
  have b2 := F2.binds (ps := ["_law_state", "_law_limit"]) fun _ _ _ _ _ _ us hl => match us, hl with | [_, _], _ => rfl
  have F3 := fun_mk (st := s_small) l3 c3 k3
  have b3 := F3.binds (ps := ["_law_state"]) fun _ _ _ _ _ _ us hl => match us, hl with | [_], _ => rfl
  have F4 := fun_mk (st := s_sum) l4 c4 k4
  have b4 := F4.binds (ps := ["_law_first", "_law_second", "_law_factor"]) fun _ _ _ _ _ _ us hl => match us, hl with | [_, _, _], _ => rfl
  have F5 := fun_mk (st := s_size) l5 c5 k5
  have b5 := F5.binds (ps := ["_law_model"]) fun _ _ _ _ _ _ us hl => match us, hl with | [_], _ => rfl
  have F6 := fun_mk (st := s_plain) l6 c6 k6
  have b6 := F6.binds (ps := ["_law_model"]) fun _ _ _ _ _ _ us hl => match us, hl with | [_], _ => rfl
  have F7 := fun_mk (st := s_agrees) l7 c7 k7
  have b7 := F7.binds (ps := ["_law_forms", "_law_models"]) fun _ _ _ _ _ _ us hl => match us, hl with | [_, _], _ => rfl
  have F8 := fun_mk (st := s_step) l8 c8 k8
  have b8 := F8.binds (ps := ["_law_state", "_law_forms", "_law_models"]) fun _ _ _ _ _ _ us hl => match us, hl with | [_, _, _], _ => rfl
  have F9 := fun_mk (st := s_sign) l9 c9 k9
  have b9 := F9.binds (ps := ["_law_state", "_law_forms", "_law_models"]) fun _ _ _ _ _ _ us hl => match us, hl with | [_, _, _], _ => rfl
  have F10 := fun_mk (st := s_text) l10 c10 k10
  have b10 := F10.binds (ps := ["_law_parts", "_law_offset"]) fun _ _ _ _ _ _ us hl => match us, hl with | [_, _], _ => rfl
  have F11 := fun_mk (st := sValid) l11 c11 k11
  have b11 := F11.binds (ps := ["text"]) fun _ _ _ _ _ _ us hl => match us, hl with | [_], _ => rfl
  have F12 := fun_mk (st := sDec) l12 c12 k12
  have b12 := F12.binds (ps := ["number"]) fun _ _ _ _ _ _ us hl => match us, hl with | [_], _ => rfl
  have F13 := fun_mk (st := sSgn) l13 c13 k13
  have b13 := F13.binds (ps := ["number", "text"]) fun _ _ _ _ _ _ us hl => match us, hl with | [_, _], _ => rfl
  have F14 := fun_mk (st := sTerm) l14 c14 k14
  have b14 := F14.binds (ps := ["name", "coefficient"]) fun _ _ _ _ _ _ us hl => match us, hl with | [_, _], _ => rfl
  have F15 : FunD K "__init__" "Form.__init__" (defArgs sForm_init) (defBody sForm_init) (defScope sForm_init) [V.int 0] [] f15 _ := ⟨⟨_, _, _, _, _, _, _, _, _, _, rfl, l15, c15, .inr ⟨by simp, _, _, _, _, rfl, lT15, rfl, .cons ⟨_, rfl⟩ .nil⟩, .inl rfl⟩, k15⟩
  obtain ⟨ds15, vd15, b15⟩ := F15.binds1 (ps := ["self", "coefficients", "constant"]) 3 1 (by simp) (by decide) fun _ _ _ _ _ _ _ us its h1 h2 => match us, its, h1, h2 with | [_, _, _], [_], _, _ => ⟨_, rfl, rfl⟩
  cases vd15
  have F16 := fun_mk (st := sForm_coefficients) l16 c16 k16
  have b16 := F16.binds (ps := ["self"]) fun _ _ _ _ _ _ us hl => match us, hl with | [_], _ => rfl
  have F17 := fun_mk (st := sForm_constant) l17 c17 k17
  have b17 := F17.binds (ps := ["self"]) fun _ _ _ _ _ _ us hl => match us, hl with | [_], _ => rfl
  have F18 := fun_mk (st := sForm_eq) l18 c18 k18
  have b18 := F18.binds (ps := ["self", "other"]) fun _ _ _ _ _ _ us hl => match us, hl with | [_, _], _ => rfl
  have F19 := fun_mk (st := sForm_neg) l19 c19 k19
  have b19 := F19.binds (ps := ["self"]) fun _ _ _ _ _ _ us hl => match us, hl with | [_], _ => rfl
  have F20 := fun_mk (st := sForm_add) l20 c20 k20
  have b20 := F20.binds (ps := ["self", "other"]) fun _ _ _ _ _ _ us hl => match us, hl with | [_, _], _ => rfl
  have F21 := fun_mk (st := sForm_radd) l21 c21 k21
  have b21 := F21.binds (ps := ["self", "other"]) fun _ _ _ _ _ _ us hl => match us, hl with | [_, _], _ => rfl
  have F22 := fun_mk (st := sForm_sub) l22 c22 k22
  have b22 := F22.binds (ps := ["self", "other"]) fun _ _ _ _ _ _ us hl => match us, hl with | [_, _], _ => rfl
  have F23 := fun_mk (st := sForm_rsub) l23 c23 k23
  have b23 := F23.binds (ps := ["self", "other"]) fun _ _ _ _ _ _ us hl => match us, hl with | [_, _], _ => rfl
  have F24 := fun_mk (st := sForm_mul) l24 c24 k24
  have b24 := F24.binds (ps := ["self", "other"]) fun _ _ _ _ _ _ us hl => match us, hl with | [_, _], _ => rfl
  have F25 := fun_mk (st := sForm_rmul) l25 c25 k25
  have b25 := F25.binds (ps := ["self", "other"]) fun _ _ _ _ _ _ us hl => match us, hl with | [_, _], _ => rfl
  have F26 := fun_mk (st := sForm_str) l26 c26 k26
  have b26 := F26.binds (ps := ["self"]) fun _ _ _ _ _ _ us hl => match us, hl with | [_], _ => rfl
  have F27 := fun_mk (st := sLaw) l27 c27 k27
  have mz_len := PySem.W.mg_none_of X G z_len
  have mz_int := PySem.W.mg_none_of X G z_int
  have mz_max := PySem.W.mg_none_of X G z_max
  have mz_min := PySem.W.mg_none_of X G z_min
  have mz_abs := PySem.W.mg_none_of X G z_abs
  have mz_all := PySem.W.mg_none_of X G z_all
  have mz_range := PySem.W.mg_none_of X G z_range
  have mz_sorted := PySem.W.mg_none_of X G z_sorted
  have mz_str := PySem.W.mg_none_of X G z_str
  have mz_isinstance := PySem.W.mg_none_of X G z_isinstance
  have mz_dict := PySem.W.mg_none_of X G z_dict
  have G1 : Df K mg "_law_start" f1 := ⟨PySem.W.mg_of X G a1, k1⟩
  have G2 : Df K mg "_law_take" f2 := ⟨PySem.W.mg_of X G a2, k2⟩
  have G3 : Df K mg "_law_small" f3 := ⟨PySem.W.mg_of X G a3, k3⟩
  have G4 : Df K mg "_law_sum" f4 := ⟨PySem.W.mg_of X G a4, k4⟩
  have G5 : Df K mg "_law_size" f5 := ⟨PySem.W.mg_of X G a5, k5⟩
  have G6 : Df K mg "_law_plain" f6 := ⟨PySem.W.mg_of X G a6, k6⟩
  have G7 : Df K mg "_law_agrees" f7 := ⟨PySem.W.mg_of X G a7, k7⟩
  have G8 : Df K mg "_law_step" f8 := ⟨PySem.W.mg_of X G a8, k8⟩
  have G9 : Df K mg "_law_sign" f9 := ⟨PySem.W.mg_of X G a9, k9⟩
  have G10 : Df K mg "_law_text" f10 := ⟨PySem.W.mg_of X G a10, k10⟩
  have G11 : Df K mg "valid_name" f11 := ⟨PySem.W.mg_of X G a11, k11⟩
  have G12 : Df K mg "_decimal" f12 := ⟨PySem.W.mg_of X G a12, k12⟩
  have G13 : Df K mg "_signed" f13 := ⟨PySem.W.mg_of X G a13, k13⟩
  have G14 : Df K mg "_term" f14 := ⟨PySem.W.mg_of X G a14, k14⟩
  have T : Bi mg := ⟨mz_len, mz_int, mz_max, mz_abs⟩
  have N : Nm mg := ⟨⟨_, PySem.W.mg_of X G m1⟩, ⟨_, PySem.W.mg_of X G m2⟩, ⟨_, PySem.W.mg_of X G m3⟩, ⟨_, PySem.W.mg_of X G m4⟩, mz_all⟩
  have P : Pc mg := ⟨⟨t5, PySem.W.mg_of X G m5⟩, mz_str, mz_abs⟩
  have CL : Cls K C := ⟨pg, hd, po, sa⟩
  have FT : FTx K mg C := ⟨CL, nF, nT, mz_sorted⟩
  have M : Mk K C f15 := ⟨mk, a15, i15, kc⟩
  have mC : mg "Form" = some (.ref C) := PySem.W.mg_of X G aC
  have IF : InF K C := ⟨CL, ha, gn, gt, hm, sn, ty, su⟩
  have EQ : EqF K C f18 := ⟨⟨a18, i18⟩, su, ne, so⟩
  have M2 : Mro2 K C := ⟨cdC, by unfold PySem.W.clsIn; rw [cL], mr⟩
  have IP : Ips K C := ⟨⟨M2, ii0, io0⟩, ⟨M2, ii1, io1⟩, ⟨M2, ii2, io2⟩⟩
  have OA : OpF K C "__add__" "__radd__" f20 := ⟨⟨a20, i20⟩, sf, ⟨f21, a21⟩, ⟨fo0, in0⟩, ⟨ro0, ir0⟩, su⟩
  have OS1 : OpF K C "__sub__" "__rsub__" f22 := ⟨⟨a22, i22⟩, sf, ⟨f23, a23⟩, ⟨fo1, in1⟩, ⟨ro1, ir1⟩, su⟩
  have OM : OpF K C "__mul__" "__rmul__" f24 := ⟨⟨a24, i24⟩, sf, ⟨f25, a25⟩, ⟨fo2, in2⟩, ⟨ro2, ir2⟩, su⟩
  obtain ⟨dsD, vdD, bD⟩ := F15.binds1 (ps := ["self", "coefficients", "constant"]) 2 0 (by simp) (by decide) fun _ _ _ _ _ _ _ us its h1 h2 => match us, its, h1, h2 with | [_, _], [_], _, _ => ⟨_, rfl, rfl⟩
  refine ⟨PySem.W.fnOf "law" "law" (defArgs sLaw) (defBody sLaw) (defScope sLaw) .none kV27 dc27 pm27 an27 cd27 ct27, fun s v => .of_eq rfl, fun base _ _ => ?_⟩
  have E1 := ok_start (P := l.prog) (w := w) (base := base) F1 T
  have E2 := ok_take (P := l.prog) (w := w) (base := base) F2 T
  have E3 := ok_sml F3 mz_range E2 G2 b2
  have E4 := ok_sum (P := l.prog) (w := w) (base := base) F4 mz_dict
  have E5 := ok_sz (P := l.prog) (w := w) (base := base) F5 mz_max mz_abs
  have E6 := ok_pl (P := l.prog) (w := w) (base := base) F6 mz_sorted
  have E10 := ok_text (P := l.prog) (w := w) (base := base) F10 mz_sorted mz_abs mz_str mz_int
  have E11 := ok_valid (P := l.prog) (w := w) (base := base) F11 T N
  have E12 := ok_dec (P := l.prog) (w := w) (base := base) F12 P
  have E13 := ok_sgn (mg := mg) (P := l.prog) (w := w) (base := base) F13
  have E14 := ok_term F14 P E13 G13 b13 E12 G12 b12
  have E15 := ok_init F15 FT E11 G11 b11
  have E16 := ok_cf (P := l.prog) (w := w) (base := base) F16 FT mz_dict
  have E17 := ok_ct (P := l.prog) (w := w) (base := base) F17 FT
  have E18 := ok_eq (P := l.prog) (w := w) (base := base) F18 FT IF mz_isinstance mC
  have E24 := ok_mul F24 FT mz_isinstance mz_int mC M E15 b15
  have E19 := ok_neg F19 E24 b24 OM
  have E20 := ok_add F20 FT IF mz_isinstance mz_int mz_dict mC M E15 b15
  have E21 := ok_radd F21 E20 b20 OA
  have E22 := ok_sub F22 E20 b20 OA E19 b19 ⟨a19, i19⟩
  have E23 := ok_rsub F23 E20 b20 OA E19 b19 ⟨a19, i19⟩
  have E25 := ok_rmul F25 E24 b24 OM
  have E26 := ok_str F26 FT mz_abs E13 G13 b13 E12 G12 b12 E14 G14 b14
  have E7 := ok_ag F7 mz_range ⟨f16, f17, f18, p16, p17, _, _, _, CL, ⟨a16, g16, t16, ⟨_, r16⟩⟩, ⟨a17, g17, t17, ⟨_, r17⟩⟩, EQ, E16, E17, E18, b16, b17, b18⟩ E6 G6 b6
  have E8 := ok_sp F8 mz_dict mz_max ⟨f20, f21, f22, f23, f24, f25, f19, f15, _, _, _, _, _, _, _, _, E20, E21, E22, E23, E24, E25, E19, E15, b20, b21, b22, b23, b24, b25, b19, b15, OA, OS1, OM, ⟨a21, i21⟩, ⟨a23, i23⟩, ⟨a25, i25⟩, ⟨a19, i19⟩, M, mC, IF⟩ E2 G2 b2 E3 G3 b3 E4 G4 b4 E5 G5 b5
  have E9 := ok_sn F9 mz_max ⟨f20, f21, f22, f23, f24, f25, f19, f15, _, _, _, _, _, _, _, _, E20, E21, E22, E23, E24, E25, E19, E15, b20, b21, b22, b23, b24, b25, b19, b15, OA, OS1, OM, ⟨a21, i21⟩, ⟨a23, i23⟩, ⟨a25, i25⟩, ⟨a19, i19⟩, M, mC, IF⟩ IP E2 G2 b2 E4 G4 b4 E5 G5 b5
  exact ok_law F27 mz_range mz_len mz_min mz_str ⟨f20, f21, f22, f23, f24, f25, f19, f15, _, _, _, _, _, _, _, _, E20, E21, E22, E23, E24, E25, E19, E15, b20, b21, b22, b23, b24, b25, b19, b15, OA, OS1, OM, ⟨a21, i21⟩, ⟨a23, i23⟩, ⟨a25, i25⟩, ⟨a19, i19⟩, M, mC, IF⟩ bD vdD E1 G1 b1 E2 G2 b2 E10 G10 b10 E8 G8 b8 E9 G9 b9 E7 G7 b7 E26 ⟨a26, i26⟩ b26
theorem walk {l : PySem.W.OpenLaw} {q : Program} {loose : List Str} {XP : (Str → Option Value) → Heap → Prop} {YP : World → Heap → Prop} {d : DefRec} {K : Params → PySem.W.Frag} (hn : l.most = some 63) (hdf : d.params.defaults = [])
    (hY : ∀ (w : World) (h : Heap), YP w h → (K w.params).In h)
    (F : ∀ (w : World) (mg : Str → Option Value) (fa : Addr) (h : Heap), (K w.params).In h → h.Ns mainGlobals mg → mg d.name = some (.ref fa) →
      ∃ fd : FuncData, (∀ (s : Shared) (u : Value), BindsTo s fd ⟨[u], []⟩ [("_law_script", u)]) ∧ ∀ base : Heap, (K w.params).In base → base.Ns mainGlobals mg → FnOk l.prog w (K w.params) mg base CX0 8 fa fd ["_law_script"] (spLaw (K w.params))) :
    PySem.W.WalkO q loose XP YP l.row.toRowW d [] (fun f vs => PySem.call f vs) :=
  L2.walk_of (n := 63) (k := 8) (x := "_law_script") (CX := fun _ => CX0) (sp := fun w => spLaw (K w.params)) hn (by decide) hdf ⟨rfl, by decide, by decide⟩ hY F (fun _ _ a ns hl _ hS => ⟨a, ns, rfl, hS, hl, fun _ => rfl⟩) fun _ _ _ _ _ z => z
end OS
open PySem PySem.W PyProof.Rows
set_option maxRecDepth 100000 in
set_option maxHeartbeats 0 in
theorem PySem.Challenge.cw_oneshard_k06_whole_form_script_holds : PySem.Challenge.rw_oneshard_k06_whole_form_script.Holds := by
  w_on; o_law; k_head; (case hw => w_witness2)
  k_fill
  refine OS.walk (l := PySem.Challenge.rw_oneshard_k06_whole_form_script) rfl rfl (fun w h Y => PySem.W.kIn_of Y) ?F
  case F =>
    intro w mg fa h KX G hmg
    refine' OS.all_mk KX G hmg ?aC ?a1 ?l1 ?c1 ?k1 ?a2 ?l2 ?c2 ?k2 ?a3 ?l3 ?c3 ?k3 ?a4 ?l4 ?c4 ?k4 ?a5 ?l5 ?c5 ?k5 ?a6 ?l6 ?c6 ?k6 ?a7 ?l7 ?c7 ?k7 ?a8 ?l8 ?c8 ?k8 ?a9 ?l9 ?c9 ?k9 ?a10 ?l10 ?c10 ?k10 ?a11 ?l11 ?c11 ?k11 ?a12 ?l12 ?c12 ?k12 ?a13 ?l13 ?c13 ?k13 ?a14 ?l14 ?c14 ?k14 ?a15 ?i15 ?l15 ?lT15 ?c15 ?k15 ?a16 ?g16 ?t16 ?r16 ?l16 ?c16 ?k16 ?a17 ?g17 ?t17 ?r17 ?l17 ?c17 ?k17 ?a18 ?i18 ?l18 ?c18 ?k18 ?a19 ?i19 ?l19 ?c19 ?k19 ?a20 ?i20 ?l20 ?c20 ?k20 ?a21 ?i21 ?l21 ?c21 ?k21 ?a22 ?i22 ?l22 ?c22 ?k22 ?a23 ?i23 ?l23 ?c23 ?k23 ?a24 ?i24 ?l24 ?c24 ?k24 ?a25 ?i25 ?l25 ?c25 ?k25 ?a26 ?i26 ?l26 ?c26 ?k26 ?a27 ?l27 ?c27 ?k27 ?m1 ?m2 ?m3 ?m4 ?pg ?hd ?po ?sa ?mk ?kc ?nF ?nT ?m5 ?sf ?sn ?so ?ty ?ha ?hm ?gn ?gt ?ne ?cL ?mr ?in0 ?ir0 ?ii0 ?io0 ?in1 ?ir1 ?ii1 ?io1 ?in2 ?ir2 ?ii2 ?io2 ?su ?z_len ?z_int ?z_max ?z_min ?z_abs ?z_all ?z_range ?z_sorted ?z_str ?z_isinstance ?z_dict
    (case aC => k_is)
    (case a1 => k_is)
    (case l1 => k_is)
    (case c1 => k_is)
    (case k1 => k_is)
    (case a2 => k_is)
    (case l2 => k_is)
    (case c2 => k_is)
    (case k2 => k_is)
    (case a3 => k_is)
    (case l3 => k_is)
    (case c3 => k_is)
    (case k3 => k_is)
    (case a4 => k_is)
    (case l4 => k_is)
    (case c4 => k_is)
    (case k4 => k_is)
    (case a5 => k_is)
    (case l5 => k_is)
    (case c5 => k_is)
    (case k5 => k_is)
    (case a6 => k_is)
    (case l6 => k_is)
    (case c6 => k_is)
    (case k6 => k_is)
    (case a7 => k_is)
    (case l7 => k_is)
    (case c7 => k_is)
    (case k7 => k_is)
    (case a8 => k_is)
    (case l8 => k_is)
    (case c8 => k_is)
    (case k8 => k_is)
    (case a9 => k_is)
    (case l9 => k_is)
    (case c9 => k_is)
    (case k9 => k_is)
    (case a10 => k_is)
    (case l10 => k_is)
    (case c10 => k_is)
    (case k10 => k_is)
    (case a11 => k_is)
    (case l11 => k_is)
    (case c11 => k_is)
    (case k11 => k_is)
    (case a12 => k_is)
    (case l12 => k_is)
    (case c12 => k_is)
    (case k12 => k_is)
    (case a13 => k_is)
    (case l13 => k_is)
    (case c13 => k_is)
    (case k13 => k_is)
    (case a14 => k_is)
    (case l14 => k_is)
    (case c14 => k_is)
    (case k14 => k_is)
    (case a15 => k_is)
    (case i15 => k_is)
    (case l15 => k_is)
    (case lT15 => k_is)
    (case c15 => k_is)
    (case k15 => k_is)
    (case a16 => k_is)
    (case g16 => k_is)
    (case t16 => k_is)
    (case r16 => k_is)
    (case l16 => k_is)
    (case c16 => k_is)
    (case k16 => k_is)
    (case a17 => k_is)
    (case g17 => k_is)
    (case t17 => k_is)
    (case r17 => k_is)
    (case l17 => k_is)
    (case c17 => k_is)
    (case k17 => k_is)
    (case a18 => k_is)
    (case i18 => k_is)
    (case l18 => k_is)
    (case c18 => k_is)
    (case k18 => k_is)
    (case a19 => k_is)
    (case i19 => k_is)
    (case l19 => k_is)
    (case c19 => k_is)
    (case k19 => k_is)
    (case a20 => k_is)
    (case i20 => k_is)
    (case l20 => k_is)
    (case c20 => k_is)
    (case k20 => k_is)
    (case a21 => k_is)
    (case i21 => k_is)
    (case l21 => k_is)
    (case c21 => k_is)
    (case k21 => k_is)
    (case a22 => k_is)
    (case i22 => k_is)
    (case l22 => k_is)
    (case c22 => k_is)
    (case k22 => k_is)
    (case a23 => k_is)
    (case i23 => k_is)
    (case l23 => k_is)
    (case c23 => k_is)
    (case k23 => k_is)
    (case a24 => k_is)
    (case i24 => k_is)
    (case l24 => k_is)
    (case c24 => k_is)
    (case k24 => k_is)
    (case a25 => k_is)
    (case i25 => k_is)
    (case l25 => k_is)
    (case c25 => k_is)
    (case k25 => k_is)
    (case a26 => k_is)
    (case i26 => k_is)
    (case l26 => k_is)
    (case c26 => k_is)
    (case k26 => k_is)
    (case a27 => k_is)
    (case l27 => k_is)
    (case c27 => k_is)
    (case k27 => k_is)
    (case m1 => k_is)
    (case m2 => k_is)
    (case m3 => k_is)
    (case m4 => k_is)
    (case pg => k_is)
    (case hd => k_is)
    (case po => k_is)
    (case sa => k_is)
    (case mk => k_is)
    (case kc => k_is)
    (case nF => k_is)
    (case nT => k_is)
    (case m5 => k_is)
    (case sf => k_is)
    (case sn => k_is)
    (case so => k_is)
    (case ty => k_is)
    (case ha => k_is)
    (case hm => k_is)
    (case gn => k_is)
    (case gt => k_is)
    (case ne => k_is)
    (case cL => k_is)
    (case mr => rfl)
    (case in0 => k_is)
    (case ir0 => k_is)
    (case ii0 => k_is)
    (case io0 => k_is)
    (case in1 => k_is)
    (case ir1 => k_is)
    (case ii1 => k_is)
    (case io1 => k_is)
    (case in2 => k_is)
    (case ir2 => k_is)
    (case ii2 => k_is)
    (case io2 => k_is)
    (case su => k_is)
    (case z_len => k_is)
    (case z_int => k_is)
    (case z_max => k_is)
    (case z_min => k_is)
    (case z_abs => k_is)
    (case z_all => k_is)
    (case z_range => k_is)
    (case z_sorted => k_is)
    (case z_str => k_is)
    (case z_isinstance => k_is)
    (case z_dict => k_is)
#print axioms PySem.Challenge.cw_oneshard_k06_whole_form_script_holds
