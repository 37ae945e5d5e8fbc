import PyProof.Rows.All
import Wide.All
import OpenK.AllK
import Wide.FinOn
import HandS.Base
import HandS.Call
import HandS.List
import HandS.Comp
import HandS.Ends
import HandS.Dict
import HandS.Iter
import HandS.Text
import HandS.Words
import HandS.WordsList
import HandS.WordsDict
import HandS.Walk
import HandS.IsInst
import HandS.Defaults
import HandS.Codes
import HandS.More
import HandS.DictComp
import HandS.FStr
import HandS.OwnEq
import HandS.Property
import HandS.Style
import HandS.StrMore
import KE.KCallOwn
import KE.KOpsOwn
import HandS.Gcd
import HandS.Wide
import HandS.Exc
import HandS.ExcOwn
import HandS.ExcInit
import HandS.ExcField
import HandS.ExcIs
import HandS.ExcValue
import HandS.TryOnly
import HandS.WordsExc
import HandS.Star
import HandS.HotCalls
import HandS.MakeKwOnly
import HandS.MakeKw
import PySem.Challenge.RW_oneshard_k20_fractions
set_option Elab.async false
set_option linter.all false
set_option maxRecDepth 100000
set_option maxHeartbeats 2000000
namespace OS
open PySem L2
def top (i : Nat) : Stmt := PySem.Challenge.pw_oneshard_k20_fractions.main.body.getD i (.Pass ⟨0, 0, 0, 0⟩)
abbrev sOutOfRange_init : Stmt := inClass (top 3) 0
abbrev s_lowest : Stmt := top 5
abbrev s_common_divisor : Stmt := top 6
abbrev s_common_multiple : Stmt := top 7
abbrev sStart : Stmt := top 9
abbrev s_draw : Stmt := top 10
abbrev s_is_integer : Stmt := top 11
abbrev s_divisor : Stmt := top 12
abbrev s_integer : Stmt := top 13
abbrev s_right_fraction : Stmt := top 14
abbrev s_right_divisor : Stmt := top 15
abbrev s_numbers : Stmt := top 16
abbrev s_right_multiple : Stmt := top 17
abbrev sLaw : Stmt := top 18
end OS
namespace OS
open PySem L2
/-! ### the drawing state: a list of great cells, a list of cells, a count -/
theorem get_list {X : Cx} : PGet X (fun o i H Q => ∃ p xs k v, o = .ref p ∧ i = .int k ∧ SqL X.K H p xs ∧ 0 ≤ k ∧ k < 2 ^ 63 ∧ xs[k.toNat]? = some v ∧ Q v H) := by
  intro pins s σ H o i ov iv Q I ro ri h
  obtain ⟨p, xs, k, v, rfl, rfl, hS, h0, h1, hv, q⟩ := h
  cases ro
  obtain ⟨t, rfl⟩ := ri
  obtain ⟨its, r, pl, hz⟩ := Inv.list I hS
  obtain ⟨u, hu, ru⟩ := Vals.get r hv
  exact wpAny_getItem_list pl.isList h0 h1 (by rw [List.getElem?_toArray]; exact hu) ⟨v, H, I, ru, q⟩
structure BiD (mg : Str → Option Value) : Prop where
  len : mg "len" = none
  int : mg "int" = none
  abs : mg "abs" = none
  list : mg "list" = none
def Is (H : Hp) (st b : Addr) : Prop := ∃ x y z : V, H st = some (.lst [x, y, z]) ∧ (x = .ref b ∨ y = .ref b)
def Own (st : Addr) (H : Hp) (b : Addr) (o : HO) : Prop := H b = some o ∧ b ≠ st ∧ ¬ Is H st b
/-- what is neither the state nor its great cells stays -/
def Kd (st : Addr) (H H' : Hp) : Prop := ∀ b o, Own st H b o → Own st H' b o
theorem Kd.refl {st : Addr} (H : Hp) : Kd st H H := fun _ _ h => h
theorem Kd.trans {st : Addr} {H H1 H2 : Hp} (a : Kd st H H1) (b : Kd st H1 H2) : Kd st H H2 := fun x o h => b x o (a x o h)
structure Sx (H : Hp) (st bl cl : Addr) (c : Int) (bs ns : List Int) : Prop where
  s : H st = some (.lst [.ref bl, .ref cl, .int c])
  b : H bl = some (.lst (bs.map V.int))
  k : H cl = some (.lst (ns.map V.int))
  nb : st ≠ bl
  nc : st ≠ cl
  bc : bl ≠ cl
structure StD (H : Hp) (st : Addr) (m : Nat) : Prop where
  ex : ∃ (bl cl : Addr) (c : Int) (bs ns : List Int), Sx H st bl cl c bs ns ∧ 0 ≤ c ∧ c ≤ m ∧ bs.length ≤ 63 ∧ 0 < ns.length ∧ ns.length ≤ 64
theorem StD.mono {H : Hp} {st : Addr} {m n : Nat} (S : StD H st m) (h : m ≤ n) : StD H st n := by
  obtain ⟨bl, cl, c, bs, ns, x, a, b, d⟩ := S.ex
  exact ⟨bl, cl, c, bs, ns, x, a, by omega, d⟩
theorem StD.there {H : Hp} {st : Addr} {m : Nat} (S : StD H st m) : ∃ o, H st = some o := by
  obtain ⟨bl, cl, c, bs, ns, x, _⟩ := S.ex
  exact ⟨_, x.s⟩
theorem Sx.new {H : Hp} {st bl cl D : Addr} {c : Int} {bs ns : List Int} (x : Sx H st bl cl c bs ns) {o : HO} (h : H D = none) : Sx (L2.upd H D o) st bl cl c bs ns :=
  ⟨by rw [upd_ne (ne_of_none x.s h)]; exact x.s, by rw [upd_ne (ne_of_none x.b h)]; exact x.b, by rw [upd_ne (ne_of_none x.k h)]; exact x.k, x.nb, x.nc, x.bc⟩
theorem StD.new {H : Hp} {st D : Addr} {m : Nat} (S : StD H st m) {o : HO} (h : H D = none) : StD (L2.upd H D o) st m := by
  obtain ⟨bl, cl, c, bs, ns, x, a⟩ := S.ex
  exact ⟨bl, cl, c, bs, ns, x.new h, a⟩
theorem is_upd {H : Hp} {st D b : Addr} {o : HO} (h : st ≠ D) : Is (L2.upd H D o) st b → Is H st b := by
  rintro ⟨x, y, z, e, r⟩
  rw [upd_ne h] at e
  exact ⟨x, y, z, e, r⟩
theorem Kd.new {H : Hp} {st D : Addr} {o u : HO} (hs : H st = some u) (h : H D = none) : Kd st H (L2.upd H D o) := fun b v ⟨e, n, i⟩ =>
  ⟨by rw [upd_ne (ne_of_none e h)]; exact e, n, fun z => i (is_upd (ne_of_none hs h) z)⟩
/-- what is put in place of an own object: all others stay -/
theorem Sx.own {H : Hp} {st bl cl : Addr} {c : Int} {bs ns : List Int} (x : Sx H st bl cl c bs ns) : Is H st bl := ⟨_, _, _, x.s, .inl rfl⟩
theorem Sx.ownc {H : Hp} {st bl cl : Addr} {c : Int} {bs ns : List Int} (x : Sx H st bl cl c bs ns) : Is H st cl := ⟨_, _, _, x.s, .inr rfl⟩
theorem Kd.st {H : Hp} {st bl cl : Addr} {c d : Int} {bs ns : List Int} (x : Sx H st bl cl c bs ns) : Kd st H (L2.upd H st (.lst [.ref bl, .ref cl, .int d])) := fun b v ⟨e, n, i⟩ =>
  ⟨by rw [upd_ne n]; exact e, n, fun ⟨p, q, r, z, t⟩ => by
    rw [upd_same] at z
    cases z
    rcases t with t | t <;> cases t
    · exact i x.own
    · exact i x.ownc⟩
theorem Kd.bl {H : Hp} {st bl cl : Addr} {c : Int} {bs ns : List Int} {o : HO} (x : Sx H st bl cl c bs ns) : Kd st H (L2.upd H bl o) := fun b v ⟨e, n, i⟩ =>
  ⟨by rw [upd_ne (fun z => by subst z; exact i x.own)]; exact e, n, fun z => i (is_upd x.nb z)⟩
theorem Sx.st {H : Hp} {st bl cl : Addr} {c d : Int} {bs ns : List Int} (x : Sx H st bl cl c bs ns) : Sx (L2.upd H st (.lst [.ref bl, .ref cl, .int d])) st bl cl d bs ns :=
  ⟨upd_same, by rw [upd_ne x.nb.symm]; exact x.b, by rw [upd_ne x.nc.symm]; exact x.k, x.nb, x.nc, x.bc⟩
theorem Sx.bl {H : Hp} {st bl cl : Addr} {c : Int} {bs cs ns : List Int} (x : Sx H st bl cl c bs ns) : Sx (L2.upd H bl (.lst (cs.map V.int))) st bl cl c cs ns :=
  ⟨by rw [upd_ne x.nb]; exact x.s, upd_same, by rw [upd_ne x.bc.symm]; exact x.k, x.nb, x.nc, x.bc⟩
theorem Sx.next {H : Hp} {st bl cl p : Addr} {c : Int} {bs cs ns : List Int} (x : Sx H st bl cl c bs ns) (hp : H p = none) : Sx (L2.upd (L2.upd H p (.lst (cs.map V.int))) st (.lst [.ref p, .ref cl, .int c])) st p cl c cs ns :=
  ⟨upd_same, by rw [upd_ne (ne_of_none x.s hp).symm, upd_same], by rw [upd_ne x.nc.symm, upd_ne (ne_of_none x.k hp)]; exact x.k, ne_of_none x.s hp, x.nc, (ne_of_none x.k hp).symm⟩
theorem Kd.next {H : Hp} {st bl cl p : Addr} {c : Int} {bs ns : List Int} {o : HO} (x : Sx H st bl cl c bs ns) (hp : H p = none) : Kd st H (L2.upd (L2.upd H p o) st (.lst [.ref p, .ref cl, .int c])) := fun b v ⟨e, n, i⟩ =>
  ⟨by rw [upd_ne n, upd_ne (ne_of_none e hp)]; exact e, n, fun ⟨y, z, r, q, t⟩ => by
    rw [upd_same] at q
    cases q
    rcases t with t | t <;> cases t
    · rw [hp] at e
      cases e
    · exact i x.ownc⟩
theorem fmod_in {i j : Int} (h : 0 < j) : 0 ≤ i.fmod j ∧ i.fmod j < j := ⟨Int.fmod_nonneg_of_pos _ h, Int.fmod_lt_of_pos _ h⟩
theorem getD_int {ns : List Int} {k : Int} (h0 : 0 ≤ k) (h1 : k < (ns.length : Int)) : ∃ z : Int, (ns.map V.int)[k.toNat]? = some (V.int z) ∧ ns[k.toNat]? = some z := by
  have hk : k.toNat < ns.length := by omega
  refine ⟨ns[k.toNat], ?_, List.getElem?_eq_getElem hk⟩
  rw [List.getElem?_map, List.getElem?_eq_getElem hk]
  rfl
theorem atI_in {α : Type} {xs : List α} {k : Int} {v : α} (h0 : 0 ≤ k) (h : xs[k.toNat]? = some v) : atI xs k = some v := by
  have := atI_nat h
  rwa [Int.toNat_of_nonneg h0] at this
theorem ints_dp {K : PySem.W.Frag} {H : Hp} : ∀ (ns : List Int), DpAll K H (ns.map V.int) (ns.map PyData.int)
  | [] => .nil
  | n :: ns => .cons (.int n) (ints_dp ns)
theorem ints_shaped : ∀ l : List Int, PyData.canLayAll0 (l.map PyData.int) = true ∧ PyData.depthAll (l.map PyData.int) ≤ 1
  | [] => ⟨rfl, by simp [PyData.depthAll]⟩
  | j :: l => by
    obtain ⟨h1, h2⟩ := ints_shaped l
    refine ⟨?_, ?_⟩
    · rw [List.map_cons]; unfold PyData.canLayAll0; rw [h1]; rfl
    · rw [List.map_cons]; unfold PyData.depthAll; simp only [PyData.depth]; omega
theorem intsL_shaped (l : List Int) : PySem.SeqAt.shaped (.list (l.map PyData.int)) = true := by
  obtain ⟨h1, h2⟩ := ints_shaped l
  unfold SeqAt.shaped
  simp only [PyData.canLay0, PyData.depth, h1, Bool.true_and, Bool.and_true]
  first
    | exact decide_eq_true (by omega)
    | (simp; omega)
theorem eqv_nil (l : List Int) : PyData.eqv (.list (l.map PyData.int)) (.list []) = l.isEmpty := by
  cases l with
  | nil => decide +kernel
  | cons x l => simp [PyData.eqv, PyData.eqvAll]
end OS
namespace OS
open PySem L2
def spDraw : Sp := fun vs H Q _ => ∃ (st : Addr) (m : Nat) (size : Int), vs = [.ref st, .int size] ∧ StD H st m ∧ m ≤ 1000000000 ∧ 0 < size ∧ size < 18446744073709551616 ∧
  ∀ (n : Int) (H' : Hp), 0 ≤ n → n < size → StD H' st (m + 1) → Kd st H H' → Q (.int n) H'
def spStartD (K : PySem.W.Frag) : Sp := fun vs H Q _ => ∃ (a : Addr) (ns : List Int), vs = [.ref a] ∧ SqL K H a (ns.map V.int) ∧ ns.length ≤ 63 ∧
  ∀ (st : Addr) (H' : Hp), StD H' st 0 → Same H H' → H st = none → (∀ b o, H b = some o → Own st H' b o) → Q (.ref st) H'
section
variable {P : Program} {w : World} {K : PySem.W.Frag} {mg : Str → Option Value} {base : Heap}
abbrev nDraw : List Str := ["_law_state", "_law_size", "_law_digit", "_law_cell", "_law_one"]
theorem scDraw : FnScope nDraw ["_law_state", "_law_size"] (defScope s_draw) := ⟨rfl, rfl, rfl, by decide +kernel, rfl, by decide +kernel, by decide +kernel⟩
theorem ok_draw {f : Addr} {fd : FuncData} (F : Fun K "_law_draw" "_law_draw" s_draw f fd) (T : BiD mg) : FnOk P w K mg base CX0 1 f fd ["_law_state", "_law_size"] spDraw := by
  refine F.ok scDraw (fun vs H Q E h => ?_) (fun cdv A outer s H vs Q E hr h => ?_)
  · obtain ⟨st, m, size, rfl, _⟩ := h
    rfl
  · obtain ⟨st, m, size, rfl, S, hm, hl0, hl1, k⟩ := h
    obtain ⟨bl, cl, c, bs, ns, x, hc0, hc1, hb, hn0, hn⟩ := S.ex
    refine ⟨_, pss_cons (ps_augS (pv 0) pe_int get_list pe_int ip_add set_list)
      (C8.pss_cut (ps_while PassesOwn.never (PW.pt (pw_and (pt_cmpR (op_neD hr.units) (pe_ix ix_list (pv 0) pe_int fun _ _ => rfl) (pe_lst pa_nil) (nomark _)) (pw_and1 (pt_cmpR op_eq (pe_ix ix_list (pe_ix ix_list (pv 0) pe_int fun _ _ => rfl) pe_int fun _ _ => rfl) pe_int (nomark _)))))
        (pss_one (ps_asg (pe_slice sl_list (pe_ix ix_list (pv 0) pe_int fun _ _ => rfl) (po_some pe_int) po_none) (pg_sub (pv 0) pe_int set_list))))
      (pss_cons (ps_if (pt_cmpR (op_neD hr.units) (pe_ix ix_list (pv 0) pe_int fun _ _ => rfl) (pe_lst pa_nil) (nomark _))
        (pss_cons (ps_set (i := 2) scDraw.nd rfl (Or.inl rfl) (pe_op op_modN (pe_callTy call_int1 (by rfl) T.int (by decide +kernel) (pa_cons (pe_ix ix_list (pe_ix ix_list (pv 0) pe_int fun _ _ => rfl) pe_int fun _ _ => rfl) pa_nil)) (pv 1)))
        (pss_cons (ps_asg (pe_op op_fdivW (pe_ix ix_list (pe_ix ix_list (pv 0) pe_int fun _ _ => rfl) pe_int fun _ _ => rfl) (pv 1)) (pg_sub (pe_ix ix_list (pv 0) pe_int fun _ _ => rfl) pe_int set_list))
        (pss_one (ps_ret (pv 2))))) pss_nil)
      (pss_cons (ps_set (i := 3) scDraw.nd rfl (Or.inl rfl) (pe_op op_modN (pe_callTy call_int1 (by rfl) T.int (by decide +kernel) (pa_cons (pe_ix ix_list (pe_ix ix_list (pv 0) pe_int fun _ _ => rfl) (pe_op op_modN (pe_callTy call_int1 (by rfl) T.int (by decide +kernel) (pa_cons (pe_ix ix_list (pv 0) pe_int fun _ _ => rfl) pa_nil)) (pe_callB call_len_seq (by rfl) T.len PySem.boot_len (pa_cons (pe_ix ix_list (pv 0) pe_int fun _ _ => rfl) pa_nil))) fun _ _ => rfl) pa_nil)) pe_int))
      (pss_cons (ps_set (i := 4) scDraw.nd rfl (Or.inl rfl) (pe_op op_modN (pe_callTy call_int1 (by rfl) T.int (by decide +kernel) (pa_cons (pe_op op_pow (pe_op op_add (pe_op op_add (pe_op op_mul (pv 3) pe_int) (pe_op op_mul (pe_ix ix_list (pv 0) pe_int fun _ _ => rfl) pe_int)) pe_int) pe_int) pa_nil)) pe_int))
      (pss_one (ps_ret (pe_op op_modN (pe_op op_modN (pe_callTy call_int1 (by rfl) T.int (by decide +kernel) (pa_cons (pe_op op_pow (pe_op op_add (pe_op op_add (pe_op op_mul (pv 4) pe_int) (pe_op op_mul (pe_ix ix_list (pv 0) pe_int fun _ _ => rfl) pe_int)) pe_int) pe_int) pa_nil)) pe_int) (pv 1)))))))), ?_⟩
    -- state[2] += 1
    refine ⟨_, rfl, st, _, 2, V.int c, rfl, rfl, SqL.of x.s, by decide, by decide, rfl, ?_⟩
    refine ⟨_, _, rfl, rfl, ?_⟩
    refine ⟨st, _, _, 2, rfl, rfl, x.s, rfl, ?_⟩
    have x1 : Sx (L2.upd H st (.lst [.ref bl, .ref cl, .int (c + 1)])) st bl cl (c + 1) bs ns := x.st
    -- the zeros ahead
    let GG : List Int → Hp → Prop := fun bs H' => ∃ bl : Addr, Sx H' st bl cl (c + 1) bs ns ∧ bs.length ≤ 63 ∧ Kd st H H'
    have σ0 : ∀ p : Prop, p → p := fun _ h => h
    refine ⟨fun σ H' => ∃ bs', σ = [some (.ref st), some (.int size), none, none, none] ∧ GG bs' H', ?_, ?_⟩
    · refine ⟨fun n σ H' => ∃ bs', bs'.length = n ∧ σ = [some (.ref st), some (.int size), none, none, none] ∧ GG bs' H', ⟨bs.length, bs, rfl, rfl, bl, x1, hb, Kd.st x⟩, ?_⟩
      rintro n σ H1 ⟨bs1, rfl, rfl, bl1, y, hb1, kd⟩
      refine ⟨_, rfl, st, _, _, V.ref bl1, rfl, rfl, SqL.of y.s, rfl, ?_⟩
      refine ⟨by show 0 ≤ sizeLine; decide, fun l hl => ?_⟩
      have y2 := y.new (o := .lst []) hl
      refine ⟨_, _, .lst (SqL.of y2.b) (ints_dp bs1), .lst (SqL.of upd_same) .nil, intsL_shaped bs1, by decide +kernel, _, rfl, ?_⟩
      rw [eqv_nil]
      have kd2 := kd.trans (Kd.new (o := .lst []) y.s hl)
      cases bs1 with
      | nil =>
        refine iteF ?_
        exact ⟨[], rfl, bl1, y2, hb1, kd2⟩
      | cons b0 br =>
        refine iteT ?_
        refine ⟨_, rfl, st, _, _, V.ref bl1, rfl, rfl, SqL.of y2.s, rfl, bl1, _, _, V.int b0, rfl, rfl, SqL.of y2.b, atI_in (by decide) rfl, ?_⟩
        refine ⟨rfl, _, rfl, ?_⟩
        refine ite2 (fun _ => ?_) (fun _ => ?_)
        · refine ⟨fun σ' H' => ∃ bs', bs'.length = br.length ∧ σ' = [some (.ref st), some (.int size), none, none, none] ∧ GG bs' H', ?_, ?_⟩
          · rintro σ' H' ⟨bs', e, r⟩
            exact ⟨br.length, by simp, bs', e, r⟩
          · refine ⟨_, rfl, st, _, _, V.ref bl1, rfl, rfl, SqL.of y2.s, rfl, ?_⟩
            refine ⟨_, rfl, bl1, _, rfl, SqL.of y2.b, fun p hp => ?_⟩
            have ecut : cutV ((b0 :: br).map V.int) (some 1) none = br.map V.int := by
              have e1 : HT.sIx ((b0 :: br).map V.int).length 0 (some 1) = 1 := by
                unfold HT.sIx
                simp
              unfold cutV
              rw [e1]
              show List.take ((((b0 :: br).map V.int).length) - 1) (List.drop 1 ((b0 :: br).map V.int)) = _
              simp
              exact List.take_of_length_le (by simp)
            rw [ecut]
            have y3 := y2.next (cs := br) hp
            refine ⟨_, rfl, st, _, _, 0, rfl, rfl, by rw [upd_ne (ne_of_none y2.s hp)]; exact y2.s, rfl, ?_⟩
            exact ⟨br, rfl, rfl, p, y3, by simp at hb1; omega, kd2.trans (Kd.next y2 hp)⟩
        · exact ⟨b0 :: br, rfl, bl1, y2, hb1, kd2⟩
    rintro σ1 H1 ⟨bs1, rfl, bl1, y, hb1, kd⟩
    refine ⟨_, rfl, st, _, _, V.ref bl1, rfl, rfl, SqL.of y.s, rfl, ?_⟩
    refine ⟨by show 0 ≤ sizeLine; decide, fun l hl => ?_⟩
    have y2 := y.new (o := .lst []) hl
    have kd2 := kd.trans (Kd.new (o := .lst []) y.s hl)
    refine ⟨_, _, .lst (SqL.of y2.b) (ints_dp bs1), .lst (SqL.of upd_same) .nil, intsL_shaped bs1, by decide +kernel, _, rfl, ?_⟩
    rw [eqv_nil]
    cases bs1 with
    | cons b0 br =>
      refine iteT ?_
      refine ⟨_, rfl, st, _, _, V.ref bl1, rfl, rfl, SqL.of y2.s, rfl, bl1, _, _, V.int b0, rfl, rfl, SqL.of y2.b, atI_in (by decide) rfl, ?_⟩
      refine .inl ⟨_, rfl, ?_⟩
      refine ⟨_, rfl, _, _, rfl, rfl, (by show size ≠ 0; omega), ?_⟩
      obtain ⟨k0, k1⟩ := fmod_in (i := b0) hl0
      refine ⟨_, rfl, st, _, _, V.ref bl1, rfl, rfl, SqL.of y2.s, rfl, bl1, _, _, V.int b0, rfl, rfl, SqL.of y2.b, atI_in (by decide) rfl, ?_⟩
      refine ⟨_, rfl, _, _, rfl, rfl, wide_div (b := 64) hl0 (by omega) (by decide) (by decide), ?_⟩
      refine ⟨_, rfl, st, _, _, V.ref bl1, rfl, rfl, SqL.of y2.s, rfl, ?_⟩
      refine ⟨bl1, _, _, 0, rfl, rfl, y2.b, by show ixN _ 0 = some 0; unfold ixN; rw [if_pos (by decide), if_pos (by simp)]; rfl, ?_⟩
      refine ⟨_, rfl, ?_⟩
      have y3 := y2.bl (cs := b0 / size :: br)
      exact k _ _ k0 k1 ⟨bl1, cl, c + 1, _, ns, y3, by omega, by push_cast; omega, by simp at hb1 ⊢; omega, hn0, hn⟩ (kd2.trans (Kd.bl y2))
    | nil =>
      refine iteF ?_
      have r1 : ∀ i : Int, 0 ≤ i.fmod 2147483647 ∧ i.fmod 2147483647 < 2147483647 := fun i => fmod_in (by decide)
      refine ⟨_, rfl, st, _, _, V.ref cl, rfl, rfl, SqL.of y2.s, rfl, ?_⟩
      refine ⟨_, rfl, st, _, _, V.int (c + 1), rfl, rfl, SqL.of y2.s, rfl, .inl ⟨_, rfl, ?_⟩⟩
      refine ⟨_, rfl, st, _, _, V.ref cl, rfl, rfl, SqL.of y2.s, rfl, ?_⟩
      refine ⟨cl, _, rfl, .inl (SqL.of y2.k), ?_⟩
      have hL : (((ns.map V.int).length : Nat) : Int) = (ns.length : Int) := by rw [List.length_map]
      rw [hL]
      refine ⟨_, _, rfl, rfl, (by show (ns.length : Int) ≠ 0; omega), ?_⟩
      obtain ⟨i0, i1⟩ := fmod_in (i := c + 1) (j := (ns.length : Int)) (by omega)
      obtain ⟨at_, hat⟩ : ∃ a, a = (c + 1).fmod (ns.length : Int) := ⟨_, rfl⟩
      rw [← hat] at i0 i1
      obtain ⟨z, hz1, hz2⟩ := getD_int (ns := ns) (k := at_) i0 i1
      refine ⟨cl, _, at_, V.int z, rfl, (by show V.int _ = V.int _; rw [hat]), SqL.of y2.k, atI_in i0 hz1, ?_⟩
      refine .inl ⟨_, rfl, ?_⟩
      refine ⟨_, _, rfl, rfl, (by show (_ : Int) ≠ 0; decide), ?_⟩
      obtain ⟨y1, hy1⟩ : ∃ y, y = z.fmod 2147483647 := ⟨_, rfl⟩
      obtain ⟨q1, q2⟩ := r1 z
      rw [← hy1] at q1 q2
      rw [show (fun i j => V.int (Int.fmod i j)) z 2147483647 = V.int y1 by rw [hy1]]
      refine ⟨_, rfl, _, _, rfl, rfl, .inl ⟨by omega, by omega⟩, ?_⟩
      refine ⟨_, rfl, st, _, _, V.int (c + 1), rfl, rfl, SqL.of y2.s, rfl, _, _, rfl, rfl, .inl ⟨by omega, by omega⟩, ?_⟩
      refine ⟨_, _, rfl, rfl, _, _, rfl, rfl, ?_⟩
      refine ⟨_, _, rfl, rfl, ⟨by decide, by decide, ?_⟩, .inl ⟨_, rfl, ?_⟩⟩
      · show (y1 * 48271 + (c + 1) * 69621 + 7).natAbs < 2 ^ 64
        omega
      refine ⟨_, _, rfl, rfl, (by show (_ : Int) ≠ 0; decide), ?_⟩
      obtain ⟨q3, q4⟩ := r1 ((y1 * 48271 + (c + 1) * 69621 + 7) ^ (5 : Int).toNat)
      obtain ⟨y3, hy3⟩ : ∃ y, y = ((y1 * 48271 + (c + 1) * 69621 + 7) ^ (5 : Int).toNat).fmod 2147483647 := ⟨_, rfl⟩
      rw [← hy3] at q3 q4
      rw [show (fun i j => V.int (Int.fmod i j)) ((y1 * 48271 + (c + 1) * 69621 + 7) ^ (5 : Int).toNat) 2147483647 = V.int y3 by rw [hy3]]
      refine ⟨_, rfl, _, _, rfl, rfl, .inl ⟨by omega, by omega⟩, ?_⟩
      refine ⟨_, rfl, st, _, _, V.int (c + 1), rfl, rfl, SqL.of y2.s, rfl, _, _, rfl, rfl, .inl ⟨by omega, by omega⟩, ?_⟩
      refine ⟨_, _, rfl, rfl, _, _, rfl, rfl, ?_⟩
      refine ⟨_, _, rfl, rfl, ⟨by decide, by decide, ?_⟩, .inl ⟨_, rfl, ?_⟩⟩
      · show (y3 * 16807 + (c + 1) * 40692 + 13).natAbs < 2 ^ 64
        omega
      refine ⟨_, _, rfl, rfl, (by show (_ : Int) ≠ 0; decide), ?_⟩
      refine ⟨_, rfl, _, _, rfl, rfl, (by show size ≠ 0; omega), ?_⟩
      obtain ⟨k0, k1⟩ := fmod_in (i := ((y3 * 16807 + (c + 1) * 40692 + 13) ^ (5 : Int).toNat).fmod 2147483629) hl0
      exact k _ _ k0 k1 ⟨bl1, cl, c + 1, _, ns, y2, by omega, by push_cast; omega, hb1, hn0, hn⟩ kd2
abbrev nStartD : List Str := ["_law_script", "_law_cell"]
theorem scStartD : FnScope nStartD ["_law_script"] (defScope sStart) := ⟨rfl, rfl, rfl, by decide +kernel, rfl, by decide +kernel, by decide +kernel⟩
theorem ok_startD {f : Addr} {fd : FuncData} (F : Fun K "_law_start" "_law_start" sStart f fd) (T : BiD mg) : FnOk P w K mg base CX0 1 f fd ["_law_script"] (spStartD K) := by
  refine F.ok scStartD (fun vs H Q E h => ?_) (fun cdv A outer s H vs Q E hr h => ?_)
  · obtain ⟨a, ns, rfl, _⟩ := h
    rfl
  · obtain ⟨a, ns, rfl, hS, hn, k⟩ := h
    refine ⟨_, pss_one (ps_ret (pe_lst (pa_cons (pe_lc (own := [("_law_cell", 1)]) (g := gName 1) rfl scStartD.nd (pi_list (pv 0)) (blkOk_by (own := [("_law_cell", 1)]) (N := nStartD) (sc := defScope sStart) (by decide +kernel))
        (fun _ _ _ _ _ => pg_name (i := 1) scStartD.nd rfl (Or.inl rfl)) (fun _ _ _ _ _ => pts_one (pt_cmpR op_ge (pe_callB call_abs (by rfl) T.abs (by decide +kernel) (pa_cons (pv 1) pa_nil)) (pe_op op_pow pe_int pe_int) (nomark _)))
        (fun _ _ _ _ _ => pe_callB call_abs (by rfl) T.abs (by decide +kernel) (pa_cons (pv 1) pa_nil)))
      (pa_cons (pe_op op_cat (pe_callTy call_list_of (by rfl) T.list (by decide +kernel) (pa_cons (pv 0) pa_nil)) (pe_lst (pa_cons pe_int pa_nil))) (pa_cons pe_int pa_nil))))), ?_⟩
    refine ⟨_, rfl, a, rfl, ⟨_, hS⟩, fun D hD => lc_list (K := K) (a := a) (xs := ns.map V.int) (fun i H' => Same H H' ∧ ∃ bs : List Int, H' D = some (.lst (bs.map V.int)) ∧ bs.length ≤ i) ⟨?_, [], ?_, ?_⟩ (fun i H' _ h => h.1.seq hS) ?_ ?_⟩
    · intro b o e
      rw [upd_ne (ne_of_none e hD)]
      exact e
    · rw [upd_same]
      rfl
    · exact Nat.le_refl _
    · intro i x H' hi ⟨s1, bs, s2, s3⟩
      obtain ⟨z, hz, rfl⟩ : ∃ z, ns[i]? = some z ∧ x = V.int z := by
        rw [List.getElem?_map] at hi
        cases e : ns[i]? with
        | none => rw [e] at hi; cases hi
        | some z => rw [e] at hi; exact ⟨z, rfl, (Option.some.inj hi).symm⟩
      have hil : i < ns.length := (List.getElem?_eq_some_iff.mp hz).1
      refine ⟨rfl, ?_⟩
      refine ⟨_, rfl, _, rfl, _, _, rfl, rfl, ⟨by decide, by decide, by decide⟩, _, _, rfl, rfl, _, rfl, ?_⟩
      refine ite2 (fun _ => ?_) (fun _ => ?_)
      · refine ⟨_, rfl, _, rfl, ?_⟩
        refine ⟨_, s2, ?_, ?_, bs ++ [if z < 0 then -z else z], ?_, ?_⟩
        · rw [List.length_map]
          exact small1000 (by omega)
        · intro b o e
          rw [upd_ne (ne_of_none e hD)]
          exact s1 b o e
        · rw [upd_same, List.map_append]
          rfl
        · rw [List.length_append]
          show bs.length + 1 ≤ i + 1
          omega
      · exact ⟨s1, bs, s2, by omega⟩
    · intro H' ⟨s1, bs, s2, s3⟩
      rw [List.length_map] at s3
      refine ⟨_, rfl, a, _, rfl, .inl (s1.seq hS), fun l hl => ?_⟩
      refine ⟨by show 1 ≤ sizeLine; decide, fun l2 hl2 => ?_⟩
      have e1 : (L2.upd (L2.upd H' l (.lst (ns.map V.int))) l2 (.lst [V.int 5])) l = some (.lst (ns.map V.int)) := by
        rw [upd_ne (ne_of_none (o := .lst (ns.map V.int)) upd_same hl2), upd_same]
      refine ⟨l, l2, _, _, rfl, rfl, e1, upd_same, ?_, fun p hp => ?_⟩
      · rw [List.length_map]
        show ns.length + 1 ≤ sizeLine
        exact Nat.le_of_lt (small1000 (by omega))
      refine ⟨by show 3 ≤ sizeLine; decide, fun st hst => ?_⟩
      have hlt : ∀ b o, H' b = some o → b ≠ l ∧ b ≠ l2 ∧ b ≠ p ∧ b ≠ st := by
        intro b o e
        have n1 := ne_of_none e hl
        have e2 : (L2.upd H' l (.lst (ns.map V.int))) b = some o := by rw [upd_ne n1]; exact e
        have n2 := ne_of_none e2 hl2
        have e3 : (L2.upd (L2.upd H' l (.lst (ns.map V.int))) l2 (.lst [V.int 5])) b = some o := by rw [upd_ne n2]; exact e2
        have n3 := ne_of_none e3 hp
        have e4 : (L2.upd (L2.upd (L2.upd H' l (.lst (ns.map V.int))) l2 (.lst [V.int 5])) p (.lst (ns.map V.int ++ [V.int 5]))) b = some o := by rw [upd_ne n3]; exact e3
        exact ⟨n1, n2, n3, ne_of_none e4 hst⟩
      have hps : p ≠ st := ne_of_none upd_same hst
      obtain ⟨d1, d2, d3, d4⟩ := hlt D _ s2
      have x : Sx (L2.upd (L2.upd (L2.upd (L2.upd H' l (.lst (ns.map V.int))) l2 (.lst [V.int 5])) p (.lst (ns.map V.int ++ [V.int 5]))) st (.lst [.ref D, .ref p, .int 0])) st D p 0 bs (ns ++ [5]) := by
        refine ⟨upd_same, ?_, ?_, d4.symm, hps.symm, d3⟩
        · rw [upd_ne d4, upd_ne d3, upd_ne d2, upd_ne d1]
          exact s2
        · rw [upd_ne hps, upd_same, List.map_append]
          rfl
      have keep : ∀ b o, H b = some o → b ≠ D ∧ (L2.upd (L2.upd (L2.upd (L2.upd H' l (.lst (ns.map V.int))) l2 (.lst [V.int 5])) p (.lst (ns.map V.int ++ [V.int 5]))) st (.lst [.ref D, .ref p, .int 0])) b = some o ∧ b ≠ st := by
        intro b o e
        obtain ⟨n1, n2, n3, n4⟩ := hlt b o (s1 b o e)
        refine ⟨ne_of_none e hD, ?_, n4⟩
        rw [upd_ne n4, upd_ne n3, upd_ne n2, upd_ne n1]
        exact s1 b o e
      have hstn : H st = none := by
        cases e : H st with
        | none => rfl
        | some o => exact absurd rfl (keep st o e).2.2
      refine k st _ ⟨D, p, 0, bs, ns ++ [5], x, by decide, by decide, by omega, by simp, by simp; omega⟩ (fun b o e => (keep b o e).2.1) hstn (fun b o e => ⟨(keep b o e).2.1, (keep b o e).2.2, fun ⟨y, z, r, e2, t⟩ => ?_⟩)
      rw [x.s] at e2
      cases e2
      rcases t with t | t <;> cases t
      · exact (keep _ o e).1 rfl
      · exact (hlt _ o (s1 _ o e)).2.2.1 rfl
end
end OS
namespace OS
open PySem PySem.Spec PySem.W PySem.Calls PyProof.Rows PySem.HandSPX
open Builtin Builtin.ObjectAttr
section
variable {M : Model} {A : Around} {E : Value → Shared → Prop} {h : Heap} {g : Array GenState} {d : Drawn} {t : Nat} {os : OsState}
variable {nm q : Str} {C N : Addr} {bs bm bmB : List Value} {hdct : Bool} {sn : List Str} {sub : List Value} {ab : Bool} {col : Option Bool} {dd : Option Addr} {k0 k1 k2 k3 k5 : Option Value} {B newId initId : String}
theorem check_new_kw (F : ExcBaseFacts B newId initId bmB) (hT : ∀ X : String, bm.contains (.type X) = bmB.contains (.type X)) {rest : List Value} {kw : List (Str × Value)} {Q : Unit → Shared → Prop}
    (hC : h.get? C = some (excClassObj nm q C N bs bm hdct sn sub ab col dd k0 k1 k2 k3 k5 newId)) (hq : Q () ⟨h, g, d, t, os⟩) : wpAny M A (checkBuiltinCall newId ⟨.ref C :: rest, kw⟩) Q E ⟨h, g, d, t, os⟩ := by
  have hcont : (Value.ref C :: bm).contains (.type B) = true := by rw [List.contains_cons, hT, F.hasB, Bool.or_true]
  have hstar := F.noStar
  simp only [checkBuiltinCall, F.newKind, F.newSplit, F.newRow]
  repeat (first | refine wpAny_loadPart_at hC ?_ | (refine wpAny_isSubtype_exc hC ?_; rw [hcont]) | refine wpAny_staticBase_exc hC ?_ | refine wpAny_madeBy_exc hC ?_ | simp only [bne_self_eq_false, Bool.false_eq_true, if_false] | wp_step)
  exact hq
theorem check_type_kw {rest : List Value} {kw : List (Str × Value)} {Q : Unit → Shared → Prop} (hC : h.get? C = some (excClassObj nm q C N bs bm hdct sn sub ab col dd k0 k1 k2 k3 k5 newId))
    (hq : Q () ⟨h, g, d, t, os⟩) : wpAny M A (checkBuiltinCall "type.__call__" ⟨.ref C :: rest, kw⟩) Q E ⟨h, g, d, t, os⟩ := by
  have f3 := tc_sub
  have hT : (⟨h, g, d, t, os⟩ : Shared).TypeIs (.ref C) "type" := ⟨_, hC, rfl⟩
  simp only [checkBuiltinCall, tc_kind, tc_split]
  repeat (any_goals (first | assumption | with_reducible refine wpAny_loadPart_at hC ?_ | with_reducible refine wpAny_onRaise ?_ | with_reducible refine wpAny_map ?_ | wp_step))
end
section
variable {prog : Program} {w : World} {A : Around} {E : Value → Shared → Prop} {R : Result → Shared → Prop} {h : Heap} {g : Array GenState} {d : Drawn} {t : Nat} {os : OsState}
variable {nm q : Str} {C N : Addr} {bs bm bmB : List Value} {hdct : Bool} {sn : List Str} {sub : List Value} {ab : Bool} {col : Option Bool} {dd : Option Addr} {k0 k1 k2 k3 k5 : Option Value} {B newId initId : String}
theorem new_kw (F : ExcBaseFacts B newId initId bmB) (hT : ∀ X : String, bm.contains (.type X) = bmB.contains (.type X)) {rest : List Value} {kw : List (Str × Value)}
    (hC : h.get? C = some (excClassObj nm q C N bs bm hdct sn sub ab col dd k0 k1 k2 k3 k5 newId))
    (hq : R (.ok (.ret (.ref (h.objs.size + 1)))) ⟨(h.push { cls := .type "tuple", data := .seq rest.toArray }).push
      { cls := .ref C, data := .fields #[.ref h.objs.size, .none, .none, .none, .bool false, .none] }, g, d, t, os⟩) (hrest : rest.length ≤ sizeLine) :
    codeAny (model prog w) A (.builtin newId ⟨.ref C :: rest, kw⟩) R ⟨h, g, d, t, os⟩ := by
  have hends := F.ends
  have hcB : (Value.ref C :: bm).contains (.type B) = true := by rw [List.contains_cons, hT, F.hasB, Bool.or_true]
  have hcA : (Value.ref C :: bm).contains (.type "AttributeError") = false := by rw [List.contains_cons, hT, F.noAttr]; rfl
  have hcN : (Value.ref C :: bm).contains (.type "NameError") = false := by rw [List.contains_cons, hT, F.noName]; rfl
  refine codeAny_builtinAt F.entry ?_
  unfold Builtin.«BaseException.__new__»
  refine PyProof.Rows.wpAt_bind ?_
  show PyProof.Rows.wpAt _ _ _ (stack >>= _) _ _ _
  refine PyProof.Rows.wpAt_bind (PyProof.Rows.wpAt_stack fun p below => wpAt_of_wpAny ?_)
  wp_walk
  refine wpAt_of_wpAny ?_
  rw [F.owner]
  repeat (first | with_reducible refine wpAny_madeHere_exc F.canon hC ?_ | with_reducible refine wpAny_loadPart_at hC ?_ | (with_reducible refine wpAny_isSubtype_exc hC ?_; first | rw [hcB] | rw [hcA] | rw [hcN]) | wp_step)
  show R _ _
  rw [Heap.size_push]
  exact hq
theorem type_call_kw (F : ExcBaseFacts B newId initId bmB) (hT : ∀ X : String, bm.contains (.type X) = bmB.contains (.type X)) {rest : List Value} {kw : List (Str × Value)} {fI : Addr} {Q : Fin → Shared → Prop}
    (hC : h.get? C = some (excClassObj nm q C N bs bm hdct sn sub ab col dd k0 k1 k2 k3 k5 newId))
    (hi : W.Looks (model prog w) h (typeLookup (.ref C) "__init__") (some (.ref fI))) (hb : ∀ self, W.Looks (model prog w) h (bindSpecial (.ref fI) self) (.ref fI, [self])) (hrest : rest.length ≤ sizeLine)
    (hq : codeAny (model prog w) A (.call (.ref fI) ⟨.ref (h.objs.size + 1) :: rest, kw⟩)
      (fun r s' => match r with | .ok (.ret v) => v = .none ∧ Q (.done (.ret (.ref (h.objs.size + 1)))) s' | .ok _ => False | .error e => E e s')
      ⟨(h.push (W.kdv_tup rest)).push (excO C h.objs.size), g, d, t, os⟩) :
    wpAny (model prog w) A (Builtin.«type.__call__» ⟨.ref C :: rest, kw⟩) Q E ⟨h, g, d, t, os⟩ := by
  repeat (first | with_reducible refine wpAny_loadPart_at hC ?_ | with_reducible refine wpAny_madeBy_exc hC ?_ | wp_step)
  refine codeAny_call_builtin_code (Code.quiet_builtin _ F.quiet) (check_new_kw F hT hC ?_)
  refine new_kw F hT hC ?_ hrest
  show wpAny _ _ _ _ _ _
  have k : ∀ b o, h.get? b = some o → ((h.push (W.kdv_tup rest)).push (excO C h.objs.size)).get? b = some o := fun b o e => Heap.get?_push_of_some _ (Heap.get?_push_of_some _ e)
  have hC₁ := k _ _ hC
  have hget : ((h.push (W.kdv_tup rest)).push (excO C h.objs.size)).get? (h.objs.size + 1) = some (excO C h.objs.size) := by heap_get
  have hcC : (Value.ref C :: bm).contains (.ref C) = true := by simp
  have i1 := hi.keeps k
  have b1 := (hb (.ref (h.objs.size + 1))).keeps k
  unfold isInstance
  repeat (first | with_reducible refine wpAny_loadPart_at hget ?_ | (with_reducible refine wpAny_isSubtype_exc hC₁ ?_; rw [hcC]) | wp_step)
  show wpAny _ _ (typeLookup (.ref C) _) _ _ _
  refine i1.at ?_
  refine wpAny_holding (wpAny_bind (b1.at ?_))
  refine wpAny_bind (wpAny_call (codeAny_mono hq fun r s' z => ?_))
  rcases r with e | (v | _ | _ | _) <;> first | exact z | exact z.elim | skip
  obtain ⟨rfl, z⟩ := z
  first
    | exact wpAny_pure (wpAny_pure z)
    | (wp_walk; exact z)
theorem call_own_kw (F : ExcBaseFacts B newId initId bmB) (hT : ∀ X : String, bm.contains (.type X) = bmB.contains (.type X)) {rest : List Value} {kw : List (Str × Value)} {fI : Addr}
    (hC : h.get? C = some (excClassObj nm q C N bs bm hdct sn sub ab col dd k0 k1 k2 k3 k5 newId))
    (hi : W.Looks (model prog w) h (typeLookup (.ref C) "__init__") (some (.ref fI))) (hb : ∀ self, W.Looks (model prog w) h (bindSpecial (.ref fI) self) (.ref fI, [self])) (hrest : rest.length ≤ sizeLine)
    (hq : codeAny (model prog w) (A.under (.builtin "type.__call__" ⟨.ref C :: rest, kw⟩)) (.call (.ref fI) ⟨.ref (h.objs.size + 1) :: rest, kw⟩) (W.InitBack (h.objs.size + 1) R)
      ⟨(h.push (W.kdv_tup rest)).push (excO C h.objs.size), g, d, t, os⟩) :
    codeAny (model prog w) A (.call (.ref C) ⟨rest, kw⟩) R ⟨h, g, d, t, os⟩ := by
  have f1 := tc_lookup
  have f2 := tc_bind (.ref C)
  have hTy : (⟨h, g, d, t, os⟩ : Shared).TypeIs (.ref C) "type" := ⟨_, hC, rfl⟩
  refine codeAny_of_tree ?_
  show wpAny _ _ (callAny (.ref C) _) _ _ _
  repeat (any_goals (first | assumption | with_reducible refine wpAny_loadPart_at hC ?_ | wp_step))
  refine ⟨rfl, ?_⟩
  refine codeAny_call_builtin_at (Code.quiet_builtin _ (by decide +kernel)) entry_typeCall (check_type_kw hC (type_call_kw F hT hC hi hb hrest ?_))
  refine codeAny_mono hq fun r s' z => ?_
  rcases r with e | (v | _ | _ | _) <;> exact z
end
end OS
namespace OS
open PySem PySem.Spec PySem.Calls PyProof.Rows PySem.W
section
variable {prog : Program} {w : World} {A : Around} {E : Value → Shared → Prop} {s : Shared} {K : Frag} {x D : Addr} {ox od : Obj}
/-- e.__class__ of an error that has its own dict -/
theorem class_of_err {Q : Option Value → Shared → Prop} (hga : findIn K (.ref D) "__getattribute__" = some (some (.builtin "BaseException.__getattribute__"))) (hgt : findIn K (.ref D) "__getattr__" = some none) (hsub : subIn K (.ref D) (.type "BaseException") = some true)
    (hdct : hasDictIn K D = true) (ha : findIn K (.ref D) "__class__" = some (some (.builtin "object.__class__")))
    (hn : specialIn K (.builtin "object.__class__") "__get__" = some (some (.builtin "getset_descriptor.__get__"))) (htk : takesIn K (.builtin "object.__class__") = some true) (hm : mroIn K D (.type "object") = some true)
    (X : K.In s.heap) (I : InstAt s.heap x ox D (some od)) (h : Q (some (.ref D)) { s with toks := s.toks + 1 }) : wpAny (model prog w) A (getAttr? (.ref x) "__class__") Q E s := by
  have hf : findObj K D (some od) "__class__" = some (.bind (.builtin "getset_descriptor.__get__") (.builtin "object.__class__")) := findObj_data (by obtain ⟨cd, hc, _⟩ := any_some hdct; rw [hc]; rfl) ha hn htk
  obtain ⟨hp, g, d, t, os⟩ := s
  have L0 := I.type (M := model prog w)
  have L1 := looks_findIn (M := model prog w) X hga
  have L2 := looks_findIn (M := model prog w) X hgt
  have L3 := looks_find (M := model prog w) X I hf
  have sub : Looks (model prog w) hp (isInstance (.ref x) (.type "BaseException")) true := L0.andThen (looks_subIn X hsub)
  have hx0 : (false && onTheHeap (Value.builtin "BaseException.__getattribute__")) = false := rfl
  have hx2 : (Value.builtin "BaseException.__getattribute__" == Value.builtin "object.__getattribute__") = false := by decide +kernel
  have hx1 : (onTheHeap (Value.ref D) && Value.builtin "BaseException.__getattribute__" == Value.builtin "object.__getattribute__") = false := by rw [hx2]; rfl
  unfold getAttr? getAttrBy? getAttrBy
  refine wpAny_bind (wpAny_mkText (wpAny_bind (wpAny_attempt (wpAny_holding (wpAny_bind (L0.at (wpAny_bind (L1.at ?_))))))))
  show wpAny _ _ (if (onTheHeap (Value.ref D) && Value.builtin "BaseException.__getattribute__" == Value.builtin "object.__getattribute__") = true then _ else _) _ _ _
  rw [hx1, if_neg Bool.false_ne_true]
  unfold getAttrByItsOwn hookBefore
  refine wpAny_bind ?_
  rw [if_pos (show onTheHeap (Value.ref D) = true from rfl)]
  refine L2.at ?_
  refine wpAny_bind (wpAny_attempt (wpAny_holding ?_))
  unfold callGetattribute
  rw [hx0, if_neg Bool.false_ne_true]
  unfold boundAndCalled
  rw [PySem.F.excAttr_ValueError.ga.bind (.ref x)]
  refine wpAny_bind (wpAny_pure ?_)
  show wpAny _ _ (call (.builtin "BaseException.__getattribute__") [.ref x, .str "__class__" t]) _ _ _
  refine wpAny_call (codeAny_call_builtin PySem.F.excAttr_ValueError.ga.plain PySem.F.entry_bexc_ga ?_)
  refine @check_slot (model prog w) _ _ ⟨hp, g, d, t + 1, os⟩ "BaseException.__getattribute__" "BaseException" "__getattribute__" (.ref x) [.str "__class__" t] [] _ (by decide +kernel) (by decide +kernel) sub (PySem.F.args_bexc_ga (.ref x) (.str "__class__" t)) ?_
  unfold Builtin.«object.__getattribute__»
  refine wpAny_bind (wpAny_of_eq (a := ((Value.ref x : Value), [Value.str "__class__" t])) (by first | rfl | (simp only [slotArgs]; rfl)) ?_)
  refine wpAny_bind (wpAny_pure (wpAny_bind (L0.at (wpAny_bind (L3.at ?_)))))
  show wpAny _ _ (holding [Value.builtin "object.__class__"] (call (.builtin "getset_descriptor.__get__") [.builtin "object.__class__", .ref x, .ref D]) >>= ret) _ _ _
  refine wpAny_bind (wpAny_holding (wpAny_call (class_get (s := ⟨hp, g, d, t + 1, os⟩) (ox := ox) (od := some od) X I hm ?_)))
  refine wpAny_pure ?_
  show wpAny _ _ (handedOut (.ref D)) _ _ _
  rw [handedOut_of (v := .ref D) rfl]
  first
    | exact wpAny_pure (wpAny_pure h)
    | exact wpAny_pure h
    | exact wpAny_pure (wpAny_bind (wpAny_pure (wpAny_pure h)))
theorem kit_err (hga : findIn K (.ref D) "__getattribute__" = some (some (.builtin "BaseException.__getattribute__"))) (hgt : findIn K (.ref D) "__getattr__" = some none) (hsub : subIn K (.ref D) (.type "BaseException") = some true) (hdct : hasDictIn K D = true) (ha : findIn K (.ref D) "__class__" = some (some (.builtin "object.__class__")))
    (hn : specialIn K (.builtin "object.__class__") "__get__" = some (some (.builtin "getset_descriptor.__get__"))) (htk : takesIn K (.builtin "object.__class__") = some true) (hm : mroIn K D (.type "object") = some true) :
    KitX K (.ref x) (.ref D) (fun h => InstAt h x ox D (some od)) where
  ty := fun _ _ _ I => I.type
  it := fun _ _ X _ => by
    obtain ⟨cdD, hcD, _⟩ := any_some hdct
    unfold clsIn at hcD
    split at hcD
    · rename_i c' d' cd' sl' ho
      intro A' Q' E' s' k q
      unfold isType loadHead
      exact wpAny_bind (wpAny_loadPart (k _ _ (X _ _ ho)) (wpAny_pure q))
    · cases hcD
  ne := (handS_kitx_exc (x := x) (ox := ox) hga hgt hsub hdct ha hn htk hm).ne
  ca := fun X I k => class_of_err hga hgt hsub hdct ha hn htk hm X I k
end
end OS
namespace OS
open PySem L2 PySem.Spec PyProof.Rows
section
variable {X : Cx} {CX : CXT} {k n : Nat} {fI C : Addr} {fd : FuncData} {ps ks : List Str} {sp : Sp} {x : Str} {p pos : Pos} {e : Expr} {es : List Expr} {kws : List Keyword} {t tk : TA} {ds : List Value} {dvs : List V} {g : List Value → List Value → List Value} {gV : List V → List V → List V}
/-- C(e, ..), an own error with its own __init__, held as a value -/
def tMkV (C : Addr) (sp : Sp) (dvs : List V) (ta : TA) : TE := fun σ H Q => ta σ H fun vs H1 => vs.length ≤ 1000 ∧ ∀ a, H1 a = none → sp (.ref a :: (vs ++ dvs)) (L2.upd H1 a (exo a C none)) (fun v H2 => v = .non ∧ Q (.ref a) H2) (fun _ _ _ => False)
theorem pe_oex (T : OexC X.K C) (iC : PySem.W.findIn X.K (.ref C) "__init__" = some (some (.ref fI))) (tI : PySem.W.typeIn X.K (.ref fI) = some (.type "function"))
    (F1 : FnOk X.prog X.w X.K X.mg X.base CX k fI fd ps sp) (hr : Room (k + 1) X.A) (hb : Binds X.K fd ps ds) (hd : Vals dvs ds) (hx : Passes CX X (fun _ _ _ => False)) (hg : Gl X x) (hm : X.mg x = some (.ref C)) (ha : PA X (e :: es) t)
    (hdb : (x == ("__debug__" : Str)) = false := by decide) (he : starEach (e :: es) X.env = (false, eval e X.env) :: starEach es X.env := by rfl) (hpl : (backTo pos (starEach es X.env)).any (·.1) = false := by rfl) :
    PE X (.Call (.Name x p) (e :: es) [] pos) (tMkV C sp dvs t) := by
  refine ⟨fun pins s σ H Q I h => ?_⟩
  obtain ⟨nm, q, N, bs, bm, sn, sub, ab, col, dd, k0, k1, k2, k3, k5, hC, hbm⟩ := T.cls
  refine wpAny_Call_Name_kw (ld_glob I hg hm ?_ hdb)
  refine PySem.W.callWith_K (h₀ := X.base) I.ok.mod.kin T.kC (thn (ha.run pos pins s σ H _ I h) fun us s1 ⟨vs, H1, I1, r1, hz, q1⟩ => ⟨I1.kIn, ?_⟩) he hpl
  show wpAny _ _ (call (.ref C) us) _ _ _
  obtain ⟨hp, g, dr, tk, os⟩ := s1
  have hsz : hp.objs.size ≤ hp.objs.size + 1 := Nat.le_succ _
  have hn : H1 (hp.objs.size + 1) = none := I1.hok.fresh hsz
  have hq := q1 (hp.objs.size + 1) hn
  have kk : ∀ b o, hp.get? b = some o → ((hp.push (PySem.W.kdv_tup us)).push (PySem.HandSPX.excO C hp.objs.size)).get? b = some o := fun b o e => Heap.get?_push_of_some _ (Heap.get?_push_of_some _ e)
  have hget : ((hp.push (PySem.W.kdv_tup us)).push (PySem.HandSPX.excO C hp.objs.size)).get? (hp.objs.size + 1) = some (PySem.HandSPX.excO C hp.objs.size) := by heap_get
  have I2 : Inv X pins σ (L2.upd H1 (hp.objs.size + 1) (exo (hp.objs.size + 1) C none)) ⟨(hp.push (PySem.W.kdv_tup us)).push (PySem.HandSPX.excO C hp.objs.size), g, dr, tk, os⟩ :=
    I1.laid (t' := tk) (a := hp.objs.size + 1) (o := exo (hp.objs.size + 1) C none) (h' := (hp.push (PySem.W.kdv_tup us)).push (PySem.HandSPX.excO C hp.objs.size)) kk hsz (exo_ok hget)
  have r2 : Vals (V.ref (hp.objs.size + 1) :: (vs ++ dvs)) (Value.ref (hp.objs.size + 1) :: (us ++ ds)) := .cons rfl (r1.append hd)
  have hl : (Value.ref (hp.objs.size + 1) :: us ++ ds).length = ps.length := by
    have e := r2.length
    rw [F1.len _ _ _ _ hq] at e
    exact e.symm
  have hus : us.length ≤ sizeLine := by
    rw [← Paired.length r1, sizeLine_eq]
    omega
  refine wpAny_call (PySem.HandSPX.call_own F.excBase_ValueError (fun Y => PySem.HandSPX.refsVE_contains Y bm hbm) (I1.kIn _ _ hC) (PySem.W.looks_findIn I1.kIn iC) (fun self => PySem.W.bind_fn I1.kIn self tI) hus
    (codeAny_mono (F1.run _ X.stack _ _ ⟨Value.ref (hp.objs.size + 1) :: us, []⟩ (Value.ref (hp.objs.size + 1) :: (us ++ ds)) _ _ (fun _ _ _ => False) (hr.make C us []) (I2.env0.make C us []) (hb _ (Value.ref (hp.objs.size + 1) :: us) I2.kIn hl) r2 hq) fun r s' hq' => ?_))
  cases r with
  | error er => exact hx pins σ _ _ er s' I2 hq'
  | ok fl =>
    cases fl with
    | ret u =>
      obtain ⟨v, H', I3, rv, ev, q3⟩ := I2.after hq'
      subst ev
      exact ⟨rv, ⟨V.ref (hp.objs.size + 1), H', I3, rfl, q3⟩⟩
    | next => exact False.elim hq'
    | brk => exact False.elim hq'
    | cont => exact False.elim hq'
theorem run_oexK {pins : List (Addr × Obj)} {σ : L2.St} {H1 : Hp} {s1 : Shared} {Q : VK} {us ws : List Value} {vs zs : List V} (T : OexC X.K C) (iC : PySem.W.findIn X.K (.ref C) "__init__" = some (some (.ref fI))) (tI : PySem.W.typeIn X.K (.ref fI) = some (.type "function"))
    (F1 : FnOk X.prog X.w X.K X.mg X.base CX k fI fd ps sp) (hr : Room (k + 1) X.A) (hb : KBn X.K fd ps (n + 1) ks g gV) (hx : Passes CX X (fun _ _ _ => False)) (I1 : Inv X pins σ H1 s1) (r1 : Vals vs us) (rz : Vals zs ws) (l1 : vs.length = n) (l2 : zs.length = ks.length) (hz : vs.length ≤ 1000)
    (q1 : ∀ a, H1 a = none → sp (gV (.ref a :: vs) zs) (L2.upd H1 a (exo a C none)) (fun v H2 => v = .non ∧ Q (.ref a) H2) (fun _ _ _ => False)) :
    wpAny (model X.prog X.w) X.A (call (.ref C) us (ks.zip ws)) (EP X pins σ Q) X.xe s1 := by
  obtain ⟨nm, q, N, bs, bm, sn, sub, ab, col, dd, k0, k1, k2, k3, k5, hC, hbm⟩ := T.cls
  obtain ⟨hp, g', dr, tk, os⟩ := s1
  have hsz : hp.objs.size ≤ hp.objs.size + 1 := Nat.le_succ _
  have hn : H1 (hp.objs.size + 1) = none := I1.hok.fresh hsz
  have hq := q1 (hp.objs.size + 1) hn
  have kk : ∀ b o, hp.get? b = some o → ((hp.push (PySem.W.kdv_tup us)).push (PySem.HandSPX.excO C hp.objs.size)).get? b = some o := fun b o e => Heap.get?_push_of_some _ (Heap.get?_push_of_some _ e)
  have hget : ((hp.push (PySem.W.kdv_tup us)).push (PySem.HandSPX.excO C hp.objs.size)).get? (hp.objs.size + 1) = some (PySem.HandSPX.excO C hp.objs.size) := by heap_get
  have I2 : Inv X pins σ (L2.upd H1 (hp.objs.size + 1) (exo (hp.objs.size + 1) C none)) ⟨(hp.push (PySem.W.kdv_tup us)).push (PySem.HandSPX.excO C hp.objs.size), g', dr, tk, os⟩ :=
    I1.laid (t' := tk) (a := hp.objs.size + 1) (o := exo (hp.objs.size + 1) C none) (h' := (hp.push (PySem.W.kdv_tup us)).push (PySem.HandSPX.excO C hp.objs.size)) kk hsz (exo_ok hget)
  have r0 : Vals (V.ref (hp.objs.size + 1) :: vs) (Value.ref (hp.objs.size + 1) :: us) := .cons rfl r1
  have r2 := hb.rel r0 rz
  have n1 : (Value.ref (hp.objs.size + 1) :: us).length = n + 1 := by
    rw [List.length_cons, ← r1.length, l1]
  have hus : us.length ≤ sizeLine := by
    rw [← Paired.length r1, sizeLine_eq]
    omega
  refine wpAny_call (call_own_kw F.excBase_ValueError (fun Y => PySem.HandSPX.refsVE_contains Y bm hbm) (I1.kIn _ _ hC) (PySem.W.looks_findIn I1.kIn iC) (fun self => PySem.W.bind_fn I1.kIn self tI) hus
    (codeAny_mono (F1.run _ X.stack _ _ ⟨Value.ref (hp.objs.size + 1) :: us, ks.zip ws⟩ (g (Value.ref (hp.objs.size + 1) :: us) ws) _ _ (fun _ _ _ => False) (hr.make C us (ks.zip ws)) (I2.env0.make C us (ks.zip ws))
      (hb.to _ (Value.ref (hp.objs.size + 1) :: us) ws I2.kIn n1 (rz.length.symm.trans l2)) r2 hq) fun r s' hq' => ?_))
  cases r with
  | error er => exact hx pins σ _ _ er s' I2 hq'
  | ok fl =>
    cases fl with
    | ret u =>
      obtain ⟨v, H', I3, rv, ev, q3⟩ := I2.after hq'
      subst ev
      exact ⟨rv, ⟨V.ref (hp.objs.size + 1), H', I3, rfl, q3⟩⟩
    | next => exact False.elim hq'
    | brk => exact False.elim hq'
    | cont => exact False.elim hq'
def tMkVK (C : Addr) (n m : Nat) (sp : Sp) (gV : List V → List V → List V) (t tk : TA) : TE := fun σ H Q => t σ H fun vs H1 => tk σ H1 fun zs H2 => vs.length = n ∧ zs.length = m ∧ n ≤ 1000 ∧
  ∀ a, H2 a = none → sp (gV (.ref a :: vs) zs) (L2.upd H2 a (exo a C none)) (fun v H3 => v = .non ∧ Q (.ref a) H3) (fun _ _ _ => False)
theorem pe_oexK0 (T : OexC X.K C) (iC : PySem.W.findIn X.K (.ref C) "__init__" = some (some (.ref fI))) (tI : PySem.W.typeIn X.K (.ref fI) = some (.type "function"))
    (F1 : FnOk X.prog X.w X.K X.mg X.base CX k fI fd ps sp) (hr : Room (k + 1) X.A) (hb : KBn X.K fd ps 1 ks g gV) (hx : Passes CX X (fun _ _ _ => False)) (hg : Gl X x) (hm : X.mg x = some (.ref C)) (hkw : PK X kws tk)
    (hall : (backToKw pos (keywordEach kws X.env)).all (·.1.isSome) = true := by rfl) (hks : (backToKw pos (keywordEach kws X.env)).filterMap (·.1) = ks := by rfl) (hdb : (x == ("__debug__" : Str)) = false := by decide)
    (hpl : ((backTo pos (starEach [] X.env)).any (·.1) || (backToKw pos (keywordEach kws X.env)).any (·.1.isNone)) = false := by rfl) :
    PE X (.Call (.Name x p) [] kws pos) (tMkVK C 0 ks.length sp gV tNil tk) := by
  refine ⟨fun pins s σ H Q I h => ?_⟩
  refine wpAny_Call_Name_kw (ld_glob I hg hm ?_ hdb)
  refine PySem.W.callWith_KW0 (h₀ := X.base) I.ok.mod.kin T.kC hall ?_ hpl
  refine thn (hkw.run pos pins s σ H _ I h) fun ws s2 ⟨zs, H2, I2, rz, l1, l2, lz, q2⟩ => ⟨I2.kIn, ?_⟩
  rw [hks]
  exact run_oexK (n := 0) (us := []) (vs := []) T iC tI F1 hr hb hx I2 .nil rz rfl l2 (by decide) q2
theorem pe_oexK (T : OexC X.K C) (iC : PySem.W.findIn X.K (.ref C) "__init__" = some (some (.ref fI))) (tI : PySem.W.typeIn X.K (.ref fI) = some (.type "function"))
    (F1 : FnOk X.prog X.w X.K X.mg X.base CX k fI fd ps sp) (hr : Room (k + 1) X.A) (hb : KBn X.K fd ps (n + 1) ks g gV) (hx : Passes CX X (fun _ _ _ => False)) (hg : Gl X x) (hm : X.mg x = some (.ref C)) (ha : PA X (e :: es) t) (hkw : PK X kws tk)
    (hall : (backToKw pos (keywordEach kws X.env)).all (·.1.isSome) = true := by rfl) (hks : (backToKw pos (keywordEach kws X.env)).filterMap (·.1) = ks := by rfl) (hdb : (x == ("__debug__" : Str)) = false := by decide)
    (he : starEach (e :: es) X.env = (false, eval e X.env) :: starEach es X.env := by rfl) (hpl : ((backTo pos (starEach (e :: es) X.env)).any (·.1) || (backToKw pos (keywordEach kws X.env)).any (·.1.isNone)) = false := by rfl) :
    PE X (.Call (.Name x p) (e :: es) kws pos) (tMkVK C n ks.length sp gV t tk) := by
  refine ⟨fun pins s σ H Q I h => ?_⟩
  refine wpAny_Call_Name_kw (ld_glob I hg hm ?_ hdb)
  refine PySem.W.callWith_KW (h₀ := X.base) I.ok.mod.kin T.kC hall (thn (ha.run pos pins s σ H _ I h) fun us s1 ⟨vs, H1, I1, r, q⟩ => ?_) hpl he
  refine thn (hkw.run pos pins s1 σ H1 _ I1 q) fun ws s2 ⟨zs, H2, I2, rz, l1, l2, lz, q2⟩ => ⟨I2.kIn, ?_⟩
  rw [hks]
  exact run_oexK T iC tI F1 hr hb hx I2 r rz l1 l2 (by omega) q2
/-- X(), an own error without own __init__, as a value -/
theorem pe_exc0 {bmB : List Value} {B newId initId : String} (F : ExcBaseFacts B newId initId bmB) (q : PySem.W.excIn X.K C bmB newId = true) (gC : X.mg x = some (.ref C)) (kC : PySem.W.keepIn X.K (.ref C) = true) (hg : Gl X x)
    (hdb : (x == ("__debug__" : Str)) = false := by decide) :
    PE X (.Call (.Name x p) [] [] pos) (fun σ H Q => ∀ a, H a = none → Q (.ref a) (L2.upd H a (ExO (.ref C) a))) := by
  refine ⟨fun pins s σ H Q I h => ?_⟩
  refine wpAny_Call_Name_kw (ld_glob I hg gC ?_ hdb)
  refine PySem.W.callWith_K0 I.kIn kC ?_
  show wpAny _ _ (call (.ref C) []) _ _ _
  obtain ⟨bm, N, nm, qn, bs, hdct, sn, sub, ab, col, dd, k0, k1, k2, k3, k5, mN, hC, hN, hni, T⟩ := exc_obj I.kIn q
  refine wpAny_call_exc_subT F T hC hN hni (fun h' a hm => ?_) (by show 0 ≤ sizeLine; exact Nat.zero_le _)
  have hn : H a = none := I.hok.gone hm.new
  obtain ⟨t, ht, _, _⟩ := hm.there
  exact ⟨.ref a, L2.upd H a (ExO (.ref C) a), I.laidN hm.keeps hm.new hn (exO_ok ht ⟨rfl, rfl⟩ rfl rfl rfl (show 4 < 6 by decide)), rfl, h a hn⟩
/-- e.f of such a value -/
def tXv (C : Addr) (f : Str) (te : TE) : TE := fun σ H Q => te σ H fun x H1 => ∃ (a dd : Addr) (fs : List (Str × V)) (v : V), x = .ref a ∧ H1 a = some (exo a C (some dd)) ∧ H1 dd = some (exd dd fs) ∧ fs.lookup f = some v ∧ Q v H1
theorem pe_xv {e : Expr} {te : TE} {f : Str} (T : XfC X.K C) (hno : PySem.W.findIn X.K (.ref C) f = some none) (he : PE X e te) (hb : attributeBase e f X.env (eval e X.env) = eval e X.env := by rfl) : PE X (.Attribute e f pos) (tXv C f te) := by
  refine ⟨fun pins s σ H Q I h => ?_⟩
  refine attr_of hb (thn (he.run pins s σ H _ I h) fun u s1 hh => ?_)
  obtain ⟨x, H1, I1, rx, a, dd, fs, v, ex, ea, ed, l, q⟩ := hh
  subst ex
  obtain rfl : u = Value.ref a := rx
  obtain ⟨t1, ha⟩ := exo_at I1.hok ea
  obtain ⟨mA, hns, hr⟩ := exd_at I1.hok ed
  obtain ⟨od, ho, hl⟩ := lookIn_ns hns
  obtain ⟨u, hu, ru⟩ := RelO.some_of (v := v) (o := mA f) (by rw [← l]; exact hr f)
  have J : PySem.W.InstAt s1.heap a _ C (some od) := ⟨ha, rfl, rfl, ho⟩
  exact HandSPX.exc_get I1.kIn J T.ga T.gg T.exC (PySem.W.findObj_own T.hdC hno rfl (by rw [hl, hu])) (handed_of ru) ⟨v, H1, I1.tok _, ru, q⟩
/-- isinstance of such a value -/
def ErrV (H : Hp) (a D : Addr) : Prop := (∃ dd fs, H a = some (exo a D (some dd)) ∧ H dd = some (exd dd fs)) ∨ H a = some (ExO (.ref D) a)
def rIsV (K : PySem.W.Frag) : List V → Hp → VK → Prop := fun xs H Q => ∃ (a D : Addr) (c : V) (cv : Value) (b : Bool), xs = [.ref a, c] ∧ ErrV H a D ∧ ExcC K D ∧ (∀ u, RelV c u → u = cv) ∧ PySem.W.kitOne K (.ref D) cv = some b ∧ Q (.bl b) H
theorem call_isV : CallR X (.builtin "isinstance") (rIsV X.K) := by
  intro pins s σ H xs us Q I r h
  obtain ⟨a, D, c, cv, b, rfl, ev, C, hcv, e, q⟩ := h
  cases r with
  | cons rx rr =>
    cases rr with
    | cons rt rr =>
      cases rr
      cases rx
      have ec := hcv _ rt
      subst ec
      rcases ev with ⟨dd, fs, ea, ed⟩ | ea
      · obtain ⟨t1, ha⟩ := exo_at I.hok ea
        obtain ⟨mA, hns, hr⟩ := exd_at I.hok ed
        obtain ⟨od, ho, hl⟩ := lookIn_ns hns
        have J : PySem.W.InstAt s.heap a _ D (some od) := ⟨ha, rfl, rfl, ho⟩
        exact PySem.W.kia_one (kit_err C.hg C.hk C.hs C.hd C.ha C.hn C.ht C.hm) I.kIn J e (fun z => nomatch z) fun tk => ⟨.bl b, H, I.kept (t' := tk) fun _ _ z => z, rfl, q⟩
      · obtain ⟨⟨oe, vs, ho, hz, hd, h1, _⟩, _, _⟩ := I.hok a _ ea
        have J : PySem.W.InstAt s.heap a oe D none := by
          obtain ⟨oc, od, oda, osl⟩ := oe
          obtain ⟨h1, h2⟩ := hz
          dsimp only at h1 h2 hd
          subst h1 h2 hd
          exact ⟨ho, rfl, rfl, trivial⟩
        exact PySem.W.kia_one (PySem.W.handS_kitx_exc C.hg C.hk C.hs C.hd C.ha C.hn C.ht C.hm) I.kIn J e (fun z => nomatch z) fun tk => ⟨.bl b, H, I.kept (t' := tk) fun _ _ z => z, rfl, q⟩
end
end OS
namespace OS
open PySem L2 PySem.Spec PyProof.Rows
section
variable {X : Cx} {CX : CXT} {k : Nat} {f : Addr} {fd : FuncData} {ps ks : List Str} {sp : Sp} {E : L2.St → XK} {x : Str} {p pos : Pos} {kws : List Keyword} {tk : TA} {g : List Value → List Value → List Value} {gV : List V → List V → List V}
/-- f(k = v, ..): keywords only; what is raised is wished for at the caller's slots -/
def tCallKS (m : Nat) (sp : Sp) (gV : List V → List V → List V) (E : L2.St → XK) (tk : TA) : TE := fun σ H Q => tk σ H fun zs H1 => zs.length = m ∧ sp (gV [] zs) H1 Q (E σ)
theorem pe_callKS0 (F : FnOk X.prog X.w X.K X.mg X.base CX k f fd ps sp) (hr : Room k X.A) (hg : Gl X x) (hm : X.mg x = some (.ref f)) (hk : PySem.W.keepIn X.K (.ref f) = true) (hb : KBn X.K fd ps 0 ks g gV) (hx : ∀ σ, PassesAt CX X σ (E σ)) (hkw : PK X kws tk)
    (hall : (backToKw pos (keywordEach kws X.env)).all (·.1.isSome) = true := by rfl) (hks : (backToKw pos (keywordEach kws X.env)).filterMap (·.1) = ks := by rfl) (hdb : (x == ("__debug__" : Str)) = false := by decide)
    (hpl : ((backTo pos (starEach [] X.env)).any (·.1) || (backToKw pos (keywordEach kws X.env)).any (·.1.isNone)) = false := by rfl) :
    PE X (.Call (.Name x p) [] kws pos) (tCallKS ks.length sp gV E tk) := by
  refine ⟨fun pins s σ H Q I h => ?_⟩
  refine wpAny_Call_Name_kw (ld_glob I hg hm ?_ hdb)
  refine PySem.W.callWith_KW0 (h₀ := X.base) I.ok.mod.kin hk hall ?_ hpl
  refine thn (hkw.run pos pins s σ H _ I h) fun ws s2 ⟨zs, H2, I2, rz, l2, q2⟩ => ⟨I2.kIn, ?_⟩
  rw [hks]
  have r2 := hb.rel (vs := []) (us := []) .nil rz
  refine wpAny_call (codeAny_mono (F.run X.A X.stack s2 H2 ⟨[], ks.zip ws⟩ (g [] ws) (gV [] zs) Q (E σ) hr I2.env0 (hb.to s2 [] ws I2.kIn rfl (rz.length.symm.trans l2)) r2 q2) fun r s' hq => ?_)
  cases r with
  | error e => exact hx σ pins H2 s2 e s' I2 hq
  | ok fl =>
    cases fl with
    | ret u => exact I2.after hq
    | next => exact False.elim hq
    | brk => exact False.elim hq
    | cont => exact False.elim hq
end
/-! ### isinstance of a caught error with its own dict; a def called in an except suite -/
section
variable {X : Cx} {a D dd : Addr} {oe : Obj} {pn : List (Addr × Obj)}
def rIsEd (K : PySem.W.Frag) (cls : Value) (D a : Addr) (d : Option Addr) : List V → Hp → VK → Prop := fun xs H Q => ∃ (c : V) (cv : Value) (b : Bool), xs = [.ref a, c] ∧ cls = .ref D ∧ (∃ dd fs, d = some dd ∧ H dd = some (.xd fs)) ∧ (∀ u, RelV c u → u = cv) ∧ PySem.W.kitOne K (.ref D) cv = some b ∧ Q (.bl b) H
theorem call_isEd {cls : Value} {d : Option Addr} (C : ExcC X.K D) (hz : Zc cls d oe) (hf : ∃ vs, oe.data = .fields vs) : CallR (X.suite a ((a, oe) :: pn)) (.builtin "isinstance") (rIsEd X.K cls D a d) := by
  intro pins s σ H xs us Q I r h
  obtain ⟨c, cv, b, rfl, rfl, ⟨dd, fs, rfl, hd⟩, hcv, e, q⟩ := h
  cases r with
  | cons rx rr =>
    cases rr with
    | cons rt rr =>
      cases rr
      cases rx
      have ec := hcv _ rt
      subst ec
      obtain ⟨ha, _⟩ := I.pin (a, oe) (List.mem_append_left pins List.mem_cons_self)
      obtain ⟨vs, hdat⟩ := hf
      obtain ⟨mA, hns, hr⟩ := I.hok dd (HO.xd fs) hd
      obtain ⟨od, ho, hl⟩ := lookIn_ns hns
      have J : PySem.W.InstAt s.heap a oe D (some od) := by
        obtain ⟨oc, odd, oda, osl⟩ := oe
        obtain ⟨h1, h2⟩ := hz
        dsimp only at h1 h2 hdat
        subst h1 h2 hdat
        exact ⟨ha, rfl, rfl, ho⟩
      exact PySem.W.kia_one (kit_err C.hg C.hk C.hs C.hd C.ha C.hn C.ht C.hm) I.kIn J e (fun z => nomatch z) fun tk => ⟨.bl b, H, I.kept (t' := tk) fun _ _ z => z, rfl, q⟩
end
section
variable {P : Program} {w : World} {K : PySem.W.Frag} {mg : Str → Option Value} {base : Heap} {x qual : Str} {st : Stmt} {f : Addr} {fd : FuncData} {N ps : List Str} {k : Nat} {sp : Sp}
theorem okH (F : Fun K x qual st f fd) (S : FnScope N ps (defScope st)) (len : ∀ vs H Q E, sp vs H Q E → vs.length = ps.length)
    (hbody : ∀ (cdv : Value) (A : Around) (outer : List Env) (s : Shared) (H : Hp) (vs : List V) (Q : VK) (E : XK) (p : Addr × Obj), L2H.Hot1 A p → L2H.RoomH k (A.deeper (PyProof.Rows.envOfC qual (defScope st) s.heap.objs.size f cdv)) → sp vs H Q E →
      ∃ t, PSs (L2H.cxH CX0 P w K mg base N qual (defScope st) f cdv A outer s H E p) (defBody st) t ∧ t { nx := fun _ H' => Q .non H', rt := Q } (L2.start N vs) H) : L2H.FnH P w K mg base CX0 (k + 1) f fd ps sp := by
  obtain ⟨oc, od, kV, doc, pm, an, cdv, ct, osl, rfl, lk, hcd⟩ := F.ex
  exact L2H.fn_ofH lk hcd S len fun A outer s H vs Q E p h1 hr hsp => hbody cdv A outer s H vs Q E p h1 hr hsp
end
end OS
namespace OS
open PySem L2 PySem.Spec PyProof.Rows
/-! ### a def called where an exception may be handled: nothing leaves it -/
abbrev cxC (P : Program) (w : World) (K : PySem.W.Frag) (mg : Str → Option Value) (base : Heap) (N : List Str) (qual : Str) (scope : Scope) (f : Addr) (cd : Value) (A : Around) (outer : List Env) (s : Shared) (H : Hp) (E : XK) : Cx :=
  { cxOf CX0 P w K mg base N qual scope f cd A outer s H E with calm := false }
structure FnC (P : Program) (w : World) (K : PySem.W.Frag) (mg : Str → Option Value) (base : Heap) (k : Nat) (f : Addr) (fd : FuncData) (ps : List Str) (sp : Sp) : Prop where
  len : ∀ vs H Q E, sp vs H Q E → vs.length = ps.length
  run : ∀ (A : Around) (outer : List Env) (s : Shared) (H : Hp) (args : Args) (us : List Value) (vs : List V) (Q : VK) (E : XK), L2H.RoomH k A → Env0 P w K mg base A outer s H → BindsTo s fd args (ps.zip us) → Vals vs us → sp vs H Q E → codeAny (model P w) A (.call (.ref f) args) (CR CX0 outer P w H s Q E) s
section
variable {P : Program} {w : World} {K : PySem.W.Frag} {mg : Str → Option Value} {base : Heap} {x qual : Str} {st : Stmt} {f : Addr} {fd : FuncData} {N ps : List Str} {k : Nat} {sp : Sp}
theorem inv_startC {scope : Scope} {cd : Value} {A : Around} {outer : List Env} {s s1 : Shared} {H : Hp} {E : XK} {us : List Value} {vs : List V} (S : FnScope N ps scope) (e0 : Env0 P w K mg base A outer s H) (hl : vs.length = ps.length) (r : Vals vs us)
    (x : InCallC s s.heap.objs.size (bindL (PyProof.Rows.envOfC qual scope s.heap.objs.size f cd).kindOf (ps.zip us) fun _ => none) (cellsFrom (s.heap.objs.size + 1) scope.names []) (bindC (PyProof.Rows.envOfC qual scope s.heap.objs.size f cd).kindOf (ps.zip us) fun _ => none) s1) :
    Inv (cxC P w K mg base N qual scope f cd A outer s H E) [] (L2.start N vs) H s1 := by
  have e1 : Env0 P w K mg base { A with handled := none } outer s H := ⟨e0.frames, e0.mod, e0.bs, e0.bsz, e0.funs, e0.frf, e0.hok, e0.bare⟩
  have J := inv_start (CX := CX0) (A := { A with handled := none }) (E := E) S rfl e1 hl r x
  exact ⟨⟨J.ok.mod, J.ok.kind, J.ok.glob, J.ok.blt, J.ok.above, J.ok.inj, J.ok.has, J.ok.cab, fun z => Bool.noConfusion z, Around.frames_deeper e0.frames, J.ok.stk, J.ok.exf, J.ok.bs, J.ok.bsz, J.ok.noex, J.ok.exfs, J.ok.funs, J.ok.frf⟩,
    J.os, J.bare, J.base, J.loc, J.cell, J.free, J.freeC, J.pin, J.hok, J.len⟩
theorem Fun.okC (F : Fun K x qual st f fd) (S : FnScope N ps (defScope st)) (len : ∀ vs H Q E, sp vs H Q E → vs.length = ps.length)
    (hbody : ∀ (cdv : Value) (A : Around) (outer : List Env) (s : Shared) (H : Hp) (vs : List V) (Q : VK) (E : XK), L2H.RoomH k (A.deeper (PyProof.Rows.envOfC qual (defScope st) s.heap.objs.size f cdv)) → sp vs H Q E →
      ∃ t, PSs (cxC P w K mg base N qual (defScope st) f cdv A outer s H E) (defBody st) t ∧ t { nx := fun _ H' => Q .non H', rt := Q } (L2.start N vs) H) : FnC P w K mg base (k + 1) f fd ps sp := by
  obtain ⟨oc, od, kV, doc, pm, an, cdv, ct, osl, rfl, lk, hcd⟩ := F.ex
  refine ⟨len, fun A outer s H args us vs Q E hr e0 hb r hsp => ?_⟩
  have hl := len vs H Q E hsp
  have KX := PySem.W.Frag.In.keeps e0.mod.kin fun b o e => (e0.bs b o e).left
  have lim := Heap.NoLimit.keeps e0.mod.nolimit fun b o e => (e0.bs b o e).left
  have hkind : ∀ y ∈ ps.zip us, List.lookup y.1 (defScope st).names = some NameKind.local ∨ List.lookup y.1 (defScope st).names = some NameKind.cell ∧ (List.lookup y.1 (cellsFrom (s.heap.objs.size + 1) (defScope st).names [])).isSome = true := by
    rintro ⟨n, v⟩ hy
    rcases S.par n (List.of_mem_zip hy).left with q | q
    · exact .inl q
    · exact .inr ⟨q, PySem.W.cellsFrom_some (defScope st).names (s.heap.objs.size + 1) [] (Or.inl q)⟩
  refine codeAny_call_function (L2H.RoomH.depth hr) (KX f _ lk) rfl S.co S.gen rfl (PySem.W.codeRec_of KX hcd) (hb (model P w) A.in1 _ _ ?_)
  refine wpAny_newFunctionEnv_cells S.kind hkind fun env he s1 x => ?_
  subst he
  refine ⟨Heap.NoLimit.keeps lim x.toInCall.keep, codeAny_func ?_⟩
  obtain ⟨t, ht, hq⟩ := hbody cdv A outer s H vs Q E (L2H.RoomH.deeper hr (PyProof.Rows.envOfC qual (defScope st) s.heap.objs.size f cdv)) hsp
  have I := inv_startC (E := E) S e0 hl r x
  refine wpAny_mono (ht.run [] s1 (L2.start N vs) H { nx := fun _ H' => Q V.non H', rt := Q } I hq) (fun fl s' hs => ?_) fun e s' hs => hs
  have fin : ∀ {σ' : L2.St} {H' : Hp} {v : V} {u : Value}, Inv (cxC P w K mg base N qual (defScope st) f cdv A outer s H E) [] σ' H' s' → RelV v u → Q v H' → CR CX0 outer P w H s Q E (.ok (.ret u)) s' := fun {σ' H' v u} J rv q => ⟨v, H', J.os, J.bare, J.base, J.hok, rv, q⟩
  cases fl with
  | next => obtain ⟨σ', H', J, q⟩ := hs; exact fin (v := .non) (u := .none) J rfl q
  | brk => obtain ⟨_, _, _, q⟩ := hs; exact False.elim q
  | cont => obtain ⟨_, _, _, q⟩ := hs; exact False.elim q
  | ret u => obtain ⟨v, σ', H', J, rv, q⟩ := hs; exact fin J rv q
end
section
variable {X : Cx} {k : Nat} {f : Addr} {fd : FuncData} {ps : List Str} {sp : Sp} {x : Str} {p pos : Pos} {e : Expr} {es : List Expr} {t : TA}
theorem pe_callC (F : FnC X.prog X.w X.K X.mg X.base k f fd ps sp) (hr : L2H.RoomH k X.A) (hg : Gl X x) (hm : X.mg x = some (.ref f)) (hk : PySem.W.keepIn X.K (.ref f) = true) (hb : Binds X.K fd ps []) (ha : PA X (e :: es) t)
    (hdb : (x == ("__debug__" : Str)) = false := by decide) (he : starEach (e :: es) X.env = (false, eval e X.env) :: starEach es X.env := by rfl) (hpl : (backTo pos (starEach es X.env)).any (·.1) = false := by rfl) :
    PE X (.Call (.Name x p) (e :: es) [] pos) (fun σ H Q => t σ H fun vs H1 => sp vs H1 Q E0) := by
  refine ⟨fun pins s σ H Q I h => ?_⟩
  refine wpAny_Call_Name_kw (ld_glob I hg hm ?_ hdb)
  refine PySem.W.callWith_K (h₀ := X.base) I.ok.mod.kin hk (thn (ha.run pos pins s σ H _ I h) fun us s1 ⟨vs, H1, I1, r, q⟩ => ⟨I1.kIn, ?_⟩) he hpl
  have hl : (us ++ []).length = ps.length := by rw [List.append_nil, ← r.length, F.len _ _ _ _ q]
  have b := hb s1 us I1.kIn hl
  rw [List.append_nil] at b
  refine wpAny_call (codeAny_mono (F.run X.A X.stack s1 H1 ⟨us, []⟩ us vs Q E0 hr I1.env0 b r q) fun r s' hq => ?_)
  cases r with
  | error e => exact False.elim hq
  | ok fl =>
    cases fl with
    | ret u => exact I1.after hq
    | next => exact False.elim hq
    | brk => exact False.elim hq
    | cont => exact False.elim hq
end
end OS
namespace OS
open PySem L2
/-! ### fractions: the numbers -/
def lowD (n d : Int) : Int := if d < 0 then -((n.natAbs.gcd d.natAbs : Nat) : Int) else ((n.natAbs.gcd d.natAbs : Nat) : Int)
theorem low_parts (n d : Int) (hd : d ≠ 0) : lowD n d ≠ 0 ∧ (lowD n d).natAbs ≤ d.natAbs ∧ ∃ a b : Int, n.fdiv (lowD n d) = a ∧ d.fdiv (lowD n d) = b ∧ a * d = b * n ∧ 1 ≤ b ∧ a.natAbs.gcd b.natAbs = 1 ∧ a.natAbs ≤ n.natAbs ∧ b.natAbs ≤ d.natAbs := by
  obtain ⟨g, hg⟩ : ∃ g : Nat, g = n.natAbs.gcd d.natAbs := ⟨_, rfl⟩
  have hdp : 0 < d.natAbs := by omega
  have gp : 0 < g := by rw [hg]; exact Nat.gcd_pos_of_pos_right _ hdp
  have gle : g ≤ d.natAbs := by rw [hg]; exact Nat.gcd_le_right _ hdp
  have gn : (g : Int) ∣ n := Int.natAbs_dvd_natAbs.mp (by rw [Int.natAbs_natCast, hg]; exact Nat.gcd_dvd_left _ _)
  have gd : (g : Int) ∣ d := Int.natAbs_dvd_natAbs.mp (by rw [Int.natAbs_natCast, hg]; exact Nat.gcd_dvd_right _ _)
  obtain ⟨a0, ha⟩ := gn
  obtain ⟨b0, hb⟩ := gd
  have hco : a0.natAbs.gcd b0.natAbs = 1 := by
    have e : n.natAbs.gcd d.natAbs = g * a0.natAbs.gcd b0.natAbs := by
      rw [ha, hb, Int.natAbs_mul, Int.natAbs_mul, Int.natAbs_natCast, Nat.gcd_mul_left]
    rw [← hg] at e
    exact Nat.eq_of_mul_eq_mul_left gp (by omega)
  have hna : a0.natAbs ≤ n.natAbs := by
    rw [ha, Int.natAbs_mul, Int.natAbs_natCast]
    exact Nat.le_mul_of_pos_left _ gp
  have hnb : b0.natAbs ≤ d.natAbs := by
    rw [hb, Int.natAbs_mul, Int.natAbs_natCast]
    exact Nat.le_mul_of_pos_left _ gp
  have gp' : (0 : Int) < (g : Int) := by omega
  unfold lowD
  rw [← hg]
  by_cases h : d < 0
  · rw [if_pos h]
    refine ⟨by omega, by omega, -a0, -b0, ?_, ?_, ?_, ?_, ?_, ?_, ?_⟩
    · rw [show n = (-(g : Int)) * (-a0) from ha.trans (Int.neg_mul_neg _ _).symm]
      exact Int.mul_fdiv_cancel_left _ (by omega)
    · rw [show d = (-(g : Int)) * (-b0) from hb.trans (Int.neg_mul_neg _ _).symm]
      exact Int.mul_fdiv_cancel_left _ (by omega)
    · rw [ha, hb]
      have : ∀ x y z : Int, -x * (z * y) = -y * (z * x) := by intro x y z; rw [Int.neg_mul, Int.neg_mul, Int.mul_left_comm x z y, Int.mul_left_comm y z x, Int.mul_comm x y]
      exact this _ _ _
    · have : b0 < 0 := by
        rcases Int.lt_or_le b0 0 with q | q
        · exact q
        · have := Int.mul_nonneg (Int.le_of_lt gp') q
          omega
      omega
    · rw [Int.natAbs_neg, Int.natAbs_neg]; exact hco
    · rw [Int.natAbs_neg]; exact hna
    · rw [Int.natAbs_neg]; exact hnb
  · rw [if_neg h]
    refine ⟨by omega, by omega, a0, b0, ?_, ?_, ?_, ?_, hco, hna, hnb⟩
    · rw [show n = (g : Int) * a0 from ha]
      exact Int.mul_fdiv_cancel_left _ (by omega)
    · rw [show d = (g : Int) * b0 from hb]
      exact Int.mul_fdiv_cancel_left _ (by omega)
    · rw [ha, hb]
      have : ∀ x y z : Int, x * (z * y) = y * (z * x) := by intro x y z; rw [Int.mul_left_comm x z y, Int.mul_left_comm y z x, Int.mul_comm x y]
      exact this _ _ _
    · have : 0 < b0 := by
        rcases Int.lt_or_le 0 b0 with q | q
        · exact q
        · have := Int.mul_nonneg (Int.le_of_lt gp') (show 0 ≤ -b0 by omega)
          have e : (g : Int) * -b0 = -((g : Int) * b0) := Int.mul_neg _ _
          omega
      omega
/-- the floor of a quotient, the divisor not 0 -/
def CDivZ : Int → Int → Prop := fun _ j => j ≠ 0 ∧ j.natAbs.log2 < 9000
theorem op_fdivZ {X : Cx} : OpR X (binaryOp .FloorDiv) (rI CDivZ fun i j => V.int (i.fdiv j)) :=
  opI fun i j t u s Q E hc q => PyProof.Rows.floordiv_int hc.1 q (Or.inl (PyProof.noPylong_of_log2 hc.2))
theorem cdivZ {i j : Int} {b : Nat} (h : j ≠ 0) (hb : j.natAbs < 2 ^ b) (h0 : 0 < b) (h9 : b ≤ 9000) : CDivZ i j := ⟨h, Nat.lt_of_lt_of_le (Flt.log2_lt_of h0 hb) h9⟩
/-- the common multiple, step by step -/
def cm (m n : Int) : Int := m / ((m.natAbs.gcd n.natAbs : Nat) : Int) * (if n < 0 then -n else n)
def cml (ns : List Int) : Int := ns.foldl cm 1
theorem cml_snoc (ns : List Int) (n : Int) : cml (ns ++ [n]) = cm (cml ns) n := by unfold cml; rw [List.foldl_append]; rfl
theorem cm_pos {m n : Int} (hm : 0 < m) (hn : n ≠ 0) : 0 < cm m n := by
  unfold cm
  have gp : 0 < m.natAbs.gcd n.natAbs := Nat.gcd_pos_of_pos_left _ (by omega)
  have gm : ((m.natAbs.gcd n.natAbs : Nat) : Int) ∣ m := Int.natAbs_dvd_natAbs.mp (by rw [Int.natAbs_natCast]; exact Nat.gcd_dvd_left _ _)
  obtain ⟨q, hq⟩ := gm
  have hq2 : m / ((m.natAbs.gcd n.natAbs : Nat) : Int) = q := Int.ediv_eq_of_eq_mul_right (by omega) hq
  rw [hq2]
  have qp : 0 < q := by
    rcases Int.lt_or_le 0 q with h | h
    · exact h
    · exfalso
      have e : ((m.natAbs.gcd n.natAbs : Nat) : Int) * -q = -(((m.natAbs.gcd n.natAbs : Nat) : Int) * q) := Int.mul_neg _ _
      have := Int.mul_nonneg (show (0 : Int) ≤ ((m.natAbs.gcd n.natAbs : Nat) : Int) by omega) (show 0 ≤ -q by omega)
      omega
  refine Int.mul_pos qp ?_
  split <;> omega
theorem cm_le {m n : Int} {a b : Nat} (hm : 0 < m) (h1 : m.natAbs < 2 ^ a) (h2 : n.natAbs < 2 ^ b) : (m / ((m.natAbs.gcd n.natAbs : Nat) : Int)).natAbs < 2 ^ a ∧ (cm m n).natAbs < 2 ^ (a + b) := by
  have gp : 0 < m.natAbs.gcd n.natAbs := Nat.gcd_pos_of_pos_left _ (by omega)
  have e : (m / ((m.natAbs.gcd n.natAbs : Nat) : Int)).natAbs ≤ m.natAbs := by
    obtain ⟨k, rfl⟩ := Int.eq_ofNat_of_zero_le (Int.le_of_lt hm)
    rw [Int.natAbs_natCast]
    have : ((k : Int) / ((k.gcd n.natAbs : Nat) : Int)) = ((k / k.gcd n.natAbs : Nat) : Int) := rfl
    show ((k : Int) / ((k.gcd n.natAbs : Nat) : Int)).natAbs ≤ k
    rw [this, Int.natAbs_natCast]
    exact Nat.div_le_self _ _
  refine ⟨by omega, ?_⟩
  unfold cm
  rw [Int.natAbs_mul, Nat.pow_add]
  have e2 : (if n < 0 then -n else n).natAbs = n.natAbs := by split <;> omega
  rw [e2]
  exact Nat.mul_lt_mul'' (by omega) h2
theorem cml_pos : ∀ {ns : List Int}, (∀ n ∈ ns, n ≠ 0) → 0 < cml ns := by
  suffices ∀ (ns : List Int) (m : Int), 0 < m → (∀ n ∈ ns, n ≠ 0) → 0 < ns.foldl cm m from fun {ns} h => this ns 1 (by decide) h
  intro ns
  induction ns with
  | nil => intro m hm _; exact hm
  | cons n ns ih => intro m hm h; exact ih _ (cm_pos hm (h n List.mem_cons_self)) fun k hk => h k (List.mem_cons_of_mem _ hk)
theorem cml_lt {b : Nat} : ∀ {ns : List Int}, (∀ n ∈ ns, n ≠ 0) → (∀ n ∈ ns, n.natAbs < 2 ^ b) → (cml ns).natAbs < 2 ^ (1 + ns.length * b) := by
  suffices ∀ (ns : List Int) (m : Int) (a : Nat), 0 < m → m.natAbs < 2 ^ a → (∀ n ∈ ns, n ≠ 0) → (∀ n ∈ ns, n.natAbs < 2 ^ b) → (ns.foldl cm m).natAbs < 2 ^ (a + ns.length * b) from fun {ns} h h' => this ns 1 1 (by decide) (by decide) h h'
  intro ns
  induction ns with
  | nil => intro m a hm ha _ _; simpa using ha
  | cons n ns ih =>
    intro m a hm ha h h'
    have := ih _ (a + b) (cm_pos hm (h n List.mem_cons_self)) (cm_le hm ha (h' n List.mem_cons_self)).2 (fun k hk => h k (List.mem_cons_of_mem _ hk)) fun k hk => h' k (List.mem_cons_of_mem _ hk)
    rw [List.length_cons, Nat.succ_mul, show a + (ns.length * b + b) = a + b + ns.length * b by omega]
    exact this
end OS
namespace OS
open PySem L2
/-! ### an own error with one field -/
/-- what the head knows of the class of an error at C, its __init__ at fI -/
structure ErrC (K : PySem.W.Frag) (mg : Str → Option Value) (x : Str) (C fI : Addr) (fld : Str) : Prop where
  mg : mg x = some (.ref C)
  ox : OexC K C
  iC : PySem.W.findIn K (.ref C) "__init__" = some (some (.ref fI))
  tI : PySem.W.typeIn K (.ref fI) = some (.type "function")
  no : PySem.W.findIn K (.ref C) fld = some none
  xf : XfC K C
  te : PySem.W.exmOne K (.ref C) (.ref C) = some true
/-- its __init__(self, y) -/
def spE (K : PySem.W.Frag) (C : Addr) (fld : Str) : Sp := fun vs H Q _ => ∃ (a : Addr) (y : V), vs = [.ref a, y] ∧ H a = some (exo a C none) ∧
  ∀ dx, H dx = none → dx ≠ a → Q .non (L2.upd (L2.upd H dx (exd dx [(fld, y)])) a (exo a C (some dx)))
/-- a made error's end: the heap has got its dict and nothing else -/
theorem made_heap {H : Hp} {a d : Addr} {fs : List (Str × V)} {o1 o2 : HO} (na : H a = none) (hd : d ≠ a) : ∀ b, (L2.upd (L2.del (L2.upd (L2.upd (L2.upd H a o1) d (exd d fs)) a o2) a) d (.xd fs)) b = (L2.upd H d (.xd fs)) b := by
  intro b
  by_cases h1 : b = d
  · rw [h1, upd_same, upd_same]
  · rw [upd_ne h1, upd_ne h1]
    by_cases h2 : b = a
    · rw [h2, del_same, na]
    · rw [del_ne h2, upd_ne h2, upd_ne h1, upd_ne h2]
end OS
namespace OS
open PySem L2
structure Df (K : PySem.W.Frag) (mg : Str → Option Value) (x : Str) (f : Addr) : Prop where
  mg : mg x = some (.ref f)
  kp : PySem.W.keepIn K (.ref f) = true
theorem sameUpd {H H' : Hp} {p : Addr} {o : HO} (s : Same H H') (h : H p = none) : Same H (L2.upd H' p o) := fun b u e => by
  rw [upd_ne (ne_of_none e h)]
  exact s b u e
/-- lowest: a fraction in lowest terms, or OutOfRange(0) -/
def spLow (C : Addr) : Sp := fun vs H Q E => ∃ (n d : Int), vs = [.int n, .int d] ∧ d.natAbs < 2 ^ 200 ∧
  (d ≠ 0 → ∀ (T : Addr), H T = none → Q (.ref T) (L2.upd H T (.tup [.int (n.fdiv (lowD n d)), .int (d.fdiv (lowD n d))]))) ∧
  (d = 0 → ∀ (dd : Addr) (H' : Hp), H dd = none → H' dd = some (.xd [("value", .int 0)]) → Same H H' → E (.ref C) (some dd) H')
def spCd : Sp := fun vs H Q _ => ∃ (a b : Int), vs = [.int a, .int b] ∧ Q (.int ((a.natAbs.gcd b.natAbs : Nat) : Int)) H
def spCm (K : PySem.W.Frag) (C : Addr) : Sp := fun vs H Q E => ∃ (a : Addr) (ns : List Int), vs = [.ref a] ∧ SqL K H a (ns.map V.int) ∧ ns.length ≤ 100 ∧ (∀ n ∈ ns, n.natAbs < 2 ^ 60) ∧
  ((∀ n ∈ ns, n ≠ 0) → Q (.int (cml ns)) H) ∧
  (0 ∈ ns → ∀ (dd : Addr) (H' : Hp), H dd = none → H' dd = some (.xd [("value", .int 0)]) → Same H H' → E (.ref C) (some dd) H')
section
variable {P : Program} {w : World} {K : PySem.W.Frag} {mg : Str → Option Value} {base : Heap}
theorem scOor : FnScope ["self", "value"] ["self", "value"] (defScope sOutOfRange_init) := ⟨rfl, rfl, rfl, by decide +kernel, rfl, by decide +kernel, by decide +kernel⟩
theorem ok_oor {f fI C : Addr} {fd : FuncData} (F : Fun K "__init__" "OutOfRange.__init__" sOutOfRange_init f fd) (T : ErrC K mg "OutOfRange" C fI "value") : FnOk P w K mg base CX0 1 f fd ["self", "value"] (spE K C "value") := by
  refine F.ok scOor (fun vs H Q E h => ?_) (fun cdv A outer s H vs Q E hr h => ?_)
  · obtain ⟨a, y, rfl, _⟩ := h
    rfl
  · obtain ⟨a, y, rfl, ha, k⟩ := h
    refine ⟨_, pss_one (ps_ost (pv 0) (pv 1)), ?_⟩
    exact ⟨_, rfl, _, rfl, a, C, rfl, T.ox, T.no, .inl ⟨ha, fun dx n ne => k dx n ne⟩⟩
/-- what is left behind a raise of such an error -/
theorem raised {H H1 : Hp} {a dd : Addr} {fs : List (Str × V)} {o1 o2 : HO} (s : Same H H1) (na : H1 a = none) (nd : H1 dd = none) (ne : dd ≠ a) : H dd = none ∧ (L2.upd (L2.del (L2.upd (L2.upd (L2.upd H1 a o1) dd (exd dd fs)) a o2) a) dd (.xd fs)) dd = some (.xd fs) ∧ Same H (L2.upd (L2.del (L2.upd (L2.upd (L2.upd H1 a o1) dd (exd dd fs)) a o2) a) dd (.xd fs)) := by
  refine ⟨s.free nd, upd_same, fun b o e => ?_⟩
  rw [made_heap na ne, upd_ne (ne_of_none (s b o e) nd)]
  exact s b o e
abbrev nLow : List Str := ["numerator", "denominator", "divisor"]
theorem scLow : FnScope nLow ["numerator", "denominator"] (defScope s_lowest) := ⟨rfl, rfl, rfl, by decide +kernel, rfl, by decide +kernel, by decide +kernel⟩
theorem ok_low {f C fC : Addr} {fd dC : FuncData} (F : Fun K "lowest" "lowest" s_lowest f fd) (U : ErrC K mg "OutOfRange" C fC "value") (GC : mg "gcd" = some (.builtin "math.gcd"))
    (EC : FnOk P w K mg base CX0 1 fC dC ["self", "value"] (spE K C "value")) (bC : Binds K dC ["self", "value"] []) : FnOk P w K mg base (L2.CX P w) 3 f fd ["numerator", "denominator"] (spLow C) := by
  refine F.okX scLow (fun vs H Q E h => ?_) (fun cdv A outer s H vs Q E hr h => ?_)
  · obtain ⟨n, d, rfl, _⟩ := h
    rfl
  · obtain ⟨n, d, rfl, hd, k1, k2⟩ := h
    refine ⟨_, pss_cons (ps_if (pt_cmpR op_eq (pv 1) pe_int (nomark _)) (pss_one (ps_raise rfl (takes_of rfl rfl rfl rfl) (pmk_oex U.ox U.iC U.tI EC hr bC .nil pass0 rfl U.mg (pa_cons (pv 1) pa_nil)))) pss_nil)
      (pss_cons (ps_set (i := 2) scLow.nd rfl (Or.inl rfl) (pe_callBfun cr_gcd rfl GC (pa_cons (pv 0) (pa_cons (pv 1) pa_nil))))
      (C8.pss_cut (ps_if (pt_cmpR op_lt (pv 1) pe_int (nomark _)) (pss_one (ps_set (i := 2) scLow.nd rfl (Or.inl rfl) (pe_un un_neg (pv 2)))) pss_nil)
      (pss_one (ps_ret (pe_tup (pa_cons (pe_op op_fdivZ (pv 0) (pv 2)) (pa_cons (pe_op op_fdivZ (pv 1) (pv 2)) pa_nil))))))), ?_⟩
    refine ⟨_, rfl, rfl, _, rfl, ?_⟩
    refine ite2 (fun h => ?_) (fun h => ?_)
    · have hd0 : d = 0 := V.int.inj (of_decide_eq_true h)
      subst hd0
      refine ⟨_, rfl, (by show 1 ≤ 1000; decide), fun a na => ?_⟩
      refine ⟨a, _, rfl, upd_same, fun dd nd2 ne => ⟨rfl, dd, [("value", .int 0)], upd_same, ?_, ?_, ?_⟩⟩
      · rw [upd_ne ne, upd_same]
      · rw [upd_ne ne] at nd2
        exact nd2
      · rw [upd_ne ne] at nd2
        obtain ⟨r1, r2, r3⟩ := raised (fs := [("value", V.int 0)]) (o1 := exo a C none) (o2 := exo a C (some dd)) (Same.refl H) na nd2 ne
        exact k2 rfl dd _ r1 r2 r3
    · have hd0 : d ≠ 0 := fun e => h (decide_eq_true (congrArg V.int e))
      refine ⟨_, rfl, _, rfl, n, d, rfl, ?_⟩
      refine ⟨fun σ H' => H' = H ∧ σ = [some (.int n), some (.int d), some (.int (lowD n d))], ?_, ?_⟩
      · refine ⟨_, rfl, _, _, rfl, rfl, _, rfl, ?_⟩
        refine ite2 (fun h => ?_) (fun h => ?_)
        · have hn : d < 0 := of_decide_eq_true h
          refine ⟨_, rfl, _, rfl, rfl, ?_⟩
          unfold lowD
          rw [if_pos hn]
          rfl
        · have hn : ¬ d < 0 := fun z => h (decide_eq_true z)
          refine ⟨rfl, ?_⟩
          unfold lowD
          rw [if_neg hn]
          rfl
      · rintro σ H' ⟨rfl, rfl⟩
        obtain ⟨l0, l1, _⟩ := low_parts n d hd0
        have hc : (lowD n d).natAbs < 2 ^ 200 := Nat.lt_of_le_of_lt l1 hd
        refine ⟨_, rfl, _, rfl, _, _, rfl, rfl, cdivZ (b := 200) l0 hc (by decide) (by decide), ?_⟩
        refine ⟨_, rfl, _, rfl, _, _, rfl, rfl, cdivZ (b := 200) l0 hc (by decide) (by decide), ?_⟩
        refine ⟨by show 2 ≤ sizeLine; decide, fun T hT => ?_⟩
        exact k1 hd0 T hT
theorem scCd : FnScope ["first", "second"] ["first", "second"] (defScope s_common_divisor) := ⟨rfl, rfl, rfl, by decide +kernel, rfl, by decide +kernel, by decide +kernel⟩
theorem ok_cd {f : Addr} {fd : FuncData} (F : Fun K "common_divisor" "common_divisor" s_common_divisor f fd) (GC : mg "gcd" = some (.builtin "math.gcd")) : FnOk P w K mg base CX0 1 f fd ["first", "second"] spCd := by
  refine F.ok scCd (fun vs H Q E h => ?_) (fun cdv A outer s H vs Q E hr h => ?_)
  · obtain ⟨n, d, rfl, _⟩ := h
    rfl
  · obtain ⟨n, d, rfl, k⟩ := h
    refine ⟨_, pss_one (ps_ret (pe_callBfun cr_gcd rfl GC (pa_cons (pv 0) (pa_cons (pv 1) pa_nil)))), ?_⟩
    exact ⟨_, rfl, _, rfl, n, d, rfl, k⟩
abbrev nCm : List Str := ["numbers", "multiple", "number"]
theorem scCm : FnScope nCm ["numbers"] (defScope s_common_multiple) := ⟨rfl, rfl, rfl, by decide +kernel, rfl, by decide +kernel, by decide +kernel⟩
theorem ok_cm {f C fC : Addr} {fd dC : FuncData} (F : Fun K "common_multiple" "common_multiple" s_common_multiple f fd) (U : ErrC K mg "OutOfRange" C fC "value") (GC : mg "gcd" = some (.builtin "math.gcd")) (mA : mg "abs" = none)
    (EC : FnOk P w K mg base CX0 1 fC dC ["self", "value"] (spE K C "value")) (bC : Binds K dC ["self", "value"] []) : FnOk P w K mg base (L2.CX P w) 3 f fd ["numbers"] (spCm K C) := by
  refine F.okX scCm (fun vs H Q E h => ?_) (fun cdv A outer s H vs Q E hr h => ?_)
  · obtain ⟨a, ns, rfl, _⟩ := h
    rfl
  · obtain ⟨a, ns, rfl, hS, hl, hb, k1, k2⟩ := h
    refine ⟨_, pss_cons (ps_set (i := 1) scCm.nd rfl (Or.inl rfl) pe_int)
      (pss_cons (ps_for (passes_of rfl) rfl (pi_list (pv 0)) (pg_name (i := 2) scCm.nd rfl (Or.inl rfl))
        (pss_cons (ps_if (pt_cmpR op_eq (pv 2) pe_int (nomark _)) (pss_one (ps_raise rfl (takes_of rfl rfl rfl rfl) (pmk_oex U.ox U.iC U.tI EC hr bC .nil pass0 rfl U.mg (pa_cons (pv 2) pa_nil)))) pss_nil)
        (pss_one (ps_set (i := 1) scCm.nd rfl (Or.inl rfl) (pe_op op_mulW (pe_op op_fdivW (pv 1) (pe_callBfun cr_gcd rfl GC (pa_cons (pv 1) (pa_cons (pv 2) pa_nil)))) (pe_callB call_abs (by rfl) mA (by decide +kernel) (pa_cons (pv 2) pa_nil)))))))
      (pss_one (ps_ret (pv 1)))), ?_⟩
    refine ⟨_, rfl, a, rfl, ⟨_, hS⟩, for_list (K := K) (a := a) (xs := ns.map V.int) (fun i σ H' => H' = H ∧ (∃ v, σ = [some (.ref a), some (.int (cml (ns.take i))), v]) ∧ ∀ n ∈ ns.take i, n ≠ 0) ⟨rfl, ⟨none, rfl⟩, fun n hn => by cases hn⟩ (fun i σ H' _ h => h.1 ▸ hS) ?_ ?_⟩
    · rintro i x σ H' hi ⟨rfl, ⟨v, rfl⟩, hz⟩
      obtain ⟨z, hzi, rfl⟩ : ∃ z, ns[i]? = some z ∧ x = V.int z := by
        rw [List.getElem?_map] at hi
        cases e : ns[i]? with
        | none => rw [e] at hi; cases hi
        | some z => rw [e] at hi; exact ⟨z, rfl, (Option.some.inj hi).symm⟩
      have hil : i < ns.length := (List.getElem?_eq_some_iff.mp hzi).1
      have hmem : z ∈ ns := List.mem_of_getElem? hzi
      have htk : ns.take (i + 1) = ns.take i ++ [z] := by rw [List.take_succ, hzi]; rfl
      refine ⟨_, rfl, rfl, _, rfl, ?_⟩
      refine ite2 (fun h => ?_) (fun h => ?_)
      · have hz0 : z = 0 := V.int.inj (of_decide_eq_true h)
        subst hz0
        refine ⟨_, rfl, (by show 1 ≤ 1000; decide), fun e na => ?_⟩
        refine ⟨e, _, rfl, upd_same, fun dd nd2 ne => ⟨rfl, dd, [("value", .int 0)], upd_same, ?_, ?_, ?_⟩⟩
        · rw [upd_ne ne, upd_same]
        · rw [upd_ne ne] at nd2
          exact nd2
        · rw [upd_ne ne] at nd2
          obtain ⟨r1, r2, r3⟩ := raised (fs := [("value", V.int 0)]) (o1 := exo e C none) (o2 := exo e C (some dd)) (Same.refl H') na nd2 ne
          exact k2 hmem dd _ r1 r2 r3
      · have hz0 : z ≠ 0 := fun e => h (decide_eq_true (congrArg V.int e))
        have mp := cml_pos hz
        have ml := cml_lt (b := 60) hz fun n hn => hb n (List.mem_of_mem_take hn)
        have mlen : (ns.take i).length ≤ 100 := by rw [List.length_take]; omega
        have ml2 : (cml (ns.take i)).natAbs < 2 ^ 6100 := Nat.lt_of_lt_of_le ml (Nat.pow_le_pow_right (by decide) (by omega))
        have gp : 0 < (cml (ns.take i)).natAbs.gcd z.natAbs := Nat.gcd_pos_of_pos_left _ (by omega)
        have gl : (cml (ns.take i)).natAbs.gcd z.natAbs ≤ z.natAbs := Nat.gcd_le_right _ (by omega)
        have zb := hb z hmem
        obtain ⟨q1, q2⟩ := cm_le (b := 60) mp ml2 zb
        refine ⟨_, rfl, _, rfl, _, rfl, _, _, rfl, ?_⟩
        refine ⟨_, _, rfl, rfl, wide_div (b := 60) (by omega) (by rw [Int.natAbs_natCast]; omega) (by decide) (by decide), ?_⟩
        refine ⟨_, rfl, _, rfl, ?_⟩
        refine ⟨_, _, rfl, rfl, wide_mul (a := 6100) (b := 60) q1 (by split <;> omega) (by decide) (by decide) (by decide), ?_⟩
        refine ⟨rfl, ⟨some (.int z), ?_⟩, ?_⟩
        · rw [htk, cml_snoc]
          rfl
        · intro n hn
          rw [htk] at hn
          rcases List.mem_append.mp hn with q | q
          · exact hz n q
          · cases List.mem_singleton.mp q; exact hz0
    · rintro σ H' ⟨rfl, ⟨v, rfl⟩, hz⟩
      rw [List.length_map, List.take_length] at hz ⊢
      exact ⟨_, rfl, k1 hz⟩
end
end OS
namespace OS
open PySem L2
def spII : Sp := fun vs H Q _ => ∃ n : Int, vs = [.int n] ∧ Q (.bl true) H
def spDv : Sp := fun vs H Q _ => ∃ a b : Int, vs = [.int a, .int b] ∧ a.natAbs < 2 ^ 1000 ∧ b.natAbs < 2 ^ 1000 ∧ Q (.int ((a.natAbs.gcd b.natAbs : Nat) : Int)) H
def spSg : Sp := fun vs H Q _ => ∃ (st : Addr) (m : Nat) (size : Int), vs = [.ref st, .int size] ∧ StD H st m ∧ m ≤ 900000000 ∧ 0 < size ∧ size < 18446744073709551616 ∧
  ∀ (n : Int) (H' : Hp), n.natAbs ≤ size.toNat → StD H' st (m + 2) → Kd st H H' → Q (.int n) H'
def spNums : Sp := fun vs H Q _ => ∃ (st : Addr) (m : Nat), vs = [.ref st] ∧ StD H st m ∧ m ≤ 900000000 ∧
  ∀ (D : Addr) (ns : List Int) (H' : Hp), (∀ b o, Own st H b o → b ≠ D) → Own st H' D (.lst (ns.map V.int)) → ns.length ≤ 6 → (∀ n ∈ ns, n.natAbs < 2 ^ 30) → StD H' st (m + 20) → Kd st H H' → Q (.ref D) H'
theorem Own.new {st D : Addr} {H : Hp} {o u : HO} (hs : H st = some u) (h : H D = none) (hI : ¬ Is H st D) : Own st (L2.upd H D o) D o :=
  ⟨upd_same, (ne_of_none hs h).symm, fun z => hI (is_upd (ne_of_none hs h) z)⟩
theorem StD.nis {H : Hp} {st D : Addr} {m : Nat} (S : StD H st m) (h : H D = none) : ¬ Is H st D := by
  obtain ⟨bl, cl, c, bs, ns, x, _⟩ := S.ex
  rintro ⟨y, z, r, e, t⟩
  rw [x.s] at e
  cases e
  rcases t with t | t <;> cases t
  · rw [x.b] at h
    cases h
  · rw [x.k] at h
    cases h
theorem StD.own {H : Hp} {st D : Addr} {m : Nat} {o : HO} (S : StD H st m) (h : H D = none) : Own st (L2.upd H D o) D o := by
  obtain ⟨u, hu⟩ := S.there
  exact Own.new hu h (S.nis h)
theorem StD.kd {H : Hp} {st D : Addr} {m : Nat} {o : HO} (S : StD H st m) (h : H D = none) : Kd st H (L2.upd H D o) := by
  obtain ⟨u, hu⟩ := S.there
  exact Kd.new hu h
/-- an own object is changed -/
theorem Own.put {st D b : Addr} {H : Hp} {o u v : HO} (h : Own st H D o) (h2 : Own st H b u) (n : b ≠ D) : Own st (L2.upd H D v) b u :=
  ⟨by rw [upd_ne n]; exact h2.1, h2.2.1, fun z => h2.2.2 (is_upd (fun e => h.2.1 e.symm) z)⟩
theorem Own.self {st D : Addr} {H : Hp} {o v : HO} (h : Own st H D o) : Own st (L2.upd H D v) D v :=
  ⟨upd_same, h.2.1, fun z => h.2.2 (is_upd (fun e => h.2.1 e.symm) z)⟩
theorem StD.put {H : Hp} {st D : Addr} {m : Nat} {o v : HO} (S : StD H st m) (h : Own st H D o) : StD (L2.upd H D v) st m := by
  obtain ⟨bl, cl, c, bs, ns, x, a⟩ := S.ex
  have n1 : st ≠ D := fun e => h.2.1 e.symm
  have n2 : bl ≠ D := fun e => h.2.2 (e ▸ x.own)
  have n3 : cl ≠ D := fun e => h.2.2 (e ▸ x.ownc)
  exact ⟨bl, cl, c, bs, ns, ⟨by rw [upd_ne n1]; exact x.s, by rw [upd_ne n2]; exact x.b, by rw [upd_ne n3]; exact x.k, x.nb, x.nc, x.bc⟩, a⟩
section
variable {P : Program} {w : World} {K : PySem.W.Frag} {mg : Str → Option Value} {base : Heap}
theorem scII : FnScope ["_law_actual"] ["_law_actual"] (defScope s_is_integer) := ⟨rfl, rfl, rfl, by decide +kernel, rfl, by decide +kernel, by decide +kernel⟩
structure BiI (mg : Str → Option Value) : Prop where
  isi : mg "isinstance" = none
  int : mg "int" = none
  bool : mg "bool" = none
  tup : mg "tuple" = none
theorem ok_ii {f : Addr} {fd : FuncData} (F : Fun K "_law_is_integer" "_law_is_integer" s_is_integer f fd) (T : BiI mg) : FnOk P w K mg base CX0 1 f fd ["_law_actual"] spII := by
  refine F.ok scII (fun vs H Q E h => ?_) (fun cdv A outer s H vs Q E hr h => ?_)
  · obtain ⟨n, rfl, _⟩ := h
    rfl
  · obtain ⟨n, rfl, k⟩ := h
    refine ⟨_, pss_one (ps_ret (pe_and (pe_callB call_isi (by rfl) T.isi (by decide +kernel) (pa_cons (pv 0) (pa_cons (pe_bltn (v := V.ty "int") (u := .type "int") (by rfl) T.int (by decide +kernel) rfl) pa_nil)))
      (pe_one (pe_not (pe_callB call_isi (by rfl) T.isi (by decide +kernel) (pa_cons (pv 0) (pa_cons (pe_bltn (v := V.ty "bool") (u := .type "bool") (by rfl) T.bool (by decide +kernel) rfl) pa_nil))))))), ?_⟩
    refine ⟨_, rfl, _, _, _, _, true, rfl, .ty "int", .base (.int n), kit_ty (by decide +kernel), _, rfl, ?_⟩
    refine iteT ?_
    exact ⟨_, rfl, _, _, _, _, false, rfl, .ty "bool", .base (.int n), kit_ty (by decide +kernel), _, rfl, k⟩
theorem okc_ii {f : Addr} {fd : FuncData} (F : Fun K "_law_is_integer" "_law_is_integer" s_is_integer f fd) (T : BiI mg) : FnC P w K mg base 1 f fd ["_law_actual"] spII := by
  refine Fun.okC F scII (fun vs H Q E h => ?_) (fun cdv A outer s H vs Q E hr h => ?_)
  · obtain ⟨n, rfl, _⟩ := h
    rfl
  · obtain ⟨n, rfl, k⟩ := h
    refine ⟨_, pss_one (ps_ret (pe_and (pe_callB call_isi (by rfl) T.isi (by decide +kernel) (pa_cons (pv 0) (pa_cons (pe_bltn (v := V.ty "int") (u := .type "int") (by rfl) T.int (by decide +kernel) rfl) pa_nil)))
      (pe_one (pe_not (pe_callB call_isi (by rfl) T.isi (by decide +kernel) (pa_cons (pv 0) (pa_cons (pe_bltn (v := V.ty "bool") (u := .type "bool") (by rfl) T.bool (by decide +kernel) rfl) pa_nil))))))), ?_⟩
    refine ⟨_, rfl, _, _, _, _, true, rfl, .ty "int", .base (.int n), kit_ty (by decide +kernel), _, rfl, ?_⟩
    refine iteT ?_
    exact ⟨_, rfl, _, _, _, _, false, rfl, .ty "bool", .base (.int n), kit_ty (by decide +kernel), _, rfl, k⟩
abbrev nDv : List Str := ["_law_one", "_law_two", "_law_rest"]
theorem scDv : FnScope nDv ["_law_one", "_law_two"] (defScope s_divisor) := ⟨rfl, rfl, rfl, by decide +kernel, rfl, by decide +kernel, by decide +kernel⟩
theorem ok_dv {f : Addr} {fd : FuncData} (F : Fun K "_law_divisor" "_law_divisor" s_divisor f fd) (T : BiD mg) : FnOk P w K mg base CX0 1 f fd ["_law_one", "_law_two"] spDv := by
  refine F.ok scDv (fun vs H Q E h => ?_) (fun cdv A outer s H vs Q E hr h => ?_)
  · obtain ⟨a, b, rfl, _⟩ := h
    rfl
  · obtain ⟨a, b, rfl, ha, hb, k⟩ := h
    refine ⟨_, pss_cons (ps_set (i := 0) scDv.nd rfl (Or.inl rfl) (pe_callB call_abs (by rfl) T.abs (by decide +kernel) (pa_cons (pv 0) pa_nil)))
      (pss_cons (ps_set (i := 1) scDv.nd rfl (Or.inl rfl) (pe_callB call_abs (by rfl) T.abs (by decide +kernel) (pa_cons (pv 1) pa_nil)))
      (pss_cons (ps_while PassesOwn.never (pt_cmpR op_ne (pv 1) pe_int (nomark _))
        (pss_cons (ps_set (i := 2) scDv.nd rfl (Or.inl rfl) (pe_op op_sub (pv 0) (pe_op op_mulW (pe_op op_fdivW (pv 0) (pv 1)) (pv 1))))
        (pss_cons (ps_set (i := 0) scDv.nd rfl (Or.inl rfl) (pv 1))
        (pss_one (ps_set (i := 1) scDv.nd rfl (Or.inl rfl) (pv 2))))))
      (pss_one (ps_ret (pv 0))))), ?_⟩
    refine ⟨_, rfl, _, rfl, _, rfl, _, rfl, ?_⟩
    have ea : (if a < 0 then -a else a) = (a.natAbs : Int) := by split <;> omega
    have eb : (if b < 0 then -b else b) = (b.natAbs : Int) := by split <;> omega
    rw [ea, eb]
    refine ⟨fun n σ H' => H' = H ∧ ∃ (x y : Nat) (v : Option V), y = n ∧ σ = [some (.int x), some (.int y), v] ∧ x.gcd y = a.natAbs.gcd b.natAbs ∧ x < 2 ^ 1000 ∧ y < 2 ^ 1000, ⟨b.natAbs, rfl, a.natAbs, b.natAbs, none, rfl, rfl, rfl, ha, hb⟩, ?_⟩
    rintro n σ H' ⟨rfl, x, y, v, rfl, rfl, hg, hx, hy⟩
    refine ⟨_, rfl, rfl, _, rfl, ?_⟩
    refine ite2 (fun h => ?_) (fun h => ?_)
    · have h : y ≠ 0 := by
        intro e
        subst e
        have e0 : decide (V.int ((0 : Nat) : Int) = V.int 0) = true := decide_eq_true rfl
        rw [e0] at h
        cases h
      refine ⟨fun σ' H2 => H2 = H' ∧ ∃ v, σ' = [some (.int (y : Int)), some (.int ((x % y : Nat) : Int)), v], ?_, ?_⟩
      · rintro σ' H2 ⟨rfl, v', rfl⟩
        have lt : x % y < y := Nat.mod_lt _ (by omega)
        refine ⟨x % y, lt, rfl, y, x % y, v', rfl, rfl, ?_, hy, by omega⟩
        rw [← hg, Nat.gcd_comm x y, Nat.gcd_rec y x, Nat.gcd_comm]
      · have dl : ((x : Int) / (y : Int)).natAbs < 2 ^ 1000 := by
          rw [show (x : Int) / (y : Int) = ((x / y : Nat) : Int) from rfl, Int.natAbs_natCast]
          exact Nat.lt_of_le_of_lt (Nat.div_le_self _ _) hx
        refine ⟨_, rfl, _, rfl, _, rfl, _, _, rfl, rfl, wide_div (b := 1000) (by omega) (by rw [Int.natAbs_natCast]; exact hy) (by decide) (by decide), ?_⟩
        refine ⟨_, rfl, _, _, rfl, rfl, wide_mul (a := 1000) (b := 1000) dl (by rw [Int.natAbs_natCast]; exact hy) (by decide) (by decide) (by decide), _, _, rfl, rfl, ?_⟩
        have er : (x : Int) - (x : Int) / (y : Int) * (y : Int) = ((x % y : Nat) : Int) := by
          rw [Int.natCast_emod, Int.emod_def, Int.mul_comm (y : Int)]
        refine ⟨_, rfl, _, rfl, rfl, some (.int ((x % y : Nat) : Int)), ?_⟩
        show [some (V.int (y : Int)), some (V.int ((x : Int) - (x : Int) / (y : Int) * (y : Int))), some (V.int ((x : Int) - (x : Int) / (y : Int) * (y : Int)))] = _
        rw [er]
    · have h : y = 0 := by
        rcases Nat.eq_zero_or_pos y with e | e
        · exact e
        · exfalso
          refine h ?_
          rw [decide_eq_false (fun z => by have := V.int.inj z; omega)]
          rfl
      subst h
      rw [Nat.gcd_zero_right] at hg
      refine ⟨_, rfl, ?_⟩
      rw [hg]
      exact k
abbrev nSg : List Str := ["_law_state", "_law_size", "_law_sign"]
theorem scSg : FnScope nSg ["_law_state", "_law_size"] (defScope s_integer) := ⟨rfl, rfl, rfl, by decide +kernel, rfl, by decide +kernel, by decide +kernel⟩
theorem ok_sg {f fD : Addr} {fd dD : FuncData} (F : Fun K "_law_integer" "_law_integer" s_integer f fd)
    (ED : FnOk P w K mg base CX0 1 fD dD ["_law_state", "_law_size"] spDraw) (GD : Df K mg "_law_draw" fD) (bD : Binds K dD ["_law_state", "_law_size"] []) : FnOk P w K mg base CX0 2 f fd ["_law_state", "_law_size"] spSg := by
  refine F.ok scSg (fun vs H Q E h => ?_) (fun cdv A outer s H vs Q E hr h => ?_)
  · obtain ⟨st, m, size, rfl, _⟩ := h
    rfl
  · obtain ⟨st, m, size, rfl, S, hm, hl0, hl1, k⟩ := h
    refine ⟨_, pss_cons (ps_set (i := 2) scSg.nd rfl (Or.inl rfl) (pe_ix ix_list (pe_lst (pa_cons pe_int (pa_cons (pe_un un_neg pe_int) (pa_cons pe_int (pa_cons pe_int pa_nil))))) (pe_call ED hr rfl GD.mg GD.kp bD .nil pass0 (pa_cons (pv 0) (pa_cons pe_int pa_nil))) fun _ _ => rfl))
      (pss_one (ps_ret (pe_op op_mul (pv 2) (pe_op op_add pe_int (pe_call ED hr rfl GD.mg GD.kp bD .nil pass0 (pa_cons (pv 0) (pa_cons (pv 1) pa_nil))))))), ?_⟩
    refine ⟨_, rfl, by show 4 ≤ sizeLine; decide, fun l hl => ?_⟩
    refine ⟨_, rfl, st, m, 4, rfl, S.new hl, by omega, by decide, by decide, fun i H1 i0 i1 S1 kd1 => ?_⟩
    have el : H1 l = some (.lst [V.int 1, V.int (-1), V.int 1, V.int 0]) := (kd1 _ _ (S.own hl)).1
    obtain ⟨sg, hsg, hb⟩ : ∃ sg : Int, atI [V.int 1, V.int (-1), V.int 1, V.int 0] i = some (V.int sg) ∧ -1 ≤ sg ∧ sg ≤ 1 := by
      have : i = 0 ∨ i = 1 ∨ i = 2 ∨ i = 3 := by omega
      rcases this with rfl | rfl | rfl | rfl
      · exact ⟨1, rfl, by decide, by decide⟩
      · exact ⟨-1, rfl, by decide, by decide⟩
      · exact ⟨1, rfl, by decide, by decide⟩
      · exact ⟨0, rfl, by decide, by decide⟩
    refine ⟨l, _, i, V.int sg, rfl, rfl, SqL.of el, hsg, ?_⟩
    refine ⟨_, rfl, _, rfl, _, rfl, st, m + 1, size, rfl, S1, by omega, hl0, hl1, fun r H2 r0 r1 S2 kd2 => ?_⟩
    refine ⟨_, _, rfl, rfl, _, _, rfl, rfl, .inl ⟨by omega, by omega⟩, ?_⟩
    refine k _ H2 ?_ (S2.mono (by omega)) (((S.kd hl).trans kd1).trans kd2)
    rw [Int.natAbs_mul]
    have h1 : sg.natAbs ≤ 1 := by omega
    have h2 : (1 + r).natAbs ≤ size.toNat := by omega
    calc sg.natAbs * (1 + r).natAbs ≤ 1 * size.toNat := Nat.mul_le_mul h1 h2
      _ = size.toNat := Nat.one_mul _
abbrev nNums : List Str := ["_law_state", "_law_common", "_law_size", "_law_k"]
theorem scNums : FnScope nNums ["_law_state"] (defScope s_numbers) := ⟨rfl, rfl, rfl, by decide +kernel, rfl, by decide +kernel, by decide +kernel⟩
theorem ok_nums {f fD : Addr} {fd dD : FuncData} (F : Fun K "_law_numbers" "_law_numbers" s_numbers f fd) (mR : mg "range" = none)
    (ED : FnOk P w K mg base CX0 1 fD dD ["_law_state", "_law_size"] spDraw) (GD : Df K mg "_law_draw" fD) (bD : Binds K dD ["_law_state", "_law_size"] []) : FnOk P w K mg base CX0 2 f fd ["_law_state"] spNums := by
  refine F.ok scNums (fun vs H Q E h => ?_) (fun cdv A outer s H vs Q E hr h => ?_)
  · obtain ⟨st, m, rfl, _⟩ := h
    rfl
  · obtain ⟨st, m, rfl, S, hm, k⟩ := h
    refine ⟨_, pss_cons (ps_set (i := 1) scNums.nd rfl (Or.inr rfl) (pe_ix ix_list (pe_lst (pa_cons pe_int (pa_cons pe_int (pa_cons pe_int (pa_cons pe_int pa_nil))))) (pe_call ED hr rfl GD.mg GD.kp bD .nil pass0 (pa_cons (pv 0) (pa_cons pe_int pa_nil))) fun _ _ => rfl))
      (pss_cons (ps_set (i := 2) scNums.nd rfl (Or.inl rfl) (pe_call ED hr rfl GD.mg GD.kp bD .nil pass0 (pa_cons (pv 0) (pa_cons pe_int pa_nil))))
      (pss_one (ps_ret (pe_lc (own := [("_law_k", 3)]) (g := gName 3) (tt := tYes) rfl scNums.nd (pi_range1 rfl mR (pa_cons (pv 2) pa_nil)) (blkOk_by (own := [("_law_k", 3)]) (N := nNums) (sc := defScope s_numbers) (by decide +kernel))
        (fun _ _ _ _ _ => pg_name (i := 3) scNums.nd rfl (Or.inl rfl)) (fun _ _ _ _ _ => pts_nil)
        (fun _ _ _ _ _ => pe_op op_mul (pe_op op_mul (pv 1) (pe_op op_add pe_int (pe_call ED hr rfl GD.mg GD.kp bD .nil pass0 (pa_cons (pv 0) (pa_cons pe_int pa_nil))))) (pe_ix (r := rIxL K) ix_list (pe_lst (pa_cons pe_int (pa_cons (pe_un un_neg pe_int) pa_nil))) (pe_call ED hr rfl GD.mg GD.kp bD .nil pass0 (pa_cons (pv 0) (pa_cons pe_int pa_nil))) fun _ _ => rfl)))))), ?_⟩
    refine ⟨by show 4 ≤ sizeLine; decide, fun l hl => ?_⟩
    refine ⟨_, rfl, st, m, 4, rfl, S.new hl, by omega, by decide, by decide, fun i H1 i0 i1 S1 kd1 => ?_⟩
    have el : H1 l = some (.lst [V.int 1, V.int 1, V.int 6, V.int 35]) := (kd1 _ _ (S.own hl)).1
    obtain ⟨c, hc, c0, c1⟩ : ∃ c : Int, atI [V.int 1, V.int 1, V.int 6, V.int 35] i = some (V.int c) ∧ 0 ≤ c ∧ c ≤ 35 := by
      have : i = 0 ∨ i = 1 ∨ i = 2 ∨ i = 3 := by omega
      rcases this with rfl | rfl | rfl | rfl
      · exact ⟨1, rfl, by decide, by decide⟩
      · exact ⟨1, rfl, by decide, by decide⟩
      · exact ⟨6, rfl, by decide, by decide⟩
      · exact ⟨35, rfl, by decide, by decide⟩
    refine ⟨l, _, i, V.int c, rfl, rfl, SqL.of el, hc, ?_⟩
    refine ⟨_, rfl, st, m + 1, 7, rfl, S1, by omega, by decide, by decide, fun size H2 s0 s1 S2 kd2 => ?_⟩
    have kd02 := ((S.kd hl).trans kd1).trans kd2
    refine ⟨_, rfl, _, rfl, by omega, by omega, fun D hD => lc_range (lo := 0) (n := size.toNat) (fun j H' => StD H' st (m + 2 + 2 * j) ∧ Kd st H2 H' ∧ ∃ ns : List Int, ns.length = j ∧ (∀ n ∈ ns, n.natAbs < 2 ^ 30) ∧ Own st H' D (.lst (ns.map V.int))) ⟨S2.new hD, S2.kd hD, [], rfl, (fun n hn => by cases hn), S2.own hD⟩ ?_ ?_⟩
    · rintro j H3 hj ⟨S3, kd3, ns, hnl, hnb, ow⟩
      refine ⟨rfl, ?_⟩
      refine ⟨_, rfl, _, rfl, st, m + 2 + 2 * j, 28000, rfl, S3, by omega, by decide, by decide, fun r H4 r0 r1 S4 kd4 => ?_⟩
      refine ⟨_, _, rfl, rfl, _, _, rfl, rfl, .inl ⟨by omega, by omega⟩, ?_⟩
      refine ⟨_, rfl, by show 2 ≤ sizeLine; decide, fun l2 hl2 => ?_⟩
      refine ⟨_, rfl, st, m + 2 + 2 * j + 1, 2, rfl, S4.new hl2, by omega, by decide, by decide, fun q H5 q0 q1 S5 kd5 => ?_⟩
      have el2 : H5 l2 = some (.lst [V.int 1, V.int (-1)]) := (kd5 _ _ (S4.own hl2)).1
      obtain ⟨e, he, e0, e1⟩ : ∃ e : Int, atI [V.int 1, V.int (-1)] q = some (V.int e) ∧ -1 ≤ e ∧ e ≤ 1 := by
        have : q = 0 ∨ q = 1 := by omega
        rcases this with rfl | rfl
        · exact ⟨1, rfl, by decide, by decide⟩
        · exact ⟨-1, rfl, by decide, by decide⟩
      refine ⟨l2, _, q, V.int e, rfl, rfl, SqL.of el2, he, ?_⟩
      have hb1 : (c * (1 + r)).natAbs ≤ 35 * 28000 := by
        rw [Int.natAbs_mul]
        exact Nat.mul_le_mul (by omega) (by omega)
      refine ⟨_, _, rfl, rfl, .inl ⟨by omega, by omega⟩, ?_⟩
      have ow2 := kd5 _ _ ((S4.kd hl2) _ _ (kd4 _ _ ow))
      refine ⟨_, ow2.1, ?_, ?_⟩
      · rw [List.length_map, hnl]
        exact small1000 (by omega)
      · refine ⟨(S5.put ow2).mono (by omega), fun b o h => ?_, ns ++ [c * (1 + r) * e], ?_, ?_, ?_⟩
        · have h3 := kd5 _ _ ((S4.kd hl2) _ _ (kd4 _ _ (kd3 _ _ h)))
          exact ow2.put h3 (ne_of_none h.1 hD)
        · rw [List.length_append, hnl]
          rfl
        · intro n hn
          rcases List.mem_append.mp hn with q | q
          · exact hnb n q
          · cases List.mem_singleton.mp q
            rw [Int.natAbs_mul]
            have he2 : e.natAbs ≤ 1 := by omega
            calc (c * (1 + r)).natAbs * e.natAbs ≤ (35 * 28000) * 1 := Nat.mul_le_mul hb1 he2
              _ < 2 ^ 30 := by decide
        · rw [List.map_append]
          exact ow2.self
    · rintro H3 ⟨S3, kd3, ns, hnl, hnb, ow⟩
      refine k D ns H3 ?_ ow (by omega) hnb (S3.mono (by omega)) (kd02.trans kd3)
      exact fun b o h => ne_of_none (kd02 b o h).1 hD
end
end OS
namespace OS
open PySem L2 PySem.Spec PyProof.Rows
theorem kit_ref {K : PySem.W.Frag} {a c : Addr} {b : Bool} (hd : PySem.W.hasDictIn K c = true) (ty : PySem.W.typeIn K (.ref c) = some (.type "type")) (hself : PySem.W.subIn K (.ref c) (.ref c) = some true) (h : PySem.W.subIn K (.ref a) (.ref c) = some b) :
    PySem.W.kitOne K (.ref a) (.ref c) = some b := by
  unfold PySem.W.kitOne
  by_cases e : a = c
  · subst e
    rw [h] at hself
    cases hself
    rw [if_pos (by simp)]
  · rw [if_neg (by simpa using e)]
    obtain ⟨cd, hc, _⟩ := PySem.W.any_some hd
    show (if ((PySem.W.clsIn K c).isSome && PySem.W.typeIn K (.ref c) == some (.type "type")) = true then PySem.W.subIn K (.ref a) (.ref c) else none) = some b
    rw [if_pos (by rw [hc, ty] <;> rfl)]
    exact h
theorem kit_val {K : PySem.W.Frag} {a : Addr} (h : PySem.W.subIn K (.ref a) (.type "ValueError") = some true) : PySem.W.kitOne K (.ref a) (.type "ValueError") = some true := by
  unfold PySem.W.kitOne
  rw [if_neg (show ¬ ((Value.ref a == Value.type "ValueError") = true) from Bool.false_ne_true)]
  show (if PySem.W.kitMeta "ValueError" = true then PySem.W.subIn K (.ref a) (.type "ValueError") else none) = some true
  rw [if_pos (by decide +kernel)]
  exact h
/-- a call with keywords of a def without defaults -/
theorem kb_of {K : PySem.W.Frag} {x qual : Str} {st : Stmt} {f : Addr} {fd : FuncData} {ps : List Str} (F : Fun K x qual st f fd) (n : Nat) (ks : List Str) (g : {α : Type} → List α → List α → List α)
    (hrel : ∀ {vs zs : List V} {us ws : List Value}, Vals vs us → Vals zs ws → Vals (g vs zs) (g us ws))
    (h : ∀ (kV doc pm : Value) (an : Option Addr) (cdv ct : Value) (us ws : List Value), us.length = n → ws.length = ks.length → bindArgs (PySem.W.fnOf x qual (defArgs st) (defBody st) (defScope st) .none kV doc pm an cdv ct) ⟨us, ks.zip ws⟩ = pure (ps.zip (g us ws))) :
    KBn K fd ps n ks (fun us ws => g us ws) (fun vs zs => g vs zs) := by
  obtain ⟨oc, od, kV, doc, pm, an, cdv, ct, osl, rfl, lk, hcd⟩ := F.ex
  exact ⟨fun s us ws X l1 l2 => .of_eq (h kV doc pm an cdv ct us ws l1 l2), fun r1 r2 => hrel r1 r2⟩
end OS
namespace OS
open PySem L2
def spRF : Sp := fun vs H Q _ => ∃ t b : Int, vs = [.int t, .int b] ∧ t.natAbs < 2 ^ 200 ∧ b.natAbs < 2 ^ 200 ∧ ∀ H', Same H H' → Q (.bl true) H'
def spRD : Sp := fun vs H Q _ => ∃ t b : Int, vs = [.int t, .int b] ∧ t.natAbs < 2 ^ 200 ∧ b.natAbs < 2 ^ 200 ∧ Q (.bl true) H
def spRM (K : PySem.W.Frag) : Sp := fun vs H Q _ => ∃ (a : Addr) (ns : List Int), vs = [.ref a] ∧ SqL K H a (ns.map V.int) ∧ ns.length ≤ 10 ∧ (∀ n ∈ ns, n.natAbs < 2 ^ 60) ∧ ∀ H', Same H H' → Q (.bl true) H'
theorem kbRev {K : PySem.W.Frag} {x qual : Str} {st : Stmt} {f : Addr} {fd : FuncData} {ps ks : List Str} (F : Fun K x qual st f fd)
    (h : ∀ (kV doc pm : Value) (an : Option Addr) (cdv ct : Value) (us ws : List Value), us.length = 0 → ws.length = ks.length → bindArgs (PySem.W.fnOf x qual (defArgs st) (defBody st) (defScope st) .none kV doc pm an cdv ct) ⟨us, ks.zip ws⟩ = pure (ps.zip (us ++ ws.reverse))) :
    KBn K fd ps 0 ks (fun us ws => us ++ ws.reverse) (fun vs zs => vs ++ zs.reverse) :=
  kb_of F 0 ks (fun us ws => us ++ ws.reverse) (fun r1 r2 => r1.append r2.reverse) h
theorem kbOne {K : PySem.W.Frag} {x qual : Str} {st : Stmt} {f : Addr} {fd : FuncData} {ps ks : List Str} (F : Fun K x qual st f fd)
    (h : ∀ (kV doc pm : Value) (an : Option Addr) (cdv ct : Value) (us ws : List Value), us.length = 0 → ws.length = ks.length → bindArgs (PySem.W.fnOf x qual (defArgs st) (defBody st) (defScope st) .none kV doc pm an cdv ct) ⟨us, ks.zip ws⟩ = pure (ps.zip (us ++ ws))) :
    KBn K fd ps 0 ks (fun us ws => us ++ ws) (fun vs zs => vs ++ zs) :=
  kb_of F 0 ks (fun us ws => us ++ ws) (fun r1 r2 => r1.append r2) h
section
variable {P : Program} {w : World} {K : PySem.W.Frag} {mg : Str → Option Value} {base : Heap}
abbrev nRF : List Str := ["_law_top", "_law_bottom", "_law_raised", "_law_actual", "e"]
theorem scRF : FnScope nRF ["_law_top", "_law_bottom"] (defScope s_right_fraction) := ⟨rfl, rfl, rfl, by decide +kernel, rfl, by decide +kernel, by decide +kernel⟩
theorem ok_rf {f C fC ONE fL fI fV : Addr} {fd dL dI dV : FuncData} (F : Fun K "_law_right_fraction" "_law_right_fraction" s_right_fraction f fd) (T : BiI mg) (mLen : mg "len" = none) (U : ErrC K mg "OutOfRange" C fC "value") (XC : ExcC K C) (mONE : mg "OneshardError" = some (.ref ONE)) (sub : PySem.W.kitOne K (.ref C) (.ref ONE) = some true)
    (EL : FnOk P w K mg base (L2.CX P w) 3 fL dL ["numerator", "denominator"] (spLow C)) (GL : Df K mg "lowest" fL) (bL : KBn K dL ["numerator", "denominator"] 0 ["denominator", "numerator"] (fun us ws => us ++ ws.reverse) (fun vs zs => vs ++ zs.reverse))
    (EI : FnOk P w K mg base CX0 1 fI dI ["_law_actual"] spII) (EIc : FnC P w K mg base 1 fI dI ["_law_actual"] spII) (GI : Df K mg "_law_is_integer" fI) (bI : Binds K dI ["_law_actual"] [])
    (EV : FnOk P w K mg base CX0 1 fV dV ["_law_one", "_law_two"] spDv) (GV : Df K mg "_law_divisor" fV) (bV : Binds K dV ["_law_one", "_law_two"] []) : FnOk P w K mg base CX0 4 f fd ["_law_top", "_law_bottom"] spRF := by
  refine F.ok scRF (fun vs H Q E h => ?_) (fun cdv A outer s H vs Q E hr h => ?_)
  · obtain ⟨t, b, rfl, _⟩ := h
    rfl
  · obtain ⟨t, b, rfl, ht, hb, k⟩ := h
    have hr1 : Room 1 _ := hr.mono (by decide)
    have hrH : L2H.RoomH 1 (A.deeper (PyProof.Rows.envOfC "_law_right_fraction" (defScope s_right_fraction) s.heap.objs.size f cdv)) := ⟨hr1.dp, hr1.un⟩
    refine ⟨_, pss_cons (ps_set (i := 2) scRF.nd rfl (Or.inl rfl) pe_bl)
      (pss_cons (ps_set (i := 3) scRF.nd rfl (Or.inl rfl) pe_non)
      (C8.pss_cut (ps_try_as (i := 4) (Wout := fun _ _ _ _ => False) rfl rfl scRF.nd rfl rfl ⟨rfl, by decide, Or.inl U.mg⟩ takes0
        (fun W pn xe tk _ => pss_one (ps_set (i := 3) scRF.nd rfl (Or.inl rfl) (by exact (pe_callKS0 EL hr rfl GL.mg GL.kp bL (fun σ => passAt tk σ) (by exact (pk_cons (pv 1) (pk_cons (pv 0) pk_nil)))))))
        (fun a oe cls dd pn hz hf => pss_one (ps_set (i := 2) scRF.nd rfl (Or.inl rfl) (pe_and (by exact (pe_callC EIc ⟨hrH.dp, hrH.un⟩ rfl GI.mg GI.kp bI (by exact (pa_cons (pe_xf U.xf U.no hz hf (pv 4)) pa_nil))))
          (pe_and (pe_cmpR op_eq (by exact (pe_xf U.xf U.no hz hf (pv 4))) pe_int (nomark _)) (pe_one (pe_callB (call_isEd XC hz hf) (by rfl) T.isi (by decide +kernel) (pa_cons (pv 4) (pa_cons (pe_glob (v := V.ref ONE) rfl mONE rfl) pa_nil)))))))))
      (pss_cons (ps_if (pt_cmpR op_eq (pv 1) pe_int (nomark _)) (pss_one (ps_ret (pe_and (pv 2) (pe_one (pe_cmpR op_isN (pv 3) pe_non (nomark _)))))) pss_nil)
      (pss_cons (ps_if (PW.pt (pw_or (pt_val (pv 2)) (pw_or (pt_not (pt_val (pe_callB call_isi (by rfl) T.isi (by decide +kernel) (pa_cons (pv 3) (pa_cons (pe_bltn (v := V.ty "tuple") (u := .type "tuple") (by rfl) T.tup (by decide +kernel) rfl) pa_nil)))))
          (pw_or1 (pt_cmpR op_ne (pe_callB call_len_seq (by rfl) mLen PySem.boot_len (pa_cons (pv 3) pa_nil)) pe_int (nomark _)))))) (pss_one (ps_ret pe_bl)) pss_nil)
      (pss_cons (ps_if (PW.pt (pw_or (pt_not (pt_val (pe_call EI hr1 rfl GI.mg GI.kp bI .nil pass0 (pa_cons (pe_ix ix_tup (pv 3) pe_int fun _ _ => rfl) pa_nil)))) (pw_or (pt_not (pt_val (pe_call EI hr1 rfl GI.mg GI.kp bI .nil pass0 (pa_cons (pe_ix ix_tup (pv 3) pe_int fun _ _ => rfl) pa_nil))))
          (pw_or1 (pt_cmpR op_lt (pe_ix ix_tup (pv 3) pe_int fun _ _ => rfl) pe_int (nomark _)))))) (pss_one (ps_ret pe_bl)) pss_nil)
      (pss_one (ps_ret (pe_and (pe_cmpR op_eq (pe_op op_mulW (pe_ix ix_tup (pv 3) pe_int fun _ _ => rfl) (pv 1)) (pe_op op_mulW (pe_ix ix_tup (pv 3) pe_int fun _ _ => rfl) (pv 0)) (nomark _))
          (pe_one (pe_cmpR op_eq (pe_call EV hr1 rfl GV.mg GV.kp bV .nil pass0 (pa_cons (pe_ix ix_tup (pv 3) pe_int fun _ _ => rfl) (pa_cons (pe_ix ix_tup (pv 3) pe_int fun _ _ => rfl) pa_nil))) pe_int (nomark _))))))))))), ?_⟩
    refine ⟨fun σ H' => Same H H' ∧ ((b = 0 ∧ σ = [some (.int t), some (.int b), some (.bl true), some .non, none]) ∨ (b ≠ 0 ∧ ∃ T, H' T = some (.tup [.int (t.fdiv (lowD t b)), .int (b.fdiv (lowD t b))]) ∧ σ = [some (.int t), some (.int b), some (.bl false), some (.ref T), none])), ?_, ?_⟩
    · refine ⟨_, rfl, _, rfl, rfl, t, b, rfl, hb, fun hb0 T hT => ?_, fun hb0 dd H' nd hdd s' => ?_⟩
      · exact ⟨sameUpd (Same.refl _) hT, .inr ⟨hb0, T, upd_same, rfl⟩⟩
      · refine ⟨true, U.te, fun _ a0 na => ?_, fun q => Bool.noConfusion q⟩
        refine ⟨_, rfl, rfl, rfl, dd, _, _, rfl, hdd, rfl, 0, rfl, true, rfl, ?_⟩
        refine iteT ?_
        refine ⟨_, rfl, rfl, rfl, dd, _, _, rfl, hdd, rfl, rfl, true, rfl, ?_⟩
        refine iteT ?_
        refine ⟨_, rfl, _, _, true, rfl, rfl, ⟨dd, _, rfl, hdd⟩, (fun u hu => hu), sub, ?_⟩
        exact ⟨s', .inl ⟨hb0, rfl⟩⟩
    · rintro σ H' ⟨s', ⟨hb0, rfl⟩ | ⟨hb0, T, hT, rfl⟩⟩
      · subst hb0
        refine ⟨_, rfl, rfl, _, rfl, ?_⟩
        refine iteT ?_
        refine ⟨_, rfl, true, rfl, ?_⟩
        refine iteT ?_
        exact ⟨_, rfl, rfl, k H' s'⟩
      · obtain ⟨l0, l1, a', b', ea, eb, h1, h2, h3, h4, h5⟩ := low_parts t b hb0
        rw [ea, eb] at hT
        refine ⟨_, rfl, rfl, _, rfl, ?_⟩
        rw [decide_eq_false (fun e => hb0 (V.int.inj e))]
        refine iteF ?_
        refine ⟨_, rfl, false, rfl, ?_⟩
        refine iteF ?_
        refine ⟨_, rfl, _, _, _, _, true, rfl, .ty "tuple", .base (.tup hT), kit_ty (by decide +kernel), true, rfl, ?_⟩
        refine iteF ?_
        refine ⟨_, rfl, T, _, rfl, .inr (SqT.of hT), rfl, false, rfl, ?_⟩
        refine iteF ?_
        refine ⟨_, rfl, T, _, 0, V.int a', rfl, rfl, SqT.of hT, rfl, a', rfl, true, rfl, ?_⟩
        refine iteF ?_
        refine ⟨_, rfl, T, _, 1, V.int b', rfl, rfl, SqT.of hT, rfl, b', rfl, true, rfl, ?_⟩
        refine iteF ?_
        refine ⟨_, rfl, T, _, 1, V.int b', rfl, rfl, SqT.of hT, rfl, _, _, rfl, rfl, false, (by show V.bl (decide (b' < 1)) = V.bl false; rw [decide_eq_false (by omega)]), ?_⟩
        refine iteF ?_
        refine ⟨_, rfl, T, _, 0, V.int a', rfl, rfl, SqT.of hT, rfl, _, rfl, _, _, rfl, rfl, wide_mul (a := 200) (b := 200) (by omega) hb (by decide) (by decide) (by decide), ?_⟩
        refine ⟨_, rfl, T, _, 1, V.int b', rfl, rfl, SqT.of hT, rfl, _, rfl, _, _, rfl, rfl, wide_mul (a := 200) (b := 200) (by omega) ht (by decide) (by decide) (by decide), ?_⟩
        refine ⟨rfl, true, ?_, ?_⟩
        · show V.bl (decide (V.int (a' * b) = V.int (b' * t))) = V.bl true
          rw [h1, decide_eq_true rfl]
        refine iteT ?_
        refine ⟨_, rfl, T, _, 0, V.int a', rfl, rfl, SqT.of hT, rfl, _, rfl, T, _, 1, V.int b', rfl, rfl, SqT.of hT, rfl, a', b', rfl, ?_, ?_, ?_⟩
        · exact Nat.lt_of_le_of_lt h4 (Nat.lt_of_lt_of_le ht (Nat.pow_le_pow_right (by decide) (by decide)))
        · exact Nat.lt_of_le_of_lt h5 (Nat.lt_of_lt_of_le hb (Nat.pow_le_pow_right (by decide) (by decide)))
        · rw [h3]
          exact ⟨rfl, k H' s'⟩
theorem scRD : FnScope ["_law_one", "_law_two", "_law_actual"] ["_law_one", "_law_two"] (defScope s_right_divisor) := ⟨rfl, rfl, rfl, by decide +kernel, rfl, by decide +kernel, by decide +kernel⟩
theorem ok_rd {f fC fI fV : Addr} {fd dC dI dV : FuncData} (F : Fun K "_law_right_divisor" "_law_right_divisor" s_right_divisor f fd)
    (EC : FnOk P w K mg base CX0 1 fC dC ["first", "second"] spCd) (GC : Df K mg "common_divisor" fC) (bC : KBn K dC ["first", "second"] 0 ["second", "first"] (fun us ws => us ++ ws.reverse) (fun vs zs => vs ++ zs.reverse))
    (EI : FnOk P w K mg base CX0 1 fI dI ["_law_actual"] spII) (GI : Df K mg "_law_is_integer" fI) (bI : Binds K dI ["_law_actual"] [])
    (EV : FnOk P w K mg base CX0 1 fV dV ["_law_one", "_law_two"] spDv) (GV : Df K mg "_law_divisor" fV) (bV : Binds K dV ["_law_one", "_law_two"] []) : FnOk P w K mg base CX0 2 f fd ["_law_one", "_law_two"] spRD := by
  refine F.ok scRD (fun vs H Q E h => ?_) (fun cdv A outer s H vs Q E hr h => ?_)
  · obtain ⟨t, b, rfl, _⟩ := h
    rfl
  · obtain ⟨t, b, rfl, ht, hb, k⟩ := h
    refine ⟨_, pss_cons (ps_set (i := 2) scRD.nd rfl (Or.inl rfl) (pe_callKS0 EC hr rfl GC.mg GC.kp bC (E := fun _ => E0) (fun σ pins H s e s' I h => pass0 pins σ H s e s' I h) (pk_cons (pv 1) (pk_cons (pv 0) pk_nil))))
      (pss_one (ps_ret (pe_and (pe_call EI hr rfl GI.mg GI.kp bI .nil pass0 (pa_cons (pv 2) pa_nil)) (pe_one (pe_cmpR op_eq (pv 2) (pe_call EV hr rfl GV.mg GV.kp bV .nil pass0 (pa_cons (pv 0) (pa_cons (pv 1) pa_nil))) (nomark _)))))), ?_⟩
    refine ⟨_, rfl, _, rfl, rfl, t, b, rfl, ?_⟩
    refine ⟨_, rfl, _, rfl, true, rfl, ?_⟩
    refine iteT ?_
    refine ⟨_, rfl, _, rfl, _, rfl, t, b, rfl, ?_, ?_, ?_⟩
    · exact Nat.lt_of_lt_of_le ht (Nat.pow_le_pow_right (by decide) (by decide))
    · exact Nat.lt_of_lt_of_le hb (Nat.pow_le_pow_right (by decide) (by decide))
    · refine ⟨rfl, ?_⟩
      rw [decide_eq_true rfl]
      exact k
end
end OS
namespace OS
open PySem L2
def nzs (ns : List Int) : List Int := ns.filter fun n => n ≠ 0
theorem nzs_all {ns : List Int} (h : ∀ n ∈ ns, n ≠ 0) : nzs ns = ns := List.filter_eq_self.mpr fun n hn => by simp [h n hn]
theorem nzs_ne {ns : List Int} : ∀ n ∈ nzs ns, n ≠ 0 := fun n hn => by simpa using (List.mem_filter.mp hn).2
theorem StD.same {H H' : Hp} {st : Addr} {m : Nat} (S : StD H st m) (s : Same H H') : StD H' st m := by
  obtain ⟨bl, cl, c, bs, ns, x, a⟩ := S.ex
  exact ⟨bl, cl, c, bs, ns, ⟨s _ _ x.s, s _ _ x.b, s _ _ x.k, x.nb, x.nc, x.bc⟩, a⟩
theorem inV_zero (ns : List Int) : inV (.int 0) (ns.map V.int) = decide (0 ∈ ns) := by
  induction ns with
  | nil => rfl
  | cons n ns ih =>
    show (eqV (V.int n) (V.int 0) || inV (V.int 0) (ns.map V.int)) = _
    rw [ih]
    show ((n == 0) || decide (0 ∈ ns)) = _
    by_cases e : n = 0
    · subst e; simp
    · have e2 : ¬ (0 : Int) = n := fun z => e z.symm
      simp [e, e2]
theorem flat_ints (ns : List Int) : ∀ x ∈ ns.map V.int, flatV x = true := by
  intro x hx
  obtain ⟨n, _, rfl⟩ := List.mem_map.mp hx
  rfl
section
variable {P : Program} {w : World} {K : PySem.W.Frag} {mg : Str → Option Value} {base : Heap}
abbrev nRM : List Str := ["_law_row", "_law_expected", "_law_number", "_law_passed", "_law_raised", "_law_actual", "e"]
theorem scRM : FnScope nRM ["_law_row"] (defScope s_right_multiple) := ⟨rfl, rfl, rfl, by decide +kernel, rfl, by decide +kernel, by decide +kernel⟩
theorem ok_rm {f C fC fL fI fV : Addr} {fd dL dI dV : FuncData} (F : Fun K "_law_right_multiple" "_law_right_multiple" s_right_multiple f fd) (T : BiI mg) (T2 : BiD mg) (mVE : mg "ValueError" = none) (U : ErrC K mg "OutOfRange" C fC "value") (XC : ExcC K C) (sub : PySem.W.kitOne K (.ref C) (.type "ValueError") = some true)
    (EL : FnOk P w K mg base (L2.CX P w) 3 fL dL ["numbers"] (spCm K C)) (GL : Df K mg "common_multiple" fL) (bL : KBn K dL ["numbers"] 0 ["numbers"] (fun us ws => us ++ ws) (fun vs zs => vs ++ zs))
    (EI : FnOk P w K mg base CX0 1 fI dI ["_law_actual"] spII) (EIc : FnC P w K mg base 1 fI dI ["_law_actual"] spII) (GI : Df K mg "_law_is_integer" fI) (bI : Binds K dI ["_law_actual"] [])
    (EV : FnOk P w K mg base CX0 1 fV dV ["_law_one", "_law_two"] spDv) (GV : Df K mg "_law_divisor" fV) (bV : Binds K dV ["_law_one", "_law_two"] []) : FnOk P w K mg base CX0 4 f fd ["_law_row"] (spRM K) := by
  refine F.ok scRM (fun vs H Q E h => ?_) (fun cdv A outer s H vs Q E hr h => ?_)
  · obtain ⟨a, ns, rfl, _⟩ := h
    rfl
  · obtain ⟨a, ns, rfl, hS, hl, hb, k⟩ := h
    have hr1 : Room 1 _ := hr.mono (by decide)
    have hrH : L2H.RoomH 1 (A.deeper (PyProof.Rows.envOfC "_law_right_multiple" (defScope s_right_multiple) s.heap.objs.size f cdv)) := ⟨hr1.dp, hr1.un⟩
    refine ⟨_, pss_cons (ps_set (i := 1) scRM.nd rfl (Or.inl rfl) pe_int)
      (pss_cons (ps_for PassesOwn.never rfl (pi_list (pv 0)) (pg_name (i := 2) scRM.nd rfl (Or.inl rfl))
        (pss_one (ps_if (pt_cmpR op_ne (pv 2) pe_int (nomark _)) (pss_one (ps_set (i := 1) scRM.nd rfl (Or.inl rfl) (pe_op op_mulW (pe_op op_fdivW (pv 1) (pe_call EV hr1 rfl GV.mg GV.kp bV .nil pass0 (pa_cons (pv 1) (pa_cons (pv 2) pa_nil)))) (pe_callB call_abs (by rfl) T2.abs (by decide +kernel) (pa_cons (pv 2) pa_nil))))) pss_nil)))
      (pss_cons (ps_set (i := 3) scRM.nd rfl (Or.inl rfl) (pe_callTy call_list_of (by rfl) T2.list (by decide +kernel) (pa_cons (pv 0) pa_nil)))
      (pss_cons (ps_set (i := 4) scRM.nd rfl (Or.inl rfl) pe_bl)
      (pss_cons (ps_set (i := 5) scRM.nd rfl (Or.inl rfl) pe_non)
      (C8.pss_cut (ps_try_as (i := 6) (Wout := fun _ _ _ _ => False) rfl rfl scRM.nd rfl rfl ⟨rfl, by decide, Or.inl U.mg⟩ takes0
        (fun W pn xe tk _ => pss_one (ps_set (i := 5) scRM.nd rfl (Or.inl rfl) (by exact (pe_callKS0 EL hr rfl GL.mg GL.kp bL (fun σ => passAt tk σ) (by exact (pk_cons (pv 3) pk_nil))))))
        (fun a oe cls dd pn hz hf => pss_one (ps_set (i := 4) scRM.nd rfl (Or.inl rfl) (pe_and (by exact (pe_callC EIc ⟨hrH.dp, hrH.un⟩ rfl GI.mg GI.kp bI (by exact (pa_cons (pe_xf U.xf U.no hz hf (pv 6)) pa_nil))))
          (pe_and (pe_cmpR op_eq (by exact (pe_xf U.xf U.no hz hf (pv 6))) pe_int (nomark _)) (pe_one (pe_callB (call_isEd XC hz hf) (by rfl) T.isi (by decide +kernel) (pa_cons (pv 6) (pa_cons (pe_bltn (v := V.ty "ValueError") (u := .type "ValueError") (by rfl) mVE (by decide +kernel) rfl) pa_nil)))))))))
      (pss_cons (ps_if (pt_cmpR (op_neD hr.units) (pv 3) (pv 0) (nomark _)) (pss_one (ps_ret pe_bl)) pss_nil)
      (pss_cons (ps_if (pt_cmpR op_in_seq pe_int (pv 0) (by rfl)) (pss_one (ps_ret (pe_and (pv 4) (pe_one (pe_cmpR op_isN (pv 5) pe_non (nomark _)))))) pss_nil)
      (pss_one (ps_ret (pe_and (pe_not (pv 4)) (pe_and (pe_call EI hr1 rfl GI.mg GI.kp bI .nil pass0 (pa_cons (pv 5) pa_nil)) (pe_one (pe_cmpR op_eq (pv 5) (pv 1) (nomark _)))))))))))))), ?_⟩
    refine ⟨_, rfl, a, rfl, ⟨_, hS⟩, for_list (K := K) (a := a) (xs := ns.map V.int) (fun i σ H' => H' = H ∧ ∃ v, σ = [some (.ref a), some (.int (cml (nzs (ns.take i)))), v, none, none, none, none]) ⟨rfl, none, rfl⟩ (fun i σ H' _ h => h.1 ▸ hS) ?_ ?_⟩
    · rintro i x σ H' hi ⟨rfl, v, rfl⟩
      obtain ⟨z, hzi, rfl⟩ : ∃ z, ns[i]? = some z ∧ x = V.int z := by
        rw [List.getElem?_map] at hi
        cases e : ns[i]? with
        | none => rw [e] at hi; cases hi
        | some z => rw [e] at hi; exact ⟨z, rfl, (Option.some.inj hi).symm⟩
      have hil : i < ns.length := (List.getElem?_eq_some_iff.mp hzi).1
      have hmem : z ∈ ns := List.mem_of_getElem? hzi
      have htk : ns.take (i + 1) = ns.take i ++ [z] := by rw [List.take_succ, hzi]; rfl
      have zb := hb z hmem
      have mp := cml_pos (nzs_ne (ns := ns.take i))
      have ml := cml_lt (b := 60) (nzs_ne (ns := ns.take i)) fun n hn => hb n (List.mem_of_mem_take (List.mem_filter.mp hn).1)
      have mlen : (nzs (ns.take i)).length ≤ 10 := by
        have := List.length_filter_le (fun n : Int => decide (n ≠ 0)) (ns.take i)
        rw [List.length_take] at this
        unfold nzs
        omega
      have ml2 : (cml (nzs (ns.take i))).natAbs < 2 ^ 700 := Nat.lt_of_lt_of_le ml (Nat.pow_le_pow_right (by decide) (by omega))
      refine ⟨_, rfl, rfl, _, rfl, ?_⟩
      by_cases hz0 : z = 0
      · subst hz0
        have e0 : decide (V.int 0 = V.int 0) = true := decide_eq_true rfl
        rw [e0]
        refine iteF ?_
        refine ⟨rfl, some (.int 0), ?_⟩
        rw [htk]
        unfold nzs
        rw [List.filter_append]
        simp
      · rw [decide_eq_false (fun e => hz0 (V.int.inj e))]
        refine iteT ?_
        have gp : 0 < (cml (nzs (ns.take i))).natAbs.gcd z.natAbs := Nat.gcd_pos_of_pos_left _ (by omega)
        have gl : (cml (nzs (ns.take i))).natAbs.gcd z.natAbs ≤ z.natAbs := Nat.gcd_le_right _ (by omega)
        obtain ⟨q1, q2⟩ := cm_le (b := 60) mp ml2 zb
        refine ⟨_, rfl, _, rfl, _, rfl, _, _, rfl, ?_, ?_, ?_⟩
        · exact Nat.lt_of_lt_of_le ml2 (Nat.pow_le_pow_right (by decide) (by decide))
        · exact Nat.lt_of_lt_of_le zb (Nat.pow_le_pow_right (by decide) (by decide))
        refine ⟨_, _, rfl, rfl, wide_div (b := 60) (by omega) (by rw [Int.natAbs_natCast]; omega) (by decide) (by decide), ?_⟩
        refine ⟨_, rfl, _, rfl, ?_⟩
        refine ⟨_, _, rfl, rfl, wide_mul (a := 700) (b := 60) q1 (by split <;> omega) (by decide) (by decide) (by decide), ?_⟩
        refine ⟨rfl, some (.int z), ?_⟩
        have e1 : nzs (ns.take (i + 1)) = nzs (ns.take i) ++ [z] := by
          rw [htk]
          unfold nzs
          rw [List.filter_append]
          simp [hz0]
        rw [e1, cml_snoc]
        rfl
    rintro σ H' ⟨rfl, v, rfl⟩
    rw [List.length_map, List.take_length]
    refine ⟨_, rfl, a, _, rfl, .inl hS, fun l hl2 => ?_⟩
    obtain ⟨H1, hH1⟩ : ∃ H1, H1 = L2.upd H' l (.lst (ns.map V.int)) := ⟨_, rfl⟩
    have s1 : Same H' H1 := by rw [hH1]; exact sameUpd (Same.refl _) hl2
    have hl3 : H1 l = some (.lst (ns.map V.int)) := by rw [hH1]; exact upd_same
    rw [← hH1]
    refine ⟨fun σ H2 => Same H1 H2 ∧ ((0 ∈ ns ∧ σ = [some (.ref a), some (.int (cml (nzs ns))), v, some (.ref l), some (.bl true), some .non, none]) ∨ (0 ∉ ns ∧ σ = [some (.ref a), some (.int (cml (nzs ns))), v, some (.ref l), some (.bl false), some (.int (cml ns)), none])), ?_, ?_⟩
    · refine ⟨_, rfl, rfl, l, ns, rfl, SqL.of hl3, by omega, hb, fun hz => ?_, fun hz dd H2 nd hdd s' => ?_⟩
      · exact ⟨Same.refl _, .inr ⟨fun z => hz 0 z rfl, rfl⟩⟩
      · refine ⟨true, U.te, fun _ a0 na => ?_, fun q => Bool.noConfusion q⟩
        refine ⟨_, rfl, rfl, rfl, dd, _, _, rfl, hdd, rfl, 0, rfl, true, rfl, ?_⟩
        refine iteT ?_
        refine ⟨_, rfl, rfl, rfl, dd, _, _, rfl, hdd, rfl, rfl, true, rfl, ?_⟩
        refine iteT ?_
        refine ⟨_, rfl, _, _, true, rfl, rfl, ⟨dd, _, rfl, hdd⟩, (fun u hu => hu), sub, ?_⟩
        exact ⟨s', .inl ⟨hz, rfl⟩⟩
    · have eqv : PyData.eqv (.list (ns.map PyData.int)) (.list (ns.map PyData.int)) = true := SeqAt.eqv_refl _ (SeqAt.canLay_of_shaped (intsL_shaped ns))
      rintro σ H2 ⟨s2, ⟨hz, rfl⟩ | ⟨hz, rfl⟩⟩
      · refine ⟨_, rfl, _, rfl, _, _, .lst (SqL.of (s2 _ _ hl3)) (ints_dp ns), .lst ((s1.trans s2).seq hS) (ints_dp ns), intsL_shaped ns, intsL_shaped ns, _, rfl, ?_⟩
        rw [eqv]
        refine iteF ?_
        refine ⟨_, rfl, a, _, rfl, .inl ((s1.trans s2).seq hS), rfl, List.all_eq_true.mpr (flat_ints ns), _, rfl, ?_⟩
        rw [inV_zero, decide_eq_true hz]
        refine iteT ?_
        refine ⟨_, rfl, true, rfl, ?_⟩
        refine iteT ?_
        exact ⟨_, rfl, rfl, k H2 (s1.trans s2)⟩
      · have hz2 : ∀ n ∈ ns, n ≠ 0 := fun n hn e => hz (e ▸ hn)
        refine ⟨_, rfl, _, rfl, _, _, .lst (SqL.of (s2 _ _ hl3)) (ints_dp ns), .lst ((s1.trans s2).seq hS) (ints_dp ns), intsL_shaped ns, intsL_shaped ns, _, rfl, ?_⟩
        rw [eqv]
        refine iteF ?_
        refine ⟨_, rfl, a, _, rfl, .inl ((s1.trans s2).seq hS), rfl, List.all_eq_true.mpr (flat_ints ns), _, rfl, ?_⟩
        rw [inV_zero, decide_eq_false hz]
        refine iteF ?_
        refine ⟨_, rfl, false, rfl, true, rfl, ?_⟩
        refine iteT ?_
        refine ⟨_, rfl, _, rfl, true, rfl, ?_⟩
        refine iteT ?_
        refine ⟨_, rfl, _, rfl, rfl, ?_⟩
        rw [nzs_all hz2, decide_eq_true rfl]
        exact k H2 (s1.trans s2)
end
end OS
namespace OS
open PySem L2
def spLaw (K : PySem.W.Frag) : Sp := fun vs H Q _ => ∃ (a : Addr) (ns : List Int), vs = [.ref a] ∧ SqL K H a (ns.map V.int) ∧ ns.length ≤ 63 ∧ ∀ H', Q (.bl true) H'
section
variable {P : Program} {w : World} {K : PySem.W.Frag} {mg : Str → Option Value} {base : Heap}
abbrev nLaw : List Str := ["_law_script", "_law_state", "_law_factor", "_law_one", "_law_two", "_law_turn", "_law_row"]
theorem scLaw : FnScope nLaw ["_law_script"] (defScope sLaw) := ⟨rfl, rfl, rfl, by decide +kernel, rfl, by decide +kernel, by decide +kernel⟩
theorem ok_law {f fS fD fG fN fF fR fM : Addr} {fd dS dD dG dN dF dR dM : FuncData} (F : Fun K "law" "law" sLaw f fd) (mR : mg "range" = none) (mLen : mg "len" = none)
    (ES : FnOk P w K mg base CX0 1 fS dS ["_law_script"] (spStartD K)) (GS : Df K mg "_law_start" fS) (bS : Binds K dS ["_law_script"] [])
    (ED : FnOk P w K mg base CX0 1 fD dD ["_law_state", "_law_size"] spDraw) (GD : Df K mg "_law_draw" fD) (bD : Binds K dD ["_law_state", "_law_size"] [])
    (EG : FnOk P w K mg base CX0 2 fG dG ["_law_state", "_law_size"] spSg) (GG : Df K mg "_law_integer" fG) (bG : Binds K dG ["_law_state", "_law_size"] [])
    (EN : FnOk P w K mg base CX0 2 fN dN ["_law_state"] spNums) (GN : Df K mg "_law_numbers" fN) (bN : Binds K dN ["_law_state"] [])
    (EF : FnOk P w K mg base CX0 4 fF dF ["_law_top", "_law_bottom"] spRF) (GF : Df K mg "_law_right_fraction" fF) (bF : Binds K dF ["_law_top", "_law_bottom"] [])
    (ER : FnOk P w K mg base CX0 2 fR dR ["_law_one", "_law_two"] spRD) (GR : Df K mg "_law_right_divisor" fR) (bR : Binds K dR ["_law_one", "_law_two"] [])
    (EM : FnOk P w K mg base CX0 4 fM dM ["_law_row"] (spRM K)) (GM : Df K mg "_law_right_multiple" fM) (bM : Binds K dM ["_law_row"] []) : FnOk P w K mg base CX0 5 f fd ["_law_script"] (spLaw K) := by
  refine F.ok scLaw (fun vs H Q E h => ?_) (fun cdv A outer s H vs Q E hr h => ?_)
  · obtain ⟨a, ns, rfl, _⟩ := h
    rfl
  · obtain ⟨a, ns, rfl, hS, hn, k⟩ := h
    have hr1 : Room 1 _ := hr.mono (by decide)
    have hr2 : Room 2 _ := hr.mono (by decide)
    refine ⟨_, pss_cons (ps_set (i := 1) scLaw.nd rfl (Or.inl rfl) (pe_call ES hr1 rfl GS.mg GS.kp bS .nil pass0 (pa_cons (pv 0) pa_nil)))
      (pss_cons (ps_set (i := 2) scLaw.nd rfl (Or.inl rfl) (pe_op op_add pe_int (pe_call ED hr1 rfl GD.mg GD.kp bD .nil pass0 (pa_cons (pv 1) (pa_cons (pe_op op_pow pe_int pe_int) pa_nil)))))
      (pss_cons (ps_set (i := 3) scLaw.nd rfl (Or.inl rfl) (pe_op op_mul (pv 2) (pe_call EG hr2 rfl GG.mg GG.kp bG .nil pass0 (pa_cons (pv 1) (pa_cons (pe_op op_pow pe_int pe_int) pa_nil)))))
      (pss_cons (ps_set (i := 4) scLaw.nd rfl (Or.inl rfl) (pe_op op_mul (pv 2) (pe_call EG hr2 rfl GG.mg GG.kp bG .nil pass0 (pa_cons (pv 1) (pa_cons (pe_op op_pow pe_int pe_int) pa_nil)))))
      (pss_cons (ps_if (PW.pt (pw_or (pt_not (pt_val (pe_call EF hr rfl GF.mg GF.kp bF .nil pass0 (pa_cons (pv 3) (pa_cons (pv 4) pa_nil))))) (pw_or1 (pt_not (pt_val (pe_call EF hr rfl GF.mg GF.kp bF .nil pass0 (pa_cons (pv 4) (pa_cons (pv 3) pa_nil)))))))) (pss_one (ps_ret pe_bl)) pss_nil)
      (pss_cons (ps_if (PW.pt (pw_or (pt_not (pt_val (pe_call ER hr2 rfl GR.mg GR.kp bR .nil pass0 (pa_cons (pv 3) (pa_cons (pv 4) pa_nil))))) (pw_or1 (pt_not (pt_val (pe_call ER hr2 rfl GR.mg GR.kp bR .nil pass0 (pa_cons (pv 4) (pa_cons (pv 2) pa_nil)))))))) (pss_one (ps_ret pe_bl)) pss_nil)
      (pss_cons (ps_for PassesOwn.never rfl (pi_range1 rfl mR (pa_cons pe_int pa_nil)) (pg_name (i := 5) scLaw.nd rfl (Or.inl rfl))
        (pss_cons (ps_set (i := 6) scLaw.nd rfl (Or.inl rfl) (pe_call EN hr2 rfl GN.mg GN.kp bN .nil pass0 (pa_cons (pv 1) pa_nil)))
        (C8.pss_cut (ps_if (pt_cmpR op_eq (pe_call ED hr1 rfl GD.mg GD.kp bD .nil pass0 (pa_cons (pv 1) (pa_cons pe_int pa_nil))) pe_int (nomark _))
          (pss_one (ps_expr (pe_bm PySem.F.plainAttrs_list PySem.F.slot_list_insert PySem.F.type_list_insert mt_insert (pv 6) (pa_cons (pe_call ED hr1 rfl GD.mg GD.kp bD .nil pass0 (pa_cons (pv 1) (pa_cons (pe_op op_add (pe_callB call_len_seq (by rfl) mLen PySem.boot_len (pa_cons (pv 6) pa_nil)) pe_int) pa_nil))) (pa_cons pe_int pa_nil))))) pss_nil)
        (pss_one (ps_if (pt_not (pt_val (pe_call EM hr rfl GM.mg GM.kp bM .nil pass0 (pa_cons (pv 6) pa_nil)))) (pss_one (ps_ret pe_bl)) pss_nil)))))
      (pss_one (ps_ret pe_bl)))))))), ?_⟩
    refine ⟨_, rfl, a, ns, rfl, hS, hn, fun st H1 S1 s1 hst ow1 => ?_⟩
    have e12 : ((10 : Int) ^ (12 : Int).toNat) = 1000000000000 := by decide
    have e15 : ((10 : Int) ^ (15 : Int).toNat) = 1000000000000000 := by decide
    refine ⟨_, rfl, _, _, rfl, rfl, ⟨by decide, by decide, by decide⟩, st, 0, _, rfl, S1, by omega, by rw [e12]; decide, by rw [e12]; decide, fun f0 H2 f1 f2 S2 kd2 => ?_⟩
    rw [e12] at f2
    refine ⟨_, _, rfl, rfl, ?_⟩
    obtain ⟨fac, hfac⟩ : ∃ fac : Int, fac = 1 + f0 := ⟨_, rfl⟩
    rw [show (fun i j => V.int (i + j)) 1 f0 = V.int fac by rw [hfac]]
    refine ⟨_, rfl, _, rfl, _, _, rfl, rfl, ⟨by decide, by decide, by decide⟩, st, 1, _, rfl, S2, by omega, by rw [e15]; decide, by rw [e15]; decide, fun o1 H3 ob1 S3 kd3 => ?_⟩
    rw [e15] at ob1
    refine ⟨_, _, rfl, rfl, .inl ⟨by omega, by omega⟩, ?_⟩
    refine ⟨_, rfl, _, rfl, _, _, rfl, rfl, ⟨by decide, by decide, by decide⟩, st, 3, _, rfl, S3, by omega, by rw [e15]; decide, by rw [e15]; decide, fun o2 H4 ob2 S4 kd4 => ?_⟩
    rw [e15] at ob2
    refine ⟨_, _, rfl, rfl, .inl ⟨by omega, by omega⟩, ?_⟩
    have hbig : ∀ o : Int, o.natAbs ≤ (1000000000000000 : Int).toNat → (fac * o).natAbs < 2 ^ 200 := by
      intro o ho
      rw [Int.natAbs_mul]
      calc fac.natAbs * o.natAbs ≤ 1000000000000 * (1000000000000000 : Int).toNat := Nat.mul_le_mul (by omega) ho
        _ < 2 ^ 200 := by decide
    obtain ⟨one, h1⟩ : ∃ one, one = fac * o1 := ⟨_, rfl⟩
    obtain ⟨two, h2⟩ : ∃ two, two = fac * o2 := ⟨_, rfl⟩
    have b1 : one.natAbs < 2 ^ 200 := h1 ▸ hbig o1 ob1
    have b2 : two.natAbs < 2 ^ 200 := h2 ▸ hbig o2 ob2
    have b3 : fac.natAbs < 2 ^ 200 := Nat.lt_of_le_of_lt (show fac.natAbs ≤ 1000000000000 by omega) (by decide)
    rw [show (fun i j => V.int (i * j)) fac o1 = V.int one by rw [h1], show (fun i j => V.int (i * j)) fac o2 = V.int two by rw [h2]]
    refine ⟨_, rfl, _, rfl, one, two, rfl, b1, b2, fun H5 s5 => ?_⟩
    refine ⟨true, rfl, ?_⟩
    refine iteF ?_
    refine ⟨_, rfl, _, rfl, two, one, rfl, b2, b1, fun H6 s6 => ?_⟩
    refine ⟨true, rfl, ?_⟩
    refine iteF ?_
    refine ⟨_, rfl, _, rfl, one, two, rfl, b1, b2, true, rfl, ?_⟩
    refine iteF ?_
    refine ⟨_, rfl, _, rfl, two, fac, rfl, b2, b3, true, rfl, ?_⟩
    refine iteF ?_
    have S6 := (S4.same s5).same s6
    refine ⟨3, rfl, by decide, by decide, for_range (lo := 0) (n := 3) (fun i σ H' => StD H' st (5 + 30 * i) ∧ ∃ v u, σ = [some (.ref a), some (.ref st), some (.int fac), some (.int one), some (.int two), v, u]) ⟨S6, none, none, rfl⟩ ?_ ?_⟩
    · rintro i σ H7 hi ⟨S7, v, u, rfl⟩
      refine ⟨_, rfl, st, _, rfl, S7, by omega, fun D ns2 H8 hD ow hl hb S8 kd8 => ?_⟩
      refine ⟨fun σ H' => ∃ (D : Addr) (ns2 : List Int), StD H' st (5 + 30 * i + 22) ∧ H' D = some (.lst (ns2.map V.int)) ∧ ns2.length ≤ 7 ∧ (∀ n ∈ ns2, n.natAbs < 2 ^ 60) ∧ σ = [some (.ref a), some (.ref st), some (.int fac), some (.int one), some (.int two), some (.int (0 + i)), some (.ref D)], ?_, ?_⟩
      · refine ⟨_, rfl, st, _, 3, rfl, S8, by omega, by decide, by decide, fun q H9 q0 q1 S9 kd9 => ?_⟩
        have ow9 := kd9 _ _ ow
        have hb60 : ∀ n ∈ ns2, n.natAbs < 2 ^ 60 := fun n hn => Nat.lt_of_lt_of_le (hb n hn) (by decide)
        refine ⟨rfl, _, rfl, ?_⟩
        refine ite2 (fun _ => ?_) (fun _ => ?_)
        · refine ⟨_, rfl, .inl ⟨rfl, _, SqL.of ow9.1⟩, ?_⟩
          refine ⟨_, rfl, _, rfl, D, _, rfl, .inl (SqL.of ow9.1), _, _, rfl, rfl, st, _, _, rfl, S9, by omega, by omega, by rw [List.length_map]; omega, fun p H10 p0 p1 S10 kd10 => ?_⟩
          have ow10 := kd10 _ _ ow9
          refine ⟨D, _, p, V.int 0, rfl, rfl, ow10.1, ?_, p0, by rw [List.length_map] at p1; omega, ?_⟩
          · rw [List.length_map]
            exact small1000 (by omega)
          · refine ⟨D, ns2.take p.toNat ++ [0] ++ ns2.drop p.toNat, (S10.put ow10).mono (by omega), ?_, ?_, ?_, rfl⟩
            · rw [upd_same]
              simp
            · have : (ns2.take p.toNat ++ [0] ++ ns2.drop p.toNat).length = ns2.length + 1 := by
                simp
                omega
              omega
            · intro n hn
              rcases List.mem_append.mp hn with hn | hn
              · rcases List.mem_append.mp hn with hn | hn
                · exact hb60 n (List.mem_of_mem_take hn)
                · cases List.mem_singleton.mp hn; decide
              · exact hb60 n (List.mem_of_mem_drop hn)
        · exact ⟨D, ns2, S9.mono (by omega), ow9.1, by omega, hb60, rfl⟩
      · rintro σ H9 ⟨D, ns2, S9, hD9, hl9, hb9, rfl⟩
        refine ⟨_, rfl, D, ns2, rfl, SqL.of hD9, by omega, hb9, fun H10 s10 => ?_⟩
        refine ⟨true, rfl, ?_⟩
        refine iteF ?_
        exact ⟨(S9.same s10).mono (by omega), _, _, rfl⟩
    · rintro σ H7 ⟨S7, v, u, rfl⟩
      exact k H7
end
end OS
namespace OS
open PySem L2
theorem all_mk {l : PySem.W.OpenLaw} {w : World} {K : PySem.W.Frag} {h : Heap} {mg : Str → Option Value} {fa f1 f2 f3 f4 f5 f6 f7 f8 f9 f10 f11 f12 f13 : Addr} (X : K.In h) (G : h.Ns mainGlobals mg) (hfa : mg "law" = some (.ref fa))
    {od1 an1 od2 an2 od3 an3 od4 an4 od5 an5 od6 an6 od7 an7 od8 an8 od9 an9 od10 an10 od11 an11 od12 an12 od13 an13 : Option Addr} {sl1 sl2 sl3 sl4 sl5 sl6 sl7 sl8 sl9 sl10 sl11 sl12 sl13 : Array (Option Value)} {oc1 kV1 dc1 pm1 cd1 ct1 oc2 kV2 dc2 pm2 cd2 ct2 oc3 kV3 dc3 pm3 cd3 ct3 oc4 kV4 dc4 pm4 cd4 ct4 oc5 kV5 dc5 pm5 cd5 ct5 oc6 kV6 dc6 pm6 cd6 ct6 oc7 kV7 dc7 pm7 cd7 ct7 oc8 kV8 dc8 pm8 cd8 ct8 oc9 kV9 dc9 pm9 cd9 ct9 oc10 kV10 dc10 pm10 cd10 ct10 oc11 kV11 dc11 pm11 cd11 ct11 oc12 kV12 dc12 pm12 cd12 ct12 oc13 kV13 dc13 pm13 cd13 ct13 : Value} {CU fU : Addr} {odU anU : Option Addr} {slU : Array (Option Value)} {ocU kVU dcU pmU cdU ctU : Value} {nmU qU : Str} {NU : Addr} {bsU : List Value} {snU : List Str} {subU : List Value} {abU : Bool} {colU : Option Bool} {ddU : Option Addr} {k0U k1U k2U k3U k5U : Option Value} {ONE : Addr}
    (aU : PySem.W.nsIn K mainGlobals "OutOfRange" = some (some (.ref CU)))
    (aO : PySem.W.nsIn K mainGlobals "OneshardError" = some (some (.ref ONE)))
    (aG : PySem.W.nsIn K mainGlobals "gcd" = some (some (.builtin "math.gcd")))
    (a1 : PySem.W.nsIn K mainGlobals "_law_start" = some (some (.ref f1)))
    (l1 : K.lookup f1 = some ⟨oc1, od1, .func (PySem.W.fnOf "_law_start" "_law_start" (defArgs sStart) (defBody sStart) (defScope sStart) .none kV1 dc1 pm1 an1 cd1 ct1), sl1⟩)
    (c1 : PySem.W.codeIn K cd1 "_law_start" = true)
    (k1 : PySem.W.keepIn K (.ref f1) = true)
    (a2 : PySem.W.nsIn K mainGlobals "_law_draw" = some (some (.ref f2)))
    (l2 : K.lookup f2 = some ⟨oc2, od2, .func (PySem.W.fnOf "_law_draw" "_law_draw" (defArgs s_draw) (defBody s_draw) (defScope s_draw) .none kV2 dc2 pm2 an2 cd2 ct2), sl2⟩)
    (c2 : PySem.W.codeIn K cd2 "_law_draw" = true)
    (k2 : PySem.W.keepIn K (.ref f2) = true)
    (a3 : PySem.W.nsIn K mainGlobals "_law_is_integer" = some (some (.ref f3)))
    (l3 : K.lookup f3 = some ⟨oc3, od3, .func (PySem.W.fnOf "_law_is_integer" "_law_is_integer" (defArgs s_is_integer) (defBody s_is_integer) (defScope s_is_integer) .none kV3 dc3 pm3 an3 cd3 ct3), sl3⟩)
    (c3 : PySem.W.codeIn K cd3 "_law_is_integer" = true)
    (k3 : PySem.W.keepIn K (.ref f3) = true)
    (a4 : PySem.W.nsIn K mainGlobals "_law_divisor" = some (some (.ref f4)))
    (l4 : K.lookup f4 = some ⟨oc4, od4, .func (PySem.W.fnOf "_law_divisor" "_law_divisor" (defArgs s_divisor) (defBody s_divisor) (defScope s_divisor) .none kV4 dc4 pm4 an4 cd4 ct4), sl4⟩)
    (c4 : PySem.W.codeIn K cd4 "_law_divisor" = true)
    (k4 : PySem.W.keepIn K (.ref f4) = true)
    (a5 : PySem.W.nsIn K mainGlobals "_law_integer" = some (some (.ref f5)))
    (l5 : K.lookup f5 = some ⟨oc5, od5, .func (PySem.W.fnOf "_law_integer" "_law_integer" (defArgs s_integer) (defBody s_integer) (defScope s_integer) .none kV5 dc5 pm5 an5 cd5 ct5), sl5⟩)
    (c5 : PySem.W.codeIn K cd5 "_law_integer" = true)
    (k5 : PySem.W.keepIn K (.ref f5) = true)
    (a6 : PySem.W.nsIn K mainGlobals "_law_numbers" = some (some (.ref f6)))
    (l6 : K.lookup f6 = some ⟨oc6, od6, .func (PySem.W.fnOf "_law_numbers" "_law_numbers" (defArgs s_numbers) (defBody s_numbers) (defScope s_numbers) .none kV6 dc6 pm6 an6 cd6 ct6), sl6⟩)
    (c6 : PySem.W.codeIn K cd6 "_law_numbers" = true)
    (k6 : PySem.W.keepIn K (.ref f6) = true)
    (a7 : PySem.W.nsIn K mainGlobals "_law_right_fraction" = some (some (.ref f7)))
    (l7 : K.lookup f7 = some ⟨oc7, od7, .func (PySem.W.fnOf "_law_right_fraction" "_law_right_fraction" (defArgs s_right_fraction) (defBody s_right_fraction) (defScope s_right_fraction) .none kV7 dc7 pm7 an7 cd7 ct7), sl7⟩)
    (c7 : PySem.W.codeIn K cd7 "_law_right_fraction" = true)
    (k7 : PySem.W.keepIn K (.ref f7) = true)
    (a8 : PySem.W.nsIn K mainGlobals "_law_right_divisor" = some (some (.ref f8)))
    (l8 : K.lookup f8 = some ⟨oc8, od8, .func (PySem.W.fnOf "_law_right_divisor" "_law_right_divisor" (defArgs s_right_divisor) (defBody s_right_divisor) (defScope s_right_divisor) .none kV8 dc8 pm8 an8 cd8 ct8), sl8⟩)
    (c8 : PySem.W.codeIn K cd8 "_law_right_divisor" = true)
    (k8 : PySem.W.keepIn K (.ref f8) = true)
    (a9 : PySem.W.nsIn K mainGlobals "_law_right_multiple" = some (some (.ref f9)))
    (l9 : K.lookup f9 = some ⟨oc9, od9, .func (PySem.W.fnOf "_law_right_multiple" "_law_right_multiple" (defArgs s_right_multiple) (defBody s_right_multiple) (defScope s_right_multiple) .none kV9 dc9 pm9 an9 cd9 ct9), sl9⟩)
    (c9 : PySem.W.codeIn K cd9 "_law_right_multiple" = true)
    (k9 : PySem.W.keepIn K (.ref f9) = true)
    (a10 : PySem.W.nsIn K mainGlobals "lowest" = some (some (.ref f10)))
    (l10 : K.lookup f10 = some ⟨oc10, od10, .func (PySem.W.fnOf "lowest" "lowest" (defArgs s_lowest) (defBody s_lowest) (defScope s_lowest) .none kV10 dc10 pm10 an10 cd10 ct10), sl10⟩)
    (c10 : PySem.W.codeIn K cd10 "lowest" = true)
    (k10 : PySem.W.keepIn K (.ref f10) = true)
    (a11 : PySem.W.nsIn K mainGlobals "common_divisor" = some (some (.ref f11)))
    (l11 : K.lookup f11 = some ⟨oc11, od11, .func (PySem.W.fnOf "common_divisor" "common_divisor" (defArgs s_common_divisor) (defBody s_common_divisor) (defScope s_common_divisor) .none kV11 dc11 pm11 an11 cd11 ct11), sl11⟩)
    (c11 : PySem.W.codeIn K cd11 "common_divisor" = true)
    (k11 : PySem.W.keepIn K (.ref f11) = true)
    (a12 : PySem.W.nsIn K mainGlobals "common_multiple" = some (some (.ref f12)))
    (l12 : K.lookup f12 = some ⟨oc12, od12, .func (PySem.W.fnOf "common_multiple" "common_multiple" (defArgs s_common_multiple) (defBody s_common_multiple) (defScope s_common_multiple) .none kV12 dc12 pm12 an12 cd12 ct12), sl12⟩)
    (c12 : PySem.W.codeIn K cd12 "common_multiple" = true)
    (k12 : PySem.W.keepIn K (.ref f12) = true)
    (a13 : PySem.W.nsIn K mainGlobals "law" = some (some (.ref f13)))
    (l13 : K.lookup f13 = some ⟨oc13, od13, .func (PySem.W.fnOf "law" "law" (defArgs sLaw) (defBody sLaw) (defScope sLaw) .none kV13 dc13 pm13 an13 cd13 ct13), sl13⟩)
    (c13 : PySem.W.codeIn K cd13 "law" = true)
    (k13 : PySem.W.keepIn K (.ref f13) = true)
    (uL : K.lookup CU = some (excClassObj nmU qU CU NU bsU [.ref ONE, .type "ValueError", .type "Exception", .type "BaseException", .type "object"] true snU subU abU colU ddU k0U k1U k2U k3U k5U "ValueError.__new__"))
    (usa : PySem.W.findIn K (.ref CU) "__setattr__" = some (some (.builtin "object.__setattr__")))
    (uex : PySem.W.subIn K (.ref CU) (.type "BaseException") = some true)
    (uty : PySem.W.typeIn K (.ref CU) = some (.type "type"))
    (ukC : PySem.W.keepIn K (.ref CU) = true)
    (uiC : PySem.W.findIn K (.ref CU) "__init__" = some (some (.ref fU)))
    (utI : PySem.W.typeIn K (.ref fU) = some (.type "function"))
    (uno : PySem.W.findIn K (.ref CU) "value" = some none)
    (uga : PySem.W.findIn K (.ref CU) "__getattribute__" = some (some (.builtin "BaseException.__getattribute__")))
    (ugg : PySem.W.findIn K (.ref CU) "__getattr__" = some none)
    (uhd : PySem.W.hasDictIn K CU = true)
    (usu : PySem.W.subIn K (.ref CU) (.ref CU) = some true)
    (uha : PySem.W.findIn K (.ref CU) "__class__" = some (some (.builtin "object.__class__")))
    (uhn : PySem.W.specialIn K (.builtin "object.__class__") "__get__" = some (some (.builtin "getset_descriptor.__get__")))
    (uht : PySem.W.takesIn K (.builtin "object.__class__") = some true)
    (uhm : PySem.W.mroIn K CU (.type "object") = some true)
    (ul : K.lookup fU = some ⟨ocU, odU, .func (PySem.W.fnOf "__init__" "OutOfRange.__init__" (defArgs sOutOfRange_init) (defBody sOutOfRange_init) (defScope sOutOfRange_init) .none kVU dcU pmU anU cdU ctU), slU⟩)
    (uc : PySem.W.codeIn K cdU "OutOfRange.__init__" = true)
    (uk : PySem.W.keepIn K (.ref fU) = true)
    (ohd : PySem.W.hasDictIn K ONE = true)
    (oty : PySem.W.typeIn K (.ref ONE) = some (.type "type"))
    (osu : PySem.W.subIn K (.ref ONE) (.ref ONE) = some true)
    (uo : PySem.W.subIn K (.ref CU) (.ref ONE) = some true)
    (uv : PySem.W.subIn K (.ref CU) (.type "ValueError") = some true)
    (z_len : PySem.W.nsIn K mainGlobals "len" = some none)
    (z_int : PySem.W.nsIn K mainGlobals "int" = some none)
    (z_abs : PySem.W.nsIn K mainGlobals "abs" = some none)
    (z_list : PySem.W.nsIn K mainGlobals "list" = some none)
    (z_range : PySem.W.nsIn K mainGlobals "range" = some none)
    (z_isinstance : PySem.W.nsIn K mainGlobals "isinstance" = some none)
    (z_bool : PySem.W.nsIn K mainGlobals "bool" = some none)
    (z_tuple : PySem.W.nsIn K mainGlobals "tuple" = some none)
    (z_ValueError : PySem.W.nsIn K mainGlobals "ValueError" = some none) :
    ∃ fd : FuncData, (∀ (s : Shared) (v : Value), BindsTo s fd ⟨[v], []⟩ [("_law_script", v)]) ∧ ∀ base : Heap, K.In base → base.Ns mainGlobals mg → FnOk l.prog w K mg base CX0 5 fa fd ["_law_script"] (spLaw K) := by
  have e := hfa.symm.trans (PySem.W.mg_of X G a13)
  cases e
  have F1 := fun_mk (st := sStart) l1 c1 k1
  have b1 := F1.binds (ps := ["_law_script"]) fun _ _ _ _ _ _ us hl => match us, hl with | [_], _ => rfl
  have F2 := fun_mk (st := s_draw) l2 c2 k2
  have b2 := F2.binds (ps := ["_law_state", "_law_size"]) fun _ _ _ _ _ _ us hl => match us, hl with | [_, _], _ => rfl
  have F3 := fun_mk (st := s_is_integer) l3 c3 k3
  have b3 := F3.binds (ps := ["_law_actual"]) fun _ _ _ _ _ _ us hl => match us, hl with | [_], _ => rfl
  have F4 := fun_mk (st := s_divisor) l4 c4 k4
  have b4 := F4.binds (ps := ["_law_one", "_law_two"]) fun _ _ _ _ _ _ us hl => match us, hl with | [_, _], _ => rfl
  have F5 := fun_mk (st := s_integer) l5 c5 k5
  have b5 := F5.binds (ps := ["_law_state", "_law_size"]) fun _ _ _ _ _ _ us hl => match us, hl with | [_, _], _ => rfl
  have F6 := fun_mk (st := s_numbers) l6 c6 k6
  have b6 := F6.binds (ps := ["_law_state"]) fun _ _ _ _ _ _ us hl => match us, hl with | [_], _ => rfl
  have F7 := fun_mk (st := s_right_fraction) l7 c7 k7
  have b7 := F7.binds (ps := ["_law_top", "_law_bottom"]) fun _ _ _ _ _ _ us hl => match us, hl with | [_, _], _ => rfl
  have F8 := fun_mk (st := s_right_divisor) l8 c8 k8
  have b8 := F8.binds (ps := ["_law_one", "_law_two"]) fun _ _ _ _ _ _ us hl => match us, hl with | [_, _], _ => rfl
  have F9 := fun_mk (st := s_right_multiple) l9 c9 k9
  have b9 := F9.binds (ps := ["_law_row"]) fun _ _ _ _ _ _ us hl => match us, hl with | [_], _ => rfl
  have F10 := fun_mk (st := s_lowest) l10 c10 k10
  have b10 := F10.binds (ps := ["numerator", "denominator"]) fun _ _ _ _ _ _ us hl => match us, hl with | [_, _], _ => rfl
  have F11 := fun_mk (st := s_common_divisor) l11 c11 k11
  have b11 := F11.binds (ps := ["first", "second"]) fun _ _ _ _ _ _ us hl => match us, hl with | [_, _], _ => rfl
  have F12 := fun_mk (st := s_common_multiple) l12 c12 k12
  have b12 := F12.binds (ps := ["numbers"]) fun _ _ _ _ _ _ us hl => match us, hl with | [_], _ => rfl
  have F13 := fun_mk (st := sLaw) l13 c13 k13
  have mz_len := PySem.W.mg_none_of X G z_len
  have mz_int := PySem.W.mg_none_of X G z_int
  have mz_abs := PySem.W.mg_none_of X G z_abs
  have mz_list := PySem.W.mg_none_of X G z_list
  have mz_range := PySem.W.mg_none_of X G z_range
  have mz_isinstance := PySem.W.mg_none_of X G z_isinstance
  have mz_bool := PySem.W.mg_none_of X G z_bool
  have mz_tuple := PySem.W.mg_none_of X G z_tuple
  have mz_ValueError := PySem.W.mg_none_of X G z_ValueError
  have G1 : Df K mg "_law_start" f1 := ⟨PySem.W.mg_of X G a1, k1⟩
  have G2 : Df K mg "_law_draw" f2 := ⟨PySem.W.mg_of X G a2, k2⟩
  have G3 : Df K mg "_law_is_integer" f3 := ⟨PySem.W.mg_of X G a3, k3⟩
  have G4 : Df K mg "_law_divisor" f4 := ⟨PySem.W.mg_of X G a4, k4⟩
  have G5 : Df K mg "_law_integer" f5 := ⟨PySem.W.mg_of X G a5, k5⟩
  have G6 : Df K mg "_law_numbers" f6 := ⟨PySem.W.mg_of X G a6, k6⟩
  have G7 : Df K mg "_law_right_fraction" f7 := ⟨PySem.W.mg_of X G a7, k7⟩
  have G8 : Df K mg "_law_right_divisor" f8 := ⟨PySem.W.mg_of X G a8, k8⟩
  have G9 : Df K mg "_law_right_multiple" f9 := ⟨PySem.W.mg_of X G a9, k9⟩
  have G10 : Df K mg "lowest" f10 := ⟨PySem.W.mg_of X G a10, k10⟩
  have G11 : Df K mg "common_divisor" f11 := ⟨PySem.W.mg_of X G a11, k11⟩
  have G12 : Df K mg "common_multiple" f12 := ⟨PySem.W.mg_of X G a12, k12⟩
  have T : BiD mg := ⟨mz_len, mz_int, mz_abs, mz_list⟩
  have TI : BiI mg := ⟨mz_isinstance, mz_int, mz_bool, mz_tuple⟩
  have mG : mg "gcd" = some (.builtin "math.gcd") := PySem.W.mg_of X G aG
  have mO : mg "OneshardError" = some (.ref ONE) := PySem.W.mg_of X G aO
  have U : ErrC K mg "OutOfRange" CU fU "value" := ⟨PySem.W.mg_of X G aU, ⟨⟨nmU, qU, NU, bsU, _, snU, subU, abU, colU, ddU, k0U, k1U, k2U, k3U, k5U, uL, rfl⟩, usa, uex, uty, ukC⟩, uiC, utI, uno, ⟨uga, ugg, uex, uhd⟩, PySem.W.exm_ref uex uhd uty usu⟩
  have UX : ExcC K CU := ⟨uga, ugg, uex, uhd, uha, uhn, uht, uhm⟩
  have FU := fun_mk (st := sOutOfRange_init) ul uc uk
  have bU := FU.binds (ps := ["self", "value"]) fun _ _ _ _ _ _ us hl => match us, hl with | [_, _], _ => rfl
  have kl := kbRev (ps := ["numerator", "denominator"]) (ks := ["denominator", "numerator"]) F10 fun _ _ _ _ _ _ us ws h1 h2 => match us, ws, h1, h2 with | [], [_, _], _, _ => rfl
  have kd := kbRev (ps := ["first", "second"]) (ks := ["second", "first"]) F11 fun _ _ _ _ _ _ us ws h1 h2 => match us, ws, h1, h2 with | [], [_, _], _, _ => rfl
  have km := kbOne (ps := ["numbers"]) (ks := ["numbers"]) F12 fun _ _ _ _ _ _ us ws h1 h2 => match us, ws, h1, h2 with | [], [_], _, _ => rfl
  refine ⟨PySem.W.fnOf "law" "law" (defArgs sLaw) (defBody sLaw) (defScope sLaw) .none kV13 dc13 pm13 an13 cd13 ct13, fun s v => .of_eq rfl, fun base _ _ => ?_⟩
  have E1 := ok_startD (P := l.prog) (w := w) (base := base) F1 T
  have E2 := ok_draw (P := l.prog) (w := w) (base := base) F2 T
  have E3 := ok_ii (P := l.prog) (w := w) (base := base) F3 TI
  have E3c := okc_ii (P := l.prog) (w := w) (base := base) F3 TI
  have E4 := ok_dv (P := l.prog) (w := w) (base := base) F4 T
  have E5 := ok_sg F5 E2 G2 b2
  have E6 := ok_nums F6 mz_range E2 G2 b2
  have EU := ok_oor (P := l.prog) (w := w) (base := base) FU U
  have E10 := ok_low F10 U mG EU bU
  have E11 := ok_cd (P := l.prog) (w := w) (base := base) F11 mG
  have E12 := ok_cm F12 U mG mz_abs EU bU
  have E7 := ok_rf F7 TI mz_len U UX mO (kit_ref ohd oty osu uo) E10 G10 kl E3 E3c G3 b3 E4 G4 b4
  have E8 := ok_rd F8 E11 G11 kd E3 G3 b3 E4 G4 b4
  have E9 := ok_rm F9 TI T mz_ValueError U UX (kit_val uv) E12 G12 km E3 E3c G3 b3 E4 G4 b4
  exact ok_law F13 mz_range mz_len E1 G1 b1 E2 G2 b2 E5 G5 b5 E6 G6 b6 E7 G7 b7 E8 G8 b8 E9 G9 b9
theorem walk {l : PySem.W.OpenLaw} {q : Program} {loose : List Str} {XP : (Str → Option Value) → Heap → Prop} {YP : World → Heap → Prop} {d : DefRec} {K : Params → PySem.W.Frag} (hn : l.most = some 63) (hdf : d.params.defaults = [])
    (hY : ∀ (w : World) (h : Heap), YP w h → (K w.params).In h)
    (F : ∀ (w : World) (mg : Str → Option Value) (fa : Addr) (h : Heap), (K w.params).In h → h.Ns mainGlobals mg → mg d.name = some (.ref fa) →
      ∃ fd : FuncData, (∀ (s : Shared) (u : Value), BindsTo s fd ⟨[u], []⟩ [("_law_script", u)]) ∧ ∀ base : Heap, (K w.params).In base → base.Ns mainGlobals mg → FnOk l.prog w (K w.params) mg base CX0 5 fa fd ["_law_script"] (spLaw (K w.params))) :
    PySem.W.WalkO q loose XP YP l.row.toRowW d [] (fun f vs => PySem.call f vs) :=
  L2.walk_of (n := 63) (k := 5) (x := "_law_script") (CX := fun _ => CX0) (sp := fun w => spLaw (K w.params)) hn (by decide) hdf ⟨rfl, by decide, by decide⟩ hY F (fun _ _ a ns hl _ hS => ⟨a, ns, rfl, hS, hl, fun _ => rfl⟩) fun _ _ _ _ _ z => z
end OS
open PySem PySem.W PyProof.Rows
set_option maxRecDepth 100000 in
set_option maxHeartbeats 0 in
theorem PySem.Challenge.cw_oneshard_k20_fractions_holds : PySem.Challenge.rw_oneshard_k20_fractions.Holds := by
  w_on; o_law; k_head; (case hw => w_witness2)
  k_fill
  refine OS.walk (l := PySem.Challenge.rw_oneshard_k20_fractions) rfl rfl (fun w h Y => PySem.W.kIn_of Y) ?F
  case F =>
    intro w mg fa h KX G hmg
    refine' OS.all_mk KX G hmg ?aU ?aO ?aG ?a1 ?l1 ?c1 ?k1 ?a2 ?l2 ?c2 ?k2 ?a3 ?l3 ?c3 ?k3 ?a4 ?l4 ?c4 ?k4 ?a5 ?l5 ?c5 ?k5 ?a6 ?l6 ?c6 ?k6 ?a7 ?l7 ?c7 ?k7 ?a8 ?l8 ?c8 ?k8 ?a9 ?l9 ?c9 ?k9 ?a10 ?l10 ?c10 ?k10 ?a11 ?l11 ?c11 ?k11 ?a12 ?l12 ?c12 ?k12 ?a13 ?l13 ?c13 ?k13 ?uL ?usa ?uex ?uty ?ukC ?uiC ?utI ?uno ?uga ?ugg ?uhd ?usu ?uha ?uhn ?uht ?uhm ?ul ?uc ?uk ?ohd ?oty ?osu ?uo ?uv ?z_len ?z_int ?z_abs ?z_list ?z_range ?z_isinstance ?z_bool ?z_tuple ?z_ValueError
    (case aU => k_is)
    (case aO => k_is)
    (case aG => k_is)
    (case a1 => k_is)
    (case l1 => k_is)
    (case c1 => k_is)
    (case k1 => k_is)
    (case a2 => k_is)
    (case l2 => k_is)
    (case c2 => k_is)
    (case k2 => k_is)
    (case a3 => k_is)
    (case l3 => k_is)
    (case c3 => k_is)
    (case k3 => k_is)
    (case a4 => k_is)
    (case l4 => k_is)
    (case c4 => k_is)
    (case k4 => k_is)
    (case a5 => k_is)
    (case l5 => k_is)
    (case c5 => k_is)
    (case k5 => k_is)
    (case a6 => k_is)
    (case l6 => k_is)
    (case c6 => k_is)
    (case k6 => k_is)
    (case a7 => k_is)
    (case l7 => k_is)
    (case c7 => k_is)
    (case k7 => k_is)
    (case a8 => k_is)
    (case l8 => k_is)
    (case c8 => k_is)
    (case k8 => k_is)
    (case a9 => k_is)
    (case l9 => k_is)
    (case c9 => k_is)
    (case k9 => k_is)
    (case a10 => k_is)
    (case l10 => k_is)
    (case c10 => k_is)
    (case k10 => k_is)
    (case a11 => k_is)
    (case l11 => k_is)
    (case c11 => k_is)
    (case k11 => k_is)
    (case a12 => k_is)
    (case l12 => k_is)
    (case c12 => k_is)
    (case k12 => k_is)
    (case a13 => k_is)
    (case l13 => k_is)
    (case c13 => k_is)
    (case k13 => k_is)
    (case uL => k_is)
    (case usa => k_is)
    (case uex => k_is)
    (case uty => k_is)
    (case ukC => k_is)
    (case uiC => k_is)
    (case utI => k_is)
    (case uno => k_is)
    (case uga => k_is)
    (case ugg => k_is)
    (case uhd => k_is)
    (case usu => k_is)
    (case uha => k_is)
    (case uhn => k_is)
    (case uht => k_is)
    (case uhm => k_is)
    (case ul => k_is)
    (case uc => k_is)
    (case uk => k_is)
    (case ohd => k_is)
    (case oty => k_is)
    (case osu => k_is)
    (case uo => k_is)
    (case uv => k_is)
    (case z_len => k_is)
    (case z_int => k_is)
    (case z_abs => k_is)
    (case z_list => k_is)
    (case z_range => k_is)
    (case z_isinstance => k_is)
    (case z_bool => k_is)
    (case z_tuple => k_is)
    (case z_ValueError => k_is)
#print axioms PySem.Challenge.cw_oneshard_k20_fractions_holds
