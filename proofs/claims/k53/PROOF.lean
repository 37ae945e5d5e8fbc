import PyProof.Rows.All
import Wide.All
import OpenK.AllK
import Wide.FinOn
import HandS.Base
import HandS.Call
import HandS.List
import HandS.Comp
import HandS.Ends
import HandS.Dict
import HandS.Iter
import HandS.Text
import HandS.Words
import HandS.WordsList
import HandS.WordsDict
import HandS.Walk
import HandS.IsInst
import HandS.Defaults
import HandS.Codes
import HandS.More
import HandS.DictComp
import HandS.FStr
import HandS.OwnEq
import HandS.Property
import HandS.Style
import HandS.StrMore
import HandS.Exc
import HandS.ExcOwn
import HandS.ExcInit
import HandS.ExcField
import HandS.ExcIs
import HandS.ExcValue
import HandS.Finally
import HandS.TryOnly
import HandS.TryMany
import HandS.Flow
import HandS.WordsExc
import HandS.Star
import HandS.ClsMeth
import HandS.Wide
import HandS.WideBits
import HandS.Gcd
import HandS.TupAny
import HandS.MakeKw
import HandS.MakeKwOnly
import KE.KCallOwn
import KE.KOpsOwn
import PySem.Challenge.RW_oneshard_k53_whole_products
set_option Elab.async false
set_option linter.all false
set_option maxRecDepth 100000
set_option maxHeartbeats 2000000
/-! ### data: values without a heap, the world of a run, what is said of a run over data -/
namespace OZ
open PySem L2
inductive Da where
  | non | bl (b : Bool) | int (i : Int) | str (s : Str) | ty (n : String) | ref (a : Addr)
  | tup (ds : List Da) | lst (ds : List Da) | dct (kvs : List (Key × Da)) | obj (C : Addr) (fs : List (Str × Da)) | exc (a dd : Addr) (fs : List (Str × Da))
mutual
inductive Rep (K : PySem.W.Frag) (G : Hp) : V → Da → Prop
  | non : Rep K G .non .non
  | bl (b : Bool) : Rep K G (.bl b) (.bl b)
  | int (i : Int) : Rep K G (.int i) (.int i)
  | str (s : Str) : Rep K G (.str s) (.str s)
  | ty (n : String) : Rep K G (.ty n) (.ty n)
  | ref (a : Addr) : Rep K G (.ref a) (.ref a)
  | tup {a : Addr} {vs : List V} {ds : List Da} : SqT K G a vs → Reps K G vs ds → Rep K G (.ref a) (.tup ds)
  | lst {a : Addr} {vs : List V} {ds : List Da} : G a = some (.lst vs) → Reps K G vs ds → Rep K G (.ref a) (.lst ds)
  | dct {a : Addr} {o : Obj} {kvs : List (Key × V)} {ks : List (Key × Da)} : G a = some (.frz o (.dK kvs)) → RepK K G kvs ks → Rep K G (.ref a) (.dct ks)
  | obj {a C dx : Addr} {vs : List (Str × V)} {fs : List (Str × Da)} : G a = some (.ins C dx vs) → RepF K G vs fs → Rep K G (.ref a) (.obj C fs)
  | exc {a dd : Addr} {vs : List (Str × V)} {fs : List (Str × Da)} : G dd = some (.xd vs) → RepF K G vs fs → Rep K G (.ref a) (.exc a dd fs)
inductive Reps (K : PySem.W.Frag) (G : Hp) : List V → List Da → Prop
  | nil : Reps K G [] []
  | cons {v : V} {d : Da} {vs : List V} {ds : List Da} : Rep K G v d → Reps K G vs ds → Reps K G (v :: vs) (d :: ds)
inductive RepK (K : PySem.W.Frag) (G : Hp) : List (Key × V) → List (Key × Da) → Prop
  | nil : RepK K G [] []
  | cons {k : Key} {v : V} {d : Da} {vs : List (Key × V)} {ds : List (Key × Da)} : Rep K G v d → RepK K G vs ds → RepK K G ((k, v) :: vs) ((k, d) :: ds)
inductive RepF (K : PySem.W.Frag) (G : Hp) : List (Str × V) → List (Str × Da) → Prop
  | nil : RepF K G [] []
  | cons {k : Str} {v : V} {d : Da} {vs : List (Str × V)} {ds : List (Str × Da)} : Rep K G v d → RepF K G vs ds → RepF K G ((k, v) :: vs) ((k, d) :: ds)
end
theorem rd_same {G G' : Hp} {a : Addr} {u : HO} (s : Same G G') (r : Rd G a u) : Rd G' a u := r.elim (fun r => .inl (s _ _ r)) fun ⟨o, r⟩ => .inr ⟨o, s _ _ r⟩
theorem sqL_same {K : PySem.W.Frag} {G G' : Hp} {a : Addr} {xs : List V} (s : Same G G') (h : SqL K G a xs) : SqL K G' a xs := h.elim (fun r => .inl (rd_same s r)) .inr
theorem sqT_same {K : PySem.W.Frag} {G G' : Hp} {a : Addr} {xs : List V} (s : Same G G') (h : SqT K G a xs) : SqT K G' a xs := h.elim (fun r => .inl (rd_same s r)) .inr
mutual
theorem Rep.mono {K : PySem.W.Frag} {G G' : Hp} (s : Same G G') : ∀ {v : V} {d : Da}, Rep K G v d → Rep K G' v d
  | _, _, .non => .non
  | _, _, .bl b => .bl b
  | _, _, .int b => .int b
  | _, _, .str b => .str b
  | _, _, .ty b => .ty b
  | _, _, .ref b => .ref b
  | _, _, .tup h r => .tup (sqT_same s h) (Reps.mono s r)
  | _, _, .lst h r => .lst (s _ _ h) (Reps.mono s r)
  | _, _, .dct h r => .dct (s _ _ h) (RepK.mono s r)
  | _, _, .obj h r => .obj (s _ _ h) (RepF.mono s r)
  | _, _, .exc h r => .exc (s _ _ h) (RepF.mono s r)
theorem Reps.mono {K : PySem.W.Frag} {G G' : Hp} (s : Same G G') : ∀ {v : List V} {d : List Da}, Reps K G v d → Reps K G' v d
  | _, _, .nil => .nil
  | _, _, .cons a b => .cons (Rep.mono s a) (Reps.mono s b)
theorem RepK.mono {K : PySem.W.Frag} {G G' : Hp} (s : Same G G') : ∀ {v : List (Key × V)} {d : List (Key × Da)}, RepK K G v d → RepK K G' v d
  | _, _, .nil => .nil
  | _, _, .cons a b => .cons (Rep.mono s a) (RepK.mono s b)
theorem RepF.mono {K : PySem.W.Frag} {G G' : Hp} (s : Same G G') : ∀ {v : List (Str × V)} {d : List (Str × Da)}, RepF K G v d → RepF K G' v d
  | _, _, .nil => .nil
  | _, _, .cons a b => .cons (Rep.mono s a) (RepF.mono s b)
end
theorem Reps.length {K : PySem.W.Frag} {G : Hp} : ∀ {v : List V} {d : List Da}, Reps K G v d → v.length = d.length
  | _, _, .nil => rfl
  | _, _, .cons _ b => by simp [Reps.length b]
theorem Reps.get {K : PySem.W.Frag} {G : Hp} : ∀ {vs : List V} {ds : List Da} {i : Nat} {d : Da}, Reps K G vs ds → ds[i]? = some d → ∃ v, vs[i]? = some v ∧ Rep K G v d
  | _, _, _, _, .nil, e => by simp at e
  | _, _, 0, _, .cons a _, e => by simp at e; subst e; exact ⟨_, rfl, a⟩
  | _, _, i + 1, d, .cons _ b, e => by
    obtain ⟨v, h1, h2⟩ := Reps.get (i := i) (d := d) b (by simpa using e)
    exact ⟨v, by simpa using h1, h2⟩
theorem Reps.get' {K : PySem.W.Frag} {G : Hp} : ∀ {vs : List V} {ds : List Da} {i : Nat} {v : V}, Reps K G vs ds → vs[i]? = some v → ∃ d, ds[i]? = some d ∧ Rep K G v d
  | _, _, _, _, .nil, e => by simp at e
  | _, _, 0, _, .cons a _, e => by simp at e; subst e; exact ⟨_, rfl, a⟩
  | _, _, i + 1, d, .cons _ b, e => by
    obtain ⟨v, h1, h2⟩ := Reps.get' (i := i) (v := d) b (by simpa using e)
    exact ⟨v, by simpa using h1, h2⟩
theorem Reps.append {K : PySem.W.Frag} {G : Hp} : ∀ {v w : List V} {d e : List Da}, Reps K G v d → Reps K G w e → Reps K G (v ++ w) (d ++ e)
  | _, _, _, _, .nil, r => r
  | _, _, _, _, .cons a b, r => .cons a (Reps.append b r)
theorem Reps.set {K : PySem.W.Frag} {G : Hp} {v : V} {d : Da} (r : Rep K G v d) : ∀ {vs : List V} {ds : List Da} (i : Nat), Reps K G vs ds → Reps K G (vs.set i v) (ds.set i d)
  | _, _, _, .nil => .nil
  | _, _, 0, .cons _ b => .cons r b
  | _, _, i + 1, .cons a b => .cons a (Reps.set r i b)
theorem Reps.take {K : PySem.W.Frag} {G : Hp} : ∀ {vs : List V} {ds : List Da} (n : Nat), Reps K G vs ds → Reps K G (vs.take n) (ds.take n)
  | _, _, 0, _ => .nil
  | _, _, _ + 1, .nil => .nil
  | _, _, n + 1, .cons a b => .cons a (Reps.take n b)
theorem Reps.drop {K : PySem.W.Frag} {G : Hp} : ∀ {vs : List V} {ds : List Da} (n : Nat), Reps K G vs ds → Reps K G (vs.drop n) (ds.drop n)
  | _, _, 0, r => r
  | _, _, _ + 1, .nil => .nil
  | _, _, n + 1, .cons _ b => Reps.drop n b
theorem Reps.rev {K : PySem.W.Frag} {G : Hp} : ∀ {vs : List V} {ds : List Da}, Reps K G vs ds → Reps K G vs.reverse ds.reverse
  | _, _, .nil => .nil
  | _, _, .cons a b => by rw [List.reverse_cons, List.reverse_cons]; exact (Reps.rev b).append (.cons a .nil)
theorem RepF.look {K : PySem.W.Frag} {G : Hp} {f : Str} : ∀ {vs : List (Str × V)} {ds : List (Str × Da)} {d : Da}, RepF K G vs ds → ds.lookup f = some d → ∃ v, vs.lookup f = some v ∧ Rep K G v d
  | _, _, _, .nil, e => by simp [List.lookup] at e
  | _, _, d, .cons (k := k) a b, e => by
    by_cases h : (f == k) = true
    · simp only [List.lookup, h] at e ⊢
      cases e
      exact ⟨_, rfl, a⟩
    · have h : (f == k) = false := by simpa using h
      simp only [List.lookup, h] at e ⊢
      exact RepF.look b e
theorem RepF.lookN {K : PySem.W.Frag} {G : Hp} {f : Str} : ∀ {vs : List (Str × V)} {ds : List (Str × Da)}, RepF K G vs ds → ds.lookup f = none → vs.lookup f = none
  | _, _, .nil, e => rfl
  | _, _, .cons (k := k) a b, e => by
    by_cases h : (f == k) = true
    · simp only [List.lookup, h] at e; cases e
    · have h : (f == k) = false := by simpa using h
      simp only [List.lookup, h] at e ⊢
      exact RepF.lookN b e
theorem Rep.int_inv {K : PySem.W.Frag} {G : Hp} {v : V} {i : Int} (h : Rep K G v (.int i)) : v = .int i := by cases h; rfl
theorem Rep.bl_inv {K : PySem.W.Frag} {G : Hp} {v : V} {i : Bool} (h : Rep K G v (.bl i)) : v = .bl i := by cases h; rfl
theorem Rep.str_inv {K : PySem.W.Frag} {G : Hp} {v : V} {i : Str} (h : Rep K G v (.str i)) : v = .str i := by cases h; rfl
theorem Rep.non_inv {K : PySem.W.Frag} {G : Hp} {v : V} (h : Rep K G v .non) : v = .non := by cases h; rfl
theorem Rep.ref_inv {K : PySem.W.Frag} {G : Hp} {v : V} {a : Addr} (h : Rep K G v (.ref a)) : v = .ref a := by cases h; rfl
theorem Rep.ty_inv {K : PySem.W.Frag} {G : Hp} {v : V} {a : String} (h : Rep K G v (.ty a)) : v = .ty a := by cases h; rfl

theorem Rep.lst_inv {K : PySem.W.Frag} {G : Hp} {v : V} {ds : List Da} (h : Rep K G v (.lst ds)) : ∃ a vs, v = .ref a ∧ G a = some (.lst vs) ∧ Reps K G vs ds := by cases h with | lst q r => exact ⟨_, _, rfl, q, r⟩
theorem Rep.tup_inv {K : PySem.W.Frag} {G : Hp} {v : V} {ds : List Da} (h : Rep K G v (.tup ds)) : ∃ a vs, v = .ref a ∧ SqT K G a vs ∧ Reps K G vs ds := by cases h with | tup q r => exact ⟨_, _, rfl, q, r⟩
theorem Rep.dct_inv {K : PySem.W.Frag} {G : Hp} {v : V} {ds : List (Key × Da)} (h : Rep K G v (.dct ds)) : ∃ a o vs, v = .ref a ∧ G a = some (.frz o (.dK vs)) ∧ RepK K G vs ds := by cases h with | dct q r => exact ⟨_, _, _, rfl, q, r⟩
theorem Rep.obj_inv {K : PySem.W.Frag} {G : Hp} {v : V} {C : Addr} {fs : List (Str × Da)} (h : Rep K G v (.obj C fs)) : ∃ a dx vs, v = .ref a ∧ G a = some (.ins C dx vs) ∧ RepF K G vs fs := by cases h with | obj q r => exact ⟨_, _, _, rfl, q, r⟩

/-- what a law keeps apart: its drawing state, and how often was drawn -/
structure Mode where
  X : Hp → Addr → Prop
  S : Nat → Hp → Prop
  clo : ∀ m H H', S m H → (∀ b o, X H b → H b = some o → H' b = some o) → S m H' ∧ ∀ b, X H' b → X H b
  there : ∀ m H b, S m H → X H b → ∃ o, H b = some o
def pureM : Mode := ⟨fun _ _ => False, fun _ _ => True, fun _ _ _ _ _ => ⟨trivial, fun _ h => h⟩, fun _ _ _ _ h => h.elim⟩
/-- from the entry (data G0 within H0) to now (data G within H) -/
structure Ok (M : Mode) (G0 H0 G H : Hp) (m : Nat) : Prop where
  sub : Same G H
  inv : M.S m H
  off : ∀ b, M.X H b → G b = none
  le : Same G0 G
  keep : ∀ b o, H0 b = some o → ¬ M.X H0 b → H b = some o ∧ ¬ M.X H b
  new : ∀ b o, H0 b = some o → ¬ M.X H0 b → G0 b = none → G b = none
theorem Ok.refl {M : Mode} {G H : Hp} {m : Nat} (s : Same G H) (i : M.S m H) (o : ∀ b, M.X H b → G b = none) : Ok M G H G H m := ⟨s, i, o, Same.refl _, fun _ _ h n => ⟨h, n⟩, fun _ _ _ _ h => h⟩
theorem Ok.here {M : Mode} {G0 H0 G H : Hp} {m : Nat} (a : Ok M G0 H0 G H m) : Ok M G H G H m := .refl a.sub a.inv a.off
theorem Ok.trans {M : Mode} {G0 H0 G H G' H' : Hp} {m m' : Nat} (a : Ok M G0 H0 G H m) (b : Ok M G H G' H' m') : Ok M G0 H0 G' H' m' :=
  ⟨b.sub, b.inv, b.off, a.le.trans b.le, fun c o h n => b.keep c o (a.keep c o h n).1 (a.keep c o h n).2, fun c o h n g => b.new c o (a.keep c o h n).1 (a.keep c o h n).2 (a.new c o h n g)⟩
/-- the same entry, the data known by now -/
theorem Ok.rebase {M : Mode} {G0 H0 G H : Hp} {m : Nat} (a : Ok M G0 H0 G H m) : Ok M G H0 G H m := ⟨a.sub, a.inv, a.off, Same.refl _, a.keep, fun _ _ _ _ g => g⟩
theorem Ok.unbase {M : Mode} {G0 H0 G H G' H' : Hp} {m m' : Nat} (a : Ok M G0 H0 G H m) (b : Ok M G H0 G' H' m') : Ok M G0 H0 G' H' m' := ⟨b.sub, b.inv, b.off, a.le.trans b.le, b.keep, fun c o h n g => b.new c o h n (a.new c o h n g)⟩
theorem sameUp {H : Hp} {p : Addr} {o : HO} (h : H p = none) : Same H (L2.upd H p o) := fun b u e => by
  rw [upd_ne (ne_of_none e h)]; exact e
/-- a new object that is known from now on -/
theorem Ok.alloc {M : Mode} {G0 H0 G H : Hp} {m : Nat} {p : Addr} {o : HO} (a : Ok M G0 H0 G H m) (h : H p = none) : Ok M G H (L2.upd G p o) (L2.upd H p o) m := by
  have hg : G p = none := by
    cases e : G p with
    | none => rfl
    | some u => rw [a.sub _ _ e] at h; cases h
  have nx : ∀ b, M.X H b → b ≠ p := fun b x q => by
    obtain ⟨u, e⟩ := M.there m H b a.inv x
    subst q; rw [e] at h; cases h
  obtain ⟨c1, c2⟩ := M.clo m H (L2.upd H p o) a.inv fun b u x e => by rw [upd_ne (nx b x)]; exact e
  refine ⟨fun b u e => ?_, c1, fun b x => ?_, sameUp hg, fun b u e n => ⟨sameUp h _ _ e, fun x => n (c2 _ x)⟩, fun b u e _ g => ?_⟩
  · by_cases q : b = p
    · subst q; rw [upd_same] at e ⊢; exact e
    · rw [upd_ne q] at e ⊢; exact a.sub _ _ e
  · rw [upd_ne (nx b (c2 _ x))]; exact a.off _ (c2 _ x)
  · rw [upd_ne (ne_of_none e h)]; exact g
/-- a new object of the run's own -/
theorem Ok.allocM {M : Mode} {G0 H0 G H : Hp} {m : Nat} {p : Addr} {o : HO} (a : Ok M G0 H0 G H m) (h : H p = none) : Ok M G H G (L2.upd H p o) m := by
  have nx : ∀ b, M.X H b → b ≠ p := fun b x q => by
    obtain ⟨u, e⟩ := M.there m H b a.inv x
    subst q; rw [e] at h; cases h
  obtain ⟨c1, c2⟩ := M.clo m H (L2.upd H p o) a.inv fun b u x e => by rw [upd_ne (nx b x)]; exact e
  exact ⟨a.sub.trans (sameUp h), c1, fun b x => a.off _ (c2 _ x), Same.refl _, fun b u e n => ⟨sameUp h _ _ e, fun x => n (c2 _ x)⟩, fun b u e _ g => g⟩
/-- an object of the run's own changes -/
theorem Ok.mut {M : Mode} {G0 H0 G H : Hp} {m : Nat} {p : Addr} {o : HO} (a : Ok M G0 H0 G H m) (hg : G p = none) (nx : ¬ M.X H p) (h0 : H0 p = none ∨ M.X H0 p) : Ok M G0 H0 G (L2.upd H p o) m := by
  obtain ⟨c1, c2⟩ := M.clo m H (L2.upd H p o) a.inv fun b u x e => by rw [upd_ne (fun q => nx (by rw [← q]; exact x))]; exact e
  have ne : ∀ b u, H0 b = some u → ¬ M.X H0 b → b ≠ p := fun b u e n q => by
    subst q
    rcases h0 with h | h
    · rw [h] at e; cases e
    · exact n h
  refine ⟨fun b u e => ?_, c1, fun b x => a.off _ (c2 _ x), a.le, fun b u e n => ⟨?_, fun x => (a.keep b u e n).2 (c2 _ x)⟩, a.new⟩
  · rw [upd_ne (fun q => by rw [q, hg] at e; cases e)]; exact a.sub _ _ e
  · rw [upd_ne (ne b u e n)]; exact (a.keep b u e n).1
/-- .. and is known from now on -/
theorem Ok.pub {M : Mode} {G0 H0 G H : Hp} {m : Nat} {p : Addr} {o : HO} (a : Ok M G0 H0 G H m) (hh : H p = some o) (hg : G p = none) (nx : ¬ M.X H p) (h0 : H0 p = none ∨ M.X H0 p) : Ok M G0 H0 (L2.upd G p o) H m := by
  refine ⟨fun b w e => ?_, a.inv, fun b x => ?_, a.le.trans (sameUp hg), a.keep, fun b w e n g => ?_⟩
  · by_cases q : b = p
    · subst q; rw [upd_same] at e; rw [hh]; exact e
    · rw [upd_ne q] at e; exact a.sub _ _ e
  · rw [upd_ne (fun q => nx (by rw [← q]; exact x))]; exact a.off _ x
  · rw [upd_ne (fun q => by
      subst q
      rcases h0 with h | h
      · rw [h] at e; cases e
      · exact n h)]
    exact a.new b w e n g
/-- a pure step within any mode -/
theorem Ok.lift {M : Mode} {G0 H0 G H G' H' : Hp} {m k : Nat} (a : Ok M G0 H0 G H m) (b : Ok pureM G H G' H' k) : Ok M G H G' H' m := by
  obtain ⟨c1, c2⟩ := M.clo m H H' a.inv fun c u x e => (b.keep c u e (fun h => h)).1
  refine ⟨b.sub, c1, fun c x => ?_, b.le, fun c u e n => ⟨(b.keep c u e fun h => h).1, fun x => n (c2 _ x)⟩, fun c u e n g => b.new c u e (fun h => h) g⟩
  obtain ⟨u, e⟩ := M.there m H c a.inv (c2 _ x)
  exact b.new c u e (fun h => h) (a.off _ (c2 _ x))
theorem Ok.toPure {M : Mode} {G0 H0 G H : Hp} {m : Nat} (a : Ok M G0 H0 G H m) : Ok pureM G H G H 0 := .refl a.sub trivial (fun _ h => h.elim)

/-- a slot: empty or of no interest; data; an object of the run's own -/
inductive Sl where
  | un | v (d : Da) | mm (o : Option Addr) (d : Da)
abbrev Sl.m (d : Da) : Sl := .mm none d
def RepM (K : PySem.W.Frag) (G H : Hp) (a : Addr) : Da → Prop
  | .lst ds => ∃ vs, H a = some (.lst vs) ∧ Reps K G vs ds
  | .dct ks => ∃ kvs, H a = some (.dK kvs) ∧ RepK K G kvs ks
  | .obj C fs => ∃ dx vs, H a = some (.ins C dx vs) ∧ RepF K G vs fs
  | _ => False
def RelSl (K : PySem.W.Frag) (M : Mode) (H0 G H : Hp) (o : Option V) : Sl → Prop
  | .un => True
  | .v d => ∃ v, o = some v ∧ Rep K G v d
  | .mm q d => ∃ a, o = some (.ref a) ∧ (∀ x, q = some x → a = x) ∧ G a = none ∧ (H0 a = none ∨ M.X H0 a) ∧ ¬ M.X H a ∧ RepM K G H a d
def Mt (sl : List Sl) (i : Nat) : Prop := ∃ q d, sl[i]? = some (.mm q d)
structure SOk (K : PySem.W.Frag) (M : Mode) (H0 G H : Hp) (σ : L2.St) (sl : List Sl) : Prop where
  rel : Paired (RelSl K M H0 G H) σ sl
  dis : ∀ i j a, Mt sl i → Mt sl j → σ[i]? = some (some (.ref a)) → σ[j]? = some (some (.ref a)) → i = j
theorem RepM.there {K : PySem.W.Frag} {G H : Hp} {a : Addr} {d : Da} (h : RepM K G H a d) : ∃ o, H a = some o := by
  cases d <;> first | exact h.elim | (obtain ⟨_, h, _⟩ := h; exact ⟨_, h⟩) | (obtain ⟨_, _, h, _⟩ := h; exact ⟨_, h⟩)
theorem RepM.step {K : PySem.W.Frag} {G H G' H' : Hp} {a : Addr} {d : Da} (s : Same G G') (e : H' a = H a) (h : RepM K G H a d) : RepM K G' H' a d := by
  cases d with
  | lst ds => obtain ⟨vs, h, r⟩ := h; exact ⟨vs, e.trans h, r.mono s⟩
  | dct ds => obtain ⟨vs, h, r⟩ := h; exact ⟨vs, e.trans h, r.mono s⟩
  | obj C fs => obtain ⟨dx, vs, h, r⟩ := h; exact ⟨dx, vs, e.trans h, r.mono s⟩
  | _ => exact h
theorem RelSl.step {K : PySem.W.Frag} {M : Mode} {H0 G H G' H' : Hp} {m : Nat} {o : Option V} {s : Sl} (b : Ok M G H G' H' m) (h : RelSl K M H0 G H o s) : RelSl K M H0 G' H' o s := by
  cases s with
  | un => trivial
  | v d => obtain ⟨v, e, r⟩ := h; exact ⟨v, e, r.mono b.le⟩
  | mm q d =>
    obtain ⟨a, e, z, g, h0, n, r⟩ := h
    obtain ⟨u, hu⟩ := r.there
    obtain ⟨k1, k2⟩ := b.keep a u hu n
    exact ⟨a, e, z, b.new a u hu n g, h0, k2, r.step b.le (k1.trans hu.symm)⟩
theorem paired_imp {α β : Type} {F F' : α → β → Prop} (h : ∀ a b, F a b → F' a b) : ∀ {xs : List α} {ys : List β}, Paired F xs ys → Paired F' xs ys
  | _, _, .nil => .nil
  | _, _, .cons a b => .cons (h _ _ a) (paired_imp h b)
theorem SOk.step {K : PySem.W.Frag} {M : Mode} {H0 G H G' H' : Hp} {m : Nat} {σ : L2.St} {sl : List Sl} (b : Ok M G H G' H' m) (h : SOk K M H0 G H σ sl) : SOk K M H0 G' H' σ sl :=
  ⟨paired_imp (fun _ _ r => r.step b) h.rel, h.dis⟩
/-- an object that no slot holds changes -/
theorem SOk.upd {K : PySem.W.Frag} {M : Mode} {H0 G H : Hp} {σ : L2.St} {sl : List Sl} {D : Addr} {o : HO} (h : SOk K M H0 G H σ sl) (nx : ∀ b, M.X (L2.upd H D o) b → M.X H b) (f : ∀ i a, Mt sl i → σ[i]? = some (some (.ref a)) → a ≠ D) : SOk K M H0 G (L2.upd H D o) σ sl := by
  refine ⟨?_, h.dis⟩
  have go : ∀ (σ : L2.St) (sl : List Sl), Paired (RelSl K M H0 G H) σ sl → (∀ i a, Mt sl i → σ[i]? = some (some (.ref a)) → a ≠ D) → Paired (RelSl K M H0 G (L2.upd H D o)) σ sl := by
    intro σ sl r
    induction r with
    | nil => intro _; exact .nil
    | cons x y ih =>
      rename_i c s _ _
      intro f
      refine .cons ?_ (ih fun i a ⟨q, d, hd⟩ e => f (i + 1) a ⟨q, d, by simpa using hd⟩ (by simpa using e))
      cases s with
      | un => trivial
      | v d => exact x
      | mm q d =>
        obtain ⟨a, rfl, z, g, h0, n, r⟩ := x
        have ne := f 0 a ⟨q, d, rfl⟩ rfl
        exact ⟨a, rfl, z, g, h0, fun z => n (nx _ z), r.step (Same.refl _) (upd_ne ne)⟩
  exact go σ sl h.rel f
theorem paired_get {α β : Type} {F : α → β → Prop} : ∀ {xs : List α} {ys : List β} {i : Nat} {y : β}, Paired F xs ys → ys[i]? = some y → ∃ x, xs[i]? = some x ∧ F x y
  | _, _, _, _, .nil, e => by simp at e
  | _, _, 0, _, .cons r _, e => by simp at e; subst e; exact ⟨_, rfl, r⟩
  | _, _, i + 1, y, .cons _ t, e => by
    obtain ⟨u, h1, h2⟩ := paired_get (i := i) (y := y) t (by simpa using e)
    exact ⟨u, by simpa using h1, h2⟩
theorem paired_set {α β : Type} {F : α → β → Prop} {x : α} {y : β} (r : F x y) : ∀ {xs : List α} {ys : List β} (i : Nat), Paired F xs ys → Paired F (xs.set i x) (ys.set i y)
  | _, _, _, .nil => .nil
  | _, _, 0, .cons _ t => .cons r t
  | _, _, i + 1, .cons q t => .cons q (paired_set r i t)
/-- a slot set to data -/
theorem SOk.setV {K : PySem.W.Frag} {M : Mode} {H0 G H : Hp} {σ : L2.St} {sl : List Sl} {v : V} {d : Da} (i : Nat) (h : SOk K M H0 G H σ sl) (r : Rep K G v d) : SOk K M H0 G H (σ.set i (some v)) (sl.set i (.v d)) := by
  refine ⟨paired_set ⟨v, rfl, r⟩ i h.rel, fun j k a mj mk ej ek => ?_⟩
  have w : ∀ j, Mt (sl.set i (.v d)) j → j ≠ i ∧ Mt sl j := fun j ⟨e0, e, hj⟩ => by
    by_cases q : i = j
    · subst q
      by_cases l : i < sl.length
      · rw [List.getElem?_set_self l] at hj; cases hj
      · rw [List.getElem?_eq_none (by simpa using l)] at hj; cases hj
    · rw [List.getElem?_set_ne q] at hj; exact ⟨fun z => q z.symm, e0, e, hj⟩
  obtain ⟨nj, mj⟩ := w j mj
  obtain ⟨nk, mk⟩ := w k mk
  rw [List.getElem?_set_ne nj.symm] at ej
  rw [List.getElem?_set_ne nk.symm] at ek
  exact h.dis j k a mj mk ej ek
theorem SOk.setN {K : PySem.W.Frag} {M : Mode} {H0 G H : Hp} {σ : L2.St} {sl : List Sl} {o : Option V} (i : Nat) (h : SOk K M H0 G H σ sl) : SOk K M H0 G H (σ.set i o) (sl.set i .un) := by
  refine ⟨paired_set trivial i h.rel, fun j k a mj mk ej ek => ?_⟩
  have w : ∀ j, Mt (sl.set i .un) j → j ≠ i ∧ Mt sl j := fun j ⟨e0, e, hj⟩ => by
    by_cases q : i = j
    · subst q
      by_cases l : i < sl.length
      · rw [List.getElem?_set_self l] at hj; cases hj
      · rw [List.getElem?_eq_none (by simpa using l)] at hj; cases hj
    · rw [List.getElem?_set_ne q] at hj; exact ⟨fun z => q z.symm, e0, e, hj⟩
  obtain ⟨nj, mj⟩ := w j mj
  obtain ⟨nk, mk⟩ := w k mk
  rw [List.getElem?_set_ne nj.symm] at ej
  rw [List.getElem?_set_ne nk.symm] at ek
  exact h.dis j k a mj mk ej ek
/-- forget what a slot holds -/
theorem SOk.drop {K : PySem.W.Frag} {M : Mode} {H0 G H : Hp} {σ : L2.St} {sl : List Sl} (i : Nat) (h : SOk K M H0 G H σ sl) : SOk K M H0 G H σ (sl.set i .un) := by
  have e : ∀ (σ : L2.St) (sl : List Sl), Paired (RelSl K M H0 G H) σ sl → ∀ i, Paired (RelSl K M H0 G H) σ (sl.set i .un) := by
    intro σ sl r
    induction r with
    | nil => intro i; exact .nil
    | cons a b ih => intro i; cases i with
      | zero => exact .cons trivial b
      | succ i => exact .cons a (ih i)
  refine ⟨e _ _ h.rel i, fun j k a mj mk ej ek => ?_⟩
  have w : ∀ j, Mt (sl.set i .un) j → Mt sl j := fun j ⟨e0, e, hj⟩ => by
    by_cases q : i = j
    · subst q
      by_cases l : i < sl.length
      · rw [List.getElem?_set_self l] at hj; cases hj
      · rw [List.getElem?_eq_none (by simpa using l)] at hj; cases hj
    · rw [List.getElem?_set_ne q] at hj; exact ⟨e0, e, hj⟩
  exact h.dis j k a (w j mj) (w k mk) ej ek
theorem SOk.held {K : PySem.W.Frag} {M : Mode} {H0 G H : Hp} {σ : L2.St} {sl : List Sl} (h : SOk K M H0 G H σ sl) {i : Nat} {a : Addr} (mt : Mt sl i) (e : σ[i]? = some (some (.ref a))) : ∃ u, H a = some u ∧ ¬ M.X H a := by
  obtain ⟨q, d, hd⟩ := mt
  obtain ⟨o, e1, b, rfl, _, _, _, n, r⟩ := paired_get h.rel hd
  rw [e1] at e
  cases e
  obtain ⟨u, hu⟩ := r.there
  exact ⟨u, hu, n⟩
end OZ

/-! ### runs over data: expressions, arguments, tests -/
namespace OZ
open PySem L2 PySem.Spec PyProof.Rows
theorem sq_l {K : PySem.W.Frag} {H : Hp} {a : Addr} {xs : List V} (h : H a = some (.lst xs)) : SqL K H a xs := .inl (.inl h)
theorem sq_t {K : PySem.W.Frag} {H : Hp} {a : Addr} {xs : List V} (h : H a = some (.tup xs)) : SqT K H a xs := .inl (.inl h)
/-- the text that runs: its program, world, written part, names, ground -/
structure Bd where
  P : Program
  w : World
  K : PySem.W.Frag
  mg : Str → Option Value
  base : Heap
def bdOf (X : Cx) : Bd := ⟨X.prog, X.w, X.K, X.mg, X.base⟩
structure Ctx (X : Cx) (N : List Str) (sc : Scope) (B : Bd) : Prop where
  n : X.N = N
  s : X.env.scope = sc
  nd : X.N.Nodup
  b : bdOf X = B
abbrev GlS (sc : Scope) (x : Str) : Prop := sc.names.lookup x = some .globalImplicit
theorem Ctx.gl {X : Cx} {N : List Str} {sc : Scope} {B : Bd} {x : Str} (c : Ctx X N sc B) (h : GlS sc x) : Gl X x := by
  unfold Gl Env.kindOf
  rw [c.s]
  exact h
theorem Ctx.vis {X : Cx} {N : List Str} {sc : Scope} {B : Bd} {x : Str} (c : Ctx X N sc B) (h : Vis sc x) : Vis X.env.scope x := by
  rw [c.s]
  exact h
theorem Ctx.loc {X : Cx} {N : List Str} {sc : Scope} {B : Bd} {x : Str} (c : Ctx X N sc B) (h : Loc sc x) : Loc X.env.scope x := by
  rw [c.s]
  exact h
theorem Ctx.mg {X : Cx} {N : List Str} {sc : Scope} {B : Bd} {x : Str} {o : Option Value} (c : Ctx X N sc B) (h : B.mg x = o) : X.mg x = o := by
  have := c.b
  subst this
  exact h
abbrev Kx := Addr → List (Str × Da) → Nat → Prop
abbrev K0 : Kx := fun _ _ _ => False
def XRep (K : PySem.W.Frag) (G' H' : Hp) (d : Option Addr) (fs : List (Str × Da)) : Prop := (fs = [] ∧ d = none) ∨ ∃ dd vs, d = some dd ∧ G' dd = some (.xd vs) ∧ RepF K G' vs fs
structure Wis (M : Mode) (X : Cx) (KE : Kx) (G H : Hp) (σ : L2.St) (W : WX) : Prop where
  tk : Takes X W
  ex : ∀ C fs d m' G' H', KE C fs m' → Ok M G H G' H' m' → XRep X.K G' H' d fs → W (.ref C) d σ H'
def Post (M : Mode) (K : PySem.W.Frag) (G H : Hp) (P : Da → Nat → Prop) (Q : VK) : Prop := ∀ v d m' G' H', P d m' → Ok M G H G' H' m' → Rep K G' v d → Q v H'
def PostT (M : Mode) (G H : Hp) (P : Bool → Nat → Prop) (Q : Bool → Hp → Prop) : Prop := ∀ b m' G' H', P b m' → Ok M G H G' H' m' → Q b H'
def PostA (M : Mode) (K : PySem.W.Frag) (G H : Hp) (P : List Da → Nat → Prop) (Q : List V → Hp → Prop) : Prop := ∀ vs ds m' G' H', P ds m' → Ok M G H G' H' m' → Reps K G' vs ds → Q vs H'
theorem Wis.step {M : Mode} {X : Cx} {KE : Kx} {G H G' H' : Hp} {σ : L2.St} {W : WX} {m : Nat} (w : Wis M X KE G H σ W) (b : Ok M G H G' H' m) : Wis M X KE G' H' σ W :=
  ⟨w.tk, fun C fs d m' G2 H2 k o x => w.ex C fs d m' G2 H2 k (b.trans o) x⟩
theorem Post.step {M : Mode} {K : PySem.W.Frag} {G H G' H' : Hp} {P : Da → Nat → Prop} {Q : VK} {m : Nat} (w : Post M K G H P Q) (b : Ok M G H G' H' m) : Post M K G' H' P Q := fun v d m' G2 H2 p o r => w v d m' G2 H2 p (b.trans o) r
theorem PostT.step {M : Mode} {G H G' H' : Hp} {P : Bool → Nat → Prop} {Q : Bool → Hp → Prop} {m : Nat} (w : PostT M G H P Q) (b : Ok M G H G' H' m) : PostT M G' H' P Q := fun v m' G2 H2 p o => w v m' G2 H2 p (b.trans o)
theorem PostA.step {M : Mode} {K : PySem.W.Frag} {G H G' H' : Hp} {P : List Da → Nat → Prop} {Q : List V → Hp → Prop} {m : Nat} (w : PostA M K G H P Q) (b : Ok M G H G' H' m) : PostA M K G' H' P Q := fun v d m' G2 H2 p o r => w v d m' G2 H2 p (b.trans o) r

def wpE (X : Cx) (e : Expr) : TE := fun σ H Q => ∀ pins s, Inv X pins σ H s → wpAny (model X.prog X.w) X.A (eval e X.env) (EP X pins σ Q) X.xe s
def wpT (X : Cx) (e : Expr) : TT := fun σ H Q => ∀ pins s, Inv X pins σ H s → wpAny (model X.prog X.w) X.A (isTrue e X.env (eval e X.env)) (TP X pins σ Q) X.xe s
def wpW (X : Cx) (e : Expr) : TT := fun σ H Q => ∀ (whole : Sem Value) pins s, Inv X pins σ H s → wpAny (model X.prog X.w) X.A (isTrue e X.env whole) (TP X pins σ Q) X.xe s
def wpA (X : Cx) (es : List Expr) : TA := fun σ H Q => ∀ (pos : Pos) pins s, Inv X pins σ H s → wpAny (model X.prog X.w) X.A (spliced (backTo pos (starEach es X.env))) (AP X pins σ Q) X.xe s
theorem pe_wp {X : Cx} {e : Expr} : PE X e (wpE X e) := ⟨fun pins s _ _ _ I h => h pins s I⟩
theorem pt_wp {X : Cx} {e : Expr} : PT X e (wpT X e) := ⟨fun pins s _ _ _ I h => h pins s I⟩
theorem pw_wp {X : Cx} {e : Expr} : PW X e (wpW X e) := ⟨fun w pins s _ _ _ I h => h w pins s I⟩
theorem pa_wp {X : Cx} {es : List Expr} : PA X es (wpA X es) := ⟨fun pos pins s _ _ _ I h => h pos pins s I⟩
theorem wpE.of {X : Cx} {e : Expr} {t : TE} {σ : L2.St} {H : Hp} {Q : VK} (p : PE X e t) (h : t σ H Q) : wpE X e σ H Q := fun pins s I => p.run pins s σ H Q I h
theorem wpT.of {X : Cx} {e : Expr} {t : TT} {σ : L2.St} {H : Hp} {Q : Bool → Hp → Prop} (p : PT X e t) (h : t σ H Q) : wpT X e σ H Q := fun pins s I => p.run pins s σ H Q I h
theorem wpW.of {X : Cx} {e : Expr} {t : TT} {σ : L2.St} {H : Hp} {Q : Bool → Hp → Prop} (p : PW X e t) (h : t σ H Q) : wpW X e σ H Q := fun w pins s I => p.run w pins s σ H Q I h
theorem wpA.of {X : Cx} {e : List Expr} {t : TA} {σ : L2.St} {H : Hp} {Q : List V → Hp → Prop} (p : PA X e t) (h : t σ H Q) : wpA X e σ H Q := fun pos pins s I => p.run pos pins s σ H Q I h

section
variable (M : Mode) (X : Cx) (KE : Kx)
def EvD (e : Expr) (sl : List Sl) (P : Da → Nat → Prop) (m : Nat) : Prop :=
  ∀ (G0 H0 G H : Hp) (σ : L2.St) (W : WX) (Q : VK), Ok M G0 H0 G H m → SOk X.K M H0 G H σ sl → Wis M X KE G H σ W → Post M X.K G H P Q → wpE X e σ H Q
def EvA (es : List Expr) (sl : List Sl) (P : List Da → Nat → Prop) (m : Nat) : Prop :=
  ∀ (G0 H0 G H : Hp) (σ : L2.St) (W : WX) (Q : List V → Hp → Prop), Ok M G0 H0 G H m → SOk X.K M H0 G H σ sl → Wis M X KE G H σ W → PostA M X.K G H P Q → wpA X es σ H Q
def EvT (e : Expr) (sl : List Sl) (P : Bool → Nat → Prop) (m : Nat) : Prop :=
  ∀ (G0 H0 G H : Hp) (σ : L2.St) (W : WX) (Q : Bool → Hp → Prop), Ok M G0 H0 G H m → SOk X.K M H0 G H σ sl → Wis M X KE G H σ W → PostT M G H P Q → wpT X e σ H Q
def EvW (e : Expr) (sl : List Sl) (P : Bool → Nat → Prop) (m : Nat) : Prop :=
  ∀ (G0 H0 G H : Hp) (σ : L2.St) (W : WX) (Q : Bool → Hp → Prop), Ok M G0 H0 G H m → SOk X.K M H0 G H σ sl → Wis M X KE G H σ W → PostT M G H P Q → wpW X e σ H Q
/-- a two-place operation on data, a one-place one -/
def OpD (f : Value → Value → Sem Value) (a b : Da) (P : Da → Nat → Prop) (m : Nat) : Prop :=
  ∀ (G H : Hp) (σ : L2.St) (W : WX) (Q : VK) (x y : V), Ok M G H G H m → Wis M X KE G H σ W → Rep X.K G x a → Rep X.K G y b → Post M X.K G H P Q →
    ∀ pins s v u, Inv X pins σ H s → RelV x v → RelV y u → wpAny (model X.prog X.w) X.A (f v u) (EP X pins σ Q) X.xe s
def UnD (f : Value → Sem Value) (a : Da) (P : Da → Nat → Prop) (m : Nat) : Prop :=
  ∀ (G H : Hp) (σ : L2.St) (W : WX) (Q : VK) (x : V), Ok M G H G H m → Wis M X KE G H σ W → Rep X.K G x a → Post M X.K G H P Q →
    ∀ pins s v, Inv X pins σ H s → RelV x v → wpAny (model X.prog X.w) X.A (f v) (EP X pins σ Q) X.xe s
/-- a[b] -/
def IxD (a b : Da) (P : Da → Nat → Prop) (m : Nat) : Prop :=
  ∀ (G H : Hp) (σ : L2.St) (W : WX) (Q : VK) (x y : V), Ok M G H G H m → Wis M X KE G H σ W → Rep X.K G x a → Rep X.K G y b → Post M X.K G H P Q →
    ∀ (ve se : Expr) pins s v u, Inv X pins σ H s → RelV x v → RelV y u → subscripted se false v u = operate [v, u] (getItem v u) → wpAny (model X.prog X.w) X.A (subscriptTail ve se v u) (EP X pins σ Q) X.xe s
end
section
variable {M : Mode} {X : Cx} {KE : Kx} {a b c e : Expr} {es : List Expr} {sl : List Sl} {P : Da → Nat → Prop} {PT' : Bool → Nat → Prop} {PA' : List Da → Nat → Prop} {m : Nat} {pos : Pos}

theorem OpD.of {f : Value → Value → Sem Value} {r : R2} {x y : Da} (ho : OpR X f r) (h : ∀ G H Q u v, Ok M G H G H m → Rep X.K G u x → Rep X.K G v y → Post M X.K G H P Q → r u v H Q) : OpD M X KE f x y P m :=
  fun G H σ _ Q u v ok _ r1 r2 po pins s v' u' I e1 e2 => ho pins s σ H u v v' u' Q I e1 e2 (h G H Q u v ok r1 r2 po)
theorem UnD.of {f : Value → Sem Value} {r : V → Hp → VK → Prop} {x : Da} (ho : UnR X f r) (h : ∀ G H Q u, Ok M G H G H m → Rep X.K G u x → Post M X.K G H P Q → r u H Q) : UnD M X KE f x P m :=
  fun G H σ _ Q u ok _ r1 po pins s v' I e1 => ho pins s σ H u v' Q I e1 (h G H Q u ok r1 po)
theorem IxD.of {r : R2} {x y : Da} (ho : IxR X r) (h : ∀ G H Q u v, Ok M G H G H m → Rep X.K G u x → Rep X.K G v y → Post M X.K G H P Q → r u v H Q) : IxD M X KE x y P m :=
  fun G H σ _ Q u v ok _ r1 r2 po ve se pins s v' u' I e1 e2 hs => ho ve se pins s σ H u v v' u' Q I e1 e2 (h G H Q u v ok r1 r2 po) hs

theorem evd_imp {P' : Da → Nat → Prop} (h : EvD M X KE e sl P m) (k : ∀ d m', P d m' → P' d m') : EvD M X KE e sl P' m :=
  fun G0 H0 G H σ W Q ok so wi po => h G0 H0 G H σ W Q ok so wi fun v d m' G' H' p o r => po v d m' G' H' (k d m' p) o r
theorem eva_imp {P' : List Da → Nat → Prop} (h : EvA M X KE es sl PA' m) (k : ∀ d m', PA' d m' → P' d m') : EvA M X KE es sl P' m :=
  fun G0 H0 G H σ W Q ok so wi po => h G0 H0 G H σ W Q ok so wi fun v d m' G' H' p o r => po v d m' G' H' (k d m' p) o r
theorem evt_imp {P' : Bool → Nat → Prop} (h : EvT M X KE e sl PT' m) (k : ∀ d m', PT' d m' → P' d m') : EvT M X KE e sl P' m :=
  fun G0 H0 G H σ W Q ok so wi po => h G0 H0 G H σ W Q ok so wi fun d m' G' H' p o => po d m' G' H' (k d m' p) o

/-- the slot of a name -/
inductive EnvAt : List Str → List Sl → Str → Nat → Sl → Prop
  | here {x : Str} {N : List Str} {s : Sl} {sl : List Sl} : EnvAt (x :: N) (s :: sl) x 0 s
  | there {x y : Str} {N : List Str} {s t : Sl} {sl : List Sl} {i : Nat} : EnvAt N sl x i s → EnvAt (y :: N) (t :: sl) x (i + 1) s
theorem EnvAt.name : ∀ {N : List Str} {sl : List Sl} {x : Str} {i : Nat} {s : Sl}, EnvAt N sl x i s → N[i]? = some x
  | _, _, _, _, _, .here => rfl
  | _, _, _, _, _, .there h => by simpa using h.name
theorem EnvAt.slot : ∀ {N : List Str} {sl : List Sl} {x : Str} {i : Nat} {s : Sl}, EnvAt N sl x i s → sl[i]? = some s
  | _, _, _, _, _, .here => rfl
  | _, _, _, _, _, .there h => by simpa using h.slot
/-- the slots behind a store to a name -/
inductive EnvSet : List Str → List Sl → Str → Nat → Sl → List Sl → Prop
  | here {x : Str} {N : List Str} {s t : Sl} {sl : List Sl} : EnvSet (x :: N) (t :: sl) x 0 s (s :: sl)
  | there {x y : Str} {N : List Str} {s t : Sl} {sl sl' : List Sl} {i : Nat} : EnvSet N sl x i s sl' → EnvSet (y :: N) (t :: sl) x (i + 1) s (t :: sl')
theorem EnvSet.name : ∀ {N : List Str} {sl sl' : List Sl} {x : Str} {i : Nat} {s : Sl}, EnvSet N sl x i s sl' → N[i]? = some x
  | _, _, _, _, _, _, .here => rfl
  | _, _, _, _, _, _, .there h => by simpa using h.name
theorem EnvSet.set : ∀ {N : List Str} {sl sl' : List Sl} {x : Str} {i : Nat} {s : Sl}, EnvSet N sl x i s sl' → sl' = sl.set i s
  | _, _, _, _, _, _, .here => rfl
  | _, _, _, _, _, _, .there h => by rw [h.set]; rfl

theorem evd_name {N : List Str} {sc : Scope} {B : Bd} {x : Str} {i : Nat} {d : Da} (cx : Ctx X N sc B) (h : EnvAt N sl x i (.v d)) (k : P d m) (hv : Vis sc x := by with_unfolding_all first | exact Or.inl rfl | exact Or.inr (Or.inl rfl) | exact Or.inr (Or.inr rfl))
    (hd : (x == ("__debug__" : Str)) = false := by with_unfolding_all decide) (hcd : (x == ("__classdict__" : Str)) = false := by with_unfolding_all decide) : EvD M X KE (.Name x pos) sl P m := by
  intro G0 H0 G H σ W Q ok so wi po
  obtain ⟨o, e1, v, rfl, r⟩ := paired_get so.rel h.slot
  exact wpE.of (pe_var (by rw [cx.n]; exact h.name) (cx.vis hv) hd hcd) ⟨v, e1, po v d m G H k ok.here r⟩
theorem evd_int {i : Int} {j : Nat} (k : P (.int i) m) : EvD M X KE (.Constant (.int i) j pos) sl P m := fun _ _ G H _ _ _ ok _ _ po => wpE.of pe_int (po _ _ m G H k ok.here (.int i))
theorem evd_bl {i : Bool} {j : Nat} (k : P (.bl i) m) : EvD M X KE (.Constant (.bool i) j pos) sl P m := fun _ _ G H _ _ _ ok _ _ po => wpE.of pe_bl (po _ _ m G H k ok.here (.bl i))
theorem evd_str {i : Str} {j : Nat} (k : P (.str i) m) : EvD M X KE (.Constant (.str i) j pos) sl P m := fun _ _ G H _ _ _ ok _ _ po => wpE.of pe_str (po _ _ m G H k ok.here (.str i))
theorem evd_non {j : Nat} (k : P .non m) : EvD M X KE (.Constant .none j pos) sl P m := fun _ _ G H _ _ _ ok _ _ po => wpE.of pe_non (po _ _ m G H k ok.here .non)
/-- a class or def of the text, as a value -/
theorem evd_glob {N : List Str} {sc : Scope} {B : Bd} {x : Str} {C : Addr} (cx : Ctx X N sc B) (hm : B.mg x = some (.ref C)) (k : P (.ref C) m) (hg : GlS sc x := by with_unfolding_all rfl) (hd : (x == ("__debug__" : Str)) = false := by with_unfolding_all decide) : EvD M X KE (.Name x pos) sl P m :=
  fun _ _ G H _ _ _ ok _ _ po => wpE.of (pe_glob (v := .ref C) (cx.gl hg) (cx.mg hm) rfl hd) (po _ _ m G H k ok.here (.ref C))
theorem evd_gint {N : List Str} {sc : Scope} {B : Bd} {x : Str} {i : Int} {t : Tok} (cx : Ctx X N sc B) (hm : B.mg x = some (.int i t)) (k : P (.int i) m) (hg : GlS sc x := by with_unfolding_all rfl) (hd : (x == ("__debug__" : Str)) = false := by with_unfolding_all decide) : EvD M X KE (.Name x pos) sl P m :=
  fun _ _ G H _ _ _ ok _ _ po => wpE.of (pe_glob (v := .int i) (cx.gl hg) (cx.mg hm) ⟨t, rfl⟩ hd) (po _ _ m G H k ok.here (.int i))
theorem evd_gstr {N : List Str} {sc : Scope} {B : Bd} {x : Str} {i : Str} {t : Tok} (cx : Ctx X N sc B) (hm : B.mg x = some (.str i t)) (k : P (.str i) m) (hg : GlS sc x := by with_unfolding_all rfl) (hd : (x == ("__debug__" : Str)) = false := by with_unfolding_all decide) : EvD M X KE (.Name x pos) sl P m :=
  fun _ _ G H _ _ _ ok _ _ po => wpE.of (pe_glob (v := .str i) (cx.gl hg) (cx.mg hm) ⟨t, rfl⟩ hd) (po _ _ m G H k ok.here (.str i))
theorem evd_ty {N : List Str} {sc : Scope} {B : Bd} {x : Str} {n : String} (cx : Ctx X N sc B) (hm : B.mg x = none) (k : P (.ty n) m) (hv : bootBuiltins x = some (.type n) := by with_unfolding_all first | rfl | decide +kernel) (hg : GlS sc x := by with_unfolding_all rfl) (hn : x ≠ "__name__" := by with_unfolding_all decide) (hd : (x == ("__debug__" : Str)) = false := by with_unfolding_all decide) : EvD M X KE (.Name x pos) sl P m :=
  fun _ _ G H _ _ _ ok _ _ po => wpE.of (pe_bltn (v := .ty n) (cx.gl hg) (cx.mg hm) hv rfl hn hd) (po _ _ m G H k ok.here (.ty n))

/-- the run, told of what comes -/
theorem EvD.run (h : EvD M X KE e sl P m) {G0 H0 G H : Hp} {σ : L2.St} {W : WX} (ok : Ok M G0 H0 G H m) (so : SOk X.K M H0 G H σ sl) (wi : Wis M X KE G H σ W) {pins : List (Addr × Obj)} {s : Shared} (I : Inv X pins σ H s) {Q : Value → Shared → Prop}
    (k : ∀ u s' v d m' G' H', P d m' → Ok M G0 H0 G' H' m' → Ok M G H G' H' m' → SOk X.K M H0 G' H' σ sl → Wis M X KE G' H' σ W → Rep X.K G' v d → Inv X pins σ H' s' → RelV v u → Q u s') : wpAny (model X.prog X.w) X.A (eval e X.env) Q X.xe s :=
  thn (h G0 H0 G H σ W (fun v H' => ∃ d m' G', P d m' ∧ Ok M G H G' H' m' ∧ Rep X.K G' v d) ok so wi (fun v d m' G' H' p o r => ⟨d, m', G', p, o, r⟩) pins s I)
    fun u s' ⟨v, H', I', rv, d, m', G', p, o, r⟩ => k u s' v d m' G' H' p (ok.trans o) o (so.step o) (wi.step o) r I' rv
theorem EvT.run (h : EvT M X KE e sl PT' m) {G0 H0 G H : Hp} {σ : L2.St} {W : WX} (ok : Ok M G0 H0 G H m) (so : SOk X.K M H0 G H σ sl) (wi : Wis M X KE G H σ W) {pins : List (Addr × Obj)} {s : Shared} (I : Inv X pins σ H s) {Q : Bool → Shared → Prop}
    (k : ∀ b s' m' G' H', PT' b m' → Ok M G0 H0 G' H' m' → Ok M G H G' H' m' → SOk X.K M H0 G' H' σ sl → Wis M X KE G' H' σ W → Inv X pins σ H' s' → Q b s') : wpAny (model X.prog X.w) X.A (isTrue e X.env (eval e X.env)) Q X.xe s :=
  thn (h G0 H0 G H σ W (fun b H' => ∃ m' G', PT' b m' ∧ Ok M G H G' H' m') ok so wi (fun b m' G' H' p o => ⟨m', G', p, o⟩) pins s I)
    fun b s' ⟨H', I', m', G', p, o⟩ => k b s' m' G' H' p (ok.trans o) o (so.step o) (wi.step o) I'
theorem EvA.run (h : EvA M X KE es sl PA' m) {G0 H0 G H : Hp} {σ : L2.St} {W : WX} (ok : Ok M G0 H0 G H m) (so : SOk X.K M H0 G H σ sl) (wi : Wis M X KE G H σ W) {pins : List (Addr × Obj)} {s : Shared} (I : Inv X pins σ H s) {Q : List Value → Shared → Prop}
    (k : ∀ us s' vs ds m' G' H', PA' ds m' → Ok M G0 H0 G' H' m' → Ok M G H G' H' m' → SOk X.K M H0 G' H' σ sl → Wis M X KE G' H' σ W → Reps X.K G' vs ds → Inv X pins σ H' s' → Vals vs us → Q us s') (pos : Pos) : wpAny (model X.prog X.w) X.A (spliced (backTo pos (starEach es X.env))) Q X.xe s :=
  thn (h G0 H0 G H σ W (fun vs H' => ∃ ds m' G', PA' ds m' ∧ Ok M G H G' H' m' ∧ Reps X.K G' vs ds) ok so wi (fun v d m' G' H' p o r => ⟨d, m', G', p, o, r⟩) pos pins s I)
    fun u s' ⟨v, H', I', rv, d, m', G', p, o, r⟩ => k u s' v d m' G' H' p (ok.trans o) o (so.step o) (wi.step o) r I' rv
/-- by the reading of a judgement of the layer -/
theorem wpE.evd {t : TE} (p : PE X e t) {G0 H0 G H : Hp} (h : ∀ σ W Q, Ok M G0 H0 G H m → SOk X.K M H0 G H σ sl → Wis M X KE G H σ W → Post M X.K G H P Q → t σ H Q) : ∀ σ W Q, Ok M G0 H0 G H m → SOk X.K M H0 G H σ sl → Wis M X KE G H σ W → Post M X.K G H P Q → wpE X e σ H Q :=
  fun σ W Q a b c d => wpE.of p (h σ W Q a b c d)

theorem evd_op {op : Operator} (h : EvD M X KE a sl (fun x m1 => EvD M X KE b sl (fun y m2 => OpD M X KE (binaryOp op) x y P m2) m1) m) : EvD M X KE (.BinOp a op b pos) sl P m := by
  intro G0 H0 G H σ W Q ok so wi po pins s I
  refine wpAny_BinOp (h.run ok so wi I fun u s1 v d m1 G1 H1 p1 k1 o1 so1 wi1 r1 I1 rv1 => ?_)
  refine p1.run k1 so1 wi1 I1 fun u2 s2 v2 d2 m2 G2 H2 p2 k2 o2 so2 wi2 r2 I2 rv2 => ?_
  exact p2 G2 H2 σ W Q v v2 k2.here wi2 (r1.mono o2.le) r2 (po.step (o1.trans o2)) pins s2 u u2 I2 rv1 rv2
theorem evd_un {op : UnaryOp} (h : EvD M X KE a sl (fun x m1 => UnD M X KE (unaryOp op) x P m1) m) : EvD M X KE (.UnaryOp op a pos) sl P m := by
  intro G0 H0 G H σ W Q ok so wi po pins s I
  refine UnaryOp_ (h.run ok so wi I fun u s1 v d m1 G1 H1 p1 k1 o1 so1 wi1 r1 I1 rv1 => ?_)
  exact p1 G1 H1 σ W Q v k1.here wi1 r1 (po.step o1) pins s1 u I1 rv1
theorem evd_cmp {op : CmpOp} (h : EvD M X KE a sl (fun x m1 => EvD M X KE b sl (fun y m2 => OpD M X KE (compareOp op) x y P m2) m1) m) (hm : behindInMarks op b = false := by with_unfolding_all first | exact nomark _ | rfl) : EvD M X KE (.Compare a [op] [b] pos) sl P m := by
  intro G0 H0 G H σ W Q ok so wi po pins s I
  refine wpAny_Compare1 (h.run ok so wi I fun u s1 v d m1 G1 H1 p1 k1 o1 so1 wi1 r1 I1 rv1 => ?_) hm
  refine p1.run k1 so1 wi1 I1 fun u2 s2 v2 d2 m2 G2 H2 p2 k2 o2 so2 wi2 r2 I2 rv2 => ?_
  exact p2 G2 H2 σ W Q v v2 k2.here wi2 (r1.mono o2.le) r2 (po.step (o1.trans o2)) pins s2 u u2 I2 rv1 rv2
/-- as tests -/
theorem evt_cmp {op : CmpOp} (h : EvD M X KE a sl (fun x m1 => EvD M X KE b sl (fun y m2 => OpD M X KE (compareOp op) x y (fun z m3 => ∃ k, z = .bl k ∧ PT' k m3) m2) m1) m) (hm : behindInMarks op b = false := by with_unfolding_all first | exact nomark _ | rfl) : EvT M X KE (.Compare a [op] [b] pos) sl PT' m := by
  intro G0 H0 G H σ W Q ok so wi po pins s I
  refine wpAny_isTrue_Compare1 (h.run ok so wi I fun u s1 v d m1 G1 H1 p1 k1 o1 so1 wi1 r1 I1 rv1 => ?_) hm
  refine p1.run k1 so1 wi1 I1 fun u2 s2 v2 d2 m2 G2 H2 p2 k2 o2 so2 wi2 r2 I2 rv2 => ?_
  refine thn (p2 G2 H2 σ W (fun v H' => ∃ k, v = .bl k ∧ Q k H') v v2 k2.here wi2 (r1.mono o2.le) r2 (fun z d3 m3 G3 H3 p3 o3 r3 => ?_) pins s2 u u2 I2 rv1 rv2) fun c s3 ⟨z, H3, I3, r3, k, e, q3⟩ => ?_
  · obtain ⟨k, rfl, p⟩ := p3
    exact ⟨k, r3.bl_inv, po k m3 G3 H3 p ((o1.trans o2).trans o3)⟩
  · subst e
    cases r3
    exact wpAny_truthy_bool ⟨H3, I3, q3⟩
theorem evt_val (h : EvD M X KE e sl (fun z m3 => ∃ k, z = .bl k ∧ PT' k m3) m) (he : ∀ whole, isTrue e X.env whole = (do let v ← whole; standAt e.pos; holding [v] (truthy v)) := by with_unfolding_all (intro _; rfl)) : EvT M X KE e sl PT' m := by
  intro G0 H0 G H σ W Q ok so wi po pins s I
  refine isTrue_plain (h.run ok so wi I fun u s1 v d m1 G1 H1 p1 k1 o1 so1 wi1 r1 I1 rv1 => ?_) (he _)
  obtain ⟨k, rfl, p⟩ := p1
  cases r1.bl_inv
  cases rv1
  exact wpAny_truthy_bool ⟨H1, I1, po k m1 G1 H1 p o1⟩
/-- by truth -/
def DaTru : Da → Bool → Prop
  | .non, k => k = false
  | .bl b, k => k = b
  | .int i, k => k = decide (i ≠ 0)
  | .str y, k => y.length ≤ sizeLine ∧ k = decide (y.length ≠ 0)
  | .lst ds, k => k = !ds.isEmpty
  | .tup ds, k => k = !ds.isEmpty
  | _, _ => False
theorem rep_tru {K : PySem.W.Frag} {G H : Hp} {v : V} {d : Da} {k : Bool} (s : Same G H) (r : Rep K G v d) (h : DaTru d k) : TruV K v H k := by
  cases r with
  | non => exact h
  | bl b => exact h
  | int i => rw [show k = _ from h]; show _ = (i != 0); simp [bne, BEq.beq]
  | str y =>
    refine ⟨h.1, ?_⟩
    rw [h.2]
    by_cases e : y.length = 0
    · simp [e]
    · have e2 : ((y.length : Int) != 0) = true := by simp [bne]; omega
      rw [e2]; simp [e]
  | ty n => exact h.elim
  | ref a => exact h.elim
  | tup q r => exact .inr (.inl ⟨_, sqT_same s q, by rw [show k = _ from h]; cases r <;> rfl⟩)
  | lst q r => exact .inl ⟨_, sq_l (s _ _ q), by rw [show k = _ from h]; cases r <;> rfl⟩
  | dct _ _ => exact h.elim
  | obj _ _ => exact h.elim
  | exc _ _ => exact h.elim
theorem evt_truth (h : EvD M X KE e sl (fun z m3 => ∃ k, DaTru z k ∧ PT' k m3) m) (he : ∀ whole, isTrue e X.env whole = (do let v ← whole; standAt e.pos; holding [v] (truthy v)) := by with_unfolding_all (intro _; rfl)) : EvT M X KE e sl PT' m := by
  intro G0 H0 G H σ W Q ok so wi po
  refine wpT.of (pt_truth (pe_wp) he) ?_
  refine h G0 H0 G H σ W _ ok so wi fun v d m' G' H' p o r => ?_
  obtain ⟨k, t, p⟩ := p
  exact ⟨k, rep_tru o.sub r t, po k m' G' H' p o⟩
theorem evt_not (h : EvT M X KE e sl (fun b m1 => PT' (!b) m1) m) : EvT M X KE (.UnaryOp .Not e pos) sl PT' m := fun G0 H0 G H σ W Q ok so wi po =>
  wpT.of (pt_not pt_wp) (h G0 H0 G H σ W (fun b H' => Q (!b) H') ok so wi fun b m' G' H' p o => po (!b) m' G' H' p o)
theorem evt_w (h : EvW M X KE e sl PT' m) : EvT M X KE e sl PT' m := fun G0 H0 G H σ W Q ok so wi po => wpT.of (PW.pt pw_wp) (h G0 H0 G H σ W Q ok so wi po)
theorem evw_and1 (h : EvT M X KE e sl PT' m) : EvW M X KE (.BoolOp .And [e] pos) sl PT' m := fun G0 H0 G H σ W Q ok so wi po => wpW.of (pw_and1 pt_wp) (h G0 H0 G H σ W Q ok so wi po)
theorem evw_or1 (h : EvT M X KE e sl PT' m) : EvW M X KE (.BoolOp .Or [e] pos) sl PT' m := fun G0 H0 G H σ W Q ok so wi po => wpW.of (pw_or1 pt_wp) (h G0 H0 G H σ W Q ok so wi po)
theorem evw_and (h : EvT M X KE a sl (fun k m1 => if k = true then EvW M X KE (.BoolOp .And (b :: es) pos) sl PT' m1 else PT' false m1) m) : EvW M X KE (.BoolOp .And (a :: b :: es) pos) sl PT' m := fun G0 H0 G H σ W Q ok so wi po =>
  wpW.of (pw_and pt_wp pw_wp) (h G0 H0 G H σ W _ ok so wi fun k m' G' H' p o => by
    cases k with
    | true => exact p G0 H0 G' H' σ W Q (ok.trans o) (so.step o) (wi.step o) (po.step o)
    | false => exact po false m' G' H' p o)
theorem evw_or (h : EvT M X KE a sl (fun k m1 => if k = true then PT' true m1 else EvW M X KE (.BoolOp .Or (b :: es) pos) sl PT' m1) m) : EvW M X KE (.BoolOp .Or (a :: b :: es) pos) sl PT' m := fun G0 H0 G H σ W Q ok so wi po =>
  wpW.of (pw_or pt_wp pw_wp) (h G0 H0 G H σ W _ ok so wi fun k m' G' H' p o => by
    cases k with
    | false => exact p G0 H0 G' H' σ W Q (ok.trans o) (so.step o) (wi.step o) (po.step o)
    | true => exact po true m' G' H' p o)
/-- as values -/
theorem evd_and1 {op : BoolOp} (h : EvD M X KE e sl P m) : EvD M X KE (.BoolOp op [e] pos) sl P m := fun G0 H0 G H σ W Q ok so wi po => wpE.of (pe_one pe_wp) (h G0 H0 G H σ W Q ok so wi po)
theorem evd_and (h : EvD M X KE a sl (fun z m1 => ∃ k, z = .bl k ∧ if k = true then EvD M X KE (.BoolOp .And (b :: es) pos) sl P m1 else P (.bl false) m1) m) : EvD M X KE (.BoolOp .And (a :: b :: es) pos) sl P m := fun G0 H0 G H σ W Q ok so wi po =>
  wpE.of (pe_and pe_wp pe_wp) (h G0 H0 G H σ W _ ok so wi fun v d m' G' H' p o r => by
    obtain ⟨k, rfl, p⟩ := p
    refine ⟨k, r.bl_inv, ?_⟩
    cases k with
    | true => exact p G0 H0 G' H' σ W Q (ok.trans o) (so.step o) (wi.step o) (po.step o)
    | false => exact po _ _ m' G' H' p o (.bl false))
theorem evd_or (h : EvD M X KE a sl (fun z m1 => ∃ k, z = .bl k ∧ if k = true then P (.bl true) m1 else EvD M X KE (.BoolOp .Or (b :: es) pos) sl P m1) m) : EvD M X KE (.BoolOp .Or (a :: b :: es) pos) sl P m := fun G0 H0 G H σ W Q ok so wi po =>
  wpE.of (pe_or pe_wp pe_wp) (h G0 H0 G H σ W _ ok so wi fun v d m' G' H' p o r => by
    obtain ⟨k, rfl, p⟩ := p
    refine ⟨k, r.bl_inv, ?_⟩
    cases k with
    | false => exact p G0 H0 G' H' σ W Q (ok.trans o) (so.step o) (wi.step o) (po.step o)
    | true => exact po _ _ m' G' H' p o (.bl true))
theorem evd_not (h : EvD M X KE a sl (fun z m1 => ∃ k, z = .bl k ∧ P (.bl (!k)) m1) m) : EvD M X KE (.UnaryOp .Not a pos) sl P m := fun G0 H0 G H σ W Q ok so wi po =>
  wpE.of (pe_not pe_wp) (h G0 H0 G H σ W _ ok so wi fun v d m' G' H' p o r => by
    obtain ⟨k, rfl, p⟩ := p
    exact ⟨k, r.bl_inv, po _ _ m' G' H' p o (.bl _)⟩)
theorem evd_notT (h : EvD M X KE a sl (fun z m1 => ∃ k, DaTru z k ∧ P (.bl (!k)) m1) m) : EvD M X KE (.UnaryOp .Not a pos) sl P m := fun G0 H0 G H σ W Q ok so wi po =>
  wpE.of (pe_notT pe_wp) (h G0 H0 G H σ W _ ok so wi fun v d m' G' H' p o r => by
    obtain ⟨k, t, p⟩ := p
    exact ⟨k, rep_tru o.sub r t, po _ _ m' G' H' p o (.bl _)⟩)
theorem evd_if (h : EvT M X KE c sl (fun k m1 => if k = true then EvD M X KE a sl P m1 else EvD M X KE b sl P m1) m) : EvD M X KE (.IfExp c a b pos) sl P m := fun G0 H0 G H σ W Q ok so wi po =>
  wpE.of (pe_ifExp pt_wp pe_wp pe_wp) (h G0 H0 G H σ W _ ok so wi fun k m' G' H' p o => by
    cases k with
    | true => exact p G0 H0 G' H' σ W Q (ok.trans o) (so.step o) (wi.step o) (po.step o)
    | false => exact p G0 H0 G' H' σ W Q (ok.trans o) (so.step o) (wi.step o) (po.step o))
theorem eva_nil (k : PA' [] m) : EvA M X KE [] sl PA' m := fun _ _ G H _ _ _ ok _ _ po => wpA.of pa_nil (po _ _ m G H k ok.here .nil)
theorem eva_cons (h : EvD M X KE e sl (fun d m1 => EvA M X KE es sl (fun ds m2 => PA' (d :: ds) m2) m1) m) (hs : starEach (e :: es) X.env = (false, eval e X.env) :: starEach es X.env := by with_unfolding_all rfl) : EvA M X KE (e :: es) sl PA' m := fun G0 H0 G H σ W Q ok so wi po =>
  wpA.of (pa_cons pe_wp pa_wp hs) (h G0 H0 G H σ W _ ok so wi fun v d m' G' H' p o r => p G0 H0 G' H' σ W _ (ok.trans o) (so.step o) (wi.step o) fun vs ds m2 G2 H2 p2 o2 r2 => po _ _ m2 G2 H2 p2 (o.trans o2) (.cons (r.mono o2.le) r2))
theorem evd_tuple {x1} (h : EvA M X KE es sl (fun ds m1 => ds.length ≤ sizeLine ∧ P (.tup ds) m1) m) : EvD M X KE (.Tuple es x1 pos) sl P m := fun G0 H0 G H σ W Q ok so wi po =>
  wpE.of (pe_tup pa_wp) (h G0 H0 G H σ W _ ok so wi fun vs ds m1 G1 H1 ⟨l, p⟩ o r => ⟨by rw [r.length]; exact l, fun q hq => by
    have al := o.here.alloc (o := .tup vs) hq
    exact po _ _ m1 _ _ p (o.trans al) (.tup (sq_t upd_same) (r.mono al.le))⟩)
theorem evd_list (h : EvA M X KE es sl (fun ds m1 => ds.length ≤ sizeLine ∧ P (.lst ds) m1) m) : EvD M X KE (.List es pos) sl P m := fun G0 H0 G H σ W Q ok so wi po =>
  wpE.of (pe_lst pa_wp) (h G0 H0 G H σ W _ ok so wi fun vs ds m1 G1 H1 ⟨l, p⟩ o r => ⟨by rw [r.length]; exact l, fun q hq => by
    have al := o.here.alloc (o := .lst vs) hq
    exact po _ _ m1 _ _ p (o.trans al) (.lst upd_same (r.mono al.le))⟩)
theorem evd_ix (h : EvD M X KE a sl (fun x m1 => EvD M X KE b sl (fun y m2 => IxD M X KE x y P m2) m1) m) (hs : PlainIx b := by with_unfolding_all (intro _ _; rfl)) : EvD M X KE (.Subscript a b pos) sl P m := by
  intro G0 H0 G H σ W Q ok so wi po pins s I
  refine Subscript_ (h.run ok so wi I fun u s1 v d m1 G1 H1 p1 k1 o1 so1 wi1 r1 I1 rv1 => ?_)
  refine p1.run k1 so1 wi1 I1 fun u2 s2 v2 d2 m2 G2 H2 p2 k2 o2 so2 wi2 r2 I2 rv2 => ?_
  exact p2 G2 H2 σ W Q v v2 k2.here wi2 (r1.mono o2.le) r2 (po.step (o1.trans o2)) a b pins s2 u u2 I2 rv1 rv2 (hs _ _)
end
end OZ

/-! ### operators on data -/
namespace OZ
open PySem L2 PySem.Spec PyProof.Rows
mutual
def toPD : Da → PyData
  | .non => .none | .bl b => .bool b | .int i => .int i | .str s => .str s
  | .tup ds => .tuple (toPDs ds) | .lst ds => .list (toPDs ds)
  | .ty _ => .none | .ref _ => .none | .dct _ => .none | .obj _ _ => .none | .exc _ _ _ => .none
def toPDs : List Da → List PyData
  | [] => [] | d :: ds => toPD d :: toPDs ds
end
mutual
/-- plain data: no objects, all texts within the line of what can be laid -/
def plD : Da → Bool
  | .non => true | .bl _ => true | .int _ => true | .str s => PyData.strOk s
  | .tup ds => plDs ds | .lst ds => plDs ds
  | .ty _ => false | .ref _ => false | .dct _ => false | .obj _ _ => false | .exc _ _ _ => false
def plDs : List Da → Bool
  | [] => true | d :: ds => plD d && plDs ds
end
mutual
def dpt : Da → Nat
  | .tup ds => dpts ds + 1 | .lst ds => dpts ds + 1
  | .non => 0 | .bl _ => 0 | .int _ => 0 | .str _ => 0 | .ty _ => 0 | .ref _ => 0 | .dct _ => 0 | .obj _ _ => 0 | .exc _ _ _ => 0
def dpts : List Da → Nat
  | [] => 0 | d :: ds => max (dpt d) (dpts ds)
end
mutual
/-- == of plain data -/
def deq : Da → Da → Bool
  | .non, .non => true
  | .bl a, .bl b => a == b
  | .bl a, .int j => (if a then 1 else 0) == j
  | .int i, .bl b => i == (if b then 1 else 0)
  | .int i, .int j => decide (i = j)
  | .str x, .str y => decide (x = y)
  | .lst xs, .lst ys => deqs xs ys
  | .tup xs, .tup ys => deqs xs ys
  | _, _ => false
def deqs : List Da → List Da → Bool
  | [], [] => true
  | x :: xs, y :: ys => deq x y && deqs xs ys
  | [], _ :: _ => false
  | _ :: _, [] => false
end
mutual
theorem toPD_lay : ∀ d : Da, plD d = true → (toPD d).canLay0 = true
  | .non, _ => rfl | .bl _, _ => rfl | .int _, _ => rfl
  | .str s, h => h
  | .tup ds, h => toPDs_lay ds h
  | .lst ds, h => toPDs_lay ds h
  | .ty _, h => by cases h | .ref _, h => by cases h | .dct _, h => by cases h | .obj _ _, h => by cases h | .exc _ _ _, h => by cases h
theorem toPDs_lay : ∀ ds : List Da, plDs ds = true → PyData.canLayAll0 (toPDs ds) = true
  | [], _ => rfl
  | d :: ds, h => by
    simp only [plDs, Bool.and_eq_true] at h
    simp only [toPDs, PyData.canLayAll0, Bool.and_eq_true]
    exact ⟨toPD_lay d h.1, toPDs_lay ds h.2⟩
end
mutual
theorem toPD_dpt : ∀ d : Da, (toPD d).depth = dpt d
  | .non => rfl | .bl _ => rfl | .int _ => rfl | .str s => rfl
  | .tup ds => by simp only [toPD, PyData.depth, dpt, toPDs_dpt ds]
  | .lst ds => by simp only [toPD, PyData.depth, dpt, toPDs_dpt ds]
  | .ty _ => rfl | .ref _ => rfl | .dct _ => rfl | .obj _ _ => rfl | .exc _ _ _ => rfl
theorem toPDs_dpt : ∀ ds : List Da, PyData.depthAll (toPDs ds) = dpts ds
  | [] => rfl
  | d :: ds => by simp only [toPDs, PyData.depthAll, dpts, toPD_dpt d, toPDs_dpt ds]
end
mutual
theorem toPD_eqv : ∀ d e : Da, plD d = true → plD e = true → PyData.eqv (toPD d) (toPD e) = deq d e
  | .non, e, _, h => by cases e <;> first | rfl | (cases h; done)
  | .bl _, e, _, h => by cases e <;> first | rfl | (cases h; done)
  | .int i, e, _, h => by cases e <;> first | rfl | (simp [toPD, PyData.eqv, deq, BEq.beq]; done) | (cases h; done)
  | .str s, e, _, h => by cases e <;> first | rfl | (simp only [toPD, PyData.eqv, deq]; rw [Bool.eq_iff_iff]; simp; done) | (cases h; done)
  | .tup ds, e, h1, h => by
    cases e with
    | tup es => simp only [toPD, PyData.eqv, deq]; exact toPDs_eqv ds es h1 h
    | _ => first | rfl | (cases h; done)
  | .lst ds, e, h1, h => by
    cases e with
    | lst es => simp only [toPD, PyData.eqv, deq]; exact toPDs_eqv ds es h1 h
    | _ => first | rfl | (cases h; done)
  | .ty _, _, h, _ => by cases h
  | .ref _, _, h, _ => by cases h
  | .dct _, _, h, _ => by cases h
  | .obj _ _, _, h, _ => by cases h
  | .exc _ _ _, _, h, _ => by cases h
theorem toPDs_eqv : ∀ d e : List Da, plDs d = true → plDs e = true → PyData.eqvAll (toPDs d) (toPDs e) = deqs d e
  | [], [], _, _ => rfl
  | [], _ :: _, _, _ => rfl
  | _ :: _, [], _, _ => rfl
  | x :: xs, y :: ys, h1, h2 => by
    simp only [plDs, Bool.and_eq_true] at h1 h2
    simp only [toPDs, PyData.eqvAll, deqs, toPD_eqv x y h1.1 h2.1, toPDs_eqv xs ys h1.2 h2.2]
end
mutual
theorem Rep.dp {K : PySem.W.Frag} {G : Hp} : ∀ {v : V} {d : Da}, plD d = true → Rep K G v d → Dp K G v (toPD d)
  | _, _, _, .non => .non
  | _, _, _, .bl b => .bl b
  | _, _, _, .int b => .int b
  | _, _, _, .str b => .str b
  | _, _, h, .tup q r => .tup q (Reps.dp h r)
  | _, _, h, .lst q r => .lst (sq_l q) (Reps.dp h r)
  | _, _, h, .ty _ => by cases h
  | _, _, h, .ref _ => by cases h
  | _, _, h, .dct _ _ => by cases h
  | _, _, h, .obj _ _ => by cases h
  | _, _, h, .exc _ _ => by cases h
theorem Reps.dp {K : PySem.W.Frag} {G : Hp} : ∀ {v : List V} {d : List Da}, plDs d = true → Reps K G v d → DpAll K G v (toPDs d)
  | _, _, _, .nil => .nil
  | _, _, h, .cons a b => by
    simp only [plDs, Bool.and_eq_true] at h
    exact .cons (Rep.dp h.1 a) (Reps.dp h.2 b)
end
theorem shaped_of {d : Da} (h : plD d = true) (l : dpt d ≤ 64) : SeqAt.shaped (toPD d) = true := by
  unfold SeqAt.shaped
  rw [toPD_lay d h, toPD_dpt]
  simp [l]

section
variable {M : Mode} {X : Cx} {KE : Kx} {P : Da → Nat → Prop} {m : Nat} {i j : Int}
theorem opd_add (k : P (.int (i + j)) m) : OpD M X KE (binaryOp .Add) (.int i) (.int j) P m := .of op_add fun G H _ _ _ ok r1 r2 po => ⟨i, j, r1.int_inv, r2.int_inv, po _ _ m G H k ok (.int _)⟩
theorem opd_sub (k : P (.int (i - j)) m) : OpD M X KE (binaryOp .Sub) (.int i) (.int j) P m := .of op_sub fun G H _ _ _ ok r1 r2 po => ⟨i, j, r1.int_inv, r2.int_inv, po _ _ m G H k ok (.int _)⟩
theorem opd_mul (c : CMul i j) (k : P (.int (i * j)) m) : OpD M X KE (binaryOp .Mult) (.int i) (.int j) P m := .of op_mul fun G H _ _ _ ok r1 r2 po => ⟨i, j, r1.int_inv, r2.int_inv, c, po _ _ m G H k ok (.int _)⟩
theorem opd_mulW (c : CMulW i j) (k : P (.int (i * j)) m) : OpD M X KE (binaryOp .Mult) (.int i) (.int j) P m := .of op_mulW fun G H _ _ _ ok r1 r2 po => ⟨i, j, r1.int_inv, r2.int_inv, c, po _ _ m G H k ok (.int _)⟩
theorem opd_mod (c : 0 < j) (k : P (.int (i % j)) m) : OpD M X KE (binaryOp .Mod) (.int i) (.int j) P m := .of op_mod fun G H _ _ _ ok r1 r2 po => ⟨i, j, r1.int_inv, r2.int_inv, c, po _ _ m G H k ok (.int _)⟩
theorem opd_fdiv (c : CDivW i j) (k : P (.int (i / j)) m) : OpD M X KE (binaryOp .FloorDiv) (.int i) (.int j) P m := .of op_fdivW fun G H _ _ _ ok r1 r2 po => ⟨i, j, r1.int_inv, r2.int_inv, c, po _ _ m G H k ok (.int _)⟩
theorem opd_pow (c : CPow i j) (k : P (.int (i ^ j.toNat)) m) : OpD M X KE (binaryOp .Pow) (.int i) (.int j) P m := .of op_pow fun G H _ _ _ ok r1 r2 po => ⟨i, j, r1.int_inv, r2.int_inv, c, po _ _ m G H k ok (.int _)⟩
theorem opd_shl (c : CPow i j) (k : P (.int (i * 2 ^ j.toNat)) m) : OpD M X KE (binaryOp .LShift) (.int i) (.int j) P m := .of op_shl fun G H _ _ _ ok r1 r2 po => ⟨i, j, r1.int_inv, r2.int_inv, c, po _ _ m G H k ok (.int _)⟩
theorem opd_shr (c : 0 ≤ j) (k : P (.int (i / 2 ^ j.toNat)) m) : OpD M X KE (binaryOp .RShift) (.int i) (.int j) P m := .of op_shr fun G H _ _ _ ok r1 r2 po => ⟨i, j, r1.int_inv, r2.int_inv, c, po _ _ m G H k ok (.int _)⟩
theorem opd_and (k : P (.int (Builtin.bitAnd i j)) m) : OpD M X KE (binaryOp .BitAnd) (.int i) (.int j) P m := .of op_and fun G H _ _ _ ok r1 r2 po => ⟨i, j, r1.int_inv, r2.int_inv, po _ _ m G H k ok (.int _)⟩
theorem opd_lt (k : P (.bl (decide (i < j))) m) : OpD M X KE (compareOp .Lt) (.int i) (.int j) P m := .of op_lt fun G H _ _ _ ok r1 r2 po => ⟨i, j, r1.int_inv, r2.int_inv, po _ _ m G H k ok (.bl _)⟩
theorem opd_le (k : P (.bl (decide (i ≤ j))) m) : OpD M X KE (compareOp .LtE) (.int i) (.int j) P m := .of op_le fun G H _ _ _ ok r1 r2 po => ⟨i, j, r1.int_inv, r2.int_inv, po _ _ m G H k ok (.bl _)⟩
theorem opd_gt (k : P (.bl (decide (j < i))) m) : OpD M X KE (compareOp .Gt) (.int i) (.int j) P m := .of op_gt fun G H _ _ _ ok r1 r2 po => ⟨i, j, r1.int_inv, r2.int_inv, po _ _ m G H k ok (.bl _)⟩
theorem opd_ge (k : P (.bl (decide (j ≤ i))) m) : OpD M X KE (compareOp .GtE) (.int i) (.int j) P m := .of op_ge fun G H _ _ _ ok r1 r2 po => ⟨i, j, r1.int_inv, r2.int_inv, po _ _ m G H k ok (.bl _)⟩
theorem und_neg (k : P (.int (-i)) m) : UnD M X KE (unaryOp .USub) (.int i) P m := .of un_neg fun G H _ _ ok r1 po => ⟨i, r1.int_inv, po _ _ m G H k ok (.int _)⟩
/-- ==, != of plain data -/
theorem opd_eq {x y : Da} (hu : X.A.units + 64 < cLine) (h1 : plD x = true) (h2 : plD y = true) (l1 : dpt x ≤ 64) (l2 : dpt y ≤ 64) (k : P (.bl (deq x y)) m) : OpD M X KE (compareOp .Eq) x y P m :=
  .of (op_eqD hu) fun G H _ _ _ ok r1 r2 po => ⟨_, _, (r1.mono ok.sub).dp h1, (r2.mono ok.sub).dp h2, shaped_of h1 l1, shaped_of h2 l2, by rw [toPD_eqv x y h1 h2]; exact po _ _ m G H k ok (.bl _)⟩
theorem opd_ne {x y : Da} (hu : X.A.units + 64 < cLine) (h1 : plD x = true) (h2 : plD y = true) (l1 : dpt x ≤ 64) (l2 : dpt y ≤ 64) (k : P (.bl (!deq x y)) m) : OpD M X KE (compareOp .NotEq) x y P m :=
  .of (op_neD hu) fun G H _ _ _ ok r1 r2 po => ⟨_, _, (r1.mono ok.sub).dp h1, (r2.mono ok.sub).dp h2, shaped_of h1 l1, shaped_of h2 l2, by rw [toPD_eqv x y h1 h2]; exact po _ _ m G H k ok (.bl _)⟩
/-- ints, texts: == without a look at depth -/
theorem opd_eqI (k : P (.bl (decide (i = j))) m) : OpD M X KE (compareOp .Eq) (.int i) (.int j) P m := .of op_eq fun G H _ _ _ ok r1 r2 po => by
  cases r1.int_inv; cases r2.int_inv
  exact ⟨rfl, by rw [show decide (V.int i = V.int j) = decide (i = j) by simp]; exact po _ _ m G H k ok (.bl _)⟩
theorem opd_neI (k : P (.bl (!decide (i = j))) m) : OpD M X KE (compareOp .NotEq) (.int i) (.int j) P m := .of op_ne fun G H _ _ _ ok r1 r2 po => by
  cases r1.int_inv; cases r2.int_inv
  exact ⟨rfl, by rw [show decide (V.int i = V.int j) = decide (i = j) by simp]; exact po _ _ m G H k ok (.bl _)⟩
theorem opd_eqS {x y : Str} (k : P (.bl (decide (x = y))) m) : OpD M X KE (compareOp .Eq) (.str x) (.str y) P m := .of op_eq fun G H _ _ _ ok r1 r2 po => by
  cases r1.str_inv; cases r2.str_inv
  exact ⟨rfl, by rw [show decide (V.str x = V.str y) = decide (x = y) by simp]; exact po _ _ m G H k ok (.bl _)⟩
theorem opd_neS {x y : Str} (k : P (.bl (!decide (x = y))) m) : OpD M X KE (compareOp .NotEq) (.str x) (.str y) P m := .of op_ne fun G H _ _ _ ok r1 r2 po => by
  cases r1.str_inv; cases r2.str_inv
  exact ⟨rfl, by rw [show decide (V.str x = V.str y) = decide (x = y) by simp]; exact po _ _ m G H k ok (.bl _)⟩
theorem opd_eqB {x y : Bool} (k : P (.bl (decide (x = y))) m) : OpD M X KE (compareOp .Eq) (.bl x) (.bl y) P m := .of op_eq fun G H _ _ _ ok r1 r2 po => by
  cases r1.bl_inv; cases r2.bl_inv
  exact ⟨rfl, by rw [show decide (V.bl x = V.bl y) = decide (x = y) by simp]; exact po _ _ m G H k ok (.bl _)⟩
theorem opd_neB {x y : Bool} (k : P (.bl (!decide (x = y))) m) : OpD M X KE (compareOp .NotEq) (.bl x) (.bl y) P m := .of op_ne fun G H _ _ _ ok r1 r2 po => by
  cases r1.bl_inv; cases r2.bl_inv
  exact ⟨rfl, by rw [show decide (V.bl x = V.bl y) = decide (x = y) by simp]; exact po _ _ m G H k ok (.bl _)⟩
/-- is None -/
def isNonD : Da → Bool
  | .non => true | _ => false
theorem rep_isNon {K : PySem.W.Frag} {G : Hp} {v : V} {d : Da} (r : Rep K G v d) : decide (v = .non) = isNonD d := by
  cases r <;> simp [isNonD]
theorem opd_is {x : Da} (k : P (.bl (isNonD x)) m) : OpD M X KE (compareOp .Is) x .non P m := .of op_isN fun G H _ _ _ ok r1 r2 po => ⟨r2.non_inv, by rw [rep_isNon r1]; exact po _ _ m G H k ok (.bl _)⟩
theorem opd_isnot {x : Da} (k : P (.bl (!isNonD x)) m) : OpD M X KE (compareOp .IsNot) x .non P m := .of op_notN fun G H _ _ _ ok r1 r2 po => ⟨r2.non_inv, by rw [rep_isNon r1]; exact po _ _ m G H k ok (.bl _)⟩
/-- in a list or tuple of flat data -/
def flD : Da → Bool
  | .non => true | .bl _ => true | .int _ => true | .str _ => true | _ => false
theorem rep_flat {K : PySem.W.Frag} {G : Hp} {v : V} {d : Da} (r : Rep K G v d) (h : flD d = true) : flatV v = true := by
  cases r <;> first | rfl | cases h
theorem reps_flat {K : PySem.W.Frag} {G : Hp} : ∀ {vs : List V} {ds : List Da}, Reps K G vs ds → ds.all flD = true → vs.all flatV = true
  | _, _, .nil, _ => rfl
  | _, _, .cons a b, h => by
    simp only [List.all_cons, Bool.and_eq_true] at h ⊢
    exact ⟨rep_flat a h.1, reps_flat b h.2⟩
theorem rep_eqV {K : PySem.W.Frag} {G : Hp} {v w : V} {d e : Da} (r : Rep K G v d) (q : Rep K G w e) (h : flD d = true) (h2 : flD e = true) : eqV v w = deq d e := by
  cases r <;> first | (cases h; done) | (cases q <;> first | rfl | (simp [eqV, deq, BEq.beq]; done) | (simp only [eqV, deq]; rw [Bool.eq_iff_iff]; simp; done) | (cases h2; done))
def inD (x : Da) (ds : List Da) : Bool := ds.any fun y => deq y x
theorem reps_inV {K : PySem.W.Frag} {G : Hp} {v : V} {d : Da} (r : Rep K G v d) (h : flD d = true) : ∀ {vs : List V} {ds : List Da}, Reps K G vs ds → ds.all flD = true → inV v vs = inD d ds
  | _, _, .nil, _ => rfl
  | _, _, .cons a b, h2 => by
    simp only [List.all_cons, Bool.and_eq_true] at h2
    show (eqV _ v || inV v _) = (deq _ d || inD d _)
    rw [rep_eqV a r h2.1 h, reps_inV r h b h2.2]
theorem opd_inL {x : Da} {ds : List Da} (h : flD x = true) (h2 : ds.all flD = true) (k : P (.bl (inD x ds)) m) : OpD M X KE (compareOp .In) x (.lst ds) P m := .of op_in_seq fun G H _ _ _ ok r1 r2 po => by
  cases r2 with
  | lst q r => exact ⟨_, _, rfl, .inl (sq_l (ok.sub _ _ q)), rep_flat r1 h, reps_flat r h2, by rw [reps_inV r1 h r h2]; exact po _ _ m G H k ok (.bl _)⟩
theorem opd_inT {x : Da} {ds : List Da} (h : flD x = true) (h2 : ds.all flD = true) (k : P (.bl (inD x ds)) m) : OpD M X KE (compareOp .In) x (.tup ds) P m := .of op_in_seq fun G H _ _ _ ok r1 r2 po => by
  cases r2 with
  | tup q r => exact ⟨_, _, rfl, .inr (sqT_same ok.sub q), rep_flat r1 h, reps_flat r h2, by rw [reps_inV r1 h r h2]; exact po _ _ m G H k ok (.bl _)⟩
theorem opd_ninL {x : Da} {ds : List Da} (h : flD x = true) (h2 : ds.all flD = true) (k : P (.bl (!inD x ds)) m) : OpD M X KE (compareOp .NotIn) x (.lst ds) P m := .of op_notIn_seq fun G H _ _ _ ok r1 r2 po => by
  cases r2 with
  | lst q r => exact ⟨_, _, rfl, .inl (sq_l (ok.sub _ _ q)), rep_flat r1 h, reps_flat r h2, by rw [reps_inV r1 h r h2]; exact po _ _ m G H k ok (.bl _)⟩
theorem opd_ninT {x : Da} {ds : List Da} (h : flD x = true) (h2 : ds.all flD = true) (k : P (.bl (!inD x ds)) m) : OpD M X KE (compareOp .NotIn) x (.tup ds) P m := .of op_notIn_seq fun G H _ _ _ ok r1 r2 po => by
  cases r2 with
  | tup q r => exact ⟨_, _, rfl, .inr (sqT_same ok.sub q), rep_flat r1 h, reps_flat r h2, by rw [reps_inV r1 h r h2]; exact po _ _ m G H k ok (.bl _)⟩
/-- dicts -/
def look {α : Type} (k : Key) : List (Key × α) → Option α
  | [] => none
  | (j, v) :: r => if j = k then some v else look k r
theorem repK_look {K : PySem.W.Frag} {G : Hp} {k : Key} : ∀ {kvs : List (Key × V)} {ks : List (Key × Da)}, RepK K G kvs ks → (∀ d, look k ks = some d → ∃ v, valV kvs k = some v ∧ Rep K G v d) ∧ (look k ks = none → valV kvs k = none)
  | _, _, .nil => ⟨fun _ h => (by cases h), fun _ => rfl⟩
  | _, _, .cons (k := j) a b => by
    obtain ⟨i1, i2⟩ := repK_look (k := k) b
    by_cases e : j = k
    · refine ⟨fun d h => ?_, fun h => ?_⟩
      · simp only [look, if_pos e] at h; cases h
        exact ⟨_, valV_pos e, a⟩
      · simp only [look, if_pos e] at h; cases h
    · refine ⟨fun d h => ?_, fun h => ?_⟩
      · simp only [look, if_neg e] at h
        rw [valV_neg e]; exact i1 d h
      · simp only [look, if_neg e] at h
        rw [valV_neg e]; exact i2 h
def keyD : Key → Da
  | .inl i => .int i
  | .inr s => .str s
theorem rep_key {K : PySem.W.Frag} {G : Hp} {v : V} {k : Key} (r : Rep K G v (keyD k)) : v = kV k := by
  cases k with
  | inl i => exact Rep.int_inv r
  | inr s => exact Rep.str_inv r
theorem repK_get {K : PySem.W.Frag} {G : Hp} {kvs : List (Key × V)} {ks : List (Key × Da)} {k : Key} (r : RepK K G kvs ks) : ∃ o : Option V, valV kvs k = o ∧ o.isSome = (look k ks).isSome ∧ ∀ d, look k ks = some d → ∃ v, o = some v ∧ Rep K G v d := by
  obtain ⟨i1, i2⟩ := repK_look (k := k) r
  cases e : look k ks with
  | none => exact ⟨none, i2 e, rfl, fun d h => by cases h⟩
  | some d =>
    obtain ⟨v, h1, h2⟩ := i1 d e
    exact ⟨some v, h1, rfl, fun d' h => by cases h; exact ⟨v, rfl, h2⟩⟩
theorem op_inDct (hu : X.A.units + 1 < cLine) : OpR X (compareOp .In) (fun x y H Q => ∃ a o, y = .ref a ∧ DGet H a x o ∧ Q (.bl o.isSome) H) := fun pins s σ H x y v u Q I rx ry h => by
  obtain ⟨a, o, rfl, g, q⟩ := h
  cases ry
  exact d_in hu I g rx fun s3 I3 => ⟨.bl o.isSome, H, I3, rfl, q⟩
theorem op_ninDct (hu : X.A.units + 1 < cLine) : OpR X (compareOp .NotIn) (fun x y H Q => ∃ a o, y = .ref a ∧ DGet H a x o ∧ Q (.bl (!o.isSome)) H) := fun pins s σ H x y v u Q I rx ry h => by
  obtain ⟨a, o, rfl, g, q⟩ := h
  cases ry
  exact d_notIn hu I g rx fun s3 I3 => ⟨.bl (!o.isSome), H, I3, rfl, q⟩
theorem opd_inK {k : Key} {ks : List (Key × Da)} (hu : X.A.units + 1 < cLine) (h : P (.bl (look k ks).isSome) m) : OpD M X KE (compareOp .In) (keyD k) (.dct ks) P m := .of (op_inDct hu) fun G H _ _ _ ok r1 r2 po => by
  cases r2 with
  | dct q r =>
    obtain ⟨o, e, h1, _⟩ := repK_get (k := k) r
    exact ⟨_, o, rfl, .inl ⟨_, k, .inr ⟨_, ok.sub _ _ q⟩, rep_key r1, e.symm⟩, by rw [h1]; exact po _ _ m G H h ok (.bl _)⟩
theorem opd_ninK {k : Key} {ks : List (Key × Da)} (hu : X.A.units + 1 < cLine) (h : P (.bl (!(look k ks).isSome)) m) : OpD M X KE (compareOp .NotIn) (keyD k) (.dct ks) P m := .of (op_ninDct hu) fun G H _ _ _ ok r1 r2 po => by
  cases r2 with
  | dct q r =>
    obtain ⟨o, e, h1, _⟩ := repK_get (k := k) r
    exact ⟨_, o, rfl, .inl ⟨_, k, .inr ⟨_, ok.sub _ _ q⟩, rep_key r1, e.symm⟩, by rw [h1]; exact po _ _ m G H h ok (.bl _)⟩
/-- texts -/
theorem opd_addS {x y : Str} (h : x.length + y.length ≤ sizeLine) (k : P (.str (x ++ y)) m) : OpD M X KE (binaryOp .Add) (.str x) (.str y) P m := .of op_add_str fun G H _ _ _ ok r1 r2 po => ⟨x, y, r1.str_inv, r2.str_inv, h, po _ _ m G H k ok (.str _)⟩
theorem opd_inS {x y : Str} (k : P (.bl (!(Builtin.Str.occurrences y x 0 y.length 1).isEmpty)) m) : OpD M X KE (compareOp .In) (.str x) (.str y) P m := .of op_in_str fun G H _ _ _ ok r1 r2 po => ⟨x, y, r1.str_inv, r2.str_inv, po _ _ m G H k ok (.bl _)⟩
theorem opd_ltS {x y : Str} (k : P (.bl (decide (x.cps.toList < y.cps.toList))) m) : OpD M X KE (compareOp .Lt) (.str x) (.str y) P m := .of op_lt_str fun G H _ _ _ ok r1 r2 po => ⟨x, y, r1.str_inv, r2.str_inv, po _ _ m G H k ok (.bl _)⟩
/-- lists and tuples put together -/
theorem opd_cat {xs ys : List Da} (h : xs.length + ys.length ≤ sizeLine) (k : P (.lst (xs ++ ys)) m) : OpD M X KE (binaryOp .Add) (.lst xs) (.lst ys) P m := .of op_cat fun G H _ _ _ ok r1 r2 po => by
  obtain ⟨a, us, rfl, q, r⟩ := r1.lst_inv
  obtain ⟨b, ws, rfl, q2, t⟩ := r2.lst_inv
  exact ⟨_, _, _, _, rfl, rfl, ok.sub _ _ q, ok.sub _ _ q2, by rw [r.length, t.length]; exact h, fun p hp => by
    have al := ok.alloc (o := .lst (us ++ ws)) hp
    exact po _ _ m _ _ k al (.lst upd_same ((r.append t).mono al.le))⟩
theorem opd_rep {xs : List Da} (h0 : -(2 ^ 63) ≤ j) (h1 : j < 2 ^ 63) (h : xs.length * j.toNat ≤ sizeLine) (k : P (.lst (List.replicate j.toNat xs).flatten) m) : OpD M X KE (binaryOp .Mult) (.lst xs) (.int j) P m := .of op_rep fun G H _ _ _ ok r1 r2 po => by
  cases r2.int_inv
  obtain ⟨a, us, rfl, q, r⟩ := r1.lst_inv
  have fl : ∀ n : Nat, Reps X.K G (List.replicate n us).flatten (List.replicate n xs).flatten := by
    intro n
    induction n with
    | zero => exact .nil
    | succ n ih => rw [List.replicate_succ, List.replicate_succ, List.flatten_cons, List.flatten_cons]; exact r.append ih
  exact ⟨_, j, _, rfl, rfl, ok.sub _ _ q, h0, h1, by rw [r.length]; exact h, fun p hp => by
    have al := ok.alloc (o := .lst (List.replicate j.toNat us).flatten) hp
    exact po _ _ m _ _ k al (.lst upd_same ((fl j.toNat).mono al.le))⟩
theorem opd_catT {xs ys : List Da} (h : xs.length + ys.length ≤ sizeLine) (k : P (.tup (xs ++ ys)) m) : OpD M X KE (binaryOp .Add) (.tup xs) (.tup ys) P m := .of op_catA fun G H _ _ _ ok r1 r2 po => by
  obtain ⟨a, us, rfl, q, r⟩ := r1.tup_inv
  obtain ⟨b, ws, rfl, q2, t⟩ := r2.tup_inv
  refine ⟨_, _, _, _, rfl, rfl, sqT_same ok.sub q, sqT_same ok.sub q2, by rw [r.length, t.length]; exact h, fun e => ?_, fun _ e => ?_, fun _ _ p hp => ?_⟩
  · subst e
    cases r
    exact po _ _ m _ _ k ok (.tup q2 t)
  · subst e
    cases t
    rw [List.append_nil] at k
    exact po _ _ m _ _ k ok (.tup q r)
  · have al := ok.alloc (o := .tup (us ++ ws)) hp
    exact po _ _ m _ _ k al (.tup (sq_t upd_same) ((r.append t).mono al.le))
/-- items -/
theorem atI_len {α β : Type} {xs : List α} {ys : List β} {z : β} (e : xs.length = ys.length) (h : atI ys i = some z) : ∃ j : Nat, atI xs i = xs[j]? ∧ ys[j]? = some z := by
  unfold atI at h ⊢
  cases q : ixN ys.length i with
  | none => rw [q] at h; cases h
  | some j => rw [q] at h; rw [e, q]; exact ⟨j, rfl, h⟩
theorem ixd_lst {ds : List Da} {d : Da} (h : atI ds i = some d) (k : P d m) : IxD M X KE (.lst ds) (.int i) P m := .of ix_list fun G H _ _ _ ok r1 r2 po => by
  obtain ⟨a, us, rfl, q, r⟩ := r1.lst_inv
  obtain ⟨j, e1, e2⟩ := atI_len r.length h
  obtain ⟨v, e3, rv⟩ := r.get e2
  exact ⟨a, us, i, v, rfl, r2.int_inv, sq_l (ok.sub _ _ q), e1.trans e3, po _ _ m G H k ok rv⟩
theorem ixd_tup {ds : List Da} {d : Da} (h : atI ds i = some d) (k : P d m) : IxD M X KE (.tup ds) (.int i) P m := .of ix_tup fun G H _ _ _ ok r1 r2 po => by
  obtain ⟨a, us, rfl, q, r⟩ := r1.tup_inv
  obtain ⟨j, e1, e2⟩ := atI_len r.length h
  obtain ⟨v, e3, rv⟩ := r.get e2
  exact ⟨a, us, i, v, rfl, r2.int_inv, sqT_same ok.sub q, e1.trans e3, po _ _ m G H k ok rv⟩
theorem ixd_str {z : Str} {c : Nat} (hl : z.length ≤ sizeLine) (h : atI z.cps.toList i = some c) (k : P (.str ⟨#[c]⟩) m) : IxD M X KE (.str z) (.int i) P m := .of ix_str fun G H _ _ _ ok r1 r2 po =>
  ⟨z, i, c, r1.str_inv, r2.int_inv, hl, h, po _ _ m G H k ok (.str _)⟩
theorem ix_dct (hu : X.A.units + 1 < cLine) : IxR X (fun x y H Q => ∃ a v, x = .ref a ∧ DGet H a y (some v) ∧ Q v H) := fun ve se pins s σ H x y v u Q I rx ry h hs => by
  obtain ⟨a, w, rfl, g, q⟩ := h
  cases rx
  exact tail_any (dict_typeIs I g) PySem.F.slot_dict_getitem.lookup (d_getItem hu I g ry fun w' s3 I3 rw' => ⟨w, H, I3, rw', q⟩) hs
theorem ixd_dct {k : Key} {ks : List (Key × Da)} {d : Da} (hu : X.A.units + 1 < cLine) (h : look k ks = some d) (kp : P d m) : IxD M X KE (.dct ks) (keyD k) P m := .of (ix_dct hu) fun G H _ _ _ ok r1 r2 po => by
  cases r1 with
  | dct q r =>
    obtain ⟨o, e, _, h2⟩ := repK_get (k := k) r
    obtain ⟨v, rfl, rv⟩ := h2 d h
    exact ⟨_, v, rfl, .inl ⟨_, k, .inr ⟨_, ok.sub _ _ q⟩, rep_key r2, e.symm⟩, po _ _ m G H kp ok rv⟩
end
end OZ

/-! ### calls -/
namespace OZ
open PySem L2 PySem.Spec PyProof.Rows
def CallD (M : Mode) (X : Cx) (KE : Kx) (f : Value) (ds : List Da) (P : Da → Nat → Prop) (m : Nat) : Prop :=
  ∀ (G H : Hp) (σ : L2.St) (W : WX) (Q : VK) (vs : List V), Ok M G H G H m → Wis M X KE G H σ W → Reps X.K G vs ds → Post M X.K G H P Q →
    ∀ pins s us, Inv X pins σ H s → Vals vs us → wpAny (model X.prog X.w) X.A (call f us) (EP X pins σ Q) X.xe s
section
variable {M : Mode} {X : Cx} {KE : Kx} {a e : Expr} {es : List Expr} {sl : List Sl} {P : Da → Nat → Prop} {m : Nat} {pos p : Pos} {x : Str} {id : String}
theorem CallD.of {f : Value} {r : List V → Hp → VK → Prop} {ds : List Da} (ho : CallR X f r) (h : ∀ G H Q vs, Ok M G H G H m → Reps X.K G vs ds → Post M X.K G H P Q → r vs H Q) : CallD M X KE f ds P m :=
  fun G H σ _ Q vs ok _ r po pins s us I e => ho pins s σ H vs us Q I e (h G H Q vs ok r po)
theorem calld_imp {f : Value} {ds : List Da} {P' : Da → Nat → Prop} (h : CallD M X KE f ds P m) (k : ∀ d m', P d m' → P' d m') : CallD M X KE f ds P' m :=
  fun G H σ W Q vs ok wi r po => h G H σ W Q vs ok wi r fun v d m' G' H' p => po v d m' G' H' (k d m' p)
/-- a built-in by its name -/
theorem evd_callB {N : List Str} {sc : Scope} {B : Bd} (cx : Ctx X N sc B) (hm : B.mg x = none) (h : EvA M X KE (e :: es) sl (fun ds m1 => CallD M X KE (.builtin id) ds P m1) m) (hv : bootBuiltins x = some (.builtin id) := by with_unfolding_all first | rfl | decide +kernel) (hg : GlS sc x := by with_unfolding_all rfl) (hn : x ≠ "__name__" := by with_unfolding_all decide) (hdb : (x == ("__debug__" : Str)) = false := by with_unfolding_all decide)
    (he : starEach (e :: es) X.env = (false, eval e X.env) :: starEach es X.env := by with_unfolding_all rfl) (hpl : (backTo pos (starEach es X.env)).any (·.1) = false := by with_unfolding_all rfl) : EvD M X KE (.Call (.Name x p) (e :: es) [] pos) sl P m := by
  intro G0 H0 G H σ W Q ok so wi po pins s I
  refine wpAny_Call_Name_kw (ld_blt I (cx.gl hg) (cx.mg hm) hv ?_ hn hdb)
  refine PyProof.Rows.callWith_builtin1 (h.run ok so wi I (fun us s1 vs ds m1 G1 H1 p1 k1 o1 so1 wi1 r1 I1 rv1 => ?_) pos) he hpl
  exact p1 G1 H1 σ W Q vs k1.here wi1 r1 (po.step o1) pins s1 us I1 rv1
theorem evd_callTy {N : List Str} {sc : Scope} {B : Bd} (cx : Ctx X N sc B) (hm : B.mg x = none) (h : EvA M X KE (e :: es) sl (fun ds m1 => CallD M X KE (.type id) ds P m1) m) (hv : bootBuiltins x = some (.type id) := by with_unfolding_all first | rfl | decide +kernel) (hg : GlS sc x := by with_unfolding_all rfl) (hn : x ≠ "__name__" := by with_unfolding_all decide) (hdb : (x == ("__debug__" : Str)) = false := by with_unfolding_all decide)
    (he : starEach (e :: es) X.env = (false, eval e X.env) :: starEach es X.env := by with_unfolding_all rfl) (hpl : (backTo pos (starEach es X.env)).any (·.1) = false := by with_unfolding_all rfl) : EvD M X KE (.Call (.Name x p) (e :: es) [] pos) sl P m := by
  intro G0 H0 G H σ W Q ok so wi po pins s I
  refine wpAny_Call_Name_kw (ld_blt I (cx.gl hg) (cx.mg hm) hv ?_ hn hdb)
  refine PyProof.Rows.callWith_type1 (h.run ok so wi I (fun us s1 vs ds m1 G1 H1 p1 k1 o1 so1 wi1 r1 I1 rv1 => ?_) pos) he hpl
  exact p1 G1 H1 σ W Q vs k1.here wi1 r1 (po.step o1) pins s1 us I1 rv1
/-- a built-in function that the text imports -/
theorem evd_callM {N : List Str} {sc : Scope} {B : Bd} (cx : Ctx X N sc B) (hm : B.mg x = some (.builtin id)) (h : EvA M X KE (e :: es) sl (fun ds m1 => CallD M X KE (.builtin id) ds P m1) m) (hg : GlS sc x := by with_unfolding_all rfl) (hdb : (x == ("__debug__" : Str)) = false := by with_unfolding_all decide)
    (he : starEach (e :: es) X.env = (false, eval e X.env) :: starEach es X.env := by with_unfolding_all rfl) (hpl : (backTo pos (starEach es X.env)).any (·.1) = false := by with_unfolding_all rfl) : EvD M X KE (.Call (.Name x p) (e :: es) [] pos) sl P m := by
  intro G0 H0 G H σ W Q ok so wi po pins s I
  refine wpAny_Call_Name_kw (ld_glob I (cx.gl hg) (cx.mg hm) ?_ hdb)
  refine PyProof.Rows.callWith_builtin1 (h.run ok so wi I (fun us s1 vs ds m1 G1 H1 p1 k1 o1 so1 wi1 r1 I1 rv1 => ?_) pos) he hpl
  exact p1 G1 H1 σ W Q vs k1.here wi1 r1 (po.step o1) pins s1 us I1 rv1
/-- a def of the text by its name -/
theorem evd_callF {N : List Str} {sc : Scope} {B : Bd} {f : Addr} (cx : Ctx X N sc B) (hm : B.mg x = some (.ref f)) (hk : PySem.W.keepIn X.K (.ref f) = true) (h : EvA M X KE (e :: es) sl (fun ds m1 => CallD M X KE (.ref f) ds P m1) m) (hg : GlS sc x := by with_unfolding_all rfl) (hdb : (x == ("__debug__" : Str)) = false := by with_unfolding_all decide)
    (he : starEach (e :: es) X.env = (false, eval e X.env) :: starEach es X.env := by with_unfolding_all rfl) (hpl : (backTo pos (starEach es X.env)).any (·.1) = false := by with_unfolding_all rfl) : EvD M X KE (.Call (.Name x p) (e :: es) [] pos) sl P m := by
  intro G0 H0 G H σ W Q ok so wi po pins s I
  refine wpAny_Call_Name_kw (ld_glob I (cx.gl hg) (cx.mg hm) ?_ hdb)
  refine PySem.W.callWith_K (h₀ := X.base) I.ok.mod.kin hk (h.run ok so wi I (fun us s1 vs ds m1 G1 H1 p1 k1 o1 so1 wi1 r1 I1 rv1 => ?_) pos) he hpl
  exact ⟨I1.kIn, p1 G1 H1 σ W Q vs k1.here wi1 r1 (po.step o1) pins s1 us I1 rv1⟩
theorem evd_callF0 {N : List Str} {sc : Scope} {B : Bd} {f : Addr} (cx : Ctx X N sc B) (hm : B.mg x = some (.ref f)) (hk : PySem.W.keepIn X.K (.ref f) = true) (h : CallD M X KE (.ref f) [] P m) (hg : GlS sc x := by with_unfolding_all rfl) (hdb : (x == ("__debug__" : Str)) = false := by with_unfolding_all decide) : EvD M X KE (.Call (.Name x p) [] [] pos) sl P m := by
  intro G0 H0 G H σ W Q ok so wi po pins s I
  refine wpAny_Call_Name_kw (ld_glob I (cx.gl hg) (cx.mg hm) ?_ hdb)
  refine PySem.W.callWith_K0 I.kIn hk ?_
  exact h G H σ W Q [] ok.here wi .nil po pins s [] I .nil
end

/-! ### the promise of a def, over data -/
abbrev FD := List Da → (Da → Nat → Prop) → Kx → Nat → Prop
def spD (M : Mode) (K : PySem.W.Frag) (n : Nat) (F : FD) : Sp := fun vs H Q E => vs.length = n ∧ ∃ G m ds KR KE, Ok M G H G H m ∧ Reps K G vs ds ∧ F ds KR KE m ∧ Post M K G H KR Q ∧
  (∀ C fs d m' G' H', KE C fs m' → Ok M G H G' H' m' → XRep K G' H' d fs → E (.ref C) d H')
structure FnG (M : Mode) (B : Bd) (k : Nat) (f : Addr) (n : Nat) (F : FD) : Prop where
  ex : ∃ (CX : CXT) (fd : FuncData) (ps : List Str), FnOk B.P B.w B.K B.mg B.base CX k f fd ps (spD M B.K n F) ∧ Binds B.K fd ps [] ∧ (CX = CX0 ∨ CX = L2.CX B.P B.w) ∧ n = ps.length
/-- the def that a global name holds -/
structure CallG (M : Mode) (B : Bd) (k : Nat) (x : Str) (n : Nat) (F : FD) : Prop where
  ex : ∃ f : Addr, B.mg x = some (.ref f) ∧ PySem.W.keepIn B.K (.ref f) = true ∧ FnG M B k f n F
theorem passes_any {X : Cx} {W : WX} {CX : CXT} (tk : Takes X W) (h : CX = CX0 ∨ CX = L2.CX X.prog X.w) (σ : L2.St) : PassesAt CX X σ (WE W σ) := by
  rcases h with rfl | rfl
  · exact fun _ _ _ _ _ _ q => q.elim
  · exact passAt tk σ
section
variable {M : Mode} {X : Cx} {KE : Kx} {P : Da → Nat → Prop} {m k n j : Nat} {f : Addr} {F : FD} {ds : List Da} {x : Str} {e : Expr} {es : List Expr} {sl : List Sl} {pos p : Pos}
theorem FnG.call (C : FnG M (bdOf X) k f n F) (hr : Room j X.A) (hl : ds.length = n) (h : F ds P KE m) (hk : k ≤ j := by with_unfolding_all decide) : CallD M X KE (.ref f) ds P m := by
  obtain ⟨CX, fd, ps, Fo, hb, hc, _⟩ := C.ex
  intro G H σ W Q vs ok wi r po pins s us I rv
  exact run_fnS (E := WE W) Fo (hr.mono hk) hb (passes_any wi.tk hc σ) I rv ⟨r.length.trans hl, G, m, ds, P, KE, ok, r, h, po, fun C fs d m' G' H' => wi.ex C fs d m' G' H'⟩
theorem FnG.callP (C : FnG pureM (bdOf X) k f n F) (hr : Room j X.A) (hl : ds.length = n) (h : F ds (fun d _ => P d m) (fun C fs _ => KE C fs m) 0) (hk : k ≤ j := by with_unfolding_all decide) : CallD M X KE (.ref f) ds P m := by
  obtain ⟨CX, fd, ps, Fo, hb, hc, _⟩ := C.ex
  intro G H σ W Q vs ok wi r po pins s us I rv
  exact run_fnS (E := WE W) Fo (hr.mono hk) hb (passes_any wi.tk hc σ) I rv ⟨r.length.trans hl, G, 0, ds, _, _, ok.toPure, r, h, fun v d m' G' H' p o rr => po v d m G' H' p (ok.lift o) rr, fun C fs d m' G' H' p o x => wi.ex C fs d m G' H' p (ok.lift o) x⟩
theorem evd_call {N : List Str} {sc : Scope} {B : Bd} (cx : Ctx X N sc B) (C : CallG M B k x n F) (hr : Room j X.A) (h : EvA M X KE (e :: es) sl (fun ds m1 => ds.length = n ∧ F ds P KE m1) m) (hk : k ≤ j := by with_unfolding_all decide) (hg : GlS sc x := by with_unfolding_all rfl) (hdb : (x == ("__debug__" : Str)) = false := by with_unfolding_all decide)
    (he : starEach (e :: es) X.env = (false, eval e X.env) :: starEach es X.env := by with_unfolding_all rfl) (hpl : (backTo pos (starEach es X.env)).any (·.1) = false := by with_unfolding_all rfl) : EvD M X KE (.Call (.Name x p) (e :: es) [] pos) sl P m := by
  have eb := cx.b
  subst eb
  obtain ⟨f, hm, hkp, c⟩ := C.ex
  exact evd_callF cx hm hkp (eva_imp h fun ds m1 q => c.call hr q.1 q.2 hk) hg hdb he hpl
theorem evd_callP {N : List Str} {sc : Scope} {B : Bd} (cx : Ctx X N sc B) (C : CallG pureM B k x n F) (hr : Room j X.A) (h : EvA M X KE (e :: es) sl (fun ds m1 => ds.length = n ∧ F ds (fun d _ => P d m1) (fun C fs _ => KE C fs m1) 0) m) (hk : k ≤ j := by with_unfolding_all decide) (hg : GlS sc x := by with_unfolding_all rfl) (hdb : (x == ("__debug__" : Str)) = false := by with_unfolding_all decide)
    (he : starEach (e :: es) X.env = (false, eval e X.env) :: starEach es X.env := by with_unfolding_all rfl) (hpl : (backTo pos (starEach es X.env)).any (·.1) = false := by with_unfolding_all rfl) : EvD M X KE (.Call (.Name x p) (e :: es) [] pos) sl P m := by
  have eb := cx.b
  subst eb
  obtain ⟨f, hm, hkp, c⟩ := C.ex
  exact evd_callF cx hm hkp (eva_imp h fun ds m1 q => c.callP hr q.1 q.2 hk) hg hdb he hpl
theorem evd_call0 {N : List Str} {sc : Scope} {B : Bd} (cx : Ctx X N sc B) (C : CallG M B k x 0 F) (hr : Room j X.A) (h : F [] P KE m) (hk : k ≤ j := by with_unfolding_all decide) (hg : GlS sc x := by with_unfolding_all rfl) (hdb : (x == ("__debug__" : Str)) = false := by with_unfolding_all decide) : EvD M X KE (.Call (.Name x p) [] [] pos) sl P m := by
  have eb := cx.b
  subst eb
  obtain ⟨f, hm, hkp, c⟩ := C.ex
  exact evd_callF0 cx hm hkp (c.call hr rfl h hk) hg hdb
theorem evd_callP0 {N : List Str} {sc : Scope} {B : Bd} (cx : Ctx X N sc B) (C : CallG pureM B k x 0 F) (hr : Room j X.A) (h : F [] (fun d _ => P d m) (fun C fs _ => KE C fs m) 0) (hk : k ≤ j := by with_unfolding_all decide) (hg : GlS sc x := by with_unfolding_all rfl) (hdb : (x == ("__debug__" : Str)) = false := by with_unfolding_all decide) : EvD M X KE (.Call (.Name x p) [] [] pos) sl P m := by
  have eb := cx.b
  subst eb
  obtain ⟨f, hm, hkp, c⟩ := C.ex
  exact evd_callF0 cx hm hkp (c.callP hr rfl h hk) hg hdb

/-! ### built-ins on data -/
variable {i : Int}
theorem reps1 {K : PySem.W.Frag} {G : Hp} {vs : List V} {d : Da} (r : Reps K G vs [d]) : ∃ v, vs = [v] ∧ Rep K G v d := by cases r with | cons a b => cases b; exact ⟨_, rfl, a⟩
theorem reps2 {K : PySem.W.Frag} {G : Hp} {vs : List V} {d e : Da} (r : Reps K G vs [d, e]) : ∃ v w, vs = [v, w] ∧ Rep K G v d ∧ Rep K G w e := by
  cases r with | cons a b => obtain ⟨w, rfl, q⟩ := reps1 b; exact ⟨_, _, rfl, a, q⟩
theorem cd_int (k : P (.int i) m) : CallD M X KE (.type "int") [.int i] P m := .of call_int1 fun G H _ vs ok r po => by
  obtain ⟨v, rfl, a⟩ := reps1 r
  cases a.int_inv
  exact .inl ⟨i, rfl, po _ _ m G H k ok (.int _)⟩
theorem cd_intB {b : Bool} (k : P (.int (if b then 1 else 0)) m) : CallD M X KE (.type "int") [.bl b] P m := .of call_int1 fun G H _ vs ok r po => by
  obtain ⟨v, rfl, a⟩ := reps1 r
  cases a.bl_inv
  exact .inr ⟨b, rfl, po _ _ m G H k ok (.int _)⟩
theorem cd_abs (k : P (.int (if i < 0 then -i else i)) m) : CallD M X KE (.builtin "abs") [.int i] P m := .of call_abs fun G H _ vs ok r po => by
  obtain ⟨v, rfl, a⟩ := reps1 r
  cases a.int_inv
  exact ⟨i, rfl, po _ _ m G H k ok (.int _)⟩
theorem cd_max2 {l : Int} (k : P (.int (if l > i then l else i)) m) (hc : X.calm = true := by with_unfolding_all rfl) : CallD M X KE (.builtin "max") [.int i, .int l] P m := .of (call_max2 hc) fun G H _ vs ok r po => by
  obtain ⟨v, w, rfl, a, b⟩ := reps2 r
  cases a.int_inv; cases b.int_inv
  exact ⟨i, l, rfl, po _ _ m G H k ok (.int _)⟩
theorem cd_min2 {l : Int} (k : P (.int (if l < i then l else i)) m) (hc : X.calm = true := by with_unfolding_all rfl) : CallD M X KE (.builtin "min") [.int i, .int l] P m := .of (call_min2 hc) fun G H _ vs ok r po => by
  obtain ⟨v, w, rfl, a, b⟩ := reps2 r
  cases a.int_inv; cases b.int_inv
  exact ⟨i, l, rfl, po _ _ m G H k ok (.int _)⟩
theorem cd_lenL {ls : List Da} (k : P (.int ls.length) m) : CallD M X KE (.builtin "len") [.lst ls] P m := .of call_len_seq fun G H _ vs ok r po => by
  obtain ⟨v, rfl, a⟩ := reps1 r
  obtain ⟨b, us, rfl, q, t⟩ := a.lst_inv
  exact ⟨b, us, rfl, .inl (sq_l (ok.sub _ _ q)), by rw [t.length]; exact po _ _ m G H k ok (.int _)⟩
theorem cd_lenT {ls : List Da} (k : P (.int ls.length) m) : CallD M X KE (.builtin "len") [.tup ls] P m := .of call_len_seq fun G H _ vs ok r po => by
  obtain ⟨v, rfl, a⟩ := reps1 r
  obtain ⟨b, us, rfl, q, t⟩ := a.tup_inv
  exact ⟨b, us, rfl, .inr (sqT_same ok.sub q), by rw [t.length]; exact po _ _ m G H k ok (.int _)⟩
theorem cd_lenS {z : Str} (h : z.length ≤ sizeLine) (k : P (.int z.length) m) : CallD M X KE (.builtin "len") [.str z] P m := .of call_len_str fun G H _ vs ok r po => by
  obtain ⟨v, rfl, a⟩ := reps1 r
  cases a.str_inv
  exact ⟨z, rfl, h, po _ _ m G H k ok (.int _)⟩
theorem cd_tupL {ls : List Da} (k : P (.tup ls) m) : CallD M X KE (.type "tuple") [.lst ls] P m := .of call_tuple_of fun G H _ vs ok r po => by
  obtain ⟨v, rfl, a⟩ := reps1 r
  obtain ⟨b, us, rfl, q, t⟩ := a.lst_inv
  refine ⟨b, us, rfl, .inl ⟨sq_l (ok.sub _ _ q), fun p hp => ?_⟩⟩
  have al := ok.alloc (o := .tup us) hp
  exact po _ _ m _ _ k al (.tup (sq_t upd_same) (t.mono al.le))
theorem cd_tupT {ls : List Da} (k : P (.tup ls) m) : CallD M X KE (.type "tuple") [.tup ls] P m := .of call_tuple_of fun G H _ vs ok r po => by
  obtain ⟨v, rfl, a⟩ := reps1 r
  obtain ⟨b, us, rfl, q, t⟩ := a.tup_inv
  exact ⟨b, us, rfl, .inr ⟨sqT_same ok.sub q, po _ _ m G H k ok (.tup q t)⟩⟩
theorem cd_lstL {ls : List Da} (k : P (.lst ls) m) : CallD M X KE (.type "list") [.lst ls] P m := .of call_list_of fun G H _ vs ok r po => by
  obtain ⟨v, rfl, a⟩ := reps1 r
  obtain ⟨b, us, rfl, q, t⟩ := a.lst_inv
  refine ⟨b, us, rfl, .inl (sq_l (ok.sub _ _ q)), fun p hp => ?_⟩
  have al := ok.alloc (o := .lst us) hp
  exact po _ _ m _ _ k al (.lst upd_same (t.mono al.le))
theorem cd_lstT {ls : List Da} (k : P (.lst ls) m) : CallD M X KE (.type "list") [.tup ls] P m := .of call_list_of fun G H _ vs ok r po => by
  obtain ⟨v, rfl, a⟩ := reps1 r
  obtain ⟨b, us, rfl, q, t⟩ := a.tup_inv
  refine ⟨b, us, rfl, .inr (sqT_same ok.sub q), fun p hp => ?_⟩
  have al := ok.alloc (o := .lst us) hp
  exact po _ _ m _ _ k al (.lst upd_same (t.mono al.le))
theorem reps_ints {K : PySem.W.Frag} {G : Hp} : ∀ {vs : List V} {ns : List Int}, Reps K G vs (ns.map Da.int) → vs = ns.map V.int
  | _, [], r => by cases r; rfl
  | _, n :: ns, r => by
    cases r with
    | cons a b => rw [a.int_inv, reps_ints b]; rfl
theorem reps_intsI {K : PySem.W.Frag} {G : Hp} : ∀ (ns : List Int), Reps K G (ns.map V.int) (ns.map Da.int)
  | [] => .nil
  | n :: ns => .cons (.int n) (reps_intsI ns)
theorem reps_bls {K : PySem.W.Frag} {G : Hp} : ∀ {vs : List V} {ns : List Bool}, Reps K G vs (ns.map Da.bl) → vs = ns.map V.bl
  | _, [], r => by cases r; rfl
  | _, n :: ns, r => by
    cases r with
    | cons a b => rw [a.bl_inv, reps_bls b]; rfl
theorem reps_strs {K : PySem.W.Frag} {G : Hp} : ∀ {vs : List V} {ns : List Str}, Reps K G vs (ns.map Da.str) → vs = ns.map V.str
  | _, [], r => by cases r; rfl
  | _, n :: ns, r => by
    cases r with
    | cons a b => rw [a.str_inv, reps_strs b]; rfl
theorem reps_strsI {K : PySem.W.Frag} {G : Hp} : ∀ (ns : List Str), Reps K G (ns.map V.str) (ns.map Da.str)
  | [] => .nil
  | n :: ns => .cons (.str n) (reps_strsI ns)
theorem cd_sum {ns : List Int} (k : P (.int ns.sum) m) (hc : X.calm = true := by with_unfolding_all rfl) : CallD M X KE (.builtin "sum") [.lst (ns.map Da.int)] P m := .of (cr_sum hc) fun G H _ vs ok r po => by
  obtain ⟨v, rfl, a⟩ := reps1 r
  obtain ⟨b, us, rfl, q, t⟩ := a.lst_inv
  exact ⟨b, ns, rfl, by rw [← reps_ints t]; exact sq_l (ok.sub _ _ q), po _ _ m G H k ok (.int _)⟩
theorem cd_any {bs : List Bool} (k : P (.bl (bs.any id)) m) (hc : X.calm = true := by with_unfolding_all rfl) : CallD M X KE (.builtin "any") [.lst (bs.map Da.bl)] P m := .of (cr_any hc) fun G H _ vs ok r po => by
  obtain ⟨v, rfl, a⟩ := reps1 r
  obtain ⟨b, us, rfl, q, t⟩ := a.lst_inv
  exact ⟨b, bs, rfl, by rw [← reps_bls t]; exact sq_l (ok.sub _ _ q), po _ _ m G H k ok (.bl _)⟩
theorem cd_all {bs : List Bool} (k : P (.bl (bs.all id)) m) (hc : X.calm = true := by with_unfolding_all rfl) : CallD M X KE (.builtin "all") [.lst (bs.map Da.bl)] P m := .of (cr_all hc) fun G H _ vs ok r po => by
  obtain ⟨v, rfl, a⟩ := reps1 r
  obtain ⟨b, us, rfl, q, t⟩ := a.lst_inv
  exact ⟨b, bs, rfl, by rw [← reps_bls t]; exact sq_l (ok.sub _ _ q), po _ _ m G H k ok (.bl _)⟩
theorem cd_maxL {ns : List Int} (h : 0 < ns.length) (k : ∀ z, z ∈ ns → (∀ y, y ∈ ns → y ≤ z) → P (.int z) m) (hc : X.calm = true := by with_unfolding_all rfl) : CallD M X KE (.builtin "max") [.lst (ns.map Da.int)] P m := .of (cr_max hc) fun G H _ vs ok r po => by
  obtain ⟨v, rfl, a⟩ := reps1 r
  obtain ⟨b, us, rfl, q, t⟩ := a.lst_inv
  exact ⟨b, ns, rfl, by rw [← reps_ints t]; exact sq_l (ok.sub _ _ q), h, fun z h1 h2 => po _ _ m G H (k z h1 h2) ok (.int _)⟩
theorem cd_minL {ns : List Int} (h : 0 < ns.length) (k : ∀ z, z ∈ ns → (∀ y, y ∈ ns → z ≤ y) → P (.int z) m) (hc : X.calm = true := by with_unfolding_all rfl) : CallD M X KE (.builtin "min") [.lst (ns.map Da.int)] P m := .of (cr_min hc) fun G H _ vs ok r po => by
  obtain ⟨v, rfl, a⟩ := reps1 r
  obtain ⟨b, us, rfl, q, t⟩ := a.lst_inv
  exact ⟨b, ns, rfl, by rw [← reps_ints t]; exact sq_l (ok.sub _ _ q), h, fun z h1 h2 => po _ _ m G H (k z h1 h2) ok (.int _)⟩
theorem cd_gcd {l : Int} (k : P (.int ((Nat.gcd i.natAbs l.natAbs : Nat) : Int)) m) : CallD M X KE (.builtin "math.gcd") [.int i, .int l] P m := .of cr_gcd fun G H _ vs ok r po => by
  obtain ⟨v, w, rfl, a, b⟩ := reps2 r
  cases a.int_inv; cases b.int_inv
  exact ⟨i, l, rfl, po _ _ m G H k ok (.int _)⟩
end
end OZ

/-! ### statements -/
namespace OZ
open PySem L2 PySem.Spec PyProof.Rows
structure Kn where
  nx : List Sl → Nat → Prop
  rt : Da → Nat → Prop
  bk : List Sl → Nat → Prop := fun _ _ => False
  ct : List Sl → Nat → Prop := fun _ _ => False
  rn : Da → Nat → Prop := fun _ _ => False
abbrev Ks := List Sl → Kx
structure WisS (M : Mode) (X : Cx) (KE : Ks) (G0 H0 : Hp) (W : WX) : Prop where
  tk : Takes X W
  ex : ∀ C fs d σ sl m' G' H', KE sl C fs m' → Ok M G0 H0 G' H' m' → SOk X.K M H0 G' H' σ sl → XRep X.K G' H' d fs → W (.ref C) d σ H'
theorem WisS.at {M : Mode} {X : Cx} {KE : Ks} {G0 H0 G H : Hp} {W : WX} {m : Nat} {σ : L2.St} {sl : List Sl} (w : WisS M X KE G0 H0 W) (ok : Ok M G0 H0 G H m) (so : SOk X.K M H0 G H σ sl) : Wis M X (KE sl) G H σ W :=
  ⟨w.tk, fun C fs d m' G' H' k o x => w.ex C fs d σ sl m' G' H' k (ok.trans o) (so.step o) x⟩
def NxS (M : Mode) (K : PySem.W.Frag) (G0 H0 : Hp) (P : List Sl → Nat → Prop) (Q : L2.St → Hp → Prop) : Prop := ∀ σ sl m G H, P sl m → Ok M G0 H0 G H m → SOk K M H0 G H σ sl → Q σ H
/-- an object that is the run's own, new since the entry -/
structure New (K : PySem.W.Frag) (M : Mode) (H0 G H : Hp) (ad : Addr) (d : Da) : Prop where
  g : G ad = none
  h0 : H0 ad = none ∨ M.X H0 ad
  nx : ¬ M.X H ad
  r : RepM K G H ad d
theorem fresh0 {M : Mode} {G0 H0 G H : Hp} {m : Nat} {ad : Addr} (ok : Ok M G0 H0 G H m) (h : H ad = none ∨ M.X H ad) : H0 ad = none ∨ M.X H0 ad := by
  cases e : H0 ad with
  | none => exact .inl rfl
  | some u =>
    by_cases x : M.X H0 ad
    · exact .inr x
    · obtain ⟨a, b⟩ := ok.keep ad u e x
      rcases h with h | h
      · rw [h] at a; cases a
      · exact absurd h b
theorem New.back {K : PySem.W.Frag} {M : Mode} {G0 H0 G H G' H' : Hp} {m : Nat} {ad : Addr} {d : Da} (n : New K M H G' H' ad d) (ok : Ok M G0 H0 G H m) : New K M H0 G' H' ad d := ⟨n.g, fresh0 ok n.h0, n.nx, n.r⟩
theorem upd_self' {H : Hp} {a : Addr} {o : HO} (h : H a = some o) : L2.upd H a o = H := by
  funext b
  by_cases q : b = a
  · subst q; rw [upd_same, h]
  · rw [upd_ne q]
def notDct : Da → Bool
  | .dct _ => false
  | _ => true
theorem repM_rep {K : PySem.W.Frag} {G H : Hp} {a : Addr} {u : HO} {d : Da} (hu : H a = some u) (ga : G a = none) (rm : RepM K G H a d) (nd : notDct d = true) : Rep K (L2.upd G a u) (.ref a) d := by
  have same : Same G (L2.upd G a u) := sameUp ga
  cases d with
  | lst ds => obtain ⟨vs, e, r⟩ := rm; rw [hu] at e; cases e; exact .lst upd_same (r.mono same)
  | dct ds => simp [notDct] at nd
  | obj C fs => obtain ⟨dx, vs, e, r⟩ := rm; rw [hu] at e; cases e; exact .obj upd_same (r.mono same)
  | _ => exact rm.elim
/-- what an own object becomes when it is known: a dict is locked -/
theorem RepM.pubI {K : PySem.W.Frag} {X : Cx} {pins : List (Addr × Obj)} {σ : L2.St} {s : Shared} {G H : Hp} {a : Addr} {d : Da} (rm : RepM K G H a d) (ga : G a = none) (I : Inv X pins σ H s) : ∃ u, Inv X pins σ (L2.upd H a u) s ∧ Rep K (L2.upd G a u) (.ref a) d := by
  have same : ∀ u, Same G (L2.upd G a u) := fun u => sameUp ga
  cases d with
  | lst ds => obtain ⟨vs, e, r⟩ := rm; exact ⟨_, (upd_self' e).symm ▸ I, .lst upd_same (r.mono (same _))⟩
  | dct ds =>
    obtain ⟨vs, e, r⟩ := rm
    obtain ⟨od, I2⟩ := I.lock e trivial
    exact ⟨_, I2, .dct upd_same (RepK.mono (same _) r)⟩
  | obj C fs => obtain ⟨dx, vs, e, r⟩ := rm; exact ⟨_, (upd_self' e).symm ▸ I, .obj upd_same (RepF.mono (same _) r)⟩
  | _ => exact rm.elim
theorem Ok.mpub {M : Mode} {G0 H0 G H : Hp} {m : Nat} {p : Addr} {o : HO} (a : Ok M G0 H0 G H m) (hg : G p = none) (nx : ¬ M.X H p) (h0 : H0 p = none ∨ M.X H0 p) : Ok M G0 H0 (L2.upd G p o) (L2.upd H p o) m :=
  (a.mut hg nx h0).pub upd_same hg (fun z => nx ((M.clo m H _ a.inv fun b u x e => by rw [upd_ne (fun q => nx (by rw [← q]; exact x))]; exact e).2 _ z)) h0
theorem New.pubI {X : Cx} {pins : List (Addr × Obj)} {σ : L2.St} {s : Shared} {K : PySem.W.Frag} {M : Mode} {G0 H0 G H : Hp} {m : Nat} {ad : Addr} {d : Da} (n : New K M H0 G H ad d) (ok : Ok M G0 H0 G H m) (I : Inv X pins σ H s) : ∃ G' H', Inv X pins σ H' s ∧ Ok M G0 H0 G' H' m ∧ Rep K G' (.ref ad) d := by
  obtain ⟨u, I2, r⟩ := n.r.pubI n.g I
  exact ⟨_, _, I2, ok.mpub n.g n.nx n.h0, r⟩
structure PostS (M : Mode) (K : PySem.W.Frag) (G0 H0 : Hp) (D : Kn) (E : Ends) : Prop where
  nx : NxS M K G0 H0 D.nx E.nx
  rt : ∀ v d m G H, D.rt d m → Ok M G0 H0 G H m → Rep K G v d → E.rt v H
  bk : NxS M K G0 H0 D.bk E.bk
  ct : NxS M K G0 H0 D.ct E.ct
  rn : ∀ ad d m G H, D.rn d m → Ok M G0 H0 G H m → New K M H0 G H ad d → E.rt (.ref ad) H
theorem PostS.at {M : Mode} {K : PySem.W.Frag} {G0 H0 G H : Hp} {D : Kn} {E : Ends} {m : Nat} (p : PostS M K G0 H0 D E) (ok : Ok M G0 H0 G H m) : Post M K G H D.rt E.rt := fun v d m' G' H' q o r => p.rt v d m' G' H' q (ok.trans o) r
def wpS (X : Cx) (st : Stmt) : TS := fun E σ H => ∀ pins s, Inv X pins σ H s → wpAny (model X.prog X.w) X.A (exec st X.env) (SP X pins E) X.xe s
def wpSs (X : Cx) (st : List Stmt) : TS := fun E σ H => ∀ pins s, Inv X pins σ H s → wpAny (model X.prog X.w) X.A (execs st X.env) (SP X pins E) X.xe s
theorem ps_wp {X : Cx} {e : Stmt} : PS X e (wpS X e) := ⟨fun pins s _ _ _ I h => h pins s I⟩
theorem pss_wp {X : Cx} {e : List Stmt} : PSs X e (wpSs X e) := ⟨fun pins s _ _ _ I h => h pins s I⟩
theorem wpS.of {X : Cx} {e : Stmt} {t : TS} {σ : L2.St} {H : Hp} {E : Ends} (p : PS X e t) (h : t E σ H) : wpS X e E σ H := fun pins s I => p.run pins s σ H E I h
theorem wpSs.of {X : Cx} {e : List Stmt} {t : TS} {σ : L2.St} {H : Hp} {E : Ends} (p : PSs X e t) (h : t E σ H) : wpSs X e E σ H := fun pins s I => p.run pins s σ H E I h
def St1 (M : Mode) (X : Cx) (KE : Ks) (st : Stmt) (sl : List Sl) (D : Kn) (m : Nat) : Prop :=
  ∀ (G0 H0 G H : Hp) (σ : L2.St) (W : WX) (E : Ends), Ok M G0 H0 G H m → SOk X.K M H0 G H σ sl → WisS M X KE G0 H0 W → PostS M X.K G0 H0 D E → wpS X st E σ H
def StD (M : Mode) (X : Cx) (KE : Ks) (sts : List Stmt) (sl : List Sl) (D : Kn) (m : Nat) : Prop :=
  ∀ (G0 H0 G H : Hp) (σ : L2.St) (W : WX) (E : Ends), Ok M G0 H0 G H m → SOk X.K M H0 G H σ sl → WisS M X KE G0 H0 W → PostS M X.K G0 H0 D E → wpSs X sts E σ H
section
variable {M : Mode} {X : Cx} {KE : Ks} {a b c e : Expr} {es : List Expr} {sl : List Sl} {D : Kn} {m : Nat} {pos p : Pos} {x : Str} {st : Stmt} {rest sa sb : List Stmt} {N : List Str} {sc : Scope} {B : Bd}
theorem std_nil (h : D.nx sl m) : StD M X KE [] sl D m := fun G0 H0 G H σ W E ok so _ po => wpSs.of pss_nil (po.nx σ sl m G H h ok so)
theorem std_cons (h : St1 M X KE st sl { D with nx := fun sl' m' => StD M X KE rest sl' D m' } m) : StD M X KE (st :: rest) sl D m := fun G0 H0 G H σ W E ok so wi po =>
  wpSs.of (pss_cons ps_wp pss_wp) (h G0 H0 G H σ W { E with nx := wpSs X rest E } ok so wi
    ⟨fun σ' sl' m' G' H' q ok' so' => q G0 H0 G' H' σ' W E ok' so' wi po, po.rt, po.bk, po.ct, po.rn⟩)
/-- a cut: what stands between -/
theorem std_cut (Mid : List Sl → Nat → Prop) (h : St1 M X KE st sl { D with nx := Mid } m) (k : ∀ sl' m', Mid sl' m' → StD M X KE rest sl' D m') : StD M X KE (st :: rest) sl D m := fun G0 H0 G H σ W E ok so wi po =>
  wpSs.of (pss_cons ps_wp pss_wp) (h G0 H0 G H σ W { E with nx := wpSs X rest E } ok so wi
    ⟨fun σ' sl' m' G' H' q ok' so' => k sl' m' q G0 H0 G' H' σ' W E ok' so' wi po, po.rt, po.bk, po.ct, po.rn⟩)
theorem st1_set (cx : Ctx X N sc B) (h : EvD M X (KE sl) e sl (fun d m1 => ∃ i sl', EnvSet N sl x i (.v d) sl' ∧ D.nx sl' m1) m) (hx : Loc sc x := by with_unfolding_all first | exact Or.inl rfl | exact Or.inr rfl)
    (hs : swapsWith e (some (.Name x p)) pos.line X.env = pure false := by with_unfolding_all rfl) (hf : X.fn x = true ∨ X.env.scope.names.lookup x = some .local := by with_unfolding_all first | exact Or.inl rfl | exact Or.inr rfl) : St1 M X KE (.Assign [.Name x p] e pos) sl D m := by
  intro G0 H0 G H σ W E ok so wi po pins s I
  refine wpAny_Assign_Name (h.run ok so (wi.at ok so) I fun u s1 v d m1 G1 H1 p1 k1 o1 so1 wi1 r1 I1 rv1 => ?_) hs
  obtain ⟨i, sl', es, q⟩ := p1
  have hi : X.N[i]? = some x := by rw [cx.n]; exact es.name
  refine store_ok I1 cx.nd hi (cx.loc hx) rv1 (fun s2 I2 => ⟨_, H1, I2, ?_⟩) hf
  refine po.nx _ sl' m1 G1 H1 q k1 ?_
  rw [es.set]
  exact so1.setV i r1
theorem st1_ret (h : EvD M X (KE sl) e sl D.rt m) : St1 M X KE (.Return (some e) pos) sl D m := fun G0 H0 G H σ W E ok so wi po =>
  wpS.of (ps_ret pe_wp) (h G0 H0 G H σ W E.rt ok so (wi.at ok so) (po.at ok))
theorem st1_retN (h : D.rt .non m) : St1 M X KE (.Return none pos) sl D m := fun G0 H0 G H σ W E ok so wi po =>
  wpS.of ps_retN (po.rt _ _ m G H h ok .non)
theorem st1_if (h : EvT M X (KE sl) c sl (fun k m1 => if k = true then StD M X KE sa sl D m1 else StD M X KE sb sl D m1) m) : St1 M X KE (.If c sa sb pos) sl D m := fun G0 H0 G H σ W E ok so wi po =>
  wpS.of (ps_if pt_wp pss_wp pss_wp) (h G0 H0 G H σ W _ ok so (wi.at ok so) fun k m' G' H' q o => by
    cases k with
    | true => exact q G0 H0 G' H' σ W E (ok.trans o) (so.step o) wi po
    | false => exact q G0 H0 G' H' σ W E (ok.trans o) (so.step o) wi po)
theorem st1_expr (h : EvD M X (KE sl) e sl (fun _ m1 => D.nx sl m1) m) (hs : swapsWith e none pos.line X.env = pure false := by with_unfolding_all rfl) : St1 M X KE (.Expr e pos) sl D m := fun G0 H0 G H σ W E ok so wi po =>
  wpS.of (ps_expr pe_wp hs) (h G0 H0 G H σ W _ ok so (wi.at ok so) fun v d m' G' H' q o r => po.nx σ sl m' G' H' q (ok.trans o) (so.step o))
/-- return of an object of the run's own -/
theorem st1_retM {i : Nat} {d : Da} (cx : Ctx X N sc B) (hx : EnvAt N sl x i (.m d)) (h : D.rn d m) (hv : Vis sc x := by with_unfolding_all first | exact Or.inl rfl | exact Or.inr (Or.inl rfl) | exact Or.inr (Or.inr rfl)) (hd : (x == ("__debug__" : Str)) = false := by with_unfolding_all decide) (hcd : (x == ("__classdict__" : Str)) = false := by with_unfolding_all decide) : St1 M X KE (.Return (some (.Name x p)) pos) sl D m := by
  intro G0 H0 G H σ W E ok so wi po
  obtain ⟨o, e1, ad, rfl, zz, g, h0, n, r⟩ := paired_get so.rel hx.slot
  exact wpS.of (ps_ret (pe_var (by rw [cx.n]; exact hx.name) (cx.vis hv) hd hcd)) ⟨_, e1, po.rn ad d m G H h ok ⟨g, h0, n, r⟩⟩
theorem st1_pass (h : D.nx sl m) : St1 M X KE (.Pass pos) sl D m := fun G0 H0 G H σ W E ok so wi po => wpS.of ps_pass (po.nx σ sl m G H h ok so)
theorem st1_break (h : D.bk sl m) : St1 M X KE (.Break pos) sl D m := fun G0 H0 G H σ W E ok so wi po => wpS.of ps_break (po.bk σ sl m G H h ok so)
theorem st1_cont (h : D.ct sl m) : St1 M X KE (.Continue pos) sl D m := fun G0 H0 G H σ W E ok so wi po => wpS.of ps_continue (po.ct σ sl m G H h ok so)
theorem std_imp {D' : Kn} (h : StD M X KE rest sl D m) (h1 : ∀ s n, D.nx s n → D'.nx s n) (h2 : ∀ s n, D.rt s n → D'.rt s n) (h3 : ∀ s n, D.bk s n → D'.bk s n) (h4 : ∀ s n, D.ct s n → D'.ct s n) (h5 : ∀ s n, D.rn s n → D'.rn s n) : StD M X KE rest sl D' m := fun G0 H0 G H σ W E ok so wi po =>
  h G0 H0 G H σ W E ok so wi ⟨fun σ' sl' m' G' H' q => po.nx σ' sl' m' G' H' (h1 _ _ q), fun v d m' G' H' q => po.rt v d m' G' H' (h2 _ _ q), fun σ' sl' m' G' H' q => po.bk σ' sl' m' G' H' (h3 _ _ q), fun σ' sl' m' G' H' q => po.ct σ' sl' m' G' H' (h4 _ _ q), fun a d m' G' H' q => po.rn a d m' G' H' (h5 _ _ q)⟩
/-- an object of the run's own is known from now on -/
theorem sok_pub' {K : PySem.W.Frag} {M : Mode} {H0 G H : Hp} {σ : L2.St} {sl : List Sl} {i : Nat} {q : Option Addr} {d : Da} (so : SOk K M H0 G H σ sl) (hi : sl[i]? = some (.mm q d)) :
    ∃ a, σ[i]? = some (some (.ref a)) ∧ G a = none ∧ ¬ M.X H a ∧ (H0 a = none ∨ M.X H0 a) ∧ RepM K G H a d ∧
      ∀ u, Rep K (L2.upd G a u) (.ref a) d → (∀ b, M.X (L2.upd H a u) b → M.X H b) → SOk K M H0 (L2.upd G a u) (L2.upd H a u) σ (sl.set i (.v d)) := by
  obtain ⟨o, e1, r⟩ := paired_get so.rel hi
  obtain ⟨a, rfl, zz, ga, h0, nx, rm⟩ := r
  refine ⟨a, e1, ga, nx, h0, rm, fun u rep xk => ?_⟩
  have same : Same G (L2.upd G a u) := sameUp ga
  have hσ : σ.set i (some (.ref a)) = σ := by
    apply List.ext_getElem?
    intro j
    by_cases q : i = j
    · subst q
      have : i < σ.length := (List.getElem?_eq_some_iff.mp e1).1
      rw [List.getElem?_set_self this, e1]
    · rw [List.getElem?_set_ne q]
  have base : SOk K M H0 (L2.upd G a u) (L2.upd H a u) σ (sl.set i .un) := by
    have dr := so.drop i
    refine ⟨?_, dr.dis⟩
    have key : ∀ (j : Nat) s, (sl.set i .un)[j]? = some s → ∀ o, σ[j]? = some o → RelSl K M H0 G H o s → RelSl K M H0 (L2.upd G a u) (L2.upd H a u) o s := by
      intro j s hj o ho r
      cases s with
      | un => trivial
      | v d' => obtain ⟨v, e, r⟩ := r; exact ⟨v, e, r.mono same⟩
      | mm q' d' =>
        obtain ⟨a', e, z', g', h0', n', r'⟩ := r
        have nij : i ≠ j := fun q => by
          subst q
          have l : i < sl.length := (List.getElem?_eq_some_iff.mp hi).1
          rw [List.getElem?_set_self l] at hj; cases hj
        have ne : a' ≠ a := fun q => by
          subst q
          rw [List.getElem?_set_ne nij] at hj
          rw [e] at ho
          exact nij (so.dis i j a' ⟨q, d, hi⟩ ⟨q', d', hj⟩ e1 ho)
        exact ⟨a', e, z', by rw [upd_ne ne]; exact g', h0', fun z => n' (xk _ z), r'.step same (upd_ne ne)⟩
    have go : ∀ (σ : L2.St) (sl : List Sl), Paired (RelSl K M H0 G H) σ sl → (∀ (j : Nat) s, sl[j]? = some s → ∀ o, σ[j]? = some o → RelSl K M H0 G H o s → RelSl K M H0 (L2.upd G a u) (L2.upd H a u) o s) → Paired (RelSl K M H0 (L2.upd G a u) (L2.upd H a u)) σ sl := by
      intro σ sl r
      induction r with
      | nil => intro _; exact .nil
      | cons x y ih => intro f; exact .cons (f 0 _ rfl _ rfl x) (ih fun j s hs o ho => f (j + 1) s (by simpa using hs) o (by simpa using ho))
    exact go _ _ dr.rel key
  have := base.setV i rep
  rw [hσ, List.set_set] at this
  exact this
theorem Ok.xk {M : Mode} {G0 H0 G H : Hp} {m : Nat} {a : Addr} {o : HO} (ok : Ok M G0 H0 G H m) (n : ¬ M.X H a) : ∀ b, M.X (L2.upd H a o) b → M.X H b := (M.clo m H _ ok.inv fun b u x e => by rw [upd_ne (fun q => n (by rw [← q]; exact x))]; exact e).2
theorem std_pub {i : Nat} {q : Option Addr} {d : Da} (hi : sl[i]? = some (.mm q d)) (h : StD M X KE rest (sl.set i (.v d)) D m) : StD M X KE rest sl D m := by
  intro G0 H0 G H σ W E ok so wi po pins s I
  obtain ⟨a, e1, ga, nx, h0, rm, f⟩ := sok_pub' so hi
  obtain ⟨u, I2, rep⟩ := rm.pubI ga I
  exact h G0 H0 _ _ σ W E (ok.mpub ga nx h0) (f u rep (ok.xk nx)) wi po pins s I2
/-- forget a slot -/
theorem std_drop (i : Nat) (h : StD M X KE rest (sl.set i .un) D m) : StD M X KE rest sl D m := fun G0 H0 G H σ W E ok so wi po => h G0 H0 G H σ W E ok (so.drop i) wi po
end
/-! ### a def of the text -/
def startD (N : List Str) (ds : List Da) : List Sl := ds.map Sl.v ++ List.replicate (N.length - ds.length) .un
theorem sok_start {K : PySem.W.Frag} {M : Mode} {G H : Hp} {N : List Str} {vs : List V} {ds : List Da} (r : Reps K G vs ds) : SOk K M H G H (L2.start N vs) (startD N ds) := by
  have e : ∀ n : Nat, Paired (RelSl K M H G H) (List.replicate n none) (List.replicate n .un) := fun n => by
    induction n with
    | zero => exact .nil
    | succ n ih => rw [List.replicate_succ, List.replicate_succ]; exact .cons trivial ih
  have f : ∀ {vs : List V} {ds : List Da} {xs : L2.St} {ys : List Sl}, Reps K G vs ds → Paired (RelSl K M H G H) xs ys → Paired (RelSl K M H G H) (vs.map some ++ xs) (ds.map Sl.v ++ ys) := by
    intro vs ds xs ys r q
    induction vs generalizing ds with
    | nil => cases r; exact q
    | cons v vs ih => cases r with | cons a b => exact .cons ⟨v, rfl, a⟩ (ih b)
  refine ⟨by unfold L2.start startD; rw [← r.length]; exact f r (e _), fun i j a ⟨q, d, hd⟩ => ?_⟩
  have hm : Sl.mm q d ∈ startD N ds := List.mem_of_getElem? hd
  unfold startD at hm
  rcases List.mem_append.mp hm with h | h
  · obtain ⟨_, _, h⟩ := List.mem_map.mp h; cases h
  · cases (List.mem_replicate.mp h).2
section
variable {B : Bd} {M : Mode} {x qual : Str} {st : Stmt} {f : Addr} {fd : FuncData} {N ps : List Str} {k n : Nat} {F : FD}
theorem fnG_ok (Fn : Fun B.K x qual st f fd) (S : FnScope N ps (defScope st)) (hn : n = ps.length) (hb : Binds B.K fd ps [])
    (h : ∀ (X : Cx) (ds : List Da) (KR : Da → Nat → Prop) (KE : Kx) (m : Nat), (∃ cdv A outer s H E, X = (cxOf CX0 B.P B.w B.K B.mg B.base N qual (defScope st) f cdv A outer s H E).nox) → Ctx X N (defScope st) B → Room k X.A → ds.length = n → F ds KR KE m →
      StD M X (fun _ => K0) (defBody st) (startD N ds) { nx := fun _ m' => KR .non m', rt := KR } m) : FnG M B (k + 1) f n F := by
  refine ⟨CX0, fd, ps, Fn.ok S (fun vs H Q E q => q.1.trans hn) (fun cdv A outer s H vs Q E hr q => ?_), hb, .inl rfl, hn⟩
  obtain ⟨hl, G, m, ds, KR, KE, ok, r, hF, po, _⟩ := q
  refine ⟨_, pss_wp, ?_⟩
  refine h (cxOf CX0 B.P B.w B.K B.mg B.base N qual (defScope st) f cdv A outer s H E).nox ds KR KE m ⟨cdv, A, outer, s, H, E, rfl⟩ ⟨rfl, rfl, S.nd, rfl⟩ hr (r.length.symm.trans hl) hF G H G H (L2.start N vs) (fun _ _ _ _ => False) _ ok (sok_start r) ⟨takes0, fun _ _ _ _ _ _ _ _ z => z.elim⟩ ⟨?_, ?_, ?_, ?_, ?_⟩
  · exact fun σ sl m' G' H' q o _ => po .non .non m' G' H' q o .non
  · exact fun v d m' G' H' q o rr => po v d m' G' H' q o rr
  · exact fun _ _ _ _ _ z => z.elim
  · exact fun _ _ _ _ _ z => z.elim
  · exact fun _ _ _ _ _ z => z.elim
/-- one that may raise -/
theorem fnG_okX (Fn : Fun B.K x qual st f fd) (S : FnScope N ps (defScope st)) (hn : n = ps.length) (hb : Binds B.K fd ps [])
    (h : ∀ (X : Cx) (ds : List Da) (KR : Da → Nat → Prop) (KE : Kx) (m : Nat), (∃ cdv A outer s H E, X = cxOf (L2.CX B.P B.w) B.P B.w B.K B.mg B.base N qual (defScope st) f cdv A outer s H E) → Ctx X N (defScope st) B → Room k X.A → ds.length = n → F ds KR KE m →
      StD M X (fun _ => KE) (defBody st) (startD N ds) { nx := fun _ m' => KR .non m', rt := KR } m) : FnG M B (k + 1) f n F := by
  refine ⟨L2.CX B.P B.w, fd, ps, Fn.okX S (fun vs H Q E q => q.1.trans hn) (fun cdv A outer s H vs Q E hr q => ?_), hb, .inr rfl, hn⟩
  obtain ⟨hl, G, m, ds, KR, KE, ok, r, hF, po, px⟩ := q
  refine ⟨_, pss_wp, ?_⟩
  refine h (cxOf (L2.CX B.P B.w) B.P B.w B.K B.mg B.base N qual (defScope st) f cdv A outer s H E) ds KR KE m ⟨cdv, A, outer, s, H, E, rfl⟩ ⟨rfl, rfl, S.nd, rfl⟩ hr (r.length.symm.trans hl) hF G H G H (L2.start N vs) (fun cls d _ H => E cls d H) _ ok (sok_start r) ⟨takes_of rfl rfl rfl rfl, fun C fs d σ sl m' G' H' q o _ x => px C fs d m' G' H' q o x⟩ ⟨?_, ?_, ?_, ?_, ?_⟩
  · exact fun σ sl m' G' H' q o _ => po .non .non m' G' H' q o .non
  · exact fun v d m' G' H' q o rr => po v d m' G' H' q o rr
  · exact fun _ _ _ _ _ z => z.elim
  · exact fun _ _ _ _ _ z => z.elim
  · exact fun _ _ _ _ _ z => z.elim
end
end OZ

/-! ### truth, ifs, chains, slices -/
namespace OZ
open PySem L2 PySem.Spec PyProof.Rows
def Tru (P : Bool → Nat → Prop) : Da → Nat → Prop
  | .non, m => P false m
  | .bl b, m => P b m
  | .int i, m => P (decide (i ≠ 0)) m
  | .str y, m => y.length ≤ sizeLine ∧ P (decide (y.length ≠ 0)) m
  | .lst ds, m => P (!ds.isEmpty) m
  | .tup ds, m => P (!ds.isEmpty) m
  | _, _ => False
section
variable {M : Mode} {X : Cx} {KE : Kx} {a b c e : Expr} {es : List Expr} {sl : List Sl} {P : Da → Nat → Prop} {PT' : Bool → Nat → Prop} {m : Nat} {pos : Pos}
theorem tru_da {z : Da} (h : Tru PT' z m) : ∃ k, DaTru z k ∧ PT' k m := by
  cases z with
  | str y => exact ⟨_, ⟨h.1, rfl⟩, h.2⟩
  | ty _ => exact h.elim
  | ref _ => exact h.elim
  | dct _ => exact h.elim
  | obj _ _ => exact h.elim
  | exc _ _ _ => exact h.elim
  | _ => exact ⟨_, rfl, h⟩
theorem evt_tru (h : EvD M X KE e sl (Tru PT') m) (he : ∀ whole, isTrue e X.env whole = (do let v ← whole; standAt e.pos; holding [v] (truthy v)) := by with_unfolding_all (intro _; rfl)) : EvT M X KE e sl PT' m := evt_truth (evd_imp h fun _ _ q => tru_da q) he
theorem evd_notV (h : EvD M X KE a sl (Tru fun k m1 => P (.bl (!k)) m1) m) : EvD M X KE (.UnaryOp .Not a pos) sl P m := evd_notT (evd_imp h fun _ _ q => tru_da q)
/-- ints in a chain -/
theorem evt_chain {op op' : CmpOp} {g g' : Int → Int → Bool} (ho : OpR X (compareOp op) (rI0 fun i j => .bl (g i j))) (ho' : OpR X (compareOp op') (rI0 fun i j => .bl (g' i j)))
    (h : EvD M X KE a sl (fun x m1 => ∃ i, x = .int i ∧ EvD M X KE b sl (fun y m2 => ∃ j, y = .int j ∧ if g i j = true then EvD M X KE c sl (fun z m3 => ∃ l, z = .int l ∧ PT' (g' j l) m3) m2 else PT' false m2) m1) m)
    (hm : lastMarks [op, op'] [b, c] = false := by with_unfolding_all rfl) : EvT M X KE (.Compare a [op, op'] [b, c] pos) sl PT' m := fun G0 H0 G H σ W Q ok so wi po =>
  wpT.of (pt_chain ho ho' pe_wp pe_wp pe_wp hm) (h G0 H0 G H σ W _ ok so wi fun v d m1 G1 H1 p1 o1 r1 => by
    obtain ⟨i, rfl, p1⟩ := p1
    refine p1 G0 H0 G1 H1 σ W _ (ok.trans o1) (so.step o1) (wi.step o1) fun v2 d2 m2 G2 H2 p2 o2 r2 => ?_
    obtain ⟨j, rfl, p2⟩ := p2
    refine ⟨i, j, r1.int_inv, r2.int_inv, g i j, rfl, ?_⟩
    by_cases k : g i j = true
    · rw [if_pos k] at p2 ⊢
      refine p2 G0 H0 G2 H2 σ W _ ((ok.trans o1).trans o2) ((so.step o1).step o2) ((wi.step o1).step o2) fun v3 d3 m3 G3 H3 p3 o3 r3 => ?_
      obtain ⟨l, rfl, p3⟩ := p3
      exact ⟨j, l, r2.int_inv, r3.int_inv, _, rfl, po _ m3 G3 H3 p3 ((o1.trans o2).trans o3)⟩
    · rw [if_neg k] at p2 ⊢
      exact ⟨false, rfl, po _ m2 G2 H2 p2 (o1.trans o2)⟩)
end
section
variable {M : Mode} {X : Cx} {KE : Kx} {P : Da → Nat → Prop} {m : Nat} {i : Int} {ds : List Da}
theorem atI_pos {α : Type} {xs : List α} {i : Int} {v : α} (h0 : 0 ≤ i) (h : xs[i.toNat]? = some v) : atI xs i = some v := by
  have := atI_nat h
  rwa [Int.toNat_of_nonneg h0] at this
/-- an item at an open place -/
theorem ixd_lstA (h0 : 0 ≤ i) (h1 : i < (ds.length : Int)) (k : ∀ d, ds[i.toNat]? = some d → P d m) : IxD M X KE (.lst ds) (.int i) P m := by
  have h : i.toNat < ds.length := by omega
  exact ixd_lst (atI_pos h0 (List.getElem?_eq_getElem h)) (k _ (List.getElem?_eq_getElem h))
theorem ixd_tupA (h0 : 0 ≤ i) (h1 : i < (ds.length : Int)) (k : ∀ d, ds[i.toNat]? = some d → P d m) : IxD M X KE (.tup ds) (.int i) P m := by
  have h : i.toNat < ds.length := by omega
  exact ixd_tup (atI_pos h0 (List.getElem?_eq_getElem h)) (k _ (List.getElem?_eq_getElem h))
theorem ixd_lstM {Pr : Da → Prop} (h0 : 0 ≤ i) (h1 : i < (ds.length : Int)) (hp : ∀ d ∈ ds, Pr d) (k : ∀ d, Pr d → P d m) : IxD M X KE (.lst ds) (.int i) P m :=
  ixd_lstA h0 h1 fun d e => k d (hp d (List.mem_of_getElem? e))
end
theorem zif {p A B : Prop} [Decidable p] (h1 : p → A) (h2 : ¬p → B) : if decide p = true then A else B := by
  by_cases h : p
  · rw [decide_eq_true h]; exact h1 h
  · rw [decide_eq_false h]; exact h2 h
theorem zifn {p A B : Prop} [Decidable p] (h1 : ¬p → A) (h2 : p → B) : if (!decide p) = true then A else B := by
  by_cases h : p
  · rw [decide_eq_true h]; exact h2 h
  · rw [decide_eq_false h]; exact h1 h
theorem zifT {p A B : Prop} [Decidable p] (h : p) (h1 : A) : if decide p = true then A else B := by rw [decide_eq_true h]; exact h1
theorem zifF {p A B : Prop} [Decidable p] (h : ¬p) (h1 : B) : if decide p = true then A else B := by rw [decide_eq_false h]; exact h1
theorem zifnT {p A B : Prop} [Decidable p] (h : p) (h1 : B) : if (!decide p) = true then A else B := by rw [decide_eq_true h]; exact h1
theorem zifnF {p A B : Prop} [Decidable p] (h : ¬p) (h1 : A) : if (!decide p) = true then A else B := by rw [decide_eq_false h]; exact h1
theorem zifb {b : Bool} {A B : Prop} (h1 : b = true → A) (h2 : b = false → B) : if b = true then A else B := by cases b; exact h2 rfl; exact h1 rfl
theorem zife {b b' : Bool} {A B : Prop} (e : b = b') (h : if b' = true then A else B) : if b = true then A else B := by rw [e]; exact h
theorem zt {A B : Prop} (h : A) : if true = true then A else B := h
theorem zf {A B : Prop} (h : B) : if false = true then A else B := h
theorem zntt {A B : Prop} (h : B) : if (!true) = true then A else B := h
theorem znff {A B : Prop} (h : A) : if (!false) = true then A else B := h
/-- a product whose one factor is small; a divisor; a power -/
theorem cmul_l {i j : Int} (h0 : -18446744073709551616 < i) (h1 : i < 18446744073709551616) : CMul i j := .inl ⟨h0, h1⟩
theorem cmul_r {i j : Int} (h0 : -18446744073709551616 < j) (h1 : j < 18446744073709551616) : CMul i j := .inr ⟨h0, h1⟩
theorem cdiv_s {i j : Int} (h0 : 0 < j) (h1 : j < 18446744073709551616) : CDivW i j := wide_div (b := 64) h0 (by omega) (by decide) (by decide)
theorem cpow_s {i j : Int} (h0 : 0 ≤ j) (h1 : j ≤ 1000000) (h2 : -18446744073709551616 < i) (h3 : i < 18446744073709551616) : CPow i j := ⟨h0, h1, by omega⟩
/-- the built-in names -/
structure Bn (B : Bd) : Prop where
  len : B.mg "len" = none
  int : B.mg "int" = none
  abs : B.mg "abs" = none
  max : B.mg "max" = none
  min : B.mg "min" = none
  sum : B.mg "sum" = none
  any : B.mg "any" = none
  all : B.mg "all" = none
  tuple : B.mg "tuple" = none
  list : B.mg "list" = none
  dict : B.mg "dict" = none
  set : B.mg "set" = none
  str : B.mg "str" = none
  bool : B.mg "bool" = none
  range : B.mg "range" = none
  enumerate : B.mg "enumerate" = none
  zip : B.mg "zip" = none
  sorted : B.mg "sorted" = none
  isinstance : B.mg "isinstance" = none
  divmod : B.mg "divmod" = none
end OZ

/-! ### targets, walks, loops, comprehensions -/
namespace OZ
open PySem L2 PySem.Spec PyProof.Rows
/-- what a store to a target makes of the slots; the slots that it touches -/
inductive Tg (X : Cx) (N : List Str) (sc : Scope) : Expr → Da → List Sl → List Sl → List Nat → Prop
  | name {x : Str} {p : Pos} {d : Da} {sl sl' : List Sl} {i : Nat} : EnvSet N sl x i (.v d) sl' → Loc sc x → (X.fn x = true ∨ X.env.scope.names.lookup x = some .local) → Tg X N sc (.Name x p) d sl sl' [i]
  | two {e f : Expr} {k : Nat} {p : Pos} {d1 d2 : Da} {sl sl1 sl2 : List Sl} {i1 i2 : List Nat} : Tg X N sc e d1 sl sl1 i1 → Tg X N sc f d2 sl1 sl2 i2 → Tg X N sc (.Tuple [e, f] k p) (.tup [d1, d2]) sl sl2 (i1 ++ i2)
  | three {e f g : Expr} {k : Nat} {p : Pos} {d1 d2 d3 : Da} {sl sl1 sl2 sl3 : List Sl} {i1 i2 i3 : List Nat} : Tg X N sc e d1 sl sl1 i1 → Tg X N sc f d2 sl1 sl2 i2 → Tg X N sc g d3 sl2 sl3 i3 → Tg X N sc (.Tuple [e, f, g] k p) (.tup [d1, d2, d3]) sl sl3 (i1 ++ (i2 ++ i3))
theorem Tg.plain {X : Cx} {N : List Str} {sc : Scope} {tg : Expr} {d : Da} {sl sl' : List Sl} {is : List Nat} (h : Tg X N sc tg d sl sl' is) (es : List Expr) (env : Env) : assignEach (tg :: es) env = (false, assign tg env) :: assignEach es env := by cases h <;> rfl
theorem wipe_set {vs : List Nat} {i : Nat} {o : Option V} (h : i ∈ vs) (σ : L2.St) : wipe (σ.set i o) vs = wipe σ vs := by
  induction vs with
  | nil => cases h
  | cons v vs ih =>
    unfold wipe
    by_cases q : v = i
    · subst q
      by_cases r : v ∈ vs
      · rw [ih r]
      · have : ∀ (σ : L2.St) (ws : List Nat), v ∉ ws → wipe (σ.set v o) ws = (wipe σ ws).set v o := by
          intro σ ws
          induction ws with
          | nil => intro _; rfl
          | cons w ws ih2 =>
            intro hn
            unfold wipe
            rw [ih2 (fun z => hn (List.mem_cons_of_mem _ z)), List.set_comm _ _ (fun z => hn (by rw [z]; exact List.mem_cons_self ..))]
        rw [this σ vs r, List.set_set]
    · rw [ih (by cases h with | head => exact absurd rfl q | tail _ h => exact h)]
section
variable {M : Mode} {X : Cx} {N : List Str} {sc : Scope} {B : Bd}
/-- a store: the reading by the data -/
def gTg (X : Cx) (tg : Expr) : TG := fun v σ H Q => ∀ pins s u, Inv X pins σ H s → RelV v u → wpAny (model X.prog X.w) X.A (assign tg X.env u) (fun _ s' => ∃ σ' H', Inv X pins σ' H' s' ∧ Q σ' H') X.xe s
theorem pg_wp {tg : Expr} : PG X tg (gTg X tg) := ⟨fun pins s _ _ _ _ _ I r h => h pins s _ I r⟩
theorem gTg.of {tg : Expr} {g : TG} {v : V} {σ : L2.St} {H : Hp} {Q : L2.St → Hp → Prop} (p : PG X tg g) (h : g v σ H Q) : gTg X tg v σ H Q := fun pins s u I r => p.run pins s σ H v u Q I r h
theorem Tg.run (cx : Ctx X N sc B) (hc : X.calm = true) : ∀ {tg : Expr} {d : Da} {sl sl' : List Sl} {is : List Nat}, Tg X N sc tg d sl sl' is → ∀ {G0 H0 G H : Hp} {m : Nat} {σ : L2.St} {v : V} {Q : L2.St → Hp → Prop}, Ok M G0 H0 G H m → SOk X.K M H0 G H σ sl → Rep X.K G v d →
    (∀ σ', SOk X.K M H0 G H σ' sl' → (∀ vs, (∀ i ∈ is, i ∈ vs) → wipe σ' vs = wipe σ vs) → Q σ' H) → gTg X tg v σ H Q
  | _, _, _, _, _, .name es hx hf, _, _, _, _, _, σ, v, Q, ok, so, r, k => by
    refine gTg.of (pg_name cx.nd (by rw [cx.n]; exact es.name) (cx.loc hx) hf) (k _ ?_ fun vs h => wipe_set (h _ (List.mem_singleton.mpr rfl)) σ)
    rw [es.set]
    exact so.setV _ r
  | _, _, _, _, _, .two t1 t2, _, _, _, _, _, σ, v, Q, ok, so, r, k => by
    obtain ⟨a, us, rfl, q, t⟩ := r.tup_inv
    obtain ⟨v1, v2, rfl, r1, r2⟩ := reps2 t
    refine gTg.of (pg_tup hc (pgs_cons pg_wp (pgs_cons pg_wp pgs_nil (by rw [t2.plain]; rfl)) (by rw [t1.plain]; rfl)) (n := 2) (by rw [t1.plain, t2.plain]; rfl) (by rw [t1.plain, t2.plain]; rfl)) ⟨a, _, rfl, sqT_same ok.sub q, rfl, v1, [v2], rfl, ?_⟩
    refine t1.run cx hc ok so r1 fun σ1 so1 w1 => ⟨v2, [], rfl, ?_⟩
    exact t2.run cx hc ok so1 r2 fun σ2 so2 w2 => ⟨rfl, k σ2 so2 fun vs h => (w2 vs fun i hi => h i (List.mem_append_right _ hi)).trans (w1 vs fun i hi => h i (List.mem_append_left _ hi))⟩
  | _, _, _, _, _, .three t1 t2 t3, _, _, _, _, _, σ, v, Q, ok, so, r, k => by
    obtain ⟨a, us, rfl, q, t⟩ := r.tup_inv
    cases t with
    | cons r1 t =>
      obtain ⟨v2, v3, rfl, r2, r3⟩ := reps2 t
      refine gTg.of (pg_tup hc (pgs_cons pg_wp (pgs_cons pg_wp (pgs_cons pg_wp pgs_nil (by rw [t3.plain]; rfl)) (by rw [t2.plain]; rfl)) (by rw [t1.plain]; rfl)) (n := 3) (by rw [t1.plain, t2.plain, t3.plain]; rfl) (by rw [t1.plain, t2.plain, t3.plain]; rfl)) ⟨a, _, rfl, sqT_same ok.sub q, rfl, _, [v2, v3], rfl, ?_⟩
      refine t1.run cx hc ok so r1 fun σ1 so1 w1 => ⟨v2, [v3], rfl, ?_⟩
      refine t2.run cx hc ok so1 r2 fun σ2 so2 w2 => ⟨v3, [], rfl, ?_⟩
      exact t3.run cx hc ok so2 r3 fun σ3 so3 w3 => ⟨rfl, k σ3 so3 fun vs h => ((w3 vs fun i hi => h i (List.mem_append_right _ (List.mem_append_right _ hi))).trans (w2 vs fun i hi => h i (List.mem_append_right _ (List.mem_append_left _ hi)))).trans (w1 vs fun i hi => h i (List.mem_append_left _ hi))⟩
end
/-- what a for walks, as data -/
def WalkD (M : Mode) (K : PySem.W.Frag) (J : It) (ds : List Da) (G1 : Hp) : Prop := ∃ (Gd : Hp → Prop) (Y : Nat → Hp → V → Hp → Prop), Walk J ds.length Gd Y ∧ (∀ G H m, Same G1 G → Ok M G H G H m → Gd H) ∧
  ∀ i H x H' G m, i < ds.length → Y i H x H' → Same G1 G → Ok M G H G H m → ∃ G' d, Ok M G H G' H' m ∧ ds[i]? = some d ∧ Rep K G' x d
def wpI (X : Cx) (tg iter : Expr) : TI := fun σ H R => ∀ pins s, Inv X pins σ H s → wpAny (model X.prog X.w) X.A (eval iter X.env) (fun v s1 => wpAny (model X.prog X.w) X.A (pyIter v) (PIE X pins σ tg R) X.xe s1) X.xe s
theorem pi_wp {X : Cx} {tg iter : Expr} : PI X tg iter (wpI X tg iter) := ⟨fun pins s _ _ _ I h => h pins s I⟩
theorem wpI.of {X : Cx} {tg iter : Expr} {wi : TI} {σ : L2.St} {H : Hp} {R : It → Hp → Prop} (p : PI X tg iter wi) (h : wi σ H R) : wpI X tg iter σ H R := fun pins s I => p.run pins s σ H R I h
def IterD (M : Mode) (X : Cx) (KE : Kx) (tg iter : Expr) (sl : List Sl) (KI : List Da → Nat → Prop) (m : Nat) : Prop :=
  ∀ (G0 H0 G H : Hp) (σ : L2.St) (W : WX) (R : It → Hp → Prop), Ok M G0 H0 G H m → SOk X.K M H0 G H σ sl → Wis M X KE G H σ W →
    (∀ J ds m' G' H', KI ds m' → Ok M G H G' H' m' → WalkD M X.K J ds G' → R J H') → wpI X tg iter σ H R
section
variable {M : Mode} {X : Cx} {KE : Kx} {tg e : Expr} {es : List Expr} {sl : List Sl} {KI : List Da → Nat → Prop} {m : Nat} {pos p : Pos} {N : List Str} {sc : Scope} {B : Bd}
theorem walkd_list {K : PySem.W.Frag} {G1 : Hp} {a : Addr} {vs : List V} {ds : List Da} (q : G1 a = some (.lst vs)) (r : Reps K G1 vs ds) : WalkD M K (Itl K a) ds G1 := by
  refine ⟨_, _, by rw [← r.length]; exact walk_list (K := K) (a := a) (xs := vs), fun G H m le ok => sq_l (ok.sub _ _ (le _ _ q)), fun i H x H' G m hi y le ok => ?_⟩
  obtain ⟨rfl, hx⟩ := y
  obtain ⟨d, hd, rd⟩ := r.get' hx
  exact ⟨G, d, ok, hd, rd.mono le⟩
theorem walkd_tup {K : PySem.W.Frag} {G1 : Hp} {a : Addr} {vs : List V} {ds : List Da} (q : SqT K G1 a vs) (r : Reps K G1 vs ds) : WalkD M K (Itt K a) ds G1 := by
  refine ⟨_, _, by rw [← r.length]; exact walk_tup (K := K) (a := a) (xs := vs), fun G H m le ok => sqT_same ok.sub (sqT_same le q), fun i H x H' G m hi y le ok => ?_⟩
  obtain ⟨rfl, hx⟩ := y
  obtain ⟨d, hd, rd⟩ := r.get' hx
  exact ⟨G, d, ok, hd, rd.mono le⟩
/-- a list or a tuple -/
def Seqs (P : List Da → Nat → Prop) : Da → Nat → Prop
  | .lst ds, m => P ds m
  | .tup ds, m => P ds m
  | _, _ => False
theorem iter_lst (h : EvD M X KE e sl (fun d m1 => ∃ ds, d = .lst ds ∧ KI ds m1) m) : IterD M X KE tg e sl KI m := fun G0 H0 G H σ W R ok so wi k =>
  wpI.of (pi_list pe_wp) (h G0 H0 G H σ W _ ok so wi fun v d m' G' H' p o r => by
    obtain ⟨ds, rfl, p⟩ := p
    obtain ⟨a, us, rfl, q, t⟩ := r.lst_inv
    exact ⟨a, rfl, ⟨us, sq_l (o.sub _ _ q)⟩, k _ ds m' G' H' p o (walkd_list q t)⟩)
theorem iter_tup (h : EvD M X KE e sl (fun d m1 => ∃ ds, d = .tup ds ∧ KI ds m1) m) : IterD M X KE tg e sl KI m := fun G0 H0 G H σ W R ok so wi k =>
  wpI.of (pi_tup pe_wp) (h G0 H0 G H σ W _ ok so wi fun v d m' G' H' p o r => by
    obtain ⟨ds, rfl, p⟩ := p
    obtain ⟨a, us, rfl, q, t⟩ := r.tup_inv
    exact ⟨a, rfl, ⟨us, sqT_same o.sub q⟩, k _ ds m' G' H' p o (walkd_tup q t)⟩)
/-- lo, lo + 1, .. -/
def intsD (lo : Int) (n : Nat) : List Da := (List.range n).map fun (k : Nat) => Da.int (lo + ((k : Nat) : Int))
theorem intsD_len (lo : Int) (n : Nat) : (intsD lo n).length = n := by simp [intsD]
theorem intsD_at {lo : Int} {n i : Nat} (h : i < n) : (intsD lo n)[i]? = some (.int (lo + (i : Int))) := by
  unfold intsD
  rw [List.getElem?_map, List.getElem?_range h]
  rfl
theorem walkd_range {K : PySem.W.Frag} {G1 : Hp} {lo : Int} {n : Nat} : WalkD M K (Itr lo n) (intsD lo n) G1 := by
  refine ⟨_, _, by rw [intsD_len]; exact walk_range, fun _ _ _ _ _ => trivial, fun i H x H' G m hi y le ok => ?_⟩
  obtain ⟨rfl, rfl⟩ := y
  rw [intsD_len] at hi
  exact ⟨G, _, ok, intsD_at hi, .int _⟩
theorem iter_range (cx : Ctx X N sc B) (hm : B.mg "range" = none) (h : EvD M X KE e sl (fun d m1 => ∃ j : Int, d = .int j ∧ (-(2 ^ 62) ≤ j ∧ j < 2 ^ 62) ∧ KI (intsD 0 j.toNat) m1) m) (hg : GlS sc "range" := by with_unfolding_all rfl)
    (he : starEach [e] X.env = (false, eval e X.env) :: starEach [] X.env := by with_unfolding_all rfl) : IterD M X KE tg (.Call (.Name "range" p) [e] [] pos) sl KI m := fun G0 H0 G H σ W R ok so wi k =>
  wpI.of (pi_range1 (cx.gl hg) (cx.mg hm) (pa_cons pe_wp pa_nil he) (hs := by rw [he]; rfl)) (h G0 H0 G H σ W _ ok so wi fun v d m' G' H' p o r => by
    obtain ⟨j, rfl, ⟨h0, h1⟩, p⟩ := p
    exact ⟨j, by rw [r.int_inv], h0, h1, k _ _ m' G' H' p o walkd_range⟩)
theorem iter_range2 {f : Expr} (cx : Ctx X N sc B) (hm : B.mg "range" = none) (h : EvD M X KE e sl (fun d m1 => ∃ i : Int, d = .int i ∧ EvD M X KE f sl (fun d m2 => ∃ j : Int, d = .int j ∧ (-(2 ^ 62) ≤ i ∧ i < 2 ^ 62 ∧ -(2 ^ 62) ≤ j ∧ j < 2 ^ 62) ∧ KI (intsD i (j - i).toNat) m2) m1) m) (hg : GlS sc "range" := by with_unfolding_all rfl)
    (he : starEach [e, f] X.env = (false, eval e X.env) :: starEach [f] X.env := by with_unfolding_all rfl) (hf : starEach [f] X.env = (false, eval f X.env) :: starEach [] X.env := by with_unfolding_all rfl) : IterD M X KE tg (.Call (.Name "range" p) [e, f] [] pos) sl KI m := fun G0 H0 G H σ W R ok so wi k =>
  wpI.of (pi_range2 (cx.gl hg) (cx.mg hm) (pa_cons pe_wp (pa_cons pe_wp pa_nil hf) he) (hs := by rw [he, hf]; rfl) (hs2 := by rw [hf]; rfl)) (h G0 H0 G H σ W _ ok so wi fun v d m' G' H' p o r => by
    obtain ⟨i, rfl, p⟩ := p
    refine p G0 H0 G' H' σ W _ (ok.trans o) (so.step o) (wi.step o) fun v2 d2 m2 G2 H2 p2 o2 r2 => ?_
    obtain ⟨j, rfl, h0, p2⟩ := p2
    exact ⟨i, j, by rw [r.int_inv, r2.int_inv], h0, k _ _ m2 G2 H2 p2 (o.trans o2) walkd_range⟩)
/-- pairs of a number and an item -/
def enums : Nat → List Da → List Da
  | _, [] => []
  | i, d :: ds => .tup [.int (i : Int), d] :: enums (i + 1) ds
theorem enums_len : ∀ (i : Nat) (ds : List Da), (enums i ds).length = ds.length
  | _, [] => rfl
  | i, _ :: ds => by simp [enums, enums_len (i + 1) ds]
theorem enums_at : ∀ (k : Nat) (ds : List Da) (i : Nat), (enums k ds)[i]? = ds[i]?.map fun d => .tup [.int ((k + i : Nat) : Int), d]
  | _, [], i => by simp [enums]
  | k, d :: ds, 0 => by simp [enums]
  | k, d :: ds, i + 1 => by
    simp only [enums, List.getElem?_cons_succ, enums_at (k + 1) ds i]
    rw [show k + 1 + i = k + (i + 1) by omega]
theorem walkd_enum {K : PySem.W.Frag} {G1 : Hp} {a : Addr} {vs : List V} {ds : List Da} (q : G1 a = some (.lst vs)) (r : Reps K G1 vs ds) : WalkD M K (Ite K a) (enums 0 ds) G1 := by
  refine ⟨_, _, by rw [enums_len, ← r.length]; exact walk_enum (K := K) (a := a) (xs := vs), fun G H m le ok => sq_l (ok.sub _ _ (le _ _ q)), fun i H x H' G m hi y le ok => ?_⟩
  obtain ⟨T, x1, y1, rfl, hT, rfl, e1, e2⟩ := y
  obtain ⟨d, hd, rd⟩ := r.get' e2
  cases e1
  have al := ok.alloc (o := .tup [V.int (i : Nat), y1]) hT
  refine ⟨_, .tup [.int (i : Int), d], al, ?_, .tup (sq_t upd_same) (.cons (.int _) (.cons ((rd.mono le).mono al.le) .nil))⟩
  rw [enums_at, hd]
  simp
theorem iter_enum {elts : List Expr} {kk : Nat} {tpos : Pos} (cx : Ctx X N sc B) (hm : B.mg "enumerate" = none) (h : EvD M X KE e sl (fun d m1 => ∃ ds, d = .lst ds ∧ KI (enums 0 ds) m1) m) (hg : GlS sc "enumerate" := by with_unfolding_all rfl)
    (he : starEach [e] X.env = (false, eval e X.env) :: starEach [] X.env := by with_unfolding_all rfl) : IterD M X KE (.Tuple elts kk tpos) (.Call (.Name "enumerate" p) [e] [] pos) sl KI m := fun G0 H0 G H σ W R ok so wi k =>
  wpI.of (pi_enum (cx.gl hg) (cx.mg hm) (pa_cons pe_wp pa_nil he) (hs := by rw [he]; rfl)) (h G0 H0 G H σ W _ ok so wi fun v d m' G' H' p o r => by
    obtain ⟨ds, rfl, p⟩ := p
    obtain ⟨a, us, rfl, q, t⟩ := r.lst_inv
    exact ⟨a, us, rfl, sq_l (o.sub _ _ q), k _ _ m' G' H' p o (walkd_enum q t)⟩)

/-- a loop over data, turn by turn -/
def ForD (body : Da → List Sl → Kn → Nat → Prop) (D : Kn) : List Da → List Sl → Nat → Prop
  | [], sl, m => D.nx sl m
  | d :: ds, sl, m => body d sl { D with nx := ForD body D ds, ct := ForD body D ds, bk := D.nx } m
theorem st1_for {KE : Ks} {body : List Stmt} {D : Kn} (cx : Ctx X N sc B) (h : IterD M X (KE sl) tg e sl (fun ds m1 => ForD (fun d sl D m => ∃ sl' is, Tg X N sc tg d sl sl' is ∧ StD M X KE body sl' D m) D ds sl m1) m) (hc : X.calm = true := by with_unfolding_all rfl)
    (hp : PassesOwn (model X.prog X.w) X.A X.env X.xe := by first | exact PassesOwn.never | exact passes_of rfl) (hs : ∀ x, foldedSetIterable e X.env x = pure x := by with_unfolding_all (intro _; rfl)) : St1 M X KE (.For tg e body [] pos) sl D m := fun G0 H0 G H σ W E ok so wi po =>
  wpS.of (ps_for hp hc pi_wp pg_wp pss_wp hs) (h G0 H0 G H σ W _ ok so (wi.at ok so) fun J ds m1 G1 H1 q o1 wk => by
    obtain ⟨Gd, Y, wlk, hG, hY⟩ := wk
    have okA := ok.trans o1
    have back : ∀ {G' H' m'}, Ok M G1 H0 G' H' m' → Ok M G0 H0 G' H' m' := fun k => okA.unbase k
    refine for_it wlk (fun i σ' H' => ∃ sl' G' m', Ok M G1 H0 G' H' m' ∧ SOk X.K M H0 G' H' σ' sl' ∧ ForD (fun d sl D m => ∃ sl' is, Tg X N sc tg d sl sl' is ∧ StD M X KE body sl' D m) D (ds.drop i) sl' m') ⟨sl, G1, m1, okA.rebase, so.step o1, q⟩ (fun i σ' H' _ ⟨_, G', m', k, _⟩ => hG G' H' m' k.le k.here) ?_ ?_
    · rintro i x σ' H' H2 hi ⟨sl', G', m', k1, so', fd⟩ y
      obtain ⟨G2, d, k2, hd, rd⟩ := hY i H' x H2 G' m' hi y k1.le k1.here
      have hdr : ds.drop i = d :: ds.drop (i + 1) := by
        obtain ⟨hl, e⟩ := List.getElem?_eq_some_iff.mp hd
        rw [List.drop_eq_getElem_cons hl, e]
      rw [hdr] at fd
      obtain ⟨sl2, is, tg2, sd⟩ := fd
      have ok2 := k1.trans k2
      refine tg2.run cx hc ok2 (so'.step k2) rd fun σ3 so3 _ => ?_
      refine sd G1 H0 G2 H2 σ3 W _ ok2 so3 ⟨wi.tk, fun C fs d σ sl m' G' H' q o s x => wi.ex C fs d σ sl m' G' H' q (back o) s x⟩ ⟨?_, fun v d m' G' H' q o r => po.rt v d m' G' H' q (back o) r, fun σ sl m' G' H' q o s => po.nx σ sl m' G' H' q (back o) s, ?_, fun a d m' G' H' q o r => po.rn a d m' G' H' q (back o) r⟩
      · exact fun σ4 sl4 m4 G4 H4 f o4 so4 => ⟨sl4, G4, m4, o4, so4, f⟩
      · exact fun σ4 sl4 m4 G4 H4 f o4 so4 => ⟨sl4, G4, m4, o4, so4, f⟩
    · rintro σ' H' ⟨sl', G', m', k1, so', fd⟩
      rw [List.drop_length] at fd
      exact po.nx σ' sl' m' G' H' fd (back k1) so')
end
end OZ

/-! ### comprehensions -/
namespace OZ
open PySem L2 PySem.Spec PyProof.Rows
def relabelS (scope sc : Scope) : Scope :=
  { scope with names := scope.names.map fun (n, k) => if (k == NameKind.free && sc.kind == .function && sc.names.lookup n == some .cell) then (n, NameKind.cell) else (n, k) }
theorem relabelS_eq (scope : Scope) (env : Env) : relabel scope env = relabelS scope env.scope := rfl
theorem wipe_idem (σ : L2.St) : ∀ vs : List Nat, wipe (wipe σ vs) vs = wipe σ vs := by
  have mem : ∀ (vs ws : List Nat), (∀ v ∈ vs, v ∈ ws) → ∀ τ : L2.St, wipe (wipe τ vs) ws = wipe τ ws := by
    intro vs
    induction vs with
    | nil => intro _ _ _; rfl
    | cons v vs ih =>
      intro ws h τ
      show wipe ((wipe τ vs).set v none) ws = _
      rw [wipe_set (h v (List.mem_cons_self ..)), ih ws (fun x hx => h x (List.mem_cons_of_mem _ hx))]
  exact fun vs => mem vs vs (fun _ h => h) σ
/-- said of every block of a comprehension -/
def AllX (X : Cx) (scope : Scope) (N : List Str) (sc : Scope) (B : Bd) (j : Nat) (Φ : Cx → Prop) : Prop :=
  ∀ s H C cl fp, Ctx (X.blk s H scope (compEnvC scope cl C X.env) fp) N (relabelS scope sc) B → Room j (X.blk s H scope (compEnvC scope cl C X.env) fp).A → Φ (X.blk s H scope (compEnvC scope cl C X.env) fp)
inductive IdxAt : List Str → Str → Nat → Prop
  | here {x : Str} {N : List Str} : IdxAt (x :: N) x 0
  | there {x y : Str} {N : List Str} {i : Nat} : IdxAt N x i → IdxAt (y :: N) x (i + 1)
inductive OwnT (N : List Str) : Expr → List (Str × Nat) → Prop
  | name {x : Str} {p : Pos} {i : Nat} : IdxAt N x i → OwnT N (.Name x p) [(x, i)]
  | two {e f : Expr} {k : Nat} {p : Pos} {o1 o2 : List (Str × Nat)} : OwnT N e o1 → OwnT N f o2 → OwnT N (.Tuple [e, f] k p) (o1 ++ o2)
  | three {e f g : Expr} {k : Nat} {p : Pos} {o1 o2 o3 : List (Str × Nat)} : OwnT N e o1 → OwnT N f o2 → OwnT N g o3 → OwnT N (.Tuple [e, f, g] k p) (o1 ++ (o2 ++ o3))
inductive WipeS (N : List Str) : List (Str × Nat) → List Sl → List Sl → Prop
  | nil {sl : List Sl} : WipeS N [] sl sl
  | cons {x : Str} {i : Nat} {own : List (Str × Nat)} {sl sl1 sl2 : List Sl} : WipeS N own sl sl1 → EnvSet N sl1 x i .un sl2 → WipeS N ((x, i) :: own) sl sl2
theorem WipeS.ok {K : PySem.W.Frag} {M : Mode} {H0 G H : Hp} {N : List Str} {σ : L2.St} : ∀ {own : List (Str × Nat)} {sl sl' : List Sl}, WipeS N own sl sl' → SOk K M H0 G H σ sl → SOk K M H0 G H (wipe σ (own.map (·.2))) sl'
  | _, _, _, .nil, so => so
  | _, _, _, .cons w e, so => by
    rw [e.set]
    exact (w.ok so).setN _
def CompD (step : Da → (Option Da → Nat → Prop) → Nat → Prop) : List Da → (List Da → Nat → Prop) → Nat → Prop
  | [], K, m => K [] m
  | d :: ds, K, m => step d (fun o m1 => CompD step ds (fun r m2 => K (o.toList ++ r) m2) m1) m
def lcIf (M : Mode) (X : Cx) (scope : Scope) (N : List Str) (sc : Scope) (B : Bd) (j : Nat) (ifs : List Expr) (sl : List Sl) (k : Bool → Nat → Prop) (m : Nat) : Prop :=
  match ifs with
  | [] => k true m
  | [c] => AllX X scope N sc B j fun X' => EvT M X' K0 c sl k m
  | _ => False
def lcStep (M : Mode) (X : Cx) (scope : Scope) (N : List Str) (sc : Scope) (B : Bd) (j : Nat) (vs : List Nat) (tg : Expr) (ifs : List Expr) (elt : Expr) (sl : List Sl) : Da → (Option Da → Nat → Prop) → Nat → Prop := fun d k m =>
  ∃ sl' is, (AllX X scope N sc B j fun X' => Tg X' N (relabelS scope sc) tg d sl sl' is) ∧ (∀ i ∈ is, i ∈ vs) ∧
    lcIf M X scope N sc B j ifs sl' (fun b m1 => if b = true then AllX X scope N sc B j fun X' => EvD M X' K0 elt sl' (fun y m2 => k (some y) m2) m1 else k none m1) m
def gBlk (X : Cx) (scope : Scope) (tg : Expr) : TG := fun v σ H Q => ∀ s Hb C cl fp, gTg (X.blk s Hb scope (compEnvC scope cl C X.env) fp) tg v σ H Q
def tBlk (X : Cx) (scope : Scope) (ifs : List Expr) : TT := fun σ H Q => match ifs with
  | [] => Q true H
  | [c] => ∀ s Hb C cl fp, wpT (X.blk s Hb scope (compEnvC scope cl C X.env) fp) c σ H Q
  | _ => False
def eBlk (X : Cx) (scope : Scope) (elt : Expr) : TE := fun σ H Q => ∀ s Hb C cl fp, wpE (X.blk s Hb scope (compEnvC scope cl C X.env) fp) elt σ H Q
section
variable {M : Mode} {X : Cx} {KE : Kx} {tg iter elt : Expr} {ifs : List Expr} {scope : Scope} {sl sw : List Sl} {P : Da → Nat → Prop} {m j : Nat} {pos : Pos} {N : List Str} {sc : Scope} {B : Bd} {own : List (Str × Nat)}
theorem blk_ctx (cx : Ctx X N sc B) (s : Shared) (H : Hp) (C : Addr) (cl : List (Str × Addr)) (fp : List Addr) : Ctx (X.blk s H scope (compEnvC scope cl C X.env) fp) N (relabelS scope sc) B :=
  ⟨cx.n, by show relabel scope X.env = _; rw [relabelS_eq, cx.s], cx.nd, cx.b⟩
theorem AllX.get {Φ : Cx → Prop} (h : AllX X scope N sc B j Φ) (cx : Ctx X N sc B) (hr : Room j X.A) (s : Shared) (H : Hp) (C : Addr) (cl : List (Str × Addr)) (fp : List Addr) : Φ (X.blk s H scope (compEnvC scope cl C X.env) fp) := h s H C cl fp (blk_ctx cx s H C cl fp) hr
theorem wis0 {X : Cx} {G H : Hp} {σ : L2.St} : Wis M X K0 G H σ (fun _ _ _ _ => False) := ⟨takes0, fun _ _ _ _ _ _ z => z.elim⟩
/-- the reading of a comprehension, over data -/
theorem lc_run (cx : Ctx X N sc B) (hr : Room j X.A) (hc : X.calm = true) (wp : WipeS N own sl sw) {G0 H0 G H G1 H1 : Hp} {σ : L2.St} {m1 : Nat} {J : It} {ds : List Da} {Q : VK} (ok : Ok M G0 H0 G H m) (so : SOk X.K M H0 G H σ sl) (o1 : Ok M G H G1 H1 m1) (wk : WalkD M X.K J ds G1) (hl : ds.length < sizeLine)
    (q : CompD (lcStep M X scope N sc B j (own.map (·.2)) tg ifs elt sw) ds (fun r m2 => P (.lst r) m2) m1) (D : Addr) (hD : H1 D = none)
    (fin : ∀ out m' G' H', P (.lst out) m' → Ok M G H G' H' m' → G' D = none → (H D = none ∨ M.X H D) → ¬ M.X H' D → RepM X.K G' H' D (.lst out) → Q (.ref D) H') :
    ∃ W : Nat → Nat → Hp → Prop, (∃ m, W 0 m (L2.upd H1 D (.lst []))) ∧ ∀ i m H, W i m H → (J.stop i H ∧ Q (.ref D) H) ∨ (J.go i H ∧ ∃ Nx : Hp → Prop, (∀ H', Nx H' → ∃ m', m' < m ∧ W (i + 1) m' H') ∧ ∀ x H', J.yld i H x H' →
      gBlk X scope tg x (wipe σ (own.map (·.2))) H' fun σ2 H2 => wipe σ2 (own.map (·.2)) = wipe σ (own.map (·.2)) ∧
        tBlk X scope ifs σ2 H2 fun b H3 =>
          if b = true then eBlk X scope elt σ2 H3 fun y H4 => ∃ acc, H4 D = some (.lst acc) ∧ acc.length < sizeLine ∧ Nx (L2.upd H4 D (.lst (acc ++ [y]))) else Nx H3) := by
  obtain ⟨Gd, Y, wlk, hG, hY⟩ := wk
  have nx1 : ¬ M.X H1 D := fun x => by obtain ⟨u, e⟩ := M.there _ _ _ o1.inv x; rw [hD] at e; cases e
  have gD : G1 D = none := by
    cases e : G1 D with
    | none => rfl
    | some u => rw [o1.sub _ _ e] at hD; cases hD
  have hD0 : H D = none ∨ M.X H D := by
    cases e : H D with
    | none => exact .inl rfl
    | some u =>
      by_cases x : M.X H D
      · exact .inr x
      · rw [(o1.keep D u e x).1] at hD; cases hD
  have fr : ∀ i a, Mt sw i → (wipe σ (own.map (·.2)))[i]? = some (some (.ref a)) → a ≠ D := fun i a mt e z => by
    obtain ⟨u, h1, h2⟩ := (wp.ok so).held mt e
    subst z
    rcases hD0 with h | h
    · rw [h] at h1; cases h1
    · exact h2 h
  have al : Ok M G1 H1 G1 (L2.upd H1 D (.lst [])) m1 := o1.here.allocM hD
  let Pv : Nat → Hp → Prop := fun i H' => ∃ G' m' acc out, Ok M G H G' H' m' ∧ Same G1 G' ∧ SOk X.K M H0 G' H' (wipe σ (own.map (·.2))) sw ∧ H' D = some (.lst acc) ∧ Reps X.K G' acc out ∧ out.length ≤ i ∧ G' D = none ∧ ¬ M.X H' D ∧
    CompD (lcStep M X scope N sc B j (own.map (·.2)) tg ifs elt sw) (ds.drop i) (fun r m2 => P (.lst (out ++ r)) m2) m'
  have adv : ∀ {i G' H' m' acc out} {y : V} {d : Da}, Ok M G H G' H' m' → Same G1 G' → SOk X.K M H0 G' H' (wipe σ (own.map (·.2))) sw → H' D = some (.lst acc) → Reps X.K G' acc out → out.length ≤ i → G' D = none → ¬ M.X H' D → Rep X.K G' y d →
      CompD (lcStep M X scope N sc B j (own.map (·.2)) tg ifs elt sw) (ds.drop (i + 1)) (fun r m2 => P (.lst (out ++ ((some d).toList ++ r))) m2) m' → Pv (i + 1) (L2.upd H' D (.lst (acc ++ [y]))) := by
    intro i G' H' m' acc out y d k1 k2 k3 k4 k5 k6 k7 k8 k9 k10
    have mo : Ok M G H G' (L2.upd H' D (.lst (acc ++ [y]))) m' := k1.mut k7 k8 hD0
    have nx : ∀ b, M.X (L2.upd H' D (.lst (acc ++ [y]))) b → M.X H' b := (M.clo m' H' _ k1.inv fun b u x e => by rw [upd_ne (fun q => k8 (by rw [← q]; exact x))]; exact e).2
    refine ⟨G', m', acc ++ [y], out ++ [d], mo, k2, k3.upd nx fr, upd_same, k5.append (.cons k9 .nil), by simp; omega, k7, fun x => k8 (nx _ x), ?_⟩
    simpa [List.append_assoc] using k10
  refine lc_it (g := gBlk X scope tg) (tt := tBlk X scope ifs) (te := eBlk X scope elt) (vs := own.map (·.2)) (σ := σ) (D := D) (Qd := fun H => Q (.ref D) H) wlk Pv ?_ ?_ ?_ ?_
  · refine ⟨G1, m1, [], [], o1.trans al, Same.refl _, (wp.ok ((so.step o1).step al)), upd_same, .nil, Nat.le_refl _, gD, ?_, ?_⟩
    · exact fun x => nx1 ((M.clo m1 H1 _ o1.inv fun b u x e => by rw [upd_ne (fun q => nx1 (by rw [← q]; exact x))]; exact e).2 _ x)
    · simpa using q
  · rintro i H' _ ⟨G', m', acc, out, k1, k2, _⟩
    exact hG G' H' m' k2 k1.here
  · rintro i x H' H2 hi ⟨G', m', acc, out, k1, k2, k3, k4, k5, k6, k7, k8, k9⟩ y
    obtain ⟨G2, d, e1, hd, rd⟩ := hY i H' x H2 G' m' hi y k2 k1.here
    have hdr : ds.drop i = d :: ds.drop (i + 1) := by
      obtain ⟨hl, e⟩ := List.getElem?_eq_some_iff.mp hd
      rw [List.drop_eq_getElem_cons hl, e]
    rw [hdr] at k9
    obtain ⟨sl', is, tgA, hin, hif⟩ := k9
    have ok2 : Ok M G H G2 H2 m' := k1.trans e1
    have so2 := k3.step e1
    obtain ⟨f1, f2⟩ := e1.keep D _ k4 k8
    have f3 := e1.new D _ k4 k8 k7
    intro s Hb C cl fp
    refine (tgA.get cx hr s Hb C cl fp).run (blk_ctx cx s Hb C cl fp) hc (ok.trans ok2) so2 rd fun σ' so3 w3 => ⟨(w3 _ hin).trans (wipe_idem σ _), ?_⟩
    -- behind the tests
    have rest : ∀ b m3 G3 H3, Ok M G2 H2 G3 H3 m3 → (if b = true then AllX X scope N sc B j fun X' => EvD M X' K0 elt sl' (fun y m2 => CompD (lcStep M X scope N sc B j (own.map (·.2)) tg ifs elt sw) (ds.drop (i + 1)) (fun r m2 => P (.lst (out ++ ((some y).toList ++ r))) m2) m2) m3
        else CompD (lcStep M X scope N sc B j (own.map (·.2)) tg ifs elt sw) (ds.drop (i + 1)) (fun r m2 => P (.lst (out ++ ((none : Option Da).toList ++ r))) m2) m3) →
        if b = true then (∀ s Hb C cl fp, wpE (X.blk s Hb scope (compEnvC scope cl C X.env) fp) elt σ' H3 fun y H4 => ∃ acc, H4 D = some (.lst acc) ∧ acc.length < sizeLine ∧ Pv (i + 1) (L2.upd H4 D (.lst (acc ++ [y])))) else Pv (i + 1) H3 := by
      intro b m3 G3 H3 e2 hb
      obtain ⟨g1, g2⟩ := e2.keep D _ f1 f2
      have g3 := e2.new D _ f1 f2 f3
      cases b with
      | true =>
        rw [if_pos rfl] at hb ⊢
        intro s Hb C cl fp
        refine (AllX.get hb cx hr s Hb C cl fp) G0 H0 G3 H3 σ' (fun _ _ _ _ => False) _ ((ok.trans ok2).trans e2) (so3.step e2) wis0 fun y dy m4 G4 H4 pc e3 ry => ?_
        obtain ⟨h1, h2⟩ := e3.keep D _ g1 g2
        have h3 := e3.new D _ g1 g2 g3
        refine ⟨acc, h1, by rw [k5.length]; omega, ?_⟩
        exact adv ((ok2.trans e2).trans e3) (((k2.trans e1.le).trans e2.le).trans e3.le) (((so2.step e2).step e3)) h1 ((((k5.mono e1.le).mono e2.le).mono e3.le)) k6 h3 h2 ry pc
      | false =>
        rw [if_neg Bool.false_ne_true] at hb ⊢
        exact ⟨G3, m3, acc, out, ok2.trans e2, ((k2.trans e1.le).trans e2.le), so2.step e2, g1, (k5.mono e1.le).mono e2.le, by omega, g3, g2, by simpa using hb⟩
    match ifs, hif, rest with
    | [], hif, rest => exact rest true m' G2 H2 ok2.here hif
    | [c], hif, rest =>
      intro s Hb C cl fp
      unfold lcIf at hif
      exact (AllX.get hif cx hr s Hb C cl fp) G0 H0 G2 H2 σ' (fun _ _ _ _ => False) _ (ok.trans ok2) so3 wis0 fun b m3 G3 H3 pb e2 => rest b m3 G3 H3 e2 pb
    | _ :: _ :: _, hif, _ => exact hif.elim
  · rintro H' ⟨G', m', acc, out, k1, k2, k3, k4, k5, k6, k7, k8, k9⟩
    rw [List.drop_length] at k9
    exact fin out m' G' H' (by simpa [CompD] using k9) k1 k7 hD0 k8 ⟨acc, k4, k5⟩
theorem evd_lc (cx : Ctx X N sc B) (hr : Room j X.A) (ot : OwnT N tg own) (wp : WipeS N own sl sw) (h : IterD M X KE tg iter sl (fun ds m1 => ds.length < sizeLine ∧ CompD (lcStep M X scope N sc B j (own.map (·.2)) tg ifs elt sw) ds (fun r m2 => P (.lst r) m2) m1) m)
    (hb : blkC N sc scope own = true := by with_unfolding_all decide +kernel) (hc : X.calm = true := by with_unfolding_all rfl) (hs : ∀ x, foldedSetIterable iter X.env x = pure x := by with_unfolding_all (intro _; rfl)) : EvD M X KE (.ListComp elt [⟨tg, iter, ifs, 0⟩] scope pos) sl P m := by
  intro G0 H0 G H σ W Q ok so wi po
  refine wpE.of (pe_lc (own := own) (wi := wpI X tg iter) (g := gBlk X scope tg) (tt := tBlk X scope ifs) (te := eBlk X scope elt) hc cx.nd pi_wp ?_ ?_ ?_ ?_ hs) ?_
  · rw [cx.n, cx.s]; exact blkOk_by hb
  · exact fun s Hb C cl fp => ⟨fun pins s' σ H v u Q I r q => q s Hb C cl fp pins s' u I r⟩
  · intro s Hb C cl fp
    match ifs with
    | [] => exact pts_nil
    | [c] => exact pts_one ⟨fun pins s' σ H Q I q => q s Hb C cl fp pins s' I⟩
    | _ :: _ :: _ => exact ⟨fun pins s' σ H Q I q => q.elim⟩
  · exact fun s Hb C cl fp => ⟨fun pins s' σ H Q I q => q s Hb C cl fp pins s' I⟩
  · refine h G0 H0 G H σ W _ ok so wi fun J ds m1 G1 H1 q o1 wk => fun D hD => ?_
    refine lc_run cx hr hc wp ok so o1 wk q.1 q.2 D hD fun out m' G' H' p k g h0 nx ⟨acc, e, r⟩ => ?_
    exact po _ (.lst out) m' _ H' p (k.pub e g nx h0) (.lst upd_same (r.mono (sameUp g)))
/-- name = [..] -/
theorem st1_setLc {KE : Ks} {D : Kn} {y : Str} {py spos : Pos} (cx : Ctx X N sc B) (hr : Room j X.A) (ot : OwnT N tg own) (wp : WipeS N own sl sw) (h : IterD M X (KE sl) tg iter sl (fun ds m1 => ds.length < sizeLine ∧ CompD (lcStep M X scope N sc B j (own.map (·.2)) tg ifs elt sw) ds (fun r m2 => ∃ i sl', EnvSet N sl y i (.v (.lst r)) sl' ∧ D.nx sl' m2) m1) m)
    (hsw : swapsWith (.ListComp elt [⟨tg, iter, ifs, 0⟩] scope pos) (some (.Name y py)) spos.line X.env = pure true := by with_unfolding_all exact sw_true rfl rfl rfl (by decide +kernel)) (hN : ∃ i : Nat, N[i]? = some y) (hyl : sc.names.lookup y = some .local := by with_unfolding_all rfl)
    (hb : blkC N sc scope own = true := by with_unfolding_all decide +kernel) (hc : X.calm = true := by with_unfolding_all rfl) (hs : ∀ x, foldedSetIterable iter X.env x = pure x := by with_unfolding_all (intro _; rfl)) : St1 M X KE (.Assign [.Name y py] (.ListComp elt [⟨tg, iter, ifs, 0⟩] scope pos) spos) sl D m := by
  intro G0 H0 G H σ W E ok so wi po
  obtain ⟨i, hi⟩ := hN
  refine wpS.of (ps_setLc (own := own) (i := i) (wi := wpI X tg iter) (g := gBlk X scope tg) (tt := tBlk X scope ifs) (te := eBlk X scope elt) hc cx.nd (by rw [cx.n]; exact hi) (by rw [cx.s]; exact hyl) hsw pi_wp ?_ ?_ ?_ ?_ hs) ?_
  · rw [cx.n, cx.s]; exact blkOk_by hb
  · exact fun s Hb C cl fp => ⟨fun pins s' σ H v u Q I r q => q s Hb C cl fp pins s' u I r⟩
  · intro s Hb C cl fp
    match ifs with
    | [] => exact pts_nil
    | [c] => exact pts_one ⟨fun pins s' σ H Q I q => q s Hb C cl fp pins s' I⟩
    | _ :: _ :: _ => exact ⟨fun pins s' σ H Q I q => q.elim⟩
  · exact fun s Hb C cl fp => ⟨fun pins s' σ H Q I q => q s Hb C cl fp pins s' I⟩
  · refine h G0 H0 G H σ W _ ok so (wi.at ok so) fun J ds m1 G1 H1 q o1 wk => fun D2 hD => ?_
    refine lc_run (P := fun d m2 => ∃ i sl', EnvSet N sl y i (.v d) sl' ∧ D.nx sl' m2) cx hr hc wp ok so o1 wk q.1 q.2 (Q := fun v H' => gName i v σ H' E.nx) D2 hD fun out m' G1 H' p k g h0 nx ⟨acc, e, r0⟩ => ?_
    have o := k.pub e g nx h0
    have r : Rep X.K _ (.ref D2) (.lst out) := .lst upd_same (r0.mono (sameUp g))
    obtain ⟨i', sl', es, p⟩ := p
    have hii : i' = i := nd_ix (cx.n ▸ cx.nd) es.name hi
    subst hii
    refine po.nx _ sl' m' _ H' p (ok.trans o) ?_
    rw [es.set]
    exact (so.step o).setV _ r
end
end OZ

/-! ### while, lists of the run's own, raise -/
namespace OZ
open PySem L2 PySem.Spec PyProof.Rows
section
variable {M : Mode} {X : Cx} {KE : Ks} {a b c e : Expr} {es : List Expr} {sl : List Sl} {D : Kn} {P : Da → Nat → Prop} {m j : Nat} {pos p p2 spos : Pos} {x : Str} {st : Stmt} {rest body : List Stmt} {N : List Str} {sc : Scope} {B : Bd}
/-- a while, by a word with a number that falls -/
theorem st1_while (Inv : Nat → List Sl → Nat → Prop) (h0 : ∃ k, Inv k sl m) (h : ∀ k sl m, Inv k sl m → EvT M X (KE sl) c sl (fun b m1 => if b = true then StD M X KE body sl { D with nx := fun sl' m' => ∃ k', k' < k ∧ Inv k' sl' m', ct := fun sl' m' => ∃ k', k' < k ∧ Inv k' sl' m', bk := D.nx } m1 else D.nx sl m1) m)
    (hp : PassesOwn (model X.prog X.w) X.A X.env X.xe := by first | exact PassesOwn.never | exact passes_of rfl) : St1 M X KE (.While c body [] pos) sl D m := by
  intro G0 H0 G H σ W E ok so wi po
  refine wpS.of (ps_while hp pt_wp pss_wp) ?_
  refine ⟨fun k σ' H' => ∃ sl' G' m', Ok M G0 H0 G' H' m' ∧ SOk X.K M H0 G' H' σ' sl' ∧ Inv k sl' m', ?_, ?_⟩
  · obtain ⟨k, hk⟩ := h0
    exact ⟨k, sl, G, m, ok, so, hk⟩
  · rintro k σ' H' ⟨sl', G', m', ok', so', hk⟩
    refine h k sl' m' hk G0 H0 G' H' σ' W _ ok' so' (wi.at ok' so') fun b m1 G1 H1 p1 o1 => ?_
    cases b with
    | false =>
      rw [if_neg Bool.false_ne_true] at p1 ⊢
      exact po.nx σ' sl' m1 G1 H1 p1 (ok'.trans o1) (so'.step o1)
    | true =>
      rw [if_pos rfl] at p1 ⊢
      refine ⟨fun σ2 H2 => ∃ k', k' < k ∧ ∃ sl2 G2 m2, Ok M G0 H0 G2 H2 m2 ∧ SOk X.K M H0 G2 H2 σ2 sl2 ∧ Inv k' sl2 m2, fun σ2 H2 ⟨k', l, q⟩ => ⟨k', l, q⟩, ?_⟩
      refine p1 G0 H0 G1 H1 σ' W _ (ok'.trans o1) (so'.step o1) wi ⟨?_, po.rt, po.nx, ?_, po.rn⟩
      · exact fun σ2 sl2 m2 G2 H2 ⟨k', l, q⟩ o2 so2 => ⟨k', l, sl2, G2, m2, o2, so2, q⟩
      · exact fun σ2 sl2 m2 G2 H2 ⟨k', l, q⟩ o2 so2 => ⟨k', l, sl2, G2, m2, o2, so2, q⟩

/-- the object of a slot changes -/
theorem SOk.setM {K : PySem.W.Frag} {H0 G H : Hp} {σ : L2.St} {i : Nat} {ad : Addr} {o : HO} {q0 : Option Addr} {d0 d1 : Da} (h : SOk K M H0 G H σ sl) (hi : sl[i]? = some (.mm q0 d0)) (hs : σ[i]? = some (some (.ref ad))) (nx : ∀ b, M.X (L2.upd H ad o) b → M.X H b) (r : RepM K G (L2.upd H ad o) ad d1) : SOk K M H0 G (L2.upd H ad o) σ (sl.set i (.mm q0 d1)) := by
  obtain ⟨o', e1, ad', rfl, zz, g, h0, n, _⟩ := paired_get h.rel hi
  rw [hs] at e1
  cases e1
  have dr := h.drop i
  have fr : ∀ j b, Mt (sl.set i .un) j → σ[j]? = some (some (.ref b)) → b ≠ ad := fun j b ⟨q2, d, hd⟩ e q => by
    subst q
    have nij : i ≠ j := fun z => by
      subst z
      rw [List.getElem?_set_self (List.getElem?_eq_some_iff.mp hi).1] at hd; cases hd
    rw [List.getElem?_set_ne nij] at hd
    exact nij (h.dis i j b ⟨q0, d0, hi⟩ ⟨q2, d, hd⟩ hs e)
  have up := dr.upd (o := o) nx fr
  refine ⟨?_, fun j k b mj mk ej ek => ?_⟩
  · have := paired_set (F := RelSl K M H0 G (L2.upd H ad o)) (x := some (.ref ad)) (y := .mm q0 d1) ⟨ad, rfl, zz, g, h0, fun z => n (nx _ z), r⟩ i up.rel
    rw [List.set_set] at this
    have hσ : σ.set i (some (.ref ad)) = σ := by
      apply List.ext_getElem?
      intro j
      by_cases q : i = j
      · subst q
        rw [List.getElem?_set_self (List.getElem?_eq_some_iff.mp hs).1, hs]
      · rw [List.getElem?_set_ne q]
    rw [hσ] at this
    exact this
  · have w : ∀ j, Mt (sl.set i (.mm q0 d1)) j → Mt sl j := fun j ⟨e0, e, hj⟩ => by
      by_cases q : i = j
      · subst q; exact ⟨q0, d0, hi⟩
      · rw [List.getElem?_set_ne q] at hj; exact ⟨e0, e, hj⟩
    exact h.dis j k b (w j mj) (w k mk) ej ek
theorem X_keep {G0 H0 G H : Hp} {ad : Addr} {o : HO} (ok : Ok M G0 H0 G H m) (n : ¬ M.X H ad) : ∀ b, M.X (L2.upd H ad o) b → M.X H b := (M.clo m H _ ok.inv fun b u x e => by rw [upd_ne (fun q => n (by rw [← q]; exact x))]; exact e).2
theorem SOk.newM {K : PySem.W.Frag} {H0 G H : Hp} {σ : L2.St} {ad : Addr} {d : Da} (i : Nat) (h : SOk K M H0 G H σ sl) (n : New K M H0 G H ad d) (fr : ∀ j a, Mt sl j → σ[j]? = some (some (.ref a)) → a ≠ ad) : SOk K M H0 G H (σ.set i (some (.ref ad))) (sl.set i (.m d)) := by
  refine ⟨paired_set ⟨ad, rfl, (fun _ z => nomatch z), n.g, n.h0, n.nx, n.r⟩ i h.rel, fun j k a mj mk ej ek => ?_⟩
  have w : ∀ j, Mt (sl.set i (.m d)) j → (σ.set i (some (.ref ad)))[j]? = some (some (.ref a)) → (j = i ∧ a = ad) ∨ (j ≠ i ∧ Mt sl j ∧ σ[j]? = some (some (.ref a)) ∧ a ≠ ad) := fun j ⟨e0, e, hj⟩ ej => by
    by_cases q : i = j
    · subst q
      left
      have l : i < sl.length := by
        have := (List.getElem?_eq_some_iff.mp hj).1
        simpa using this
      have l2 : i < σ.length := by
        have := (List.getElem?_eq_some_iff.mp ej).1
        simpa using this
      rw [List.getElem?_set_self l2] at ej
      simp only [Option.some.injEq, V.ref.injEq] at ej
      exact ⟨rfl, ej.symm⟩
    · rw [List.getElem?_set_ne q] at hj ej
      exact .inr ⟨fun z => q z.symm, ⟨e0, e, hj⟩, ej, fr j a ⟨e0, e, hj⟩ ej⟩
  rcases w j mj ej with ⟨a1, a2⟩ | ⟨b1, b2, b3, b4⟩ <;> rcases w k mk ek with ⟨c1, c2⟩ | ⟨d1, d2, d3, d4⟩
  · exact a1.trans c1.symm
  · exact absurd a2 d4
  · exact absurd c2 b4
  · exact h.dis j k a b2 d2 b3 d3
theorem held_ne {K : PySem.W.Frag} {G0 H0 G H : Hp} {σ : L2.St} {ad : Addr} (so : SOk K M H0 G H σ sl) (h : H ad = none ∨ M.X H ad) : ∀ j a, Mt sl j → σ[j]? = some (some (.ref a)) → a ≠ ad := fun j a mt e q => by
  subst q
  obtain ⟨u, h1, h2⟩ := so.held mt e
  rcases h with h | h
  · rw [h] at h1; cases h1
  · exact h2 h
/-- an expression that makes an object of the run's own -/
def EvN (M : Mode) (X : Cx) (KE : Kx) (e : Expr) (sl : List Sl) (P : Da → Nat → Prop) (m : Nat) : Prop :=
  ∀ (G0 H0 G H : Hp) (σ : L2.St) (W : WX) (Q : VK), Ok M G0 H0 G H m → SOk X.K M H0 G H σ sl → Wis M X KE G H σ W → (∀ ad d m' G' H', P d m' → Ok M G H G' H' m' → New X.K M H G' H' ad d → Q (.ref ad) H') → wpE X e σ H Q
theorem _root_.OZ.IdxAt.at : ∀ {N : List Str} {x : Str} {i : Nat}, IdxAt N x i → N[i]? = some x
  | _, _, _, .here => rfl
  | _, _, _, .there h => by simpa using h.at
theorem envset_at {i i' : Nat} {s : Sl} {sl' : List Sl} (nd : N.Nodup) (hi : IdxAt N x i) (es : EnvSet N sl x i' s sl') : sl' = sl.set i s := by
  have : i' = i := nd_ix nd es.name hi.at
  subst this
  exact es.set
theorem envset_eq {i i' : Nat} {s : Sl} {sl' : List Sl} (nd : N.Nodup) (hi : N[i]? = some x) (es : EnvSet N sl x i' s sl') : sl' = sl.set i s := by
  have : i' = i := nd_ix nd es.name hi
  subst this
  exact es.set
theorem evn_d {KX : Kx} {P : Da → Nat → Prop} (h : EvN M X KX e sl P m) : EvD M X KX e sl P m := fun G0 H0 G H σ W Q ok so wi po pins s I =>
  thn (h G0 H0 G H σ W (fun v H' => ∃ ad d m' G', v = .ref ad ∧ P d m' ∧ Ok M G H G' H' m' ∧ New X.K M H G' H' ad d) ok so wi (fun ad d m' G' H' p o n => ⟨ad, d, m', G', rfl, p, o, n⟩) pins s I) fun v s1 ⟨x, H1, I1, r1, ad, d, m', G', e, p, o, n⟩ => by
    obtain ⟨G2, H2, I2, o2, rep⟩ := n.pubI o I1
    subst e
    exact ⟨_, H2, I2, r1, po _ d m' G2 H2 p o2 rep⟩
theorem st1_retN' (h : EvN M X (KE sl) e sl D.rn m) : St1 M X KE (.Return (some e) pos) sl D m := fun G0 H0 G H σ W E ok so wi po =>
  wpS.of (ps_ret pe_wp) (h G0 H0 G H σ W E.rt ok so (wi.at ok so) fun ad d m' G' H' p o n => po.rn ad d m' G' H' p (ok.trans o) (n.back ok))
theorem st1_setNew {i0 : Nat} (cx : Ctx X N sc B) (h : EvN M X (KE sl) e sl (fun d m1 => ∃ i sl', EnvSet N sl x i (.m d) sl' ∧ D.nx sl' m1) m) (hi : IdxAt N x i0) (hx : Loc sc x := by with_unfolding_all first | exact Or.inl rfl | exact Or.inr rfl)
    (hs : swapsWith e (some (.Name x p)) pos.line X.env = pure false := by with_unfolding_all rfl) (hf : X.fn x = true ∨ X.env.scope.names.lookup x = some .local := by with_unfolding_all first | exact Or.inl rfl | exact Or.inr rfl) : St1 M X KE (.Assign [.Name x p] e pos) sl D m := by
  intro G0 H0 G H σ W E ok so wi po
  have hi' := hi.at
  refine wpS.of (ps_set (i := i0) cx.nd (by rw [cx.n]; exact hi') (cx.loc hx) pe_wp hs hf) ?_
  refine h G0 H0 G H σ W _ ok so (wi.at ok so) fun ad d m1 G1 H1 ⟨i, sl', es, q⟩ o1 n => ?_
  have hii : i = i0 := nd_ix (cx.n ▸ cx.nd) es.name hi'
  subst hii
  refine po.nx _ sl' m1 G1 H1 q (ok.trans o1) ?_
  rw [es.set]
  exact (so.step o1).newM i (n.back ok) (held_ne (G0 := G0) so n.h0)
theorem evn_list {KX : Kx} (h : EvA M X KX es sl (fun ds m1 => ds.length ≤ sizeLine ∧ P (.lst ds) m1) m) : EvN M X KX (.List es pos) sl P m := fun G0 H0 G H σ W Q ok so wi po =>
  wpE.of (pe_lst pa_wp) (h G0 H0 G H σ W _ ok so wi fun vs ds m1 G1 H1 ⟨l, q⟩ o r => ⟨by rw [r.length]; exact l, fun ad had => by
    have al := o.here.allocM (o := .lst vs) had
    have gA : G1 ad = none := by
      cases e : G1 ad with
      | none => rfl
      | some u => rw [o.sub _ _ e] at had; cases had
    have nx : ¬ M.X H1 ad := fun z => by obtain ⟨u, e⟩ := M.there _ _ _ o.inv z; rw [had] at e; cases e
    exact po ad _ m1 _ _ q (o.trans al) ⟨gA, fresh0 o (.inl had), fun z => nx (X_keep o nx _ z), ⟨vs, upd_same, r⟩⟩⟩)

/-! methods of an object of the run's own -/
structure OwnC (X : Cx) (T : String) (name : Str) (id : String) (r : V → List V → Hp → VK → Prop) : Prop where
  pa : PlainAttrs T
  slot : Slot T name id
  hty : typeOf (.builtin id) = pure (.type "method_descriptor")
  hm : MtR X id r
def TyM (T : String) (d : Da) : Prop := ∀ (K : PySem.W.Frag) (G H : Hp) (ad : Addr), RepM K G H ad d → tyV K T (.ref ad) H
theorem tym_lst {ds : List Da} : TyM "list" (.lst ds) := fun _ _ _ _ ⟨vs, h, _⟩ => .inl ⟨rfl, vs, sq_l h⟩
theorem tym_dct {ds : List (Key × Da)} : TyM "dict" (.dct ds) := fun _ _ _ _ ⟨vs, h, _⟩ => .inr (.inr (.inl ⟨rfl, .inl ⟨vs, h⟩⟩))
def OwnR (X : Cx) (r : V → List V → Hp → VK → Prop) (d0 : Da) (ds : List Da) (res d1 : Da) : Prop :=
  ∀ (G H : Hp) (ad : Addr) (vs : List V) (Q : VK), Same G H → RepM X.K G H ad d0 → Reps X.K G vs ds → (∀ o v, RepM X.K G (L2.upd H ad o) ad d1 → Rep X.K G v res → Q v (L2.upd H ad o)) → r (.ref ad) vs H Q
section
variable {T id : String} {name : Str} {r : V → List V → Hp → VK → Prop} {d0 : Da} {i : Nat}
theorem own_step {K : PySem.W.Frag} {G0 H0 G H : Hp} {σ : L2.St} {ad : Addr} {o : HO} {q0 : Option Addr} {d1 : Da} (ok : Ok M G0 H0 G H m) (so : SOk K M H0 G H σ sl) (hx : sl[i]? = some (.mm q0 d0)) (hs : σ[i]? = some (some (.ref ad))) (rm : RepM K G (L2.upd H ad o) ad d1) :
    Ok M G0 H0 G (L2.upd H ad o) m ∧ SOk K M H0 G (L2.upd H ad o) σ (sl.set i (.mm q0 d1)) := by
  obtain ⟨o', e1, ad', rfl, zz, g, h0, n, _⟩ := paired_get so.rel hx
  rw [hs] at e1
  cases e1
  exact ⟨ok.mut g n h0, so.setM hx hs (X_keep ok n) rm⟩
theorem own_e {R : Da → Da → Nat → Prop} (cx : Ctx X N sc B) (hx : EnvAt N sl x i (.m d0)) (C : OwnC X T name id r) (ty : TyM T d0) (h : EvA M X (KE sl) (e :: es) sl (fun ds m1 => ∃ res d1, OwnR X r d0 ds res d1 ∧ R res d1 m1) m)
    (hv : Vis sc x) (hd : (x == ("__debug__" : Str)) = false) (hcd : (x == ("__classdict__" : Str)) = false)
    (hbase : attributeBase (.Name x p) name X.env (eval (.Name x p) X.env) = eval (.Name x p) X.env)
    (hfew : ((backTo pos (starEach (e :: es) X.env)).all (fun x => !x.1) && (backToKw pos (keywordEach [] X.env)).all (fun x => x.1.isSome)
      && decide ((e :: es).length + ([] : List Keyword).length + (if ([] : List Keyword).isEmpty then 0 else 1) < 30)) = true)
    (hline : (p2.endLine == pos.line) = true) (hst : starEach (e :: es) X.env = (false, eval e X.env) :: starEach es X.env) (hplain : (backTo pos (starEach es X.env)).any (·.1) = false)
    {G0 H0 G H : Hp} {σ : L2.St} {W : WX} {Q : VK} (ok : Ok M G0 H0 G H m) (so : SOk X.K M H0 G H σ sl) (wi : Wis M X (KE sl) G H σ W)
    (po : ∀ v res d1 m1 G' H', R res d1 m1 → Ok M G0 H0 G' H' m1 → SOk X.K M H0 G' H' σ (sl.set i (.m d1)) → Rep X.K G' v res → Q v H') : wpE X (.Call (.Attribute (.Name x p) name p2) (e :: es) [] pos) σ H Q := by
  refine wpE.of (pe_bm C.pa C.slot C.hty C.hm (pe_var (by rw [cx.n]; exact hx.name) (cx.vis hv) hd hcd) pa_wp hbase hfew hline hst hplain) ?_
  obtain ⟨o, e1, ad, rfl, zz, g, h0, n, rm⟩ := paired_get so.rel hx.slot
  refine ⟨_, e1, ty _ _ _ _ rm, ?_⟩
  refine h G0 H0 G H σ W _ ok so wi fun vs ds m1 G1 H1 ⟨res, d1, own, q⟩ o1 rv => ?_
  have so1 := so.step o1
  obtain ⟨o', e2, ad', hh, zz', g', h0', n', rm'⟩ := paired_get so1.rel hx.slot
  rw [e1] at e2
  cases e2
  cases hh
  refine own G1 H1 ad vs Q o1.sub rm' rv fun w v r1 r2 => ?_
  obtain ⟨k1, k2⟩ := own_step (ok.trans o1) so1 hx.slot e1 r1
  exact po v res d1 m1 G1 _ q k1 k2 r2
theorem own_e0 {R : Da → Da → Nat → Prop} (cx : Ctx X N sc B) (hx : EnvAt N sl x i (.m d0)) (C : OwnC X T name id r) (ty : TyM T d0) (h : ∃ res d1, OwnR X r d0 [] res d1 ∧ R res d1 m)
    (hv : Vis sc x) (hd : (x == ("__debug__" : Str)) = false) (hcd : (x == ("__classdict__" : Str)) = false)
    (hbase : attributeBase (.Name x p) name X.env (eval (.Name x p) X.env) = eval (.Name x p) X.env)
    (hline : (p2.endLine == pos.line) = true)
    {G0 H0 G H : Hp} {σ : L2.St} {Q : VK} (ok : Ok M G0 H0 G H m) (so : SOk X.K M H0 G H σ sl)
    (po : ∀ v res d1 m1 G' H', R res d1 m1 → Ok M G0 H0 G' H' m1 → SOk X.K M H0 G' H' σ (sl.set i (.m d1)) → Rep X.K G' v res → Q v H') : wpE X (.Call (.Attribute (.Name x p) name p2) [] [] pos) σ H Q := by
  refine wpE.of (pe_bm0 C.pa C.slot C.hty C.hm (pe_var (by rw [cx.n]; exact hx.name) (cx.vis hv) hd hcd) hbase hline) ?_
  obtain ⟨o, e1, ad, rfl, zz, g, h0, n, rm⟩ := paired_get so.rel hx.slot
  refine ⟨_, e1, ty _ _ _ _ rm, ?_⟩
  obtain ⟨res, d1, own, q⟩ := h
  refine own G H ad [] Q ok.sub rm .nil fun w v r1 r2 => ?_
  obtain ⟨k1, k2⟩ := own_step ok so hx.slot e1 r1
  exact po v res d1 m G _ q k1 k2 r2
section
/-- x.name(..) as a statement -/
theorem st1_own (cx : Ctx X N sc B) (hx : EnvAt N sl x i (.m d0)) (C : OwnC X T name id r) (ty : TyM T d0) (h : EvA M X (KE sl) (e :: es) sl (fun ds m1 => ∃ res d1, OwnR X r d0 ds res d1 ∧ ∃ i' sl', EnvSet N sl x i' (.m d1) sl' ∧ D.nx sl' m1) m)
    (hv : Vis sc x := by with_unfolding_all first | exact Or.inl rfl | exact Or.inr (Or.inl rfl) | exact Or.inr (Or.inr rfl)) (hd : (x == ("__debug__" : Str)) = false := by with_unfolding_all decide) (hcd : (x == ("__classdict__" : Str)) = false := by with_unfolding_all decide)
    (hbase : attributeBase (.Name x p) name X.env (eval (.Name x p) X.env) = eval (.Name x p) X.env := by with_unfolding_all rfl)
    (hfew : ((backTo pos (starEach (e :: es) X.env)).all (fun x => !x.1) && (backToKw pos (keywordEach [] X.env)).all (fun x => x.1.isSome)
      && decide ((e :: es).length + ([] : List Keyword).length + (if ([] : List Keyword).isEmpty then 0 else 1) < 30)) = true := by with_unfolding_all rfl)
    (hline : (p2.endLine == pos.line) = true := by with_unfolding_all rfl) (hst : starEach (e :: es) X.env = (false, eval e X.env) :: starEach es X.env := by with_unfolding_all rfl) (hplain : (backTo pos (starEach es X.env)).any (·.1) = false := by with_unfolding_all rfl)
    (hs : swapsWith (.Call (.Attribute (.Name x p) name p2) (e :: es) [] pos) none spos.line X.env = pure false := by with_unfolding_all rfl) : St1 M X KE (.Expr (.Call (.Attribute (.Name x p) name p2) (e :: es) [] pos) spos) sl D m := fun G0 H0 G H σ W E ok so wi po =>
  wpS.of (ps_expr pe_wp hs) (own_e (R := fun _ d1 m1 => ∃ i' sl', EnvSet N sl x i' (.m d1) sl' ∧ D.nx sl' m1) cx hx C ty h hv hd hcd hbase hfew hline hst hplain ok so (wi.at ok so) fun v res d1 m1 G' H' ⟨i', sl', es, q⟩ ok' so' _ => po.nx σ _ m1 G' H' q ok' (envset_eq (cx.n ▸ cx.nd) hx.name es ▸ so'))
theorem st1_own0 (cx : Ctx X N sc B) (hx : EnvAt N sl x i (.m d0)) (C : OwnC X T name id r) (ty : TyM T d0) (h : ∃ res d1, OwnR X r d0 [] res d1 ∧ ∃ i' sl', EnvSet N sl x i' (.m d1) sl' ∧ D.nx sl' m)
    (hv : Vis sc x := by with_unfolding_all first | exact Or.inl rfl | exact Or.inr (Or.inl rfl) | exact Or.inr (Or.inr rfl)) (hd : (x == ("__debug__" : Str)) = false := by with_unfolding_all decide) (hcd : (x == ("__classdict__" : Str)) = false := by with_unfolding_all decide)
    (hbase : attributeBase (.Name x p) name X.env (eval (.Name x p) X.env) = eval (.Name x p) X.env := by with_unfolding_all rfl)
    (hline : (p2.endLine == pos.line) = true := by with_unfolding_all rfl)
    (hs : swapsWith (.Call (.Attribute (.Name x p) name p2) [] [] pos) none spos.line X.env = pure false := by with_unfolding_all rfl) : St1 M X KE (.Expr (.Call (.Attribute (.Name x p) name p2) [] [] pos) spos) sl D m := fun G0 H0 G H σ W E ok so wi po =>
  wpS.of (ps_expr pe_wp hs) (own_e0 (R := fun _ d1 m1 => ∃ i' sl', EnvSet N sl x i' (.m d1) sl' ∧ D.nx sl' m1) cx hx C ty h hv hd hcd hbase hline ok so fun v res d1 m1 G' H' ⟨i', sl', es, q⟩ ok' so' _ => po.nx σ _ m1 G' H' q ok' (envset_eq (cx.n ▸ cx.nd) hx.name es ▸ so'))
/-- y = x.name(..) -/
theorem st1_setOwn {y : Str} {py : Pos} {k : Nat} (cx : Ctx X N sc B) (hx : EnvAt N sl x i (.m d0)) (C : OwnC X T name id r) (ty : TyM T d0) (hk : IdxAt N y k) (h : EvA M X (KE sl) (e :: es) sl (fun ds m1 => ∃ res d1, OwnR X r d0 ds res d1 ∧ ∃ i' sl', EnvSet N sl x i' (.m d1) sl' ∧ ∃ k' sl2, EnvSet N sl' y k' (.v res) sl2 ∧ D.nx sl2 m1) m)
    (hy : Loc sc y := by with_unfolding_all first | exact Or.inl rfl | exact Or.inr rfl)
    (hv : Vis sc x := by with_unfolding_all first | exact Or.inl rfl | exact Or.inr (Or.inl rfl) | exact Or.inr (Or.inr rfl)) (hd : (x == ("__debug__" : Str)) = false := by with_unfolding_all decide) (hcd : (x == ("__classdict__" : Str)) = false := by with_unfolding_all decide)
    (hbase : attributeBase (.Name x p) name X.env (eval (.Name x p) X.env) = eval (.Name x p) X.env := by with_unfolding_all rfl)
    (hfew : ((backTo pos (starEach (e :: es) X.env)).all (fun x => !x.1) && (backToKw pos (keywordEach [] X.env)).all (fun x => x.1.isSome)
      && decide ((e :: es).length + ([] : List Keyword).length + (if ([] : List Keyword).isEmpty then 0 else 1) < 30)) = true := by with_unfolding_all rfl)
    (hline : (p2.endLine == pos.line) = true := by with_unfolding_all rfl) (hst : starEach (e :: es) X.env = (false, eval e X.env) :: starEach es X.env := by with_unfolding_all rfl) (hplain : (backTo pos (starEach es X.env)).any (·.1) = false := by with_unfolding_all rfl)
    (hs : swapsWith (.Call (.Attribute (.Name x p) name p2) (e :: es) [] pos) (some (.Name y py)) spos.line X.env = pure false := by with_unfolding_all rfl) (hf : X.fn y = true ∨ X.env.scope.names.lookup y = some .local := by with_unfolding_all first | exact Or.inl rfl | exact Or.inr rfl) : St1 M X KE (.Assign [.Name y py] (.Call (.Attribute (.Name x p) name p2) (e :: es) [] pos) spos) sl D m := fun G0 H0 G H σ W E ok so wi po =>
  wpS.of (ps_set (i := k) cx.nd (by rw [cx.n]; exact hk.at) (cx.loc hy) pe_wp hs hf) (own_e (R := fun res d1 m1 => ∃ i' sl', EnvSet N sl x i' (.m d1) sl' ∧ ∃ k' sl2, EnvSet N sl' y k' (.v res) sl2 ∧ D.nx sl2 m1) cx hx C ty h hv hd hcd hbase hfew hline hst hplain ok so (wi.at ok so) fun v res d1 m1 G' H' ⟨i', sl', es, k', sl2, es2, q⟩ ok' so' rr => po.nx _ _ m1 G' H' q ok' (by
    rw [envset_at (cx.n ▸ cx.nd) hk es2, envset_eq (cx.n ▸ cx.nd) hx.name es]
    exact so'.setV k rr))
theorem st1_setOwn0 {y : Str} {py : Pos} {k : Nat} (cx : Ctx X N sc B) (hx : EnvAt N sl x i (.m d0)) (C : OwnC X T name id r) (ty : TyM T d0) (hk : IdxAt N y k) (h : ∃ res d1, OwnR X r d0 [] res d1 ∧ ∃ i' sl', EnvSet N sl x i' (.m d1) sl' ∧ ∃ k' sl2, EnvSet N sl' y k' (.v res) sl2 ∧ D.nx sl2 m)
    (hy : Loc sc y := by with_unfolding_all first | exact Or.inl rfl | exact Or.inr rfl)
    (hv : Vis sc x := by with_unfolding_all first | exact Or.inl rfl | exact Or.inr (Or.inl rfl) | exact Or.inr (Or.inr rfl)) (hd : (x == ("__debug__" : Str)) = false := by with_unfolding_all decide) (hcd : (x == ("__classdict__" : Str)) = false := by with_unfolding_all decide)
    (hbase : attributeBase (.Name x p) name X.env (eval (.Name x p) X.env) = eval (.Name x p) X.env := by with_unfolding_all rfl)
    (hline : (p2.endLine == pos.line) = true := by with_unfolding_all rfl)
    (hs : swapsWith (.Call (.Attribute (.Name x p) name p2) [] [] pos) (some (.Name y py)) spos.line X.env = pure false := by with_unfolding_all rfl) (hf : X.fn y = true ∨ X.env.scope.names.lookup y = some .local := by with_unfolding_all first | exact Or.inl rfl | exact Or.inr rfl) : St1 M X KE (.Assign [.Name y py] (.Call (.Attribute (.Name x p) name p2) [] [] pos) spos) sl D m := fun G0 H0 G H σ W E ok so wi po =>
  wpS.of (ps_set (i := k) cx.nd (by rw [cx.n]; exact hk.at) (cx.loc hy) pe_wp hs hf) (own_e0 (R := fun res d1 m1 => ∃ i' sl', EnvSet N sl x i' (.m d1) sl' ∧ ∃ k' sl2, EnvSet N sl' y k' (.v res) sl2 ∧ D.nx sl2 m1) cx hx C ty h hv hd hcd hbase hline ok so fun v res d1 m1 G' H' ⟨i', sl', es, k', sl2, es2, q⟩ ok' so' rr => po.nx _ _ m1 G' H' q ok' (by
    rw [envset_at (cx.n ▸ cx.nd) hk es2, envset_eq (cx.n ▸ cx.nd) hx.name es]
    exact so'.setV k rr))
end
/-- the methods -/
theorem oc_append : OwnC X "list" "append" "list.append" rAppend := ⟨PySem.F.plainAttrs_list, PySem.F.slot_list_append, PySem.F.type_list_append, mt_append⟩
theorem oc_insert : OwnC X "list" "insert" "list.insert" (fun x vs H Q => ∃ (l : Addr) (xs : List V) (i : Int) (y : V), x = .ref l ∧ vs = [.int i, y] ∧ H l = some (.lst xs) ∧ xs.length < sizeLine ∧ 0 ≤ i ∧ i < 2 ^ 63 ∧
    Q .non (L2.upd H l (.lst (xs.take i.toNat ++ [y] ++ xs.drop i.toNat)))) := ⟨PySem.F.plainAttrs_list, PySem.F.slot_list_insert, PySem.F.type_list_insert, mt_insert⟩
theorem oc_extend : OwnC X "list" "extend" "list.extend" rExtend := ⟨PySem.F.plainAttrs_list, PySem.F.slot_list_extend, PySem.F.type_list_extend, mt_extend⟩
theorem oc_pop : OwnC X "list" "pop" "list.pop" rPop := ⟨PySem.F.plainAttrs_list, PySem.F.slot_list_pop, PySem.F.type_list_pop, mt_pop⟩
theorem oc_popAt : OwnC X "list" "pop" "list.pop" rPopAt := ⟨PySem.F.plainAttrs_list, PySem.F.slot_list_pop, PySem.F.type_list_pop, mt_popAt⟩
theorem oc_clear : OwnC X "list" "clear" "list.clear" rClear := ⟨PySem.F.plainAttrs_list, PySem.F.slot_list_clear, PySem.F.type_list_clear, mt_clear⟩
theorem own_append {ds : List Da} {d : Da} (h : ds.length < sizeLine) : OwnR X rAppend (.lst ds) [d] .non (.lst (ds ++ [d])) := fun G H ad vs Q s rm r k => by
  obtain ⟨us, e, ru⟩ := rm
  obtain ⟨v, rfl, rv⟩ := reps1 r
  exact ⟨ad, us, v, rfl, rfl, e, by rw [ru.length]; exact h, k _ _ ⟨_, upd_same, ru.append (.cons rv .nil)⟩ .non⟩
theorem own_insert {ds : List Da} {d : Da} {i : Int} (h : ds.length < sizeLine) (h0 : 0 ≤ i) (h1 : i < 9223372036854775808) : OwnR X (fun x vs H Q => ∃ (l : Addr) (xs : List V) (i : Int) (y : V), x = .ref l ∧ vs = [.int i, y] ∧ H l = some (.lst xs) ∧ xs.length < sizeLine ∧ 0 ≤ i ∧ i < 2 ^ 63 ∧
    Q .non (L2.upd H l (.lst (xs.take i.toNat ++ [y] ++ xs.drop i.toNat)))) (.lst ds) [.int i, d] .non (.lst (ds.take i.toNat ++ [d] ++ ds.drop i.toNat)) := fun G H ad vs Q s rm r k => by
  obtain ⟨us, e, ru⟩ := rm
  obtain ⟨v, w, rfl, rv, rw'⟩ := reps2 r
  cases rv.int_inv
  exact ⟨ad, us, i, w, rfl, rfl, e, by rw [ru.length]; exact h, h0, h1, k _ _ ⟨_, upd_same, ((ru.take _).append (.cons rw' .nil)).append (ru.drop _)⟩ .non⟩
theorem own_extend {ds es : List Da} (h : ds.length + es.length ≤ sizeLine) : OwnR X rExtend (.lst ds) [.lst es] .non (.lst (ds ++ es)) := fun G H ad vs Q s rm r k => by
  obtain ⟨us, e, ru⟩ := rm
  obtain ⟨v, rfl, rv⟩ := reps1 r
  obtain ⟨b, ws, rfl, q, rw'⟩ := rv.lst_inv
  exact ⟨ad, b, us, ws, rfl, rfl, e, s _ _ q, by rw [ru.length, rw'.length]; exact h, k _ _ ⟨_, upd_same, ru.append rw'⟩ .non⟩
theorem reps_eraseIdx {K : PySem.W.Frag} {G : Hp} : ∀ {vs : List V} {ds : List Da} (i : Nat), Reps K G vs ds → Reps K G (vs.eraseIdx i) (ds.eraseIdx i)
  | _, _, _, .nil => .nil
  | _, _, 0, .cons _ b => b
  | _, _, i + 1, .cons a b => .cons a (reps_eraseIdx i b)
theorem reps_dropLast {K : PySem.W.Frag} {G : Hp} : ∀ {vs : List V} {ds : List Da}, Reps K G vs ds → Reps K G vs.dropLast ds.dropLast
  | _, _, .nil => .nil
  | _, _, .cons a .nil => .nil
  | _, _, .cons a (.cons b c) => .cons a (reps_dropLast (.cons b c))
theorem own_popAt {ds : List Da} {d : Da} {i : Int} (h0 : 0 ≤ i) (h1 : i < 9223372036854775808) (hd : ds[i.toNat]? = some d) : OwnR X rPopAt (.lst ds) [.int i] d (.lst (ds.eraseIdx i.toNat)) := fun G H ad vs Q s rm r k => by
  obtain ⟨us, e, ru⟩ := rm
  obtain ⟨v, rfl, rv⟩ := reps1 r
  cases rv.int_inv
  obtain ⟨w, hw, rw'⟩ := ru.get hd
  have hl := (List.getElem?_eq_some_iff.mp hw).1
  exact ⟨ad, us, i, i.toNat, w, rfl, rfl, e, by omega, h1, seqIndex_of h0 (by omega), hw, k _ _ ⟨_, upd_same, reps_eraseIdx _ ru⟩ rw'⟩
theorem own_pop {ds : List Da} {d : Da} (hd : ds[ds.length - 1]? = some d) : OwnR X rPop (.lst ds) [] d (.lst ds.dropLast) := fun G H ad vs Q s rm r k => by
  obtain ⟨us, e, ru⟩ := rm
  cases r
  obtain ⟨w, hw, rw'⟩ := ru.get hd
  exact ⟨ad, us, w, rfl, rfl, e, by rw [ru.length]; exact hw, k _ _ ⟨_, upd_same, reps_dropLast ru⟩ rw'⟩
theorem own_clear {ds : List Da} : OwnR X rClear (.lst ds) [] .non (.lst []) := fun G H ad vs Q s rm r k => by
  obtain ⟨us, e, ru⟩ := rm
  cases r
  exact ⟨ad, us, rfl, rfl, e, k _ _ ⟨_, upd_same, .nil⟩ .non⟩
end
end
end OZ

/-! ### calls with keywords, of methods, of classes -/
namespace OZ
open PySem L2 PySem.Spec PyProof.Rows
def wpK (X : Cx) (kws : List Keyword) : TA := fun σ H Q => ∀ (pos : Pos) pins s, Inv X pins σ H s → wpAny (model X.prog X.w) X.A (evalAll ((backToKw pos (keywordEach kws X.env)).map (·.2))) (AP X pins σ Q) X.xe s
theorem pk_wp {X : Cx} {kws : List Keyword} : PK X kws (wpK X kws) := ⟨fun pos pins s _ _ _ I h => h pos pins s I⟩
theorem wpK.of {X : Cx} {kws : List Keyword} {t : TA} {σ : L2.St} {H : Hp} {Q : List V → Hp → Prop} (p : PK X kws t) (h : t σ H Q) : wpK X kws σ H Q := fun pos pins s I => p.run pos pins s σ H Q I h
def EvK (M : Mode) (X : Cx) (KE : Kx) (kws : List Keyword) (sl : List Sl) (P : List Da → Nat → Prop) (m : Nat) : Prop :=
  ∀ (G0 H0 G H : Hp) (σ : L2.St) (W : WX) (Q : List V → Hp → Prop), Ok M G0 H0 G H m → SOk X.K M H0 G H σ sl → Wis M X KE G H σ W → PostA M X.K G H P Q → wpK X kws σ H Q
section
variable {M : Mode} {X : Cx} {KE : Kx} {a e o : Expr} {es : List Expr} {kws : List Keyword} {sl : List Sl} {P : Da → Nat → Prop} {PA' : List Da → Nat → Prop} {m : Nat} {pos p apos kpos : Pos} {x nm : Str} {nm' : Option Str}
theorem evk_nil (k : PA' [] m) : EvK M X KE [] sl PA' m := fun _ _ G H _ _ _ ok _ _ po => wpK.of pk_nil (po _ _ m G H k ok.here .nil)
theorem evk_cons (h : EvD M X KE e sl (fun d m1 => EvK M X KE kws sl (fun ds m2 => PA' (d :: ds) m2) m1) m) : EvK M X KE (⟨nm', e, kpos⟩ :: kws) sl PA' m := fun G0 H0 G H σ W Q ok so wi po =>
  wpK.of (pk_cons pe_wp pk_wp) (h G0 H0 G H σ W _ ok so wi fun v d m' G' H' p o r => p G0 H0 G' H' σ W _ (ok.trans o) (so.step o) (wi.step o) fun vs ds m2 G2 H2 p2 o2 r2 => po _ _ m2 G2 H2 p2 (o.trans o2) (.cons (r.mono o2.le) r2))
theorem EvK.run (h : EvK M X KE kws sl PA' m) {G0 H0 G H : Hp} {σ : L2.St} {W : WX} (ok : Ok M G0 H0 G H m) (so : SOk X.K M H0 G H σ sl) (wi : Wis M X KE G H σ W) {pins : List (Addr × Obj)} {s : Shared} (I : Inv X pins σ H s) {Q : List Value → Shared → Prop}
    (k : ∀ us s' vs ds m' G' H', PA' ds m' → Ok M G0 H0 G' H' m' → Ok M G H G' H' m' → SOk X.K M H0 G' H' σ sl → Wis M X KE G' H' σ W → Reps X.K G' vs ds → Inv X pins σ H' s' → Vals vs us → Q us s') (pos : Pos) : wpAny (model X.prog X.w) X.A (evalAll ((backToKw pos (keywordEach kws X.env)).map (·.2))) Q X.xe s :=
  thn (h G0 H0 G H σ W (fun vs H' => ∃ ds m' G', PA' ds m' ∧ Ok M G H G' H' m' ∧ Reps X.K G' vs ds) ok so wi (fun v d m' G' H' p o r => ⟨d, m', G', p, o, r⟩) pos pins s I)
    fun u s' ⟨v, H', I', rv, d, m', G', p, o, r⟩ => k u s' v d m' G' H' p (ok.trans o) o (so.step o) (wi.step o) r I' rv

/-- the code of a def, told of data -/
def CodeD (M : Mode) (X : Cx) (KE : Kx) (f : Addr) (ks : List Str) (ds es : List Da) (P : Da → Nat → Prop) (m : Nat) : Prop :=
  ∀ (G H : Hp) (σ : L2.St) (W : WX) (Q : VK) (vs zs : List V), Ok M G H G H m → Wis M X KE G H σ W → Reps X.K G vs ds → Reps X.K G zs es → Post M X.K G H P Q →
    ∀ pins s us ws, Inv X pins σ H s → Vals vs us → Vals zs ws → codeAny (model X.prog X.w) X.A (.call (.ref f) ⟨us, ks.zip ws⟩) (fun r s' => match r with | .ok (.ret v) => EP X pins σ Q v s' | .ok _ => False | .error e => X.xe e s') s
/-- .. of a value that is called -/
def CallK (M : Mode) (X : Cx) (KE : Kx) (f : Value) (ks : List Str) (ds es : List Da) (P : Da → Nat → Prop) (m : Nat) : Prop :=
  ∀ (G H : Hp) (σ : L2.St) (W : WX) (Q : VK) (vs zs : List V), Ok M G H G H m → Wis M X KE G H σ W → Reps X.K G vs ds → Reps X.K G zs es → Post M X.K G H P Q →
    ∀ pins s us ws, Inv X pins σ H s → Vals vs us → Vals zs ws → wpAny (model X.prog X.w) X.A (call f us (ks.zip ws)) (EP X pins σ Q) X.xe s
theorem CodeD.k {f : Addr} {ks : List Str} {ds es : List Da} (c : CodeD M X KE f ks ds es P m) : CallK M X KE (.ref f) ks ds es P m := fun G H σ W Q vs zs ok wi r1 r2 po pins s us ws I e1 e2 => wpAny_call (c G H σ W Q vs zs ok wi r1 r2 po pins s us ws I e1 e2)
theorem CallD.k {f : Value} {ds : List Da} (c : CallD M X KE f ds P m) : CallK M X KE f [] ds [] P m := fun G H σ W Q vs zs ok wi r1 r2 po pins s us ws I e1 e2 => c G H σ W Q vs ok wi r1 po pins s us I e1
theorem CallK.d {f : Value} {ds : List Da} (c : CallK M X KE f [] ds [] P m) : CallD M X KE f ds P m := fun G H σ W Q vs ok wi r1 po pins s us I e1 => c G H σ W Q vs [] ok wi r1 .nil po pins s us [] I e1 .nil
/-- a def, n values and keywords named ks -/
structure FnK (M : Mode) (B : Bd) (k : Nat) (f : Addr) (n : Nat) (ks : List Str) (gD : List Da → List Da → List Da) (F : FD) : Prop where
  ex : ∃ (CX : CXT) (fd : FuncData) (ps : List Str) (g : List Value → List Value → List Value) (gV : List V → List V → List V), FnOk B.P B.w B.K B.mg B.base CX k f fd ps (spD M B.K ps.length F) ∧ KBn B.K fd ps n ks g gV ∧
    (∀ (G : Hp) (vs zs : List V) (ds es : List Da), Reps B.K G vs ds → Reps B.K G zs es → ds.length = n → es.length = ks.length → Reps B.K G (gV vs zs) (gD ds es) ∧ (gD ds es).length = ps.length) ∧ (CX = CX0 ∨ CX = L2.CX B.P B.w)
theorem FnG.k {B : Bd} {k n : Nat} {f : Addr} {F : FD} (c : FnG M B k f n F) : FnK M B k f n [] (fun ds _ => ds) F := by
  obtain ⟨CX, fd, ps, Fo, hb, hc, hn⟩ := c.ex
  subst hn
  refine ⟨CX, fd, ps, fun us _ => us, fun vs _ => vs, Fo, ⟨fun s us ws Kin l1 l2 => ?_, fun a _ => a⟩, fun G vs zs ds es r1 r2 h1 _ => ⟨r1, h1⟩, hc⟩
  have := hb s us Kin (by rw [List.append_nil]; exact l1)
  rw [List.append_nil] at this
  exact this
/-- a pure def within any mode -/
theorem spD_pure {K : PySem.W.Frag} {n : Nat} {F : FD} {vs : List V} {H : Hp} {Q : VK} {E : XK} (h : spD M K n (fun ds KR KE m => F ds (fun d _ => KR d m) (fun C fs _ => KE C fs m) 0) vs H Q E) : spD pureM K n F vs H Q E := by
  obtain ⟨hl, G, m, ds, KR, KE, ok, r, hF, po, px⟩ := h
  exact ⟨hl, G, 0, ds, _, _, ok.toPure, r, hF, fun v d m' G' H' p o rr => po v d m G' H' p (ok.lift o) rr, fun C fs d m' G' H' p o x => px C fs d m G' H' p (ok.lift o) x⟩
def FP (F : FD) : FD := fun ds KR KE m => F ds (fun d _ => KR d m) (fun C fs _ => KE C fs m) 0
theorem FnG.lift {B : Bd} {k n : Nat} {f : Addr} {F : FD} (c : FnG pureM B k f n F) : FnG M B k f n (FP F) := by
  obtain ⟨CX, fd, ps, Fo, hb, hc, hn⟩ := c.ex
  exact ⟨CX, fd, ps, Fo.imp fun _ _ _ _ q => spD_pure q, hb, hc, hn⟩
theorem FnK.lift {B : Bd} {k n : Nat} {f : Addr} {ks : List Str} {gD : List Da → List Da → List Da} {F : FD} (c : FnK pureM B k f n ks gD F) : FnK M B k f n ks gD (FP F) := by
  obtain ⟨CX, fd, ps, g, gV, Fo, hb, hr, hc⟩ := c.ex
  exact ⟨CX, fd, ps, g, gV, Fo.imp fun _ _ _ _ q => spD_pure q, hb, hr, hc⟩
theorem FnK.code {k j n : Nat} {f : Addr} {ks : List Str} {gD : List Da → List Da → List Da} {F : FD} {ds es : List Da} (C : FnK M (bdOf X) k f n ks gD F) (hr : Room j X.A) (h1 : ds.length = n) (h2 : es.length = ks.length) (h : F (gD ds es) P KE m) (hk : k ≤ j) : CodeD M X KE f ks ds es P m := by
  obtain ⟨CX, fd, ps, g, gV, Fo, hb, hrep, hc⟩ := C.ex
  intro G H σ W Q vs zs ok wi r1 r2 po pins s us ws I e1 e2
  obtain ⟨rr, rl⟩ := hrep G vs zs ds es r1 r2 h1 h2
  have l1 : us.length = n := by rw [← e1.length, r1.length, h1]
  have l2 : ws.length = ks.length := by rw [← e2.length, r2.length, h2]
  have sp : spD M X.K ps.length F (gV vs zs) H Q (WE W σ) := ⟨rr.length.trans rl, G, m, _, P, KE, ok, rr, h, po, fun C fs d m' G' H' => wi.ex C fs d m' G' H'⟩
  refine codeAny_mono (Fo.run X.A X.stack s H ⟨us, ks.zip ws⟩ (g us ws) (gV vs zs) Q (WE W σ) (hr.mono hk) I.env0 (hb.to s us ws I.kIn l1 l2) (hb.rel e1 e2) sp) fun r s' hq => ?_
  cases r with
  | error e => exact passes_any wi.tk hc σ pins H s e s' I hq
  | ok fl =>
    cases fl with
    | ret u => exact I.after hq
    | next => exact False.elim hq
    | brk => exact False.elim hq
    | cont => exact False.elim hq
/-- x(e, .., k = v, ..), x a def or class of the text -/
theorem evd_callX {N : List Str} {sc : Scope} {B : Bd} {f : Addr} {ks : List Str} (cx : Ctx X N sc B) (hm : B.mg x = some (.ref f)) (hk : PySem.W.keepIn X.K (.ref f) = true) (h : EvA M X KE (e :: es) sl (fun ds m1 => EvK M X KE kws sl (fun zs m2 => zs.length = ks.length ∧ CallK M X KE (.ref f) ks ds zs P m2) m1) m) (hg : GlS sc x := by with_unfolding_all rfl) (hdb : (x == ("__debug__" : Str)) = false := by with_unfolding_all decide)
    (hall : (backToKw pos (keywordEach kws X.env)).all (·.1.isSome) = true := by with_unfolding_all rfl) (hks : (backToKw pos (keywordEach kws X.env)).filterMap (·.1) = ks := by with_unfolding_all rfl)
    (he : starEach (e :: es) X.env = (false, eval e X.env) :: starEach es X.env := by with_unfolding_all rfl) (hpl : ((backTo pos (starEach (e :: es) X.env)).any (·.1) || (backToKw pos (keywordEach kws X.env)).any (·.1.isNone)) = false := by with_unfolding_all rfl) : EvD M X KE (.Call (.Name x p) (e :: es) kws pos) sl P m := by
  intro G0 H0 G H σ W Q ok so wi po pins s I
  refine wpAny_Call_Name_kw (ld_glob I (cx.gl hg) (cx.mg hm) ?_ hdb)
  refine PySem.W.callWith_KW (h₀ := X.base) I.ok.mod.kin hk hall (h.run ok so wi I (fun us s1 vs ds m1 G1 H1 p1 k1 o1 so1 wi1 r1 I1 rv1 => ?_) pos) hpl he
  refine p1.run k1 so1 wi1 I1 (fun ws s2 zs es' m2 G2 H2 p2 k2 o2 so2 wi2 r2 I2 rv2 => ?_) pos
  rw [hks]
  exact ⟨I2.kIn, p2.2 G2 H2 σ W Q vs zs k2.here wi2 (r1.mono o2.le) r2 (po.step (o1.trans o2)) pins s2 us ws I2 rv1 rv2⟩
theorem evd_callX0 {N : List Str} {sc : Scope} {B : Bd} {f : Addr} {ks : List Str} (cx : Ctx X N sc B) (hm : B.mg x = some (.ref f)) (hk : PySem.W.keepIn X.K (.ref f) = true) (h : EvK M X KE kws sl (fun zs m2 => zs.length = ks.length ∧ CallK M X KE (.ref f) ks [] zs P m2) m) (hg : GlS sc x := by with_unfolding_all rfl) (hdb : (x == ("__debug__" : Str)) = false := by with_unfolding_all decide)
    (hall : (backToKw pos (keywordEach kws X.env)).all (·.1.isSome) = true := by with_unfolding_all rfl) (hks : (backToKw pos (keywordEach kws X.env)).filterMap (·.1) = ks := by with_unfolding_all rfl)
    (hpl : ((backTo pos (starEach [] X.env)).any (·.1) || (backToKw pos (keywordEach kws X.env)).any (·.1.isNone)) = false := by with_unfolding_all rfl) : EvD M X KE (.Call (.Name x p) [] kws pos) sl P m := by
  intro G0 H0 G H σ W Q ok so wi po pins s I
  refine wpAny_Call_Name_kw (ld_glob I (cx.gl hg) (cx.mg hm) ?_ hdb)
  refine PySem.W.callWith_KW0 (h₀ := X.base) I.ok.mod.kin hk hall ?_ hpl
  refine h.run ok so wi I (fun ws s2 zs es' m2 G2 H2 p2 k2 o2 so2 wi2 r2 I2 rv2 => ?_) pos
  rw [hks]
  exact ⟨I2.kIn, p2.2 G2 H2 σ W Q [] zs k2.here wi2 .nil r2 (po.step o2) pins s2 [] ws I2 .nil rv2⟩
/-- a def of the text by its name, with keywords or without -/
structure CallGK (M : Mode) (B : Bd) (k : Nat) (x : Str) (n : Nat) (ks : List Str) (gD : List Da → List Da → List Da) (F : FD) : Prop where
  ex : ∃ f : Addr, B.mg x = some (.ref f) ∧ PySem.W.keepIn B.K (.ref f) = true ∧ FnK M B k f n ks gD F
theorem CallG.k {B : Bd} {k n : Nat} {F : FD} (c : CallG M B k x n F) : CallGK M B k x n [] (fun ds _ => ds) F := by
  obtain ⟨f, h1, h2, c⟩ := c.ex
  exact ⟨f, h1, h2, c.k⟩
theorem CallG.lift {B : Bd} {k n : Nat} {F : FD} (c : CallG pureM B k x n F) : CallG M B k x n (FP F) := by
  obtain ⟨f, h1, h2, c⟩ := c.ex
  exact ⟨f, h1, h2, c.lift⟩
theorem CallGK.lift {B : Bd} {k n : Nat} {ks : List Str} {gD : List Da → List Da → List Da} {F : FD} (c : CallGK pureM B k x n ks gD F) : CallGK M B k x n ks gD (FP F) := by
  obtain ⟨f, h1, h2, c⟩ := c.ex
  exact ⟨f, h1, h2, c.lift⟩
theorem evk_imp {P' : List Da → Nat → Prop} (h : EvK M X KE kws sl PA' m) (k : ∀ d m', PA' d m' → P' d m') : EvK M X KE kws sl P' m :=
  fun G0 H0 G H σ W Q ok so wi po => h G0 H0 G H σ W Q ok so wi fun v d m' G' H' p o r => po v d m' G' H' (k d m' p) o r
theorem evd_callK {N : List Str} {sc : Scope} {B : Bd} {k j n : Nat} {ks : List Str} {gD : List Da → List Da → List Da} {F : FD} (cx : Ctx X N sc B) (C : CallGK M B k x n ks gD F) (hr : Room j X.A) (h : EvA M X KE (e :: es) sl (fun ds m1 => EvK M X KE kws sl (fun zs m2 => zs.length = ks.length ∧ ds.length = n ∧ F (gD ds zs) P KE m2) m1) m) (hk : k ≤ j := by with_unfolding_all decide) (hg : GlS sc x := by with_unfolding_all rfl) (hdb : (x == ("__debug__" : Str)) = false := by with_unfolding_all decide)
    (hall : (backToKw pos (keywordEach kws X.env)).all (·.1.isSome) = true := by with_unfolding_all rfl) (hks : (backToKw pos (keywordEach kws X.env)).filterMap (·.1) = ks := by with_unfolding_all rfl)
    (he : starEach (e :: es) X.env = (false, eval e X.env) :: starEach es X.env := by with_unfolding_all rfl) (hpl : ((backTo pos (starEach (e :: es) X.env)).any (·.1) || (backToKw pos (keywordEach kws X.env)).any (·.1.isNone)) = false := by with_unfolding_all rfl) : EvD M X KE (.Call (.Name x p) (e :: es) kws pos) sl P m := by
  have eb := cx.b
  subst eb
  obtain ⟨f, hm, hkp, c⟩ := C.ex
  exact evd_callX (ks := ks) cx hm hkp (eva_imp h fun ds m1 q => evk_imp q fun zs m2 z => ⟨z.1, (c.code hr z.2.1 z.1 z.2.2 hk).k⟩) hg hdb hall hks he hpl
theorem evd_callK0 {N : List Str} {sc : Scope} {B : Bd} {k j : Nat} {ks : List Str} {gD : List Da → List Da → List Da} {F : FD} (cx : Ctx X N sc B) (C : CallGK M B k x 0 ks gD F) (hr : Room j X.A) (h : EvK M X KE kws sl (fun zs m2 => zs.length = ks.length ∧ F (gD [] zs) P KE m2) m) (hk : k ≤ j := by with_unfolding_all decide) (hg : GlS sc x := by with_unfolding_all rfl) (hdb : (x == ("__debug__" : Str)) = false := by with_unfolding_all decide)
    (hall : (backToKw pos (keywordEach kws X.env)).all (·.1.isSome) = true := by with_unfolding_all rfl) (hks : (backToKw pos (keywordEach kws X.env)).filterMap (·.1) = ks := by with_unfolding_all rfl)
    (hpl : ((backTo pos (starEach [] X.env)).any (·.1) || (backToKw pos (keywordEach kws X.env)).any (·.1.isNone)) = false := by with_unfolding_all rfl) : EvD M X KE (.Call (.Name x p) [] kws pos) sl P m := by
  have eb := cx.b
  subst eb
  obtain ⟨f, hm, hkp, c⟩ := C.ex
  exact evd_callX0 (ks := ks) cx hm hkp (evk_imp h fun zs m2 z => ⟨z.1, (c.code hr rfl z.1 z.2 hk).k⟩) hg hdb hall hks hpl
end
end OZ

/-! ### own classes: fields, methods, properties, making -/
namespace OZ
open PySem L2 PySem.Spec PyProof.Rows
def putDa (f : Str) (v : Da) : List (Str × Da) → List (Str × Da)
  | [] => [(f, v)]
  | (g, x) :: r => if g = f then (g, v) :: r else (g, x) :: putDa f v r
theorem RepF.put {K : PySem.W.Frag} {G : Hp} {f : Str} {v : V} {d : Da} (r : Rep K G v d) : ∀ {vs : List (Str × V)} {fs : List (Str × Da)}, RepF K G vs fs → RepF K G (putF f v vs) (putDa f d fs)
  | _, _, .nil => .cons r .nil
  | _, _, .cons (k := k) a b => by
    unfold putF putDa
    by_cases h : k = f
    · rw [if_pos h, if_pos h]; exact .cons r b
    · rw [if_neg h, if_neg h]; exact .cons a (RepF.put r b)
theorem RepF.length {K : PySem.W.Frag} {G : Hp} : ∀ {vs : List (Str × V)} {fs : List (Str × Da)}, RepF K G vs fs → vs.length = fs.length
  | _, _, .nil => rfl
  | _, _, .cons _ b => by simp [RepF.length b]
section
variable {M : Mode} {X : Cx} {KE : Kx} {a e o : Expr} {es : List Expr} {kws : List Keyword} {sl : List Sl} {P : Da → Nat → Prop} {m j k n : Nat} {pos p apos : Pos} {f mt : Str} {C : Addr} {ks : List Str} {gD : List Da → List Da → List Da} {F : FD} {N : List Str} {sc : Scope} {B : Bd}
/-- o.f -/
theorem evd_fld (h : EvD M X KE e sl (fun d m1 => ∃ C fs v, d = .obj C fs ∧ Cls X.K C ∧ NoAttr X.K C f ∧ fs.lookup f = some v ∧ P v m1) m) (hb : attributeBase e f X.env (eval e X.env) = eval e X.env := by with_unfolding_all rfl) : EvD M X KE (.Attribute e f pos) sl P m := fun G0 H0 G H σ W Q ok so wi po =>
  wpE.of (pe_fld pe_wp hb) (h G0 H0 G H σ W _ ok so wi fun v d m' G' H' q o r => by
    obtain ⟨C, fs, w, rfl, c, na, l, q⟩ := q
    obtain ⟨ad, dx, vs, rfl, ea, rf⟩ := r.obj_inv
    obtain ⟨u, hu, ru⟩ := rf.look l
    exact ⟨ad, C, dx, vs, u, rfl, o.sub _ _ ea, c, na, hu, po u w m' G' H' q o ru⟩)
/-- .. of a property -/
structure PropG (M : Mode) (B : Bd) (k : Nat) (C : Addr) (f : Str) (F : FD) : Prop where
  ex : ∃ (p g : Addr) (fd : FuncData) (ps : List Str), Cls B.K C ∧ PropOf B.K C f p g ∧ FnOk B.P B.w B.K B.mg B.base CX0 k g fd ps (spD M B.K 1 F) ∧ Binds B.K fd ps []
theorem evd_prop (cx : Ctx X N sc B) (c : PropG M B k C f F) (hr : Room j X.A) (h : EvD M X KE e sl (fun d m1 => ∃ fs, d = .obj C fs ∧ F [.obj C fs] P K0 m1) m) (hk : k + 1 ≤ j := by with_unfolding_all decide) (hb : attributeBase e f X.env (eval e X.env) = eval e X.env := by with_unfolding_all rfl) : EvD M X KE (.Attribute e f pos) sl P m := by
  have eb := cx.b
  subst eb
  obtain ⟨p, g, fd, ps, cl, po', Fo, bn⟩ := c.ex
  exact fun G0 H0 G H σ W Q ok so wi po =>
    wpE.of (pe_prop (E := fun _ _ _ => False) pe_wp cl po' Fo (hr.mono hk) bn .nil pass0 hb) (h G0 H0 G H σ W _ ok so wi fun v d m' G' H' q o r => by
      obtain ⟨fs, rfl, q⟩ := q
      have r0 := r
      obtain ⟨ad, dx, vs, rfl, ea, rf⟩ := r.obj_inv
      exact ⟨ad, dx, vs, rfl, o.sub _ _ ea, rfl, G', m', _, P, K0, o.here, .cons r0 .nil, q, po.step o, fun _ _ _ _ _ _ z => z.elim⟩)
/-- o.m(e, ..) -/
structure MethG (M : Mode) (B : Bd) (k : Nat) (C : Addr) (mt : Str) (n : Nat) (ks : List Str) (gD : List Da → List Da → List Da) (F : FD) : Prop where
  ex : ∃ g : Addr, Cls B.K C ∧ Meth B.K C mt g ∧ FnK M B k g (n + 1) ks gD F
theorem MethG.lift (c : MethG pureM B k C mt n ks gD F) : MethG M B k C mt n ks gD (FP F) := by
  obtain ⟨g, c1, c2, c3⟩ := c.ex
  exact ⟨g, c1, c2, c3.lift⟩
theorem evd_meth {pl : Sem Bool} (cx : Ctx X N sc B) (c : MethG M B k C mt n ks gD F) (hr : Room j X.A) (h : EvD M X KE o sl (fun d m0 => ∃ fs, d = .obj C fs ∧ fs.lookup mt = none ∧ EvA M X KE (e :: es) sl (fun ds m1 => EvK M X KE kws sl (fun zs m2 => zs.length = ks.length ∧ ds.length = n ∧ F (gD (.obj C fs :: ds) zs) P KE m2) m1) m0) m) (hk : k ≤ j := by with_unfolding_all decide)
    (hall : (backToKw pos (keywordEach kws X.env)).all (·.1.isSome) = true := by with_unfolding_all rfl) (hks : (backToKw pos (keywordEach kws X.env)).filterMap (·.1) = ks := by with_unfolding_all rfl)
    (he : starEach (e :: es) X.env = (false, eval e X.env) :: starEach es X.env := by with_unfolding_all rfl) (hpl : ((backTo pos (starEach (e :: es) X.env)).any (·.1) || (backToKw pos (keywordEach kws X.env)).any (·.1.isNone)) = false := by with_unfolding_all rfl)
    (ht : eval (.Call (.Attribute o mt apos) (e :: es) kws pos) X.env = (do
      let ov ← eval o X.env
      standAt apos.atName
      let (f, first) ← holding [ov] (getMethod ov mt pl)
      callWith pos f first (backTo pos (starEach (e :: es) X.env)) (backToKw pos (keywordEach kws X.env))) := by with_unfolding_all rfl) : EvD M X KE (.Call (.Attribute o mt apos) (e :: es) kws pos) sl P m := by
  have eb := cx.b
  subst eb
  obtain ⟨g, cl, me, fk⟩ := c.ex
  intro G0 H0 G H σ W Q ok so wi po pins s I
  refine PySem.W.methodCall_KW (pl := pl) (h.run ok so wi I fun u s1 v d m1 G1 H1 p1 k1 o1 so1 wi1 r1 I1 rv1 => ?_) ht
  obtain ⟨fs, rfl, l, p1⟩ := p1
  have r0 := r1
  obtain ⟨ad, dx, vs0, rfl, ea, rf⟩ := r1.obj_inv
  cases rv1
  refine getmeth_ok I1 (k1.sub _ _ ea) cl me (rf.lookN l) ?_
  refine PySem.W.callWith_KW (first := [.ref ad]) (h₀ := X.base) I.ok.mod.kin me.kp hall (p1.run k1 so1 wi1 I1 (fun us s2 vs ds m2 G2 H2 p2 k2 o2 so2 wi2 r2 I2 rv2 => ?_) pos) hpl he
  refine p2.run k2 so2 wi2 I2 (fun ws s3 zs es' m3 G3 H3 p3 k3 o3 so3 wi3 r3 I3 rv3 => ?_) pos
  rw [hks]
  refine ⟨I3.kIn, ?_⟩
  exact (fk.code hr (by simp [p3.2.1]) p3.1 p3.2.2 hk).k G3 H3 σ W Q (.ref ad :: vs) zs k3.here wi3 (.cons ((r0.mono o2.le).mono o3.le) (r2.mono o3.le)) r3 (po.step ((o1.trans o2).trans o3)) pins s3 (.ref ad :: us) ws I3 (.cons rfl rv2) rv3
theorem evd_meth0 {pl : Sem Bool} (cx : Ctx X N sc B) (c : MethG M B k C mt 0 ks gD F) (hr : Room j X.A) (h : EvD M X KE o sl (fun d m0 => ∃ fs, d = .obj C fs ∧ fs.lookup mt = none ∧ EvK M X KE kws sl (fun zs m2 => zs.length = ks.length ∧ F (gD [.obj C fs] zs) P KE m2) m0) m) (hk : k ≤ j := by with_unfolding_all decide)
    (hall : (backToKw pos (keywordEach kws X.env)).all (·.1.isSome) = true := by with_unfolding_all rfl) (hks : (backToKw pos (keywordEach kws X.env)).filterMap (·.1) = ks := by with_unfolding_all rfl)
    (hpl : ((backTo pos (starEach [] X.env)).any (·.1) || (backToKw pos (keywordEach kws X.env)).any (·.1.isNone)) = false := by with_unfolding_all rfl)
    (ht : eval (.Call (.Attribute o mt apos) [] kws pos) X.env = (do
      let ov ← eval o X.env
      standAt apos.atName
      let (f, first) ← holding [ov] (getMethod ov mt pl)
      callWith pos f first (backTo pos (starEach [] X.env)) (backToKw pos (keywordEach kws X.env))) := by with_unfolding_all rfl) : EvD M X KE (.Call (.Attribute o mt apos) [] kws pos) sl P m := by
  have eb := cx.b
  subst eb
  obtain ⟨g, cl, me, fk⟩ := c.ex
  intro G0 H0 G H σ W Q ok so wi po pins s I
  refine PySem.W.methodCall_KW (pl := pl) (h.run ok so wi I fun u s1 v d m1 G1 H1 p1 k1 o1 so1 wi1 r1 I1 rv1 => ?_) ht
  obtain ⟨fs, rfl, l, p1⟩ := p1
  have r0 := r1
  obtain ⟨ad, dx, vs0, rfl, ea, rf⟩ := r1.obj_inv
  cases rv1
  refine getmeth_ok I1 (k1.sub _ _ ea) cl me (rf.lookN l) ?_
  refine PySem.W.callWith_KW0 (first := [.ref ad]) (h₀ := X.base) I.ok.mod.kin me.kp hall ?_ hpl
  refine p1.run k1 so1 wi1 I1 (fun ws s3 zs es' m3 G3 H3 p3 k3 o3 so3 wi3 r3 I3 rv3 => ?_) pos
  rw [hks]
  refine ⟨I3.kIn, ?_⟩
  exact (fk.code hr rfl p3.1 p3.2 hk).k G3 H3 σ W Q [.ref ad] zs k3.here wi3 (.cons (r0.mono o3.le) .nil) r3 (po.step (o1.trans o3)) pins s3 [.ref ad] ws I3 (.cons rfl .nil) rv3
/-- C.m(e, ..), m a classmethod -/
structure ClsG (M : Mode) (B : Bd) (k : Nat) (C : Addr) (mt : Str) (n : Nat) (ks : List Str) (gD : List Da → List Da → List Da) (F : FD) : Prop where
  ex : ∃ (p g : Addr) (mc : Value), ClX.CRead B.K C mc ∧ ClX.CMet B.K C mc mt p g ∧ FnK M B k g (n + 1) ks gD F
theorem ClsG.lift (c : ClsG pureM B k C mt n ks gD F) : ClsG M B k C mt n ks gD (FP F) := by
  obtain ⟨p, g, mc, c1, c2, c3⟩ := c.ex
  exact ⟨p, g, mc, c1, c2, c3.lift⟩
theorem evd_cmeth {pl : Sem Bool} (cx : Ctx X N sc B) (c : ClsG M B k C mt n ks gD F) (hr : Room j X.A) (h : EvD M X KE o sl (fun d m0 => d = .ref C ∧ EvA M X KE (e :: es) sl (fun ds m1 => EvK M X KE kws sl (fun zs m2 => zs.length = ks.length ∧ ds.length = n ∧ F (gD (.ref C :: ds) zs) P KE m2) m1) m0) m) (hk : k ≤ j := by with_unfolding_all decide)
    (hall : (backToKw pos (keywordEach kws X.env)).all (·.1.isSome) = true := by with_unfolding_all rfl) (hks : (backToKw pos (keywordEach kws X.env)).filterMap (·.1) = ks := by with_unfolding_all rfl)
    (he : starEach (e :: es) X.env = (false, eval e X.env) :: starEach es X.env := by with_unfolding_all rfl) (hpl : ((backTo pos (starEach (e :: es) X.env)).any (·.1) || (backToKw pos (keywordEach kws X.env)).any (·.1.isNone)) = false := by with_unfolding_all rfl)
    (ht : eval (.Call (.Attribute o mt apos) (e :: es) kws pos) X.env = (do
      let ov ← eval o X.env
      standAt apos.atName
      let (f, first) ← holding [ov] (getMethod ov mt pl)
      callWith pos f first (backTo pos (starEach (e :: es) X.env)) (backToKw pos (keywordEach kws X.env))) := by with_unfolding_all rfl) : EvD M X KE (.Call (.Attribute o mt apos) (e :: es) kws pos) sl P m := by
  have eb := cx.b
  subst eb
  obtain ⟨pp, g, mc, cr, cm, fk⟩ := c.ex
  intro G0 H0 G H σ W Q ok so wi po pins s I
  refine PySem.W.methodCall_KW (pl := pl) (h.run ok so wi I fun u s1 v d m1 G1 H1 p1 k1 o1 so1 wi1 r1 I1 rv1 => ?_) ht
  obtain ⟨rfl, p1⟩ := p1
  cases r1.ref_inv
  cases rv1
  refine ClX.getmethcm_ok I1 cr cm fun s2 I2 => ?_
  refine PySem.W.callWith_of hpl (PySem.W.keeps_M (K := X.K) (self := .ref C) cm.fi) (evalArgs_kw2 hall (p1.run k1 so1 wi1 I2 (fun us s3 vs ds m2 G2 H2 p2 k2 o2 so2 wi2 r2 I3 rv2 => ?_) pos) he)
  refine p2.run k2 so2 wi2 I3 (fun ws s4 zs es' m3 G3 H3 p3 k3 o3 so3 wi3 r3 I4 rv3 => ?_) pos
  rw [hks]
  refine ⟨⟨ClX.pin_at I4, I4.kIn⟩, ?_⟩
  refine wpAny_call (PySem.W.method_call (ClX.pin_at I4) ?_)
  refine codeAny_mono ((fk.code hr (by simp [p3.2.1]) p3.1 p3.2.2 hk) G3 H3 σ W Q (.ref C :: vs) zs k3.here wi3 (.cons (.ref C) (r2.mono o3.le)) r3 (po.step ((o1.trans o2).trans o3)) _ s4 (.ref C :: us) ws I4 (.cons rfl rv2) rv3) fun r s5 z => ?_
  match r, z with
  | .ok (.ret u), z => exact ClX.unpinE z
  | .ok .next, z => exact z.elim
  | .ok .brk, z => exact z.elim
  | .ok .cont, z => exact z.elim
  | .error _, z => exact z
theorem evd_cmeth0 {pl : Sem Bool} (cx : Ctx X N sc B) (c : ClsG M B k C mt 0 ks gD F) (hr : Room j X.A) (h : EvD M X KE o sl (fun d m0 => d = .ref C ∧ EvK M X KE kws sl (fun zs m2 => zs.length = ks.length ∧ F (gD [.ref C] zs) P KE m2) m0) m) (hk : k ≤ j := by with_unfolding_all decide)
    (hall : (backToKw pos (keywordEach kws X.env)).all (·.1.isSome) = true := by with_unfolding_all rfl) (hks : (backToKw pos (keywordEach kws X.env)).filterMap (·.1) = ks := by with_unfolding_all rfl)
    (hpl : ((backTo pos (starEach [] X.env)).any (·.1) || (backToKw pos (keywordEach kws X.env)).any (·.1.isNone)) = false := by with_unfolding_all rfl)
    (ht : eval (.Call (.Attribute o mt apos) [] kws pos) X.env = (do
      let ov ← eval o X.env
      standAt apos.atName
      let (f, first) ← holding [ov] (getMethod ov mt pl)
      callWith pos f first (backTo pos (starEach [] X.env)) (backToKw pos (keywordEach kws X.env))) := by with_unfolding_all rfl) : EvD M X KE (.Call (.Attribute o mt apos) [] kws pos) sl P m := by
  have eb := cx.b
  subst eb
  obtain ⟨pp, g, mc, cr, cm, fk⟩ := c.ex
  intro G0 H0 G H σ W Q ok so wi po pins s I
  refine PySem.W.methodCall_KW (pl := pl) (h.run ok so wi I fun u s1 v d m1 G1 H1 p1 k1 o1 so1 wi1 r1 I1 rv1 => ?_) ht
  obtain ⟨rfl, p1⟩ := p1
  cases r1.ref_inv
  cases rv1
  refine ClX.getmethcm_ok I1 cr cm fun s2 I2 => ?_
  refine PySem.W.callWith_of hpl (PySem.W.keeps_M (K := X.K) (self := .ref C) cm.fi) (evalArgs_kw2_nil hall ?_)
  refine p1.run k1 so1 wi1 I2 (fun ws s4 zs es' m3 G3 H3 p3 k3 o3 so3 wi3 r3 I4 rv3 => ?_) pos
  rw [hks]
  refine ⟨⟨ClX.pin_at I4, I4.kIn⟩, ?_⟩
  refine wpAny_call (PySem.W.method_call (ClX.pin_at I4) ?_)
  refine codeAny_mono ((fk.code hr rfl p3.1 p3.2 hk) G3 H3 σ W Q [.ref C] zs k3.here wi3 (.cons (.ref C) .nil) r3 (po.step (o1.trans o3)) _ s4 [.ref C] ws I4 (.cons rfl .nil) rv3) fun r s5 z => ?_
  match r, z with
  | .ok (.ret u), z => exact ClX.unpinE z
  | .ok .next, z => exact z.elim
  | .ok .brk, z => exact z.elim
  | .ok .cont, z => exact z.elim
  | .error _, z => exact z
/-- f(e, ..), f an instance -/
structure InstG (M : Mode) (B : Bd) (k : Nat) (C : Addr) (n : Nat) (F : FD) : Prop where
  ex : ∃ g : Addr, StX.CallO B.K C g ∧ FnK M B k g (n + 1) [] (fun ds _ => ds) F
theorem InstG.lift (c : InstG pureM B k C n F) : InstG M B k C n (FP F) := by
  obtain ⟨g, c1, c2⟩ := c.ex
  exact ⟨g, c1, c2.lift⟩
theorem evd_inst (cx : Ctx X N sc B) (c : InstG M B k C n F) (hr : Room j X.A) (h : EvD M X KE o sl (fun d m0 => ∃ fs, d = .obj C fs ∧ EvA M X KE (e :: es) sl (fun ds m1 => ds.length = n ∧ F (.obj C fs :: ds) P KE m1) m0) m) (hk : k ≤ j := by with_unfolding_all decide)
    (ht : eval (.Call o (e :: es) [] pos) X.env = (do callWith pos (← eval o X.env) [] (backTo pos (starEach (e :: es) X.env)) (backToKw pos (keywordEach [] X.env))) := by with_unfolding_all rfl)
    (he : starEach (e :: es) X.env = (false, eval e X.env) :: starEach es X.env := by with_unfolding_all rfl) (hpl : (backTo pos (starEach es X.env)).any (·.1) = false := by with_unfolding_all rfl) : EvD M X KE (.Call o (e :: es) [] pos) sl P m := by
  have eb := cx.b
  subst eb
  obtain ⟨g, co, fk⟩ := c.ex
  intro G0 H0 G H σ W Q ok so wi po pins s I
  refine Call_ (h.run ok so wi I fun u s1 v d m1 G1 H1 p1 k1 o1 so1 wi1 r1 I1 rv1 => ?_) ht
  obtain ⟨fs, rfl, p1⟩ := p1
  have r0 := r1
  obtain ⟨ad, dx, vs0, rfl, ea, rf⟩ := r1.obj_inv
  cases rv1
  refine StX.callO_with (p1.run k1 so1 wi1 I1 (fun us s2 vs ds m2 G2 H2 p2 k2 o2 so2 wi2 r2 I2 rv2 => ?_) pos) he hpl
  obtain ⟨ox, od, J, hd⟩ := StX.insC_at (C := C) I2 (.inr ⟨dx, vs0, k2.sub _ _ (o2.le _ _ ea)⟩)
  refine ⟨⟨C, ox, od, J, hd⟩, wpAny_call (PySem.W.kco_code I2.kIn J hd co.at_ co.fn co.fi ?_)⟩
  exact (fk.code (ks := []) (es := []) hr (by simp [p2.1]) rfl p2.2 hk) G2 H2 σ W Q (.ref ad :: vs) [] k2.here wi2 (.cons (r0.mono o2.le) r2) .nil (po.step (o1.trans o2)) pins s2 (.ref ad :: us) [] I2 (.cons rfl rv2) .nil
/-- x(e, ..), x a local that holds a class -/
theorem evd_callL {x : Str} {i : Nat} (cx : Ctx X N sc B) (hx : EnvAt N sl x i (.v (.ref C))) (hk : PySem.W.keepIn X.K (.ref C) = true) (h : EvA M X KE (e :: es) sl (fun ds m1 => CallD M X KE (.ref C) ds P m1) m)
    (hv : Vis sc x := by with_unfolding_all first | exact Or.inl rfl | exact Or.inr (Or.inl rfl) | exact Or.inr (Or.inr rfl)) (hd : (x == ("__debug__" : Str)) = false := by with_unfolding_all decide) (hcd : (x == ("__classdict__" : Str)) = false := by with_unfolding_all decide)
    (ht : eval (.Call (.Name x p) (e :: es) [] pos) X.env = (do callWith pos (← eval (.Name x p) X.env) [] (backTo pos (starEach (e :: es) X.env)) (backToKw pos (keywordEach [] X.env))) := by with_unfolding_all rfl)
    (he : starEach (e :: es) X.env = (false, eval e X.env) :: starEach es X.env := by with_unfolding_all rfl) (hpl : (backTo pos (starEach es X.env)).any (·.1) = false := by with_unfolding_all rfl) : EvD M X KE (.Call (.Name x p) (e :: es) [] pos) sl P m := by
  intro G0 H0 G H σ W Q ok so wi po pins s I
  have hn : EvD M X KE (.Name x p) sl (fun d m0 => d = .ref C ∧ m0 = m) m := evd_name cx hx ⟨rfl, rfl⟩ hv hd hcd
  refine Call_ (hn.run ok so wi I fun u s1 v d m1 G1 H1 p1 k1 o1 so1 wi1 r1 I1 rv1 => ?_) ht
  obtain ⟨rfl, rfl⟩ := p1
  cases r1.ref_inv
  cases rv1
  refine PySem.W.callWith_K (h₀ := X.base) I.ok.mod.kin hk (h.run k1 so1 wi1 I1 (fun us s1 vs ds m2 G2 H2 p2 k2 o2 so2 wi2 r2 I2 rv2 => ?_) pos) he hpl
  exact ⟨I2.kIn, p2 G2 H2 σ W Q vs k2.here wi2 r2 (po.step (o1.trans o2)) pins s1 us I2 rv2⟩
end
end OZ

/-! ### making an instance; errors; try -/
namespace OZ
open PySem L2 PySem.Spec PyProof.Rows
theorem sok_startB {K : PySem.W.Frag} {M : Mode} {Hb G H : Hp} {N : List Str} {vs : List V} {ds : List Da} (r : Reps K G vs ds) : SOk K M Hb G H (L2.start N vs) (startD N ds) := by
  have e : ∀ n : Nat, Paired (RelSl K M Hb G H) (List.replicate n none) (List.replicate n .un) := fun n => by
    induction n with
    | zero => exact .nil
    | succ n ih => rw [List.replicate_succ, List.replicate_succ]; exact .cons trivial ih
  have f : ∀ {vs : List V} {ds : List Da} {xs : L2.St} {ys : List Sl}, Reps K G vs ds → Paired (RelSl K M Hb G H) xs ys → Paired (RelSl K M Hb G H) (vs.map some ++ xs) (ds.map Sl.v ++ ys) := by
    intro vs ds xs ys r q
    induction vs generalizing ds with
    | nil => cases r; exact q
    | cons v vs ih => cases r with | cons a b => exact .cons ⟨v, rfl, a⟩ (ih b)
  refine ⟨by unfold L2.start startD; rw [← r.length]; exact f r (e _), fun i j a ⟨q, d, hd⟩ => ?_⟩
  have hm : Sl.mm q d ∈ startD N ds := List.mem_of_getElem? hd
  unfold startD at hm
  rcases List.mem_append.mp hm with h | h
  · obtain ⟨_, _, h⟩ := List.mem_map.mp h; cases h
  · cases (List.mem_replicate.mp h).2
theorem start_noM {N : List Str} {ds : List Da} {j : Nat} : ¬ Mt (startD N ds) j := fun ⟨q, d, hd⟩ => by
  have hm : Sl.mm q d ∈ startD N ds := List.mem_of_getElem? hd
  unfold startD at hm
  rcases List.mem_append.mp hm with h | h
  · obtain ⟨_, _, h⟩ := List.mem_map.mp h; cases h
  · cases (List.mem_replicate.mp h).2
abbrev FI := List Da → (List (Str × Da) → Nat → Prop) → Kx → Nat → Prop
def spI (M : Mode) (K : PySem.W.Frag) (C : Addr) (n : Nat) (F : FI) : Sp := fun vs H Q E => vs.length = n + 1 ∧ ∃ (x dx : Addr) (rest : List V) (H0 G : Hp) (m : Nat) (ds : List Da) (KR : List (Str × Da) → Nat → Prop) (KE : Kx),
  vs = .ref x :: rest ∧ H0 x = none ∧ H0 dx = none ∧ dx ≠ x ∧ H = L2.upd (L2.upd H0 dx (.own x)) x (.ins C dx []) ∧ Ok M G H0 G H0 m ∧ Reps K G rest ds ∧ F ds KR KE m ∧
  (∀ fs m' G' H', KR fs m' → Ok M G H0 G' H' m' → New K M H0 G' H' x (.obj C fs) → Q .non H') ∧
  (∀ C' fs d m' G' H', KE C' fs m' → Ok M G H0 G' H' m' → XRep K G' H' d fs → E (.ref C') d H')
/-- a class of the text that is called -/
structure MakeG (M : Mode) (B : Bd) (k : Nat) (C : Addr) (n : Nat) (ks : List Str) (gD : List Da → List Da → List Da) (F : FI) : Prop where
  ex : ∃ (f : Addr) (CX : CXT) (fd : FuncData) (ps : List Str) (g : List Value → List Value → List Value) (gV : List V → List V → List V) (r : Nat), Mk B.K C f ∧ FnOk B.P B.w B.K B.mg B.base CX k f fd ps (spI M B.K C r F) ∧ KBn B.K fd ps (n + 1) ks g gV ∧
    (∀ (G : Hp) (x : Addr) (vs zs : List V) (ds es : List Da), Reps B.K G vs ds → Reps B.K G zs es → ds.length = n → es.length = ks.length → ∃ rest, gV (.ref x :: vs) zs = .ref x :: rest ∧ Reps B.K G rest (gD ds es) ∧ (gD ds es).length = r) ∧ (CX = CX0 ∨ CX = L2.CX B.P B.w)
section
variable {M : Mode} {X : Cx} {KE : Kx} {KS : Ks} {a e o : Expr} {es : List Expr} {kws : List Keyword} {sl : List Sl} {D : Kn} {P : Da → Nat → Prop} {m j k n : Nat} {pos p p2 apos spos : Pos} {f mt x : Str} {C : Addr} {ks : List Str} {gD : List Da → List Da → List Da} {N : List Str} {sc : Scope} {B : Bd}
def CallKN (M : Mode) (X : Cx) (KE : Kx) (f : Value) (ks : List Str) (ds es : List Da) (P : Da → Nat → Prop) (m : Nat) : Prop :=
  ∀ (G H : Hp) (σ : L2.St) (W : WX) (Q : VK) (vs zs : List V), Ok M G H G H m → Wis M X KE G H σ W → Reps X.K G vs ds → Reps X.K G zs es → (∀ ad d m' G' H', P d m' → Ok M G H G' H' m' → New X.K M H G' H' ad d → Q (.ref ad) H') →
    ∀ pins s us ws, Inv X pins σ H s → Vals vs us → Vals zs ws → wpAny (model X.prog X.w) X.A (call f us (ks.zip ws)) (EP X pins σ Q) X.xe s
theorem CallKN.toK {f : Value} {ds es : List Da} (c : CallKN M X KE f ks ds es P m) : CallK M X KE f ks ds es P m := fun G H σ W Q vs zs ok wi r1 r2 po pins s us ws I e1 e2 =>
  thn (c G H σ W (fun v H' => ∃ ad d m' G', v = .ref ad ∧ P d m' ∧ Ok M G H G' H' m' ∧ New X.K M H G' H' ad d) vs zs ok wi r1 r2 (fun ad d m' G' H' q o n => ⟨ad, d, m', G', rfl, q, o, n⟩) pins s us ws I e1 e2) fun v s1 ⟨x, H1, I1, rv, ad, d, m', G', e, p, o, n⟩ => by
    obtain ⟨G2, H2, I2, o2, rep⟩ := n.pubI o I1
    subst e
    exact ⟨_, H2, I2, rv, po _ d m' G2 H2 p o2 rep⟩
theorem MakeG.call {F : FI} {ds es : List Da} (c : MakeG M (bdOf X) k C n ks gD F) (hr : Room j X.A) (h1 : ds.length = n) (h2 : es.length = ks.length) (h : F (gD ds es) (fun fs m1 => P (.obj C fs) m1) KE m) (hk : k + 1 ≤ j) : CallKN M X KE (.ref C) ks ds es P m := by
  obtain ⟨f, CX, fd, ps, g, gV, r, Mk', Fo, hb, hrep, hc⟩ := c.ex
  intro G H σ W Q vs zs ok wi r1 r2 po pins s us ws I e1 e2
  have l2 : ws.length = ks.length := by rw [← e2.length, r2.length, h2]
  have l1 : us.length = n := by rw [← e1.length, r1.length, h1]
  have n1 : (Value.ref (s.heap.objs.size + 1) :: us).length = n + 1 := by rw [List.length_cons, l1]
  have hx : H (s.heap.objs.size + 1) = none := I.hok.fresh (Nat.le_succ _)
  have hdx : H s.heap.objs.size = none := I.hok.fresh (Nat.le_refl _)
  have ne : s.heap.objs.size ≠ s.heap.objs.size + 1 := Nat.ne_of_lt (Nat.lt_succ_self _)
  have I2 := Inv.made (C := C) I
  have rr : Vals (V.ref (s.heap.objs.size + 1) :: vs) (Value.ref (s.heap.objs.size + 1) :: us) := .cons rfl e1
  obtain ⟨rest, ge, gr, gl⟩ := hrep G (s.heap.objs.size + 1) vs zs ds es r1 r2 h1 h2
  have rv := hb.rel rr e2
  have sp : spI M X.K C r F (gV (.ref (s.heap.objs.size + 1) :: vs) zs) (L2.upd (L2.upd H s.heap.objs.size (.own (s.heap.objs.size + 1))) (s.heap.objs.size + 1) (.ins C s.heap.objs.size [])) (fun v H2 => v = .non ∧ Q (.ref (s.heap.objs.size + 1)) H2) (WE W σ) := by
    refine ⟨by rw [ge, List.length_cons, gr.length, gl], _, _, rest, H, G, m, _, _, KE, ge, hx, hdx, ne, rfl, ok, gr, h, fun fs m' G' H' q o nw => ⟨rfl, po _ _ m' G' H' q o nw⟩, fun C' fs d m' G' H' => wi.ex C' fs d m' G' H'⟩
  refine wpAny_call (make_map (f := f) I.kIn Mk'.makes Mk'.init (beq_iff_eq.mp Mk'.fn) (codeAny_mono (Fo.run _ X.stack _ _ ⟨Value.ref (s.heap.objs.size + 1) :: us, ks.zip ws⟩ (g (Value.ref (s.heap.objs.size + 1) :: us) ws) _ _ (WE W σ) ((hr.mono hk).make C us (ks.zip ws))
    (I2.env0.make C us (ks.zip ws)) (hb.to _ (Value.ref (s.heap.objs.size + 1) :: us) ws I2.kIn n1 l2) rv sp) fun r s' hq' => ?_))
  cases r with
  | error e => exact passes_any wi.tk hc σ pins _ _ e s' I2 hq'
  | ok fl =>
    cases fl with
    | ret u =>
      obtain ⟨v, H', I3, rv, ev, q3⟩ := I2.after hq'
      subst ev
      exact ⟨rv, ⟨V.ref (s.heap.objs.size + 1), H', I3, rfl, q3⟩⟩
    | next => exact False.elim hq'
    | brk => exact False.elim hq'
    | cont => exact False.elim hq'
/-- self.f = e -/
theorem st1_setF {i : Nat} {q : Option Addr} {fs : List (Str × Da)} {p' : Pos} (cx : Ctx X N sc B) (hx : EnvAt N sl x i (.mm q (.obj C fs))) (cl : Cls X.K C) (na : NoAttr X.K C f) (h : EvD M X (KS sl) e sl (fun d m1 => fs.length < 1000 ∧ ∃ i' sl', EnvSet N sl x i' (.mm q (.obj C (putDa f d fs))) sl' ∧ D.nx sl' m1) m)
    (hv : Vis sc x := by with_unfolding_all first | exact Or.inl rfl | exact Or.inr (Or.inl rfl) | exact Or.inr (Or.inr rfl)) (hd : (x == ("__debug__" : Str)) = false := by with_unfolding_all decide) (hcd : (x == ("__classdict__" : Str)) = false := by with_unfolding_all decide)
    (hs : swapsWith e (some (.Attribute (.Name x p) f p')) pos.line X.env = pure false := by with_unfolding_all rfl) : St1 M X KS (.Assign [.Attribute (.Name x p) f p'] e pos) sl D m := fun G0 H0 G H σ W E ok so wi po => by
  refine wpS.of (ps_fld (pe_var (by rw [cx.n]; exact hx.name) (cx.vis hv) hd hcd) pe_wp hs) ?_
  refine h G0 H0 G H σ W _ ok so (wi.at ok so) fun v d m1 G1 H1 ⟨l, i', sl', es, nx⟩ o1 r => ?_
  have ok1 := ok.trans o1
  have so1 := so.step o1
  obtain ⟨o', e1, ad, rfl, zz, g, h0, nxx, dx, vs, eh, rf⟩ := paired_get so1.rel hx.slot
  refine ⟨.ref ad, e1, ad, C, dx, vs, rfl, eh, cl, na, by rw [rf.length]; exact l, ?_⟩
  obtain ⟨k1, k2⟩ := own_step (o := .ins C dx (putF f v vs)) ok1 so1 hx.slot e1 (d1 := .obj C (putDa f d fs)) ⟨dx, _, upd_same, rf.put r⟩
  exact po.nx σ _ m1 G1 _ nx k1 (envset_eq (cx.n ▸ cx.nd) hx.name es ▸ k2)
end
section
variable {B : Bd} {M : Mode} {x qual : Str} {st : Stmt} {f C : Addr} {fd : FuncData} {N ps : List Str} {k n : Nat} {F : FI} {ks : List Str} {gD : List Da → List Da → List Da}
theorem fnI_ok (Fn : Fun B.K x qual st f fd) (S : FnScope N ps (defScope st)) (hn : n + 1 = ps.length)
    (h : ∀ (X : Cx) (ds : List Da) (KR : List (Str × Da) → Nat → Prop) (KE : Kx) (m : Nat) (a : Addr), (∃ cdv A outer s H E, X = cxOf (L2.CX B.P B.w) B.P B.w B.K B.mg B.base N qual (defScope st) f cdv A outer s H E) → Ctx X N (defScope st) B → Room k X.A → ds.length = n → F ds KR KE m →
      StD M X (fun _ => KE) (defBody st) ((startD N (.ref a :: ds)).set 0 (.mm (some a) (.obj C []))) { nx := fun sl' m' => ∃ fs, sl'[0]? = some (.mm (some a) (.obj C fs)) ∧ KR fs m', rt := fun _ _ => False } m) : FnOk B.P B.w B.K B.mg B.base (L2.CX B.P B.w) (k + 1) f fd ps (spI M B.K C n F) := by
  refine Fn.okX S (fun vs H Q E q => q.1.trans hn) (fun cdv A outer s H vs Q E hr q => ?_)
  obtain ⟨hl, a, dx, rest, H0, G, m, ds, KR, KE, rfl, hx, hdx, ne, rfl, ok, r, hF, po, px⟩ := q
  refine ⟨_, pss_wp, ?_⟩
  have ok1 : Ok M G H0 G (L2.upd H0 dx (.own a)) m := ok.allocM hdx
  have hx1 : (L2.upd H0 dx (.own a)) a = none := by rw [upd_ne (Ne.symm ne)]; exact hx
  have ok2 := ok1.trans (ok1.allocM (o := .ins C dx []) hx1)
  have nX0 : ¬ M.X H0 a := fun z => by obtain ⟨u, e⟩ := M.there _ _ _ ok.inv z; rw [hx] at e; cases e
  have nX1 : ¬ M.X (L2.upd H0 dx (.own a)) a := fun z => by obtain ⟨u, e⟩ := M.there _ _ _ ok1.inv z; rw [hx1] at e; cases e
  have gA : G a = none := by
    cases e : G a with
    | none => rfl
    | some u => rw [ok.sub _ _ e] at hx; cases hx
  have nw : New B.K M H0 G (L2.upd (L2.upd H0 dx (.own a)) a (.ins C dx [])) a (.obj C []) := ⟨gA, .inl hx, fun z => nX1 (X_keep ok1 nX1 _ z), dx, [], upd_same, .nil⟩
  have so0 : SOk B.K M H0 G (L2.upd (L2.upd H0 dx (.own a)) a (.ins C dx [])) (L2.start N (.ref a :: rest)) (startD N (.ref a :: ds)) := sok_startB (.cons (.ref a) r)
  have so1 : SOk B.K M H0 G (L2.upd (L2.upd H0 dx (.own a)) a (.ins C dx [])) (L2.start N (.ref a :: rest)) ((startD N (.ref a :: ds)).set 0 (.mm (some a) (.obj C []))) := by
    have hs0 : (L2.start N (.ref a :: rest)).set 0 (some (.ref a)) = L2.start N (.ref a :: rest) := rfl
    refine ⟨?_, fun i j b mi mj ei ej => ?_⟩
    · have := paired_set (F := RelSl B.K M H0 G (L2.upd (L2.upd H0 dx (.own a)) a (.ins C dx []))) (x := some (.ref a)) (y := .mm (some a) (.obj C [])) ⟨a, rfl, fun y e => Option.some.inj e, nw.g, nw.h0, nw.nx, nw.r⟩ 0 so0.rel
      rw [hs0] at this
      exact this
    · have w : ∀ i, Mt ((startD N (.ref a :: ds)).set 0 (.mm (some a) (.obj C []))) i → i = 0 := fun i ⟨q, d, hd⟩ => by
        by_cases z : 0 = i
        · exact z.symm
        · rw [List.getElem?_set_ne z] at hd; exact absurd ⟨q, d, hd⟩ start_noM
      rw [w i mi, w j mj]
  refine h (cxOf (L2.CX B.P B.w) B.P B.w B.K B.mg B.base N qual (defScope st) f cdv A outer s _ E) ds KR KE m a ⟨cdv, A, outer, s, _, E, rfl⟩ ⟨rfl, rfl, S.nd, rfl⟩ hr (by have := r.length; simp at hl; omega) hF G H0 G _ (L2.start N (.ref a :: rest)) (fun cls d _ H => E cls d H) _ ok2 so1 ⟨takes_of rfl rfl rfl rfl, fun C' fs d σ sl m' G' H' q o _ x => px C' fs d m' G' H' q o x⟩ ⟨?_, ?_, ?_, ?_, ?_⟩
  · rintro σ sl m' G' H' ⟨fs, e, q⟩ o so
    obtain ⟨u, e1, b, rfl, zz, g, h0, nx, rm⟩ := paired_get so.rel e
    cases zz a rfl
    exact po fs m' G' H' q o ⟨g, h0, nx, rm⟩
  · exact fun _ _ _ _ _ z => z.elim
  · exact fun _ _ _ _ _ z => z.elim
  · exact fun _ _ _ _ _ z => z.elim
  · exact fun _ _ _ _ _ z => z.elim
end
end OZ

namespace OS
open PySem L2
/-! ### an own error with one field -/
/-- what the head knows of the class of an error at C, its __init__ at fI -/
structure ErrC (K : PySem.W.Frag) (mg : Str → Option Value) (x : Str) (C fI : Addr) (fld : Str) : Prop where
  mg : mg x = some (.ref C)
  ox : OexC K C
  iC : PySem.W.findIn K (.ref C) "__init__" = some (some (.ref fI))
  tI : PySem.W.typeIn K (.ref fI) = some (.type "function")
  no : PySem.W.findIn K (.ref C) fld = some none
  xf : XfC K C
  te : PySem.W.exmOne K (.ref C) (.ref C) = some true
/-- its __init__(self, y) -/
def spE (K : PySem.W.Frag) (C : Addr) (fld : Str) : Sp := fun vs H Q _ => ∃ (a : Addr) (y : V), vs = [.ref a, y] ∧ H a = some (exo a C none) ∧
  ∀ dx, H dx = none → dx ≠ a → Q .non (L2.upd (L2.upd H dx (exd dx [(fld, y)])) a (exo a C (some dx)))
/-- a made error's end: the heap has got its dict and nothing else -/
theorem made_heap {H : Hp} {a d : Addr} {fs : List (Str × V)} {o1 o2 : HO} (na : H a = none) (hd : d ≠ a) : ∀ b, (L2.upd (L2.del (L2.upd (L2.upd (L2.upd H a o1) d (exd d fs)) a o2) a) d (.xd fs)) b = (L2.upd H d (.xd fs)) b := by
  intro b
  by_cases h1 : b = d
  · rw [h1, upd_same, upd_same]
  · rw [upd_ne h1, upd_ne h1]
    by_cases h2 : b = a
    · rw [h2, del_same, na]
    · rw [del_ne h2, upd_ne h2, upd_ne h1, upd_ne h2]
end OS

/-! ### own errors, try -/
namespace OZ
open PySem L2 PySem.Spec PyProof.Rows
/-- an own error of one field -/
structure ErrG (B : Bd) (k : Nat) (x : Str) (C : Addr) (fld : Str) : Prop where
  ex : ∃ (fI : Addr) (fd : FuncData) (ps : List Str), OS.ErrC B.K B.mg x C fI fld ∧ FnOk B.P B.w B.K B.mg B.base CX0 k fI fd ps (OS.spE B.K C fld) ∧ Binds B.K fd ps []
theorem errInit {P : Program} {w : World} {K : PySem.W.Frag} {mg : Str → Option Value} {base : Heap} {x fld qual : Str} {st : Stmt} {f fI C : Addr} {fd : FuncData} {p1 p2 p3 p4 : Pos} (F : Fun K "__init__" qual st f fd) (S : FnScope ["self", fld] ["self", fld] (defScope st))
    (hb : defBody st = [.Assign [.Attribute (.Name "self" p1) fld p2] (.Name fld p3) p4]) (hd : (fld == ("__debug__" : Str)) = false) (hcd : (fld == ("__classdict__" : Str)) = false) (T : OS.ErrC K mg x C fI fld) : FnOk P w K mg base CX0 1 f fd ["self", fld] (OS.spE K C fld) := by
  refine F.ok S (fun vs H Q E h => ?_) (fun cdv A outer s H vs Q E hr h => ?_)
  · obtain ⟨a, y, rfl, _⟩ := h
    rfl
  · obtain ⟨a, y, rfl, ha, k⟩ := h
    rw [hb]
    refine ⟨_, pss_one (ps_ost (pe_var (i := 0) rfl ((S.par "self" (List.Mem.head _)).elim (fun z => .inl z) (fun z => .inr (.inl z)))) (pe_var (i := 1) rfl ((S.par fld (List.Mem.tail _ (List.Mem.head _))).elim (fun z => .inl z) (fun z => .inr (.inl z))) hd hcd)), ?_⟩
    exact ⟨_, rfl, _, rfl, a, C, rfl, T.ox, T.no, .inl ⟨ha, fun dx n ne => k dx n ne⟩⟩
/-- the suite that handles the error at a -/
structure SuX (X : Cx) (C a dd : Addr) : Prop where
  ex : ∃ (X0 : Cx) (oe : Obj) (pn : List (Addr × Obj)), X = X0.suite a ((a, oe) :: pn) ∧ Zc (.ref C) (some dd) oe ∧ ∃ vs, oe.data = .fields vs
section
variable {M : Mode} {X : Cx} {KE : Kx} {KS : Ks} {a e o : Expr} {es : List Expr} {sl : List Sl} {D : Kn} {P : Da → Nat → Prop} {m j k n : Nat} {pos p p2 apos spos : Pos} {fld x : Str} {C : Addr} {N : List Str} {sc : Scope} {B : Bd}
/-- raise x(e) -/
theorem st1_raise {rpos : Pos} (cx : Ctx X N sc B) (c : ErrG B k x C fld) (hr : Room j X.A) (h : EvD M X (KS sl) e sl (fun d m1 => KS sl C [(fld, d)] m1) m) (hk : k + 1 ≤ j := by with_unfolding_all decide) (hg : GlS sc x := by with_unfolding_all rfl) (hc : X.calm = true := by with_unfolding_all rfl)
    (he : starEach (e :: []) X.env = (false, eval e X.env) :: starEach [] X.env := by with_unfolding_all rfl) (hdb : (x == ("__debug__" : Str)) = false := by with_unfolding_all decide) (hpl : (backTo pos (starEach [] X.env)).any (·.1) = false := by with_unfolding_all rfl) : St1 M X KS (.Raise (some (.Call (.Name x p) [e] [] pos)) none rpos) sl D m := by
  have eb := cx.b
  subst eb
  obtain ⟨fI, fd, ps, U, Fo, hb⟩ := c.ex
  intro G0 H0 G H σ W E ok so wi po
  refine wpS.of (ps_raise hc (wi.at ok so).tk (pmk_oex U.ox U.iC U.tI Fo (hr.mono hk) hb .nil pass0 (cx.gl hg) U.mg (pa_cons pe_wp pa_nil he) hdb he hpl)) ?_
  refine h G0 H0 G H σ W _ ok so (wi.at ok so) fun v d m1 G1 H1 q o1 r => ⟨by show 1 ≤ 1000; decide, fun ad na => ⟨ad, v, rfl, upd_same, fun dx ndx ne => ⟨rfl, dx, [(fld, v)], ?_, ?_, ?_, ?_⟩⟩⟩
  · rw [upd_same]
  · rw [upd_ne ne, upd_same]
  · rw [upd_ne ne] at ndx; exact ndx
  · have hdx : H1 dx = none := by rw [upd_ne ne] at ndx; exact ndx
    have e : (L2.upd (L2.del (L2.upd (L2.upd (L2.upd H1 ad (exo ad C none)) dx (exd dx [(fld, v)])) ad (exo ad C (some dx))) ad) dx (.xd [(fld, v)])) = L2.upd H1 dx (.xd [(fld, v)]) := funext (OS.made_heap na ne)
    rw [e]
    have al := o1.here.alloc (o := .xd [(fld, v)]) hdx
    exact (wi.at ok so).ex C [(fld, d)] (some dx) m1 _ _ q (o1.trans al) (.inr ⟨dx, [(fld, v)], rfl, upd_same, .cons (r.mono al.le) .nil⟩)
/-- e.f of the error that is handled -/
theorem evd_xf {a dd : Addr} {n : Str} (su : SuX X C a dd) (T : XfC X.K C) (hno : PySem.W.findIn X.K (.ref C) n = some none) (h : EvD M X KE e sl (fun d m1 => ∃ fs v, d = .exc a dd fs ∧ fs.lookup n = some v ∧ P v m1) m) (hb : attributeBase e n X.env (eval e X.env) = eval e X.env := by with_unfolding_all rfl) : EvD M X KE (.Attribute e n pos) sl P m := by
  obtain ⟨X0, oe, pn, rfl, hz, hf⟩ := su.ex
  exact fun G0 H0 G H σ W Q ok so wi po => wpE.of (pe_xf (X := X0) T hno hz hf pe_wp hb) (h G0 H0 G H σ W _ ok so wi fun v d m' G' H' q o r => by
    obtain ⟨fs, w, rfl, l, q⟩ := q
    cases r with
    | exc g rf =>
      obtain ⟨u, hu, ru⟩ := rf.look l
      exact ⟨rfl, rfl, dd, _, u, rfl, o.sub _ _ g, hu, po u w m' G' H' q o ru⟩)
/-- the wish of a try for what its body raises -/
def TryK (M : Mode) (X : Cx) (KS : Ks) (C : Addr) (i : Nat) (suite : List Stmt) (D : Kn) : Ks := fun sl C' fs m' =>
  ∃ b, PySem.W.exmOne X.K (.ref C') (.ref C) = some b ∧
    (b = true → (∀ a oe dd pn, SuX (X.suite a ((a, oe) :: pn)) C' a dd → StD M (X.suite a ((a, oe) :: pn)) (fun _ => K0) suite (sl.set i (.v (.exc a dd fs))) { D with nx := fun sl' m' => D.nx (sl'.set i .un) m', bk := fun sl' m' => D.bk (sl'.set i .un) m', ct := fun sl' m' => D.ct (sl'.set i .un) m' } m') ∧
      (fs = [] → ∀ a oe pn, StD M (X.suite a ((a, oe) :: pn)) (fun _ => K0) suite (sl.set i .un) { D with nx := fun sl' m' => D.nx (sl'.set i .un) m', bk := fun sl' m' => D.bk (sl'.set i .un) m', ct := fun sl' m' => D.ct (sl'.set i .un) m' } m')) ∧
    (b = false → KS sl C' fs m')
theorem ctx_suite (cx : Ctx X N sc B) (a : Addr) (pn : List (Addr × Obj)) : Ctx (X.suite a pn) N sc B := ⟨cx.n, cx.s, cx.nd, cx.b⟩
theorem ctx_tr (cx : Ctx X N sc B) (pn : List (Addr × Obj)) (xe : Value → Shared → Prop) : Ctx (X.tr pn xe) N sc B := ⟨cx.n, cx.s, cx.nd, cx.b⟩
/-- try: .. except x as n: .. -/
theorem st1_try {i : Nat} {nm : Str} {np hpos : Pos} {body suite : List Stmt} {b₀ : Stmt} (cx : Ctx X N sc B) (hm : B.mg x = some (.ref C)) (hi : IdxAt N nm i)
    (h : ∀ pn xe, PassesOwn (model X.prog X.w) X.A X.env xe → StD M (X.tr pn xe) (TryK M X KS C i (b₀ :: suite) D) body sl D m) (hl : sc.names.lookup nm = some .local := by with_unfolding_all rfl)
    (hs : X.stack = X.env :: X.outer := by with_unfolding_all rfl) (hf : X.env.frame = some X.env.locals := by with_unfolding_all rfl) (hg : GlS sc x := by with_unfolding_all rfl) (hdb : (x == ("__debug__" : Str)) = false := by with_unfolding_all decide) :
    St1 M X KS (.Try body [.ExceptHandler (some (.Name x np)) (some nm) (b₀ :: suite) hpos] [] [] pos) sl D m := by
  intro G0 H0 G H σ W E ok so wi po
  have hln : X.env.kindOf nm = some .local := by unfold Env.kindOf; rw [cx.s]; exact hl
  refine wpS.of (ps_try_as (i := i) (Wout := W) (tb := fun W' E σ H => ∀ pn xe, Takes (X.tr pn xe) W' → PassesOwn (model X.prog X.w) X.A X.env xe → wpSs (X.tr pn xe) body E σ H)
    (ts := fun a cls d E σ H => ∀ oe pn, Zc cls d oe → (∃ vs, oe.data = .fields vs) → wpSs (X.suite a ((a, oe) :: pn)) (b₀ :: suite) E σ H)
    hs hf cx.nd (by rw [cx.n]; exact hi.at) hln ⟨cx.gl hg, hdb, .inl (cx.mg hm)⟩ wi.tk (fun W' pn xe tk ps => ⟨fun pins s σ H E I q => q pn xe tk ps pins s I⟩) (fun a oe cls d pn hz hf => ⟨fun pins s σ H E I q => q oe pn hz hf pins s I⟩)) ?_
  intro pn xe tk ps
  refine h pn xe ps G0 H0 G H σ _ E ok so ⟨tk, ?_⟩ po
  rintro C' fs d σ' sl' m' G' H' ⟨b, hb, h1, h2⟩ ok' so' xr
  refine ⟨b, hb, fun hb1 a ha => ?_, fun hb2 => wi.ex C' fs d σ' sl' m' G' H' (h2 hb2) ok' so' xr⟩
  obtain ⟨hA, hB⟩ := h1 hb1
  have post : PostS M X.K G0 H0 { D with nx := fun sl' m' => D.nx (sl'.set i .un) m', bk := fun sl' m' => D.bk (sl'.set i .un) m', ct := fun sl' m' => D.ct (sl'.set i .un) m' } { nx := fun σ' H' => E.nx (σ'.set i none) H', rt := E.rt, bk := fun σ' H' => E.bk (σ'.set i none) H', ct := fun σ' H' => E.ct (σ'.set i none) H' } :=
    ⟨fun σ sl m G H q ok so => po.nx _ _ m G H q ok (so.setN i), po.rt, fun σ sl m G H q ok so => po.bk _ _ m G H q ok (so.setN i), fun σ sl m G H q ok so => po.ct _ _ m G H q ok (so.setN i), po.rn⟩
  intro oe pn2 hz hfl
  rcases xr with ⟨e1, e2⟩ | ⟨dd, vs, e1, g, rf⟩
  · exact hB e1 a oe pn2 G0 H0 G' H' _ (fun _ _ _ _ => False) _ ok' (so'.setN i) ⟨takes0, fun _ _ _ _ _ _ _ _ z => z.elim⟩ post
  · subst e1
    exact hA a oe dd pn2 ⟨X, oe, pn2, rfl, hz, hfl⟩ G0 H0 G' H' _ (fun _ _ _ _ => False) _ ok' (so'.setV i (.exc g rf)) ⟨takes0, fun _ _ _ _ _ _ _ _ z => z.elim⟩ post
end
end OZ

/-! ### star targets -/
namespace OZ
open PySem L2 PySem.Spec PyProof.Rows
section
variable {prog : Program} {w : World} {A : Around} {E : Value → Shared → Prop} {s : Shared}
theorem unp_star {l : Addr} {items : Array Value} {i : Nat} {Q : List Value → Shared → Prop} (hl : IsTup s.heap l items ∨ s.heap.IsList l items) (hh : A.handled = none) (hi : i ≤ items.size) (hz : items.size ≤ sizeLine)
    (h : ∀ (h' : Heap) (tk : Nat), (∀ b o, s.heap.get? b = some o → h'.get? b = some o) → Q (items.toList.take i ++ [.ref h'.objs.size]) { s with heap := h'.push { cls := .type "list", data := .seq (items.toList.drop i).toArray }, toks := tk }) : wpAny (model prog w) A (unpackItems (.ref l) (i + 1) (some i)) Q E s := by
  have hlt : l ≠ s.heap.objs.size := by
    rcases hl with hl | hl <;> (obtain ⟨o, ho, _⟩ := hl; exact Nat.ne_of_lt (Heap.lt_size ho))
  have fin : ∀ h₁ : Heap, Heap.ExtBut s.heap.objs.size s.heap h₁ → wpAny (model prog w) A (collect (.ref s.heap.objs.size)) (fun rest s2 => rest = items.toList.drop i ∧ ∃ h₂ tk, (∀ b o, s.heap.get? b = some o → h₂.get? b = some o) ∧ s2 = { s with heap := h₂, toks := tk }) E { s with heap := h₁ } →
      wpAny (model prog w) A ((do
        let first := items.toList.take i
        if first.length < i then
          rule "unpack.star.too-few-before"
          raiseError "ValueError" s!"not enough values to unpack (expected at least {i + 1 - 1}, got {first.length})"
        let rest ← holding first (collect (.ref s.heap.objs.size))
        let after := i + 1 - 1 - i
        if rest.length < after then
          rule "unpack.star.too-few"
          raiseError "ValueError" s!"not enough values to unpack (expected at least {i + 1 - 1}, got {i + rest.length})"
        let mid := rest.length - after
        return first ++ [← newList (rest.take mid)] ++ rest.drop mid) : Sem (List Value)) Q E { s with heap := h₁ } := by
    intro h₁ hx hc
    have hfl : (items.toList.take i).length = i := by rw [List.length_take, Array.length_toList]; omega
    dsimp only
    rw [if_neg (show ¬ ((items.toList.take i).length < i) by omega)]
    refine wpAny_bind (wpAny_holding (wpAny_mono hc (fun rest s2 hr => ?_) fun _ _ z => z))
    obtain ⟨rfl, h₂, tk, hk, rfl⟩ := hr
    have ha : i + 1 - 1 - i = 0 := by omega
    rw [ha, if_neg (Nat.not_lt_zero _), Nat.sub_zero, List.take_length, List.drop_length]
    refine wpAny_bind (wpAny_newList ?_ (by rw [List.length_drop, Array.length_toList]; omega))
    refine wpAny_pure ?_
    rw [List.append_nil]
    exact h h₂ tk hk
  unfold unpackItems
  refine wpAny_bind ?_
  unfold notIterableAtAll
  rcases hl with hl | hl
  · refine wpAny_bind (wpAny_specialOf hl.typeIs slot_tuple_iter.lookup (wpAny_pure ?_))
    simp only [Bool.false_eq_true, if_false]
    refine wpAny_bind (wpAny_holding (iter_tuple hl ?_))
    refine wpAny_bind (wpAny_holding (draw_tuple hlt i 0 _ _ ⟨_, Heap.get?_push_size _ rfl, rfl, rfl⟩ (hl.push _) (by omega) fun h₁ hit₁ hs₁ => ?_))
    rw [Nat.zero_add] at hit₁
    rw [List.drop_zero]
    have hl₁ : IsTup h₁ l items := (hl.push _).extBut hs₁.extBut hlt
    have hit₁' := hit₁
    obtain ⟨oi, hoi, _⟩ := hit₁'
    have hl₁' := hl₁
    obtain ⟨ol, hol, _⟩ := hl₁'
    refine fin h₁ (fun b o hb e => hs₁.extBut b o hb (Heap.get?_push_of_some _ e)) ?_
    exact PySem.W.kun_collect (s := { s with heap := h₁ }) (T := "tuple_iterator") (.inr (.inr (.inr rfl))) (Walks.tuple (A := A.in1) hh s.heap.objs.size l hlt items) (fun j u st => st.1.typeIs) (k := i) hi ⟨hit₁, hl₁⟩ (Heap.lt_size hoi) (Heap.lt_size hol)
      (fun h₂ tk hk => ⟨rfl, h₂, tk, fun b o e => hk b o (Nat.ne_of_lt (Heap.lt_size e)) (hs₁.extBut b o (Nat.ne_of_lt (Heap.lt_size e)) (Heap.get?_push_of_some _ e)), rfl⟩) hz
  · refine wpAny_bind (wpAny_specialOf hl.typeIs slot_list_iter.lookup (wpAny_pure ?_))
    simp only [Bool.false_eq_true, if_false]
    refine wpAny_bind (wpAny_holding (wpAny_pyIter_list hl ?_))
    refine wpAny_bind (wpAny_holding (PySem.W.kun_draw hlt i 0 _ _ ⟨_, Heap.get?_push_size _ rfl, rfl, rfl⟩ (hl.push _) (by omega) fun h₁ hit₁ hs₁ => ?_))
    rw [Nat.zero_add] at hit₁
    rw [List.drop_zero]
    have hl₁ : h₁.IsList l items := (hl.push _).extBut hs₁.extBut hlt
    have hit₁' := hit₁
    obtain ⟨oi, hoi, _⟩ := hit₁'
    have hl₁' := hl₁
    obtain ⟨ol, hol, _⟩ := hl₁'
    refine fin h₁ (fun b o hb e => hs₁.extBut b o hb (Heap.get?_push_of_some _ e)) ?_
    exact PySem.W.kun_collect (s := { s with heap := h₁ }) (T := "list_iterator") (.inr (.inr (.inl rfl))) (Walks.list (A := A.in1) hh s.heap.objs.size l hlt items) (fun j u st => st.1.typeIs) (k := i) hi ⟨hit₁, hl₁⟩ (Heap.lt_size hoi) (Heap.lt_size hol)
      (fun h₂ tk hk => ⟨rfl, h₂, tk, fun b o e => hk b o (Nat.ne_of_lt (Heap.lt_size e)) (hs₁.extBut b o (Nat.ne_of_lt (Heap.lt_size e)) (Heap.get?_push_of_some _ e)), rfl⟩) hz
end
section
variable {X : Cx} {pos p : Pos}
theorem pgs_star {e : Expr} {g : TG} (h1 : PG X e g) : PGs X [.Starred e p] (gCons g gNil) := by
  refine ⟨fun pins s σ H vs us Q I r h => ?_⟩
  obtain ⟨v, vr, rfl, h⟩ := h
  cases r with
  | cons r rr =>
    show wpAny _ _ (assignInOrder [assign e X.env] _) _ _ _
    refine assignInOrder_cons (thn (h1.run pins s σ H _ _ _ I r h) fun _ s1 ⟨σ1, H1, I1, q1⟩ => ?_)
    obtain ⟨rfl, q1⟩ := q1
    cases rr
    exact assignInOrder_nil ⟨σ1, H1, I1, q1⟩
/-- (a, .., *z) = a tuple or a list -/
def gStar (K : PySem.W.Frag) (n : Nat) (t : TGs) : TG := fun v σ H Q => ∃ a xs, v = .ref a ∧ (SqT K H a xs ∨ SqL K H a xs) ∧ n ≤ xs.length ∧ ∀ q, H q = none → t (xs.take n ++ [.ref q]) σ (L2.upd H q (.lst (xs.drop n))) Q
theorem pg_star {es : List Expr} {k n : Nat} {t : TGs} (hc : X.calm = true) (h : PGs X es t) (hn : (assignEach es X.env).length = n + 1 := by with_unfolding_all rfl) (hst : (assignEach es X.env).findIdx? (·.1) = some n := by with_unfolding_all rfl) : PG X (.Tuple es k pos) (gStar X.K n t) := by
  refine ⟨fun pins s σ H v u Q I r hw => ?_⟩
  obtain ⟨a, xs, rfl, hq, hl, hw⟩ := hw
  cases r
  obtain ⟨its, rv, ht, hz⟩ : ∃ its, Vals xs its ∧ (IsTup s.heap a its.toArray ∨ s.heap.IsList a its.toArray) ∧ xs.length ≤ sizeLine := by
    rcases hq with hq | hq
    · obtain ⟨its, rv, ht, hz⟩ := I.tuple hq; exact ⟨its, rv, .inl ht, hz⟩
    · obtain ⟨its, rv, ht, hz⟩ := I.list hq; exact ⟨its, rv, .inr ht.isList, hz⟩
  have hlen := rv.length
  rw [assign_Tuple]
  refine wpAny_bind (wpAny_standAt ?_)
  unfold unpack
  rw [hn, hst]
  refine wpAny_bind (wpAny_holding (unp_star ht (I.ok.hd hc) (by simp; omega) (by simp; omega) fun h' tk hk => ?_))
  have I1 : Inv X pins σ H { s with heap := h', toks := tk } := I.kept (t' := tk) hk
  have hf : H h'.objs.size = none := I1.hok.fresh (Nat.le_refl _)
  have I2 : Inv X pins σ (L2.upd H h'.objs.size (.lst (xs.drop n))) { s with heap := h'.push { cls := .type "list", data := .seq (its.drop n).toArray }, toks := tk } := by
    refine I1.laid (t' := tk) (fun b u e => Heap.get?_push_of_some _ e) (Nat.le_refl _) ?_
    exact ⟨by rw [List.length_drop]; omega, its.drop n, 0, rv.drop n, Heap.get?_push_size _ rfl⟩
  refine h.run pins _ σ _ (xs.take n ++ [.ref h'.objs.size]) _ Q I2 ?_ (hw _ hf)
  have : its.toArray.toList = its := by simp
  rw [this]
  exact (rv.take n).append (.cons rfl .nil)
end
section
variable {M : Mode} {X : Cx} {KS : Ks} {e : Expr} {sl : List Sl} {D : Kn} {m : Nat} {x y z : Str} {N : List Str} {sc : Scope} {B : Bd} {kk : Nat} {p1 p2 p3 p4 tpos pos : Pos}
/-- x, *z = e -/
theorem st1_star1 {i1 i2 : Nat} (cx : Ctx X N sc B) (hx : IdxAt N x i1) (hz : IdxAt N z i2)
    (h : EvD M X (KS sl) e sl (fun d m1 => ∃ d1 ds, (d = .tup (d1 :: ds) ∨ d = .lst (d1 :: ds)) ∧ ∃ j1 sl1, EnvSet N sl x j1 (.v d1) sl1 ∧ ∃ j2 sl2, EnvSet N sl1 z j2 (.v (.lst ds)) sl2 ∧ D.nx sl2 m1) m)
    (lx : sc.names.lookup x = some .local := by with_unfolding_all rfl) (lz : sc.names.lookup z = some .local := by with_unfolding_all rfl) (hc : X.calm = true := by with_unfolding_all rfl)
    (hs : swapsWithSole [.Tuple [.Name x p1, .Starred (.Name z p2) p3] kk tpos] e pos.line X.env = pure false := by with_unfolding_all rfl) (hw : swappedStores [.Tuple [.Name x p1, .Starred (.Name z p2) p3] kk tpos] e X.env = pure none := by with_unfolding_all rfl) :
    St1 M X KS (.Assign [.Tuple [.Name x p1, .Starred (.Name z p2) p3] kk tpos] e pos) sl D m := by
  intro G0 H0 G H σ W E ok so wi po
  refine wpS.of (ps_asg pe_wp (pg_star (n := 1) hc (pgs_cons (pg_name cx.nd (by rw [cx.n]; exact hx.at) (.inl (by rw [cx.s]; exact lx)) (.inr (by rw [cx.s]; exact lx))) (pgs_star (pg_name cx.nd (by rw [cx.n]; exact hz.at) (.inl (by rw [cx.s]; exact lz)) (.inr (by rw [cx.s]; exact lz)))))) hs hw) ?_
  refine h G0 H0 G H σ W _ ok so (wi.at ok so) fun v d m1 G1 H1 ⟨d1, ds, hd, j1, sl1, e1, j2, sl2, e2, nx⟩ o1 r => ?_
  have ok1 := ok.trans o1
  obtain ⟨a, vs, rfl, sq, rs⟩ : ∃ a vs, v = .ref a ∧ (SqT X.K H1 a vs ∨ SqL X.K H1 a vs) ∧ Reps X.K G1 vs (d1 :: ds) := by
    rcases hd with rfl | rfl
    · obtain ⟨a, vs, rfl, q, t⟩ := r.tup_inv; exact ⟨a, vs, rfl, .inl (sqT_same o1.sub q), t⟩
    · obtain ⟨a, vs, rfl, q, t⟩ := r.lst_inv; exact ⟨a, vs, rfl, .inr (sq_l (o1.sub _ _ q)), t⟩
  cases rs with
  | @cons v1 _ vs1 _ r1 rt =>
    refine ⟨a, _, rfl, sq, by simp, fun q hq => ⟨_, _, rfl, _, _, rfl, rfl, ?_⟩⟩
    have al := ok1.here.alloc (o := .lst vs1) hq
    refine po.nx _ _ m1 _ _ nx (ok1.trans al) ?_
    rw [envset_at (cx.n ▸ cx.nd) hz e2, envset_at (cx.n ▸ cx.nd) hx e1]
    exact (((so.step o1).step al).setV i1 (r1.mono al.le)).setV i2 (.lst upd_same (rt.mono al.le))
/-- x, y, *z = e -/
theorem st1_star2 {i1 i2 i3 : Nat} (cx : Ctx X N sc B) (hx : IdxAt N x i1) (hy : IdxAt N y i2) (hz : IdxAt N z i3)
    (h : EvD M X (KS sl) e sl (fun d m1 => ∃ d1 d2 ds, (d = .tup (d1 :: d2 :: ds) ∨ d = .lst (d1 :: d2 :: ds)) ∧ ∃ j1 sl1, EnvSet N sl x j1 (.v d1) sl1 ∧ ∃ j2 sl2, EnvSet N sl1 y j2 (.v d2) sl2 ∧ ∃ j3 sl3, EnvSet N sl2 z j3 (.v (.lst ds)) sl3 ∧ D.nx sl3 m1) m)
    (lx : sc.names.lookup x = some .local := by with_unfolding_all rfl) (ly : sc.names.lookup y = some .local := by with_unfolding_all rfl) (lz : sc.names.lookup z = some .local := by with_unfolding_all rfl) (hc : X.calm = true := by with_unfolding_all rfl)
    (hs : swapsWithSole [.Tuple [.Name x p1, .Name y p4, .Starred (.Name z p2) p3] kk tpos] e pos.line X.env = pure false := by with_unfolding_all rfl) (hw : swappedStores [.Tuple [.Name x p1, .Name y p4, .Starred (.Name z p2) p3] kk tpos] e X.env = pure none := by with_unfolding_all rfl) :
    St1 M X KS (.Assign [.Tuple [.Name x p1, .Name y p4, .Starred (.Name z p2) p3] kk tpos] e pos) sl D m := by
  intro G0 H0 G H σ W E ok so wi po
  refine wpS.of (ps_asg pe_wp (pg_star (n := 2) hc (pgs_cons (pg_name cx.nd (by rw [cx.n]; exact hx.at) (.inl (by rw [cx.s]; exact lx)) (.inr (by rw [cx.s]; exact lx))) (pgs_cons (pg_name cx.nd (by rw [cx.n]; exact hy.at) (.inl (by rw [cx.s]; exact ly)) (.inr (by rw [cx.s]; exact ly))) (pgs_star (pg_name cx.nd (by rw [cx.n]; exact hz.at) (.inl (by rw [cx.s]; exact lz)) (.inr (by rw [cx.s]; exact lz))))))) hs hw) ?_
  refine h G0 H0 G H σ W _ ok so (wi.at ok so) fun v d m1 G1 H1 ⟨d1, d2, ds, hd, j1, sl1, e1, j2, sl2, e2, j3, sl3, e3, nx⟩ o1 r => ?_
  have ok1 := ok.trans o1
  obtain ⟨a, vs, rfl, sq, rs⟩ : ∃ a vs, v = .ref a ∧ (SqT X.K H1 a vs ∨ SqL X.K H1 a vs) ∧ Reps X.K G1 vs (d1 :: d2 :: ds) := by
    rcases hd with rfl | rfl
    · obtain ⟨a, vs, rfl, q, t⟩ := r.tup_inv; exact ⟨a, vs, rfl, .inl (sqT_same o1.sub q), t⟩
    · obtain ⟨a, vs, rfl, q, t⟩ := r.lst_inv; exact ⟨a, vs, rfl, .inr (sq_l (o1.sub _ _ q)), t⟩
  cases rs with
  | cons r1 rt =>
    cases rt with
    | @cons v2 _ vs2 _ r2 rt =>
      refine ⟨a, _, rfl, sq, by simp, fun q hq => ⟨_, _, rfl, _, _, rfl, _, _, rfl, rfl, ?_⟩⟩
      have al := ok1.here.alloc (o := .lst vs2) hq
      refine po.nx _ _ m1 _ _ nx (ok1.trans al) ?_
      rw [envset_at (cx.n ▸ cx.nd) hz e3, envset_at (cx.n ▸ cx.nd) hy e2, envset_at (cx.n ▸ cx.nd) hx e1]
      exact ((((so.step o1).step al).setV i1 (r1.mono al.le)).setV i2 (r2.mono al.le)).setV i3 (.lst upd_same (rt.mono al.le))
/-- a, b = e -/
theorem st1_tgt {tg : Expr} (cx : Ctx X N sc B) (h : EvD M X (KS sl) e sl (fun d m1 => ∃ sl' is, Tg X N sc tg d sl sl' is ∧ D.nx sl' m1) m) (hc : X.calm = true := by with_unfolding_all rfl)
    (hs : swapsWithSole [tg] e pos.line X.env = pure false := by with_unfolding_all rfl) (hw : swappedStores [tg] e X.env = pure none := by with_unfolding_all rfl) (h1 : (assignEach [tg] X.env).map (·.2) = [assign tg X.env] := by with_unfolding_all rfl) : St1 M X KS (.Assign [tg] e pos) sl D m := by
  intro G0 H0 G H σ W E ok so wi po
  refine wpS.of (ps_asg pe_wp (pg_wp (tg := tg)) hs hw h1) ?_
  refine h G0 H0 G H σ W _ ok so (wi.at ok so) fun v d m1 G1 H1 ⟨sl', is, tg', nx⟩ o1 r => ?_
  exact tg'.run cx hc (ok.trans o1) (so.step o1) r fun σ' so' _ => po.nx σ' sl' m1 G1 H1 nx (ok.trans o1) so'
end
end OZ

namespace OS
open PySem L2 PySem.Spec PyProof.Rows
section
variable {X : Cx} {CX : CXT} {n : Nat} {f C : Addr} {fd : FuncData} {ps : List Str} {sp : Sp} {E : XK}
/-- a def run by the machine itself (an operator of an own class), somewhere below the running body -/
theorem run_at {A : Around} (F : FnOk X.prog X.w X.K X.mg X.base CX n f fd ps sp) (sb : Sub X n A) (hb : Binds X.K fd ps []) (hx : Passes CX X E) {pins : List (Addr × Obj)} {σ : L2.St} {H : Hp} {s : Shared} {vs : List V} {us : List Value} {Q : VK} {R : Value → Shared → Prop}
    (I : Inv X pins σ H s) (r : Vals vs us) (h : sp vs H Q E) (k : ∀ v u H' s', Inv X pins σ H' s' → RelV v u → Q v H' → R u s') : wpAny (model X.prog X.w) A (call (.ref f) us) R X.xe s := by
  have e0 : Env0 X.prog X.w X.K X.mg X.base A X.stack s H := by
    have e := I.env0
    exact ⟨by rw [sb.fr]; exact e.frames, e.mod, e.bs, e.bsz, e.funs, e.frf, e.hok, e.bare⟩
  have hl := F.len _ _ _ _ h
  refine wpAny_call (codeAny_mono (F.run A X.stack s H ⟨us, []⟩ us vs _ E sb.room e0 (by
    have := hb s us I.kIn (by rw [List.append_nil, ← r.length]; exact hl)
    simpa using this) r h) fun r' s' hq => ?_)
  cases r' with
  | error e => exact hx pins σ H s e s' I hq
  | ok fl =>
    cases fl with
    | ret u =>
      obtain ⟨v, H', I', rv, q⟩ := I.after hq
      exact k v u H' s' I' rv q
    | next => exact False.elim hq
    | brk => exact False.elim hq
    | cont => exact False.elim hq
theorem v1 {a : Addr} : Vals [V.ref a] [Value.ref a] := .cons rfl .nil
theorem v2 {a b : Addr} : Vals [V.ref a, V.ref b] [Value.ref a, Value.ref b] := .cons rfl (.cons rfl .nil)
theorem v2i {a : Addr} {i : Int} {t : Tok} : Vals [V.ref a, V.int i] [Value.ref a, Value.int i t] := .cons rfl (.cons ⟨t, rfl⟩ .nil)
theorem notImpl {v : V} {u : Value} {Q : Value → Shared → Prop} {s : Shared} (r : RelV v u) (q : Q u s) : PySem.W.CmpBack Q u s := by
  cases v with
  | non => cases r; exact q
  | bl b => cases r; exact q
  | int i => obtain ⟨t, rfl⟩ := r; exact q
  | str i => obtain ⟨t, rfl⟩ := r; exact q
  | byt i => obtain ⟨t, rfl⟩ := r; exact q
  | flt i => obtain ⟨t, rfl⟩ := r; exact q
  | ref i => cases r; exact q
  | ty i => cases r; exact q
/-- an own method found by name, as the machine asks it -/
structure Own (K : PySem.W.Frag) (C : Addr) (m : Str) (f : Addr) : Prop where
  at_ : PySem.W.findIn K (.ref C) m = some (some (.ref f))
  fn : PySem.W.isFn K (.ref f) = true
/-- one operand, an instance of the class at C -/
def rU1 (C : Addr) (sp : Sp) (E : XK) : V → Hp → VK → Prop := fun x H Q => ∃ a dx fs, x = .ref a ∧ H a = some (.ins C dx fs) ∧ sp [x] H Q E
/-- -x by the own __neg__ -/
theorem un_negO (F : FnOk X.prog X.w X.K X.mg X.base CX n f fd ps sp) (o : Own X.K C "__neg__" f) (hr : Room n X.A) (hb : Binds X.K fd ps []) (hx : Passes CX X E) : UnR X (unaryOp .USub) (rU1 C sp E) := by
  intro pins s σ H x v Q I rx h
  obtain ⟨a, dx, fs, rfl, ha, q⟩ := h
  cases rx
  obtain ⟨mA, J, _⟩ := ins_get I.hok ha
  obtain ⟨od, J, _⟩ := J.look
  obtain ⟨m, hF⟩ := I.fr
  exact PySem.W.ksp_neg hF I.ok.mod.kin J o.at_ o.fn (run_at F ⟨hr, rfl⟩ hb hx I v1 q fun v u H' s' I' rv qv => ⟨v, H', I', rv, qv⟩)
/-- an instance of the class at C on the left, an int on the right -/
def rB1 (C : Addr) (sp : Sp) (E : XK) : R2 := fun x y H Q => ∃ a dx fs i, x = .ref a ∧ y = .int i ∧ H a = some (.ins C dx fs) ∧ sp [x, y] H Q E
theorem op_ownI {op : Operator} {fo ro rc : Option Value} (F : FnOk X.prog X.w X.K X.mg X.base CX n f fd ps sp) (o : Own X.K C (PySem.dunder op.info.2) f) (hc : PySem.W.selfFirst X.K C = true)
    (hrr : PySem.W.findIn X.K (.ref C) (dunderR op.info.2) = some rc) (hp : rc = none ∨ ∃ g : Addr, rc = some (.ref g)) (h1 : PySem.W.findIn X.K (.type "int") (PySem.dunder op.info.2) = some fo) (h2 : PySem.W.findIn X.K (.type "int") (dunderR op.info.2) = some ro)
    (hsub : PySem.W.subIn X.K (.type "int") (.ref C) = some false) (hr : Room n X.A) (hb : Binds X.K fd ps []) (hx : Passes CX X E) : OpR X (binaryOp op) (rB1 C sp E) := by
  intro pins s σ H x y v u Q I rx ry h
  obtain ⟨a, dx, fs, i, rfl, rfl, ha, q⟩ := h
  cases rx
  obtain ⟨t, rfl⟩ := ry
  obtain ⟨mA, J, _⟩ := ins_get I.hok ha
  obtain ⟨od, J, _⟩ := J.look
  obtain ⟨m, hF⟩ := I.fr
  exact PySem.W.ksp_binT (T := "int") hF I.ok.mod.kin J rfl hc o.at_ o.fn hrr hp h1 h2 hsub (run_at F ⟨hr, rfl⟩ hb hx I v2i q fun v u H' s' I' rv qv => notImpl rv ⟨v, H', I', rv, qv⟩)
/-- two instances of the class at C -/
def rB2 (C : Addr) (sp : Sp) (E : XK) : R2 := fun x y H Q => ∃ a dx fs b dy gs, x = .ref a ∧ y = .ref b ∧ H a = some (.ins C dx fs) ∧ H b = some (.ins C dy gs) ∧ sp [x, y] H Q E
theorem op_own2 {op : Operator} (F : FnOk X.prog X.w X.K X.mg X.base CX n f fd ps sp) (o : Own X.K C (PySem.dunder op.info.2) f) (hc : PySem.W.selfFirst X.K C = true)
    (hr : Room n X.A) (hb : Binds X.K fd ps []) (hx : Passes CX X E) : OpR X (binaryOp op) (rB2 C sp E) := by
  intro pins s σ H x y v u Q I rx ry h
  obtain ⟨a, dx, fs, b, dy, gs, rfl, rfl, ha, hb', q⟩ := h
  cases rx
  cases ry
  obtain ⟨mA, J, _⟩ := ins_get I.hok ha
  obtain ⟨mB, J', _⟩ := ins_get I.hok hb'
  obtain ⟨od, J, _⟩ := J.look
  obtain ⟨od', J', _⟩ := J'.look
  obtain ⟨m, hF⟩ := I.fr
  exact PySem.W.binop_K hF I.ok.mod.kin J J'.type hc o.at_ o.fn (run_at F ⟨hr, rfl⟩ hb hx I v2 q fun v u H' s' I' rv qv => notImpl rv ⟨v, H', I', rv, qv⟩)
/-- str(x) by the own __str__ -/
def rStrO (C : Addr) (sp : Sp) (E : XK) : List V → Hp → VK → Prop := fun xs H Q => ∃ a dx fs, xs = [.ref a] ∧ H a = some (.ins C dx fs) ∧ sp xs H (fun v H' => (∃ z, v = .str z) ∧ Q v H') E
theorem call_strO (F : FnOk X.prog X.w X.K X.mg X.base CX n f fd ps sp) (o : Own X.K C "__str__" f) (hr : Room (n + 2) X.A) (hb : Binds X.K fd ps []) (hx : Passes CX X E) : CallR X (.type "str") (rStrO C sp E) := by
  intro pins s σ H xs us Q I r h
  obtain ⟨a, dx, fs, rfl, ha, q⟩ := h
  obtain ⟨u, rfl, ru⟩ := vals1 r
  cases ru
  obtain ⟨mA, J, _⟩ := ins_get I.hok ha
  obtain ⟨od, J, _⟩ := J.look
  have sb : Sub X n X.A.in1.in1 := (Sub.in1 (n := n) (Sub.in1 (n := n + 1) ⟨hr, rfl⟩))
  refine PySem.W.kso_call (by have := sb.room.units0; exact this) I.kIn J o.at_ o.fn (run_at F sb hb hx I v1 q fun v u H' s' I' rv qv => ?_)
  obtain ⟨⟨z, rfl⟩, qv⟩ := qv
  obtain ⟨t, rfl⟩ := id rv
  exact ⟨_, H', I', rv, qv⟩
end
end OS

namespace OS
open PySem L2 PySem.Spec PyProof.Rows
section
variable {X : Cx} {CX : CXT} {n : Nat} {f C : Addr} {fd : FuncData} {ps : List Str} {sp : Sp} {E : XK} {a b : Expr} {ta tb : TE} {pos : Pos}
/-- an instance asked by [..], in, len -/
def rG (C : Addr) (sp : Sp) (E : XK) : R2 := fun x y H Q => ∃ p dx fs, x = .ref p ∧ H p = some (.ins C dx fs) ∧ sp [x, y] H Q E
/-- o[i] by the own __getitem__ -/
theorem pe_getO (F : FnOk X.prog X.w X.K X.mg X.base CX n f fd ps sp) (o : Own X.K C "__getitem__" f) (fi : PySem.W.fnIn X.K f = true) (hr : Room (n + 1) X.A) (hb : Binds X.K fd ps []) (hx : Passes CX X E) (ha : PE X a ta) (hc : PE X b tb)
    (hs : ∀ x i, subscripted b true (.ref x) i = runValue (.builtin "lifetime.subscript" ⟨[.ref x, i], []⟩) := by intro _ _; rfl) : PE X (.Subscript a b pos) (tOp (rG C sp E) ta tb) := by
  refine ⟨fun pins s σ H Q I h => ?_⟩
  refine Subscript_ (binT ha hc I h fun v u s2 x y H2 I2 rx ry q => ?_)
  obtain ⟨p, dx, fs, rfl, hp, q⟩ := q
  cases rx
  obtain ⟨mA, J, _⟩ := ins_get I2.hok hp
  obtain ⟨od, J, _⟩ := J.look
  obtain ⟨m, hF⟩ := I2.fr
  have rv : Vals [V.ref p, y] [Value.ref p, u] := .cons rfl (.cons ry .nil)
  exact PySem.W.sub_K hF I2.ok.mod.kin J o.at_ fi o.fn (run_at F (Sub.in1 (n := n) ⟨hr, rfl⟩) hb hx I2 rv q fun v u H' s' I' rv qv => ⟨v, H', I', rv, qv⟩) (hs _ _)
/-- k in o, k not in o by the own __contains__ -/
def rInO (C : Addr) (sp : Sp) (E : XK) (g : Bool → Bool) : R2 := fun x y H Q => ∃ p dx fs, y = .ref p ∧ H p = some (.ins C dx fs) ∧ sp [y, x] H (fun v H' => ∃ k, v = .bl k ∧ Q (.bl (g k)) H') E
theorem op_inO (F : FnOk X.prog X.w X.K X.mg X.base CX n f fd ps sp) (o : Own X.K C "__contains__" f) (hr : Room n X.A) (hb : Binds X.K fd ps []) (hx : Passes CX X E) : OpR X (compareOp .In) (rInO C sp E id) := by
  intro pins s σ H x y v u Q I rx ry h
  obtain ⟨p, dx, fs, rfl, hp, q⟩ := h
  cases ry
  obtain ⟨mA, J, _⟩ := ins_get I.hok hp
  obtain ⟨od, J, _⟩ := J.look
  obtain ⟨m, hF⟩ := I.fr
  have rv : Vals [V.ref p, x] [Value.ref p, v] := .cons rfl (.cons rx .nil)
  refine PySem.W.in_K hF I.ok.mod.kin J o.at_ o.fn (run_at F ⟨hr, rfl⟩ hb hx I rv q fun v u H' s' I' rv qv => ?_)
  obtain ⟨k, rfl, qv⟩ := qv
  cases rv
  exact wpAny_truthy_bool ⟨.bl (id k), H', I', rfl, qv⟩
/-- len(o) by the own __len__ -/
def rLenO (C : Addr) (sp : Sp) (E : XK) : List V → Hp → VK → Prop := fun xs H Q => ∃ p dx fs, xs = [.ref p] ∧ H p = some (.ins C dx fs) ∧ sp xs H (fun v H' => (∃ i : Int, v = .int i ∧ 0 ≤ i ∧ i < 2 ^ 63) ∧ Q v H') E
theorem call_lenO (F : FnOk X.prog X.w X.K X.mg X.base CX n f fd ps sp) (o : Own X.K C "__len__" f) (hr : Room (n + 1) X.A) (hb : Binds X.K fd ps []) (hx : Passes CX X E) : CallR X (.builtin "len") (rLenO C sp E) := by
  intro pins s σ H xs us Q I r h
  obtain ⟨p, dx, fs, rfl, hp, q⟩ := h
  obtain ⟨u, rfl, ru⟩ := vals1 r
  cases ru
  obtain ⟨mA, J, _⟩ := ins_get I.hok hp
  obtain ⟨od, J, _⟩ := J.look
  obtain ⟨m, hF⟩ := I.fr
  refine PySem.W.len_K hF I.ok.mod.kin J o.at_ o.fn (run_at F (Sub.in1 (n := n) ⟨hr, rfl⟩) hb hx I v1 q fun v u H' s' I' rv qv => ?_)
  obtain ⟨⟨i, rfl, h0, h1⟩, qv⟩ := qv
  obtain ⟨t, rfl⟩ := rv
  exact ⟨⟨h0, h1⟩, .int i, H', I'.tok _, ⟨_, rfl⟩, qv⟩
end
/-! ### a new instance where what is raised is wished for at the caller's slots -/
section
variable {X : Cx} {CX : CXT} {k n : Nat} {f C : Addr} {fd : FuncData} {ps ks : List Str} {sp : Sp} {E : L2.St → XK} {x : Str} {p pos : Pos} {e : Expr} {es : List Expr} {kws : List Keyword} {t tk : TA} {g : List Value → List Value → List Value} {gV : List V → List V → List V} {ds : List Value} {dvs : List V}
theorem run_makeKS {pins : List (Addr × Obj)} {σ : L2.St} {H : Hp} {s : Shared} {Q : VK} {us ws : List Value} {vs zs : List V} (M : Mk X.K C f) (F : FnOk X.prog X.w X.K X.mg X.base CX k f fd ps sp) (hr : Room (k + 1) X.A) (hb : KBn X.K fd ps (n + 1) ks g gV) (hx : PassesAt CX X σ (E σ))
    (I : Inv X pins σ H s) (r : Vals vs us) (rz : Vals zs ws) (l1 : vs.length = n) (l2 : zs.length = ks.length)
    (h : ∀ x dx, H x = none → H dx = none → dx ≠ x → sp (gV (.ref x :: vs) zs) (upd (upd H dx (.own x)) x (.ins C dx [])) (fun v H2 => v = .non ∧ Q (.ref x) H2) (E σ)) :
    wpAny (model X.prog X.w) X.A (call (.ref C) us (ks.zip ws)) (EP X pins σ Q) X.xe s := by
  have hq := h (s.heap.objs.size + 1) s.heap.objs.size (I.hok.fresh (Nat.le_succ _)) (I.hok.fresh (Nat.le_refl _)) (Nat.ne_of_lt (Nat.lt_succ_self _))
  have I2 := Inv.made (C := C) I
  have r1 : Vals (V.ref (s.heap.objs.size + 1) :: vs) (Value.ref (s.heap.objs.size + 1) :: us) := .cons rfl r
  have r2 := hb.rel r1 rz
  have n1 : (Value.ref (s.heap.objs.size + 1) :: us).length = n + 1 := by
    rw [List.length_cons, ← r.length, l1]
  refine wpAny_call (make_map (f := f) I.kIn M.makes M.init (beq_iff_eq.mp M.fn) (codeAny_mono (F.run _ X.stack _ _ ⟨Value.ref (s.heap.objs.size + 1) :: us, ks.zip ws⟩ (g (Value.ref (s.heap.objs.size + 1) :: us) ws) _ _ (E σ) (hr.make C us (ks.zip ws))
    (I2.env0.make C us (ks.zip ws)) (hb.to _ (Value.ref (s.heap.objs.size + 1) :: us) ws I2.kIn n1 (rz.length.symm.trans l2)) r2 hq) fun r s' hq' => ?_))
  cases r with
  | error e => exact hx pins _ _ e s' I2 hq'
  | ok fl =>
    cases fl with
    | ret u =>
      obtain ⟨v, H', I3, rv, ev, q3⟩ := I2.after hq'
      subst ev
      exact ⟨rv, ⟨V.ref (s.heap.objs.size + 1), H', I3, rfl, q3⟩⟩
    | next => exact False.elim hq'
    | brk => exact False.elim hq'
    | cont => exact False.elim hq'
/-- C(e, .., k = v, ..), whatever of them is there -/
def tMakeKS (C : Addr) (n m : Nat) (sp : Sp) (gV : List V → List V → List V) (E : L2.St → XK) (t tk : TA) : TE := fun σ H Q => t σ H fun vs H1 => tk σ H1 fun zs H2 => vs.length = n ∧ zs.length = m ∧ ∀ x dx, H2 x = none → H2 dx = none → dx ≠ x →
  sp (gV (.ref x :: vs) zs) (upd (upd H2 dx (.own x)) x (.ins C dx [])) (fun v H3 => v = .non ∧ Q (.ref x) H3) (E σ)
theorem pe_makeKS0 (M : Mk X.K C f) (F : FnOk X.prog X.w X.K X.mg X.base CX k f fd ps sp) (hr : Room (k + 1) X.A) (hg : Gl X x) (hm : X.mg x = some (.ref C)) (hb : KBn X.K fd ps 1 ks g gV) (hx : ∀ σ, PassesAt CX X σ (E σ)) (hkw : PK X kws tk)
    (hall : (backToKw pos (keywordEach kws X.env)).all (·.1.isSome) = true := by rfl) (hks : (backToKw pos (keywordEach kws X.env)).filterMap (·.1) = ks := by rfl) (hdb : (x == ("__debug__" : Str)) = false := by decide)
    (hpl : ((backTo pos (starEach [] X.env)).any (·.1) || (backToKw pos (keywordEach kws X.env)).any (·.1.isNone)) = false := by rfl) :
    PE X (.Call (.Name x p) [] kws pos) (tMakeKS C 0 ks.length sp gV E tNil tk) := by
  refine ⟨fun pins s σ H Q I h => ?_⟩
  refine wpAny_Call_Name_kw (ld_glob I hg hm ?_ hdb)
  refine PySem.W.callWith_KW0 (h₀ := X.base) I.ok.mod.kin M.kp hall ?_ hpl
  refine thn (hkw.run pos pins s σ H _ I h) fun ws s2 ⟨zs, H2, I2, rz, l1, l2, q2⟩ => ⟨I2.kIn, ?_⟩
  rw [hks]
  exact run_makeKS (us := []) (vs := []) M F hr hb (hx σ) I2 .nil rz rfl l2 q2
theorem pe_makeKS (M : Mk X.K C f) (F : FnOk X.prog X.w X.K X.mg X.base CX k f fd ps sp) (hr : Room (k + 1) X.A) (hg : Gl X x) (hm : X.mg x = some (.ref C)) (hb : KBn X.K fd ps (n + 1) ks g gV) (hx : ∀ σ, PassesAt CX X σ (E σ)) (ha : PA X (e :: es) t) (hkw : PK X kws tk)
    (hall : (backToKw pos (keywordEach kws X.env)).all (·.1.isSome) = true := by rfl) (hks : (backToKw pos (keywordEach kws X.env)).filterMap (·.1) = ks := by rfl) (hdb : (x == ("__debug__" : Str)) = false := by decide)
    (he : starEach (e :: es) X.env = (false, eval e X.env) :: starEach es X.env := by rfl) (hpl : ((backTo pos (starEach (e :: es) X.env)).any (·.1) || (backToKw pos (keywordEach kws X.env)).any (·.1.isNone)) = false := by rfl) :
    PE X (.Call (.Name x p) (e :: es) kws pos) (tMakeKS C n ks.length sp gV E t tk) := by
  refine ⟨fun pins s σ H Q I h => ?_⟩
  refine wpAny_Call_Name_kw (ld_glob I hg hm ?_ hdb)
  refine PySem.W.callWith_KW (h₀ := X.base) I.ok.mod.kin M.kp hall (thn (ha.run pos pins s σ H _ I h) fun us s1 ⟨vs, H1, I1, r, q⟩ => ?_) hpl he
  refine thn (hkw.run pos pins s1 σ H1 _ I1 q) fun ws s2 ⟨zs, H2, I2, rz, l1, l2, q2⟩ => ⟨I2.kIn, ?_⟩
  rw [hks]
  exact run_makeKS M F hr hb (hx σ) I2 r rz l1 l2 q2
end
end OS

namespace OS
open PySem PySem.Spec PySem.W PySem.Calls PyProof.Rows
section
variable {prog : Program} {w : World} {A : Around} {E : Value → Shared → Prop} {s : Shared} {K : Frag} {x C L f g : Addr} {h₀ : Heap} {m : Str → Option Value} {ox : Obj} {od : Option Obj}
theorem int_add_ni {i : Int} {t : Tok} {Q : Value → Shared → Prop} (hx : s.heap.get? x = some ox) (hd : ox.data = .plain) (h : Q .notImplemented s) : wpAny (model prog w) A (call (.builtin "int.__add__") [.int i t, .ref x]) Q E s := by
  refine wpAny_call_entry PySem.F.slot_int_add (typeIs_int s i t) PySem.F.entry_int_add ?_ (PySem.F.args_int_add_2 _ _)
  show wpAny _ _ ((load x >>= fun o => match o.data with | .prim (.int i _) => pure (some i) | _ => pure none) >>= fun r => _) _ _ s
  refine wpAny_bind (wpAny_bind (wpAny_load hx ?_))
  rw [hd]
  exact wpAny_pure (wpAny_bind (wpAny_rule (wpAny_pure ⟨_, rfl, h⟩)))
theorem int_sub_ni {i : Int} {t : Tok} {Q : Value → Shared → Prop} (hx : s.heap.get? x = some ox) (hd : ox.data = .plain) (h : Q .notImplemented s) : wpAny (model prog w) A (call (.builtin "int.__sub__") [.int i t, .ref x]) Q E s := by
  refine wpAny_call_entry PySem.F.slot_int_sub (typeIs_int s i t) PySem.F.entry_int_sub ?_ (PySem.F.args_int_sub_2 _ _)
  show wpAny _ _ ((load x >>= fun o => match o.data with | .prim (.int i _) => pure (some i) | _ => pure none) >>= fun r => _) _ _ s
  refine wpAny_bind (wpAny_bind (wpAny_load hx ?_))
  rw [hd]
  exact wpAny_pure (wpAny_bind (wpAny_rule (wpAny_pure ⟨_, rfl, h⟩)))
theorem int_mul_ni {i : Int} {t : Tok} {Q : Value → Shared → Prop} (hx : s.heap.get? x = some ox) (hd : ox.data = .plain) (h : Q .notImplemented s) : wpAny (model prog w) A (call (.builtin "int.__mul__") [.int i t, .ref x]) Q E s := by
  refine wpAny_call_entry PySem.F.slot_int_mul (typeIs_int s i t) PySem.F.entry_int_mul ?_ (PySem.F.args_int_mul_2 _ _)
  show wpAny _ _ ((load x >>= fun o => match o.data with | .prim (.int i _) => pure (some i) | _ => pure none) >>= fun r => _) _ _ s
  refine wpAny_bind (wpAny_bind (wpAny_load hx ?_))
  rw [hd]
  exact wpAny_pure (wpAny_bind (wpAny_rule (wpAny_pure ⟨_, rfl, h⟩)))
/-- what an int's own operator says of an instance -/
def Decl (prog : Program) (w : World) (nm id : String) : Prop := Slot "int" (PySem.dunder nm) id ∧ ∀ (A : Around) (E : Value → Shared → Prop) (s : Shared) (x : Addr) (ox : Obj) (i : Int) (t : Tok) (Q : Value → Shared → Prop), s.heap.get? x = some ox → ox.data = .plain → Q .notImplemented s → wpAny (model prog w) A (call (.builtin id) [.int i t, .ref x]) Q E s
theorem decl_add : Decl prog w "add" "int.__add__" := ⟨PySem.F.slot_int_add, fun _ _ _ _ _ _ _ _ => int_add_ni⟩
theorem decl_sub : Decl prog w "sub" "int.__sub__" := ⟨PySem.F.slot_int_sub, fun _ _ _ _ _ _ _ _ => int_sub_ni⟩
theorem decl_mul : Decl prog w "mul" "int.__mul__" := ⟨PySem.F.slot_int_mul, fun _ _ _ _ _ _ _ _ => int_mul_ni⟩
theorem int_op_own {op : Operator} {i : Int} {t : Tok} {id : String} {fo ro : Option Value} {Q : Value → Shared → Prop} (F : Fr h₀ L s.heap m) (X₀ : K.In h₀) (I : InstAt s.heap x ox C od) (hx : s.heap.get? x = some ox) (hd : ox.data = .plain) (hc : selfFirst K C = true)
    (hs : findIn K (.ref C) (PySem.dunder op.info.2) = some (some (.ref f))) (hr : findIn K (.ref C) (dunderR op.info.2) = some (some (.ref g))) (hg : isFn K (.ref g) = true)
    (h1 : findIn K (.type "int") (PySem.dunder op.info.2) = some fo) (h2 : findIn K (.type "int") (dunderR op.info.2) = some ro) (hsub : subIn K (.ref C) (.type "int") = some false) (dc : Decl prog w op.info.2 id)
    (h : wpAny (model prog w) A (call (.ref g) [.ref x, .int i t]) (PySem.W.CmpBack Q) E s) : wpAny (model prog w) A (binaryOp op (.int i t) (.ref x)) Q E s := by
  have X := X₀.keeps F.keep
  obtain ⟨cd, rest, hcd, hm⟩ := ksp_first hc
  rcases hi : op.info with ⟨sym, nm'⟩
  rw [hi] at hs hr h1 h2 dc
  dsimp only at hs hr h1 h2 dc
  have one := ksp_try X I hr hg h
  have zero : wpAny (model prog w) A (tryMethod (.int i t) (PySem.dunder nm') (.ref x)) (fun r s' => r = none ∧ s' = s) E s := by
    unfold tryMethod
    refine wpAny_bind (wpAny_callSpecial?_slot (typeIs_int s i t) dc.1 (dc.2 _ _ _ _ _ _ _ _ hx hd ?_))
    exact wpAny_pure ⟨rfl, rfl⟩
  obtain ⟨hh, g', d, tt, os⟩ := s
  have L1 : Looks (model prog w) hh (typeOf (.ref x)) (.ref C) := I.type
  have L2 : Looks (model prog w) hh (typeOf (.int i t)) (.type "int") := Looks.of_pure rfl
  have L3 : Looks (model prog w) hh (fillsNumberSlot (.ref C) nm') true := fills_K X hcd hm hs
  have L4 : Looks (model prog w) hh (fillsNumberSlot (.type "int") nm') ((fo.isSome && !isSeqSlot fo) || (ro.isSome && !isSeqSlot ro)) := ksp_fillsT X h1 h2
  have L5 : Looks (model prog w) hh (isSubtype (.ref C) (.type "int")) false := looks_subIn X hsub
  have L7 : Looks (model prog w) hh (numberSlotInPython (.type "int") nm') false := Looks.of_pure rfl
  generalize ((fo.isSome && !isSeqSlot fo) || (ro.isSome && !isSeqSlot ro)) = left at L4
  have hne : (Value.type "int" == Value.ref C) = false := Bool.eq_false_iff.mpr fun q => by cases beq_iff_eq.mp q
  simp only [binaryOp, hi]
  refine wpAny_holding (wpAny_bind ?_)
  unfold binaryOp1
  refine wpAny_bind (L2.at (wpAny_bind (L1.at (wpAny_bind (L4.at ?_)))))
  simp only [hne, Bool.false_eq_true, if_false]
  cases left with
  | false =>
    ksp_lk
    refine wpAny_mono one (fun r s' hr' => ?_) fun _ _ e => e
    obtain ⟨v, rfl, hq⟩ := hr'
    ksp_lk
    exact hq
  | true =>
    ksp_lk
    refine wpAny_mono zero (fun r s' hr' => ?_) fun _ _ e => e
    obtain ⟨rfl, rfl⟩ := hr'
    ksp_lk
    refine wpAny_mono one (fun r s' hr' => ?_) fun _ _ e => e
    obtain ⟨v, rfl, hq⟩ := hr'
    ksp_lk
    exact hq
end
end OS

namespace OS
open PySem PySem.Spec PySem.W PySem.Calls PyProof.Rows
section
variable {prog : Program} {w : World} {A : Around} {E : Value → Shared → Prop} {s : Shared} {K : Frag} {x C L f : Addr} {h₀ : Heap} {m : Str → Option Value} {ox : Obj} {od : Option Obj} {b tb : Value}
theorem ne_own {Q : Value → Shared → Prop} (hu : A.units + 1 < cLine) (F : Fr h₀ L s.heap m) (X₀ : K.In h₀) (I : InstAt s.heap x ox C od) (hb : Looks (model prog w) s.heap (typeOf b) tb) (hn : notFirst K C tb = true)
    (hne : findIn K (.ref C) "__ne__" = some (some (.builtin "object.__ne__"))) (hs : findIn K (.ref C) "__eq__" = some (some (.ref f))) (hf : isFn K (.ref f) = true) (hob : subIn K (.ref C) (.type "object") = some true)
    (h : wpAny (model prog w) A.in1 (call (.ref f) [.ref x, b]) (fun v s' => ∃ r, v = .bool r ∧ Q (.bool (!r)) s') E s) : wpAny (model prog w) A (richCompare .NotEq (.ref x) b) Q E s := by
  have X := X₀.keeps F.keep
  have L0 : Looks (model prog w) s.heap (typeOf (.ref x)) (.ref C) := I.type
  have sub : Looks (model prog w) s.heap (isInstance (.ref x) (.type "object")) true := L0.andThen (looks_subIn X hob)
  have body : wpAny (model prog w) A (call (.builtin "object.__ne__") [.ref x, b]) (fun v s' => ∃ r, v = .bool r ∧ Q (.bool r) s') E s := by
    refine wpAny_call (codeAny_call_builtin PySem.F.cmp_object.ne.plain PySem.F.cmpEntry_ne ?_)
    refine @check_slot (model prog w) _ _ s "object.__ne__" "object" "__ne__" (.ref x) [b] [] _ PySem.F.cmpKind_ne PySem.F.cmpSplit_ne sub (PySem.F.cmpArgs_ne _ _) ?_
    unfold Builtin.«object.__ne__»
    refine wpAny_bind (wpAny_of_eq (a := ((Value.ref x : Value), [b])) (by first | rfl | (simp only [slotArgs]; rfl)) ?_)
    refine wpAny_bind (wpAny_cRoomFor hu ?_)
    refine wpAny_bind (ifBound_K X I hs hf (wpAny_mono h (fun v s' hv => ?_) fun _ _ e => e))
    obtain ⟨r, rfl, q⟩ := hv
    refine wpAny_bind (wpAny_truthy_bool (wpAny_pure ?_))
    exact ⟨_, rfl, q⟩
  have one : wpAny (model prog w) A (tryCompare (.ref x) "__ne__" b) (fun r s' => ∃ v, r = some v ∧ Q v s') E s := by
    unfold tryCompare
    refine wpAny_bind ?_
    simp only [callSpecialIfBound?, bindSpecialIfBound?]
    refine wpAny_holding (wpAny_bind (wpAny_bind (wpAny_bind (I.type.here ((looks_findIn X hne).here ?_)))))
    refine wpAny_bind (wpAny_askSetting (wpAny_ite ?_))
    have bnd : Looks (model prog w) s.heap (bindSpecial (.builtin "object.__ne__") (.ref x)) (.builtin "object.__ne__", [.ref x]) := Looks.of_pure (PySem.F.cmp_object.ne.bind _)
    have fin : wpAny (model prog w) A (call (.builtin "object.__ne__") ([.ref x] ++ [b]) >>= fun v => pure (some v)) (fun r s' => wpAny (model prog w) A (match r with | some .notImplemented | none => pure none | some v => pure (some v)) (fun r s' => ∃ v, r = some v ∧ Q v s') E s') E s :=
      wpAny_bind (wpAny_mono body (fun v s' h' => by
        obtain ⟨r, rfl, q⟩ := h'
        exact wpAny_pure (wpAny_pure ⟨_, rfl, q⟩)) fun _ _ h' => h')
    split
    · exact wpAny_bind (bnd.here (wpAny_pure (by exact fin)))
    · exact wpAny_tryCatch (wpAny_bind (bnd.here (wpAny_pure (by exact fin))))
  unfold richCompare
  simp only [oneThing_ref]
  refine wpAny_holding (wpAny_bind (wpAny_cRoomFor (Nat.lt_of_succ_lt hu) ?_))
  refine wpAny_bind (I.type.here (wpAny_bind (hb.here ?_)))
  split
  · rename_i q
    have e : subIn K tb (.ref C) = some false := by
      rcases Bool.or_eq_true_iff.mp hn with e | e
      · rw [beq_iff_eq.mp e] at q; simp at q
      · exact beq_iff_eq.mp e
    refine wpAny_bind ((looks_subIn X e).here ?_)
    simp only [Bool.false_eq_true, if_false]
    refine wpAny_bind (wpAny_mono one (fun r s' z => ?_) fun _ _ e => e)
    obtain ⟨v, rfl, hq⟩ := z
    exact wpAny_pure hq
  · refine wpAny_bind (wpAny_pure ?_)
    simp only [Bool.false_eq_true, if_false]
    refine wpAny_bind (wpAny_mono one (fun r s' z => ?_) fun _ _ e => e)
    obtain ⟨v, rfl, hq⟩ := z
    exact wpAny_pure hq
end
end OS

namespace OS
open PySem PySem.Spec PySem.W PySem.Calls PyProof.Rows
section
variable {prog : Program} {w : World} {A : Around} {E : Value → Shared → Prop} {s : Shared} {K : Frag} {x C L f : Addr} {h₀ : Heap} {m : Str → Option Value} {ox : Obj} {od : Option Obj} {cd : ClassData}
/-- a plain class: itself and object -/
structure Mro2 (K : Frag) (C : Addr) : Prop where
  ex : ∃ cd, clsIn K C = some cd ∧ cd.mro = [.ref C, .type "object"]
theorem no_inplace {M : Model} {h : Heap} {nm : String} {add : Bool} (X : K.In h) (m2 : Mro2 K C) (h1 : findIn K (.ref C) (dunderI nm) = some none) (h2 : findIn K (.type "object") (dunderI nm) = some none) : Looks M h (fillsInplaceSlot (.ref C) nm add) false := by
  intro A Q E s k q
  obtain ⟨cd, hc, hm⟩ := m2.ex
  have Lm : Looks M h (mroOf (.ref C)) cd.mro := (looks_clsIn X hc).andThen (f := fun cd => pure cd.mro) .now
  have Lm' := Lm.keeps k
  obtain ⟨hh, g, d, tt, os⟩ := s
  have X' : K.In hh := X.keeps k
  have L1 : Looks M hh (typeLookup (.ref C) (dunderI nm)) none := looks_findIn X' h1
  have L2 : Looks M hh (typeLookup (.type "object") (dunderI nm)) none := looks_findIn X' h2
  unfold fillsInplaceSlot
  refine wpAny_bind (Lm'.at ?_)
  rw [hm]
  simp only [List.anyM_cons, List.anyM_nil]
  repeat lk
  exact q
theorem bin1_same {nm : String} {b : Value} {Q : Value → Shared → Prop} (X : K.In s.heap) (I : InstAt s.heap x ox C od) (hb : Looks (model prog w) s.heap (typeOf b) (.ref C)) (hc : selfFirst K C = true)
    (hs : findIn K (.ref C) (PySem.dunder nm) = some (some (.ref f))) (hf : isFn K (.ref f) = true)
    (h : wpAny (model prog w) A (call (.ref f) [.ref x, b]) (PySem.W.CmpBack Q) E s) : wpAny (model prog w) A (binaryOp1 nm (.ref x) b) (fun r s' => ∃ v, r = some v ∧ Q v s') E s := by
  obtain ⟨cd, rest, hcd, hm⟩ := ksp_first hc
  unfold binaryOp1
  refine wpAny_bind (I.type.here (wpAny_bind (hb.here (wpAny_bind ((fills_K X hcd hm hs).here ?_)))))
  simp only [beq_self_eq_true, if_true]
  refine wpAny_bind (wpAny_pure ?_)
  simp only [Bool.and_false, Bool.false_eq_true, if_false, Bool.false_and]
  refine wpAny_bind (wpAny_pure ?_)
  simp only [Bool.false_eq_true, if_false]
  refine wpAny_bind (m := tryMethod (.ref x) _ b) ?_
  unfold tryMethod
  refine wpAny_bind (special_fn X I hs (beq_iff_eq.mp hf) (wpAny_mono h (fun v s' hv => ?_) fun _ _ e => e))
  cases v <;> first | exact hv.elim | exact wpAny_pure (wpAny_pure ⟨_, rfl, hv⟩)
theorem bin1_T {nm T : String} {b : Value} {fo ro rc : Option Value} {Q : Value → Shared → Prop} (X : K.In s.heap) (I : InstAt s.heap x ox C od) (hb : typeOf b = pure (.type T)) (hc : selfFirst K C = true)
    (hs : findIn K (.ref C) (PySem.dunder nm) = some (some (.ref f))) (hf : isFn K (.ref f) = true) (hr : findIn K (.ref C) (dunderR nm) = some rc) (hp : rc = none ∨ ∃ g : Addr, rc = some (.ref g))
    (h1 : findIn K (.type T) (PySem.dunder nm) = some fo) (h2 : findIn K (.type T) (dunderR nm) = some ro) (hsub : subIn K (.type T) (.ref C) = some false)
    (h : wpAny (model prog w) A (call (.ref f) [.ref x, b]) (PySem.W.CmpBack Q) E s) : wpAny (model prog w) A (binaryOp1 nm (.ref x) b) (fun r s' => ∃ v, r = some v ∧ Q v s') E s := by
  obtain ⟨cd, rest, hcd, hm⟩ := ksp_first hc
  have one := ksp_try X I hs hf h
  obtain ⟨hh, g, d, tt, os⟩ := s
  have L1 : Looks (model prog w) hh (typeOf (.ref x)) (.ref C) := I.type
  have L2 : Looks (model prog w) hh (typeOf b) (.type T) := Looks.of_pure hb
  have L3 : Looks (model prog w) hh (fillsNumberSlot (.ref C) nm) true := fills_K X hcd hm hs
  have L4 : Looks (model prog w) hh (fillsNumberSlot (.type T) nm) ((fo.isSome && !isSeqSlot fo) || (ro.isSome && !isSeqSlot ro)) := ksp_fillsT X h1 h2
  have L5 : Looks (model prog w) hh (isSubtype (.type T) (.ref C)) false := looks_subIn X hsub
  have L6 : Looks (model prog w) hh (numberSlotInPython (.ref C) nm) true := ksp_inPy X hs hr hp
  have L7 : Looks (model prog w) hh (numberSlotInPython (.type T) nm) false := Looks.of_pure rfl
  have L8 : Looks (model prog w) hh (typeLookup (.type T) (dunderR nm)) ro := looks_findIn X h2
  generalize ((fo.isSome && !isSeqSlot fo) || (ro.isSome && !isSeqSlot ro)) = right at L4
  have hne : (Value.ref C == Value.type T) = false := Bool.eq_false_iff.mpr fun q => by cases beq_iff_eq.mp q
  unfold binaryOp1
  refine wpAny_bind (L1.at (wpAny_bind (L2.at (wpAny_bind (L3.at ?_)))))
  simp only [hne, Bool.false_eq_true, if_false]
  cases right with
  | false =>
    ksp_lk
    refine wpAny_mono one (fun r s' hr' => ?_) fun _ _ e => e
    obtain ⟨v, rfl, hq⟩ := hr'
    ksp_lk
    exact ⟨_, rfl, hq⟩
  | true =>
    ksp_lk
    refine wpAny_mono one (fun r s' hr' => ?_) fun _ _ e => e
    obtain ⟨v, rfl, hq⟩ := hr'
    ksp_lk
    exact ⟨_, rfl, hq⟩
theorem inplace_own {op : Operator} {b : Value} {Q : Value → Shared → Prop} (X : K.In s.heap) (I : InstAt s.heap x ox C od) (m2 : Mro2 K C) (h1 : findIn K (.ref C) (dunderI op.info.2) = some none) (h2 : findIn K (.type "object") (dunderI op.info.2) = some none)
    (h : wpAny (model prog w) A (binaryOp1 op.info.2 (.ref x) b) (fun r s' => ∃ v, r = some v ∧ Q v s') E s) : wpAny (model prog w) A (inplaceOp op (.ref x) b) Q E s := by
  have L2 : Looks (model prog w) s.heap (fillsInplaceSlot (.ref C) op.info.2 (op == .Add)) false := no_inplace X m2 h1 h2
  unfold inplaceOp
  refine wpAny_holding (wpAny_bind (I.type.here ?_))
  refine wpAny_bind (L2.here ?_)
  simp only [Bool.false_eq_true, if_false]
  refine wpAny_bind (wpAny_mono h (fun r s' hr' => ?_) fun _ _ e => e)
  obtain ⟨v, rfl, hq⟩ := hr'
  exact wpAny_pure hq
end
end OS
namespace OS
open PySem L2 PySem.Spec PyProof.Rows
section
variable {X : Cx} {CX : CXT} {n : Nat} {f C : Addr} {fd : FuncData} {ps : List Str} {sp : Sp} {E : XK}
theorem plain_at {pins : List (Addr × Obj)} {σ : L2.St} {H : Hp} {s : Shared} {a dx : Addr} {fs : List (Str × V)} (I : Inv X pins σ H s) (h : H a = some (.ins C dx fs)) : ∃ ox od, PySem.W.InstAt s.heap a ox C od ∧ ox.data = .plain := StX.insC_at I (.inr ⟨dx, fs, h⟩)
/-- int op instance, by the instance's reflected method -/
def rR1 (C : Addr) (sp : Sp) (E : XK) : R2 := fun x y H Q => ∃ a dx fs i, x = .int i ∧ y = .ref a ∧ H a = some (.ins C dx fs) ∧ sp [y, x] H Q E
theorem op_refl {op : Operator} {id : String} {g : Addr} {fo ro : Option Value} (F : FnOk X.prog X.w X.K X.mg X.base CX n f fd ps sp) (o : Own X.K C (dunderR op.info.2) f) (hc : PySem.W.selfFirst X.K C = true)
    (hs : PySem.W.findIn X.K (.ref C) (PySem.dunder op.info.2) = some (some (.ref g))) (h1 : PySem.W.findIn X.K (.type "int") (PySem.dunder op.info.2) = some fo) (h2 : PySem.W.findIn X.K (.type "int") (dunderR op.info.2) = some ro)
    (hsub : PySem.W.subIn X.K (.ref C) (.type "int") = some false) (dc : Decl X.prog X.w op.info.2 id) (hr : Room n X.A) (hb : Binds X.K fd ps []) (hx : Passes CX X E) : OpR X (binaryOp op) (rR1 C sp E) := by
  intro pins s σ H x y v u Q I rx ry h
  obtain ⟨a, dx, fs, i, rfl, rfl, ha, q⟩ := h
  cases ry
  obtain ⟨t, rfl⟩ := rx
  obtain ⟨ox, od, J, hd⟩ := plain_at I ha
  obtain ⟨m, hF⟩ := I.fr
  exact int_op_own hF I.ok.mod.kin J J.1 hd hc hs o.at_ o.fn h1 h2 hsub dc (run_at F ⟨hr, rfl⟩ hb hx I v2i q fun v u H' s' I' rv qv => notImpl rv ⟨v, H', I', rv, qv⟩)
/-- == and != by the own __eq__ -/
def rEqO (C : Addr) (sp : Sp) (E : XK) (g : Bool → Bool) : R2 := fun x y H Q => ∃ p dx fs, x = .ref p ∧ H p = some (.ins C dx fs) ∧ ((∃ i, y = .int i) ∨ ∃ b dy gs, y = .ref b ∧ H b = some (.ins C dy gs)) ∧ sp [x, y] H (fun v H' => ∃ k, v = .bl k ∧ Q (.bl (g k)) H') E
structure EqF (K : PySem.W.Frag) (C f : Addr) : Prop where
  own : Own K C "__eq__" f
  sub : PySem.W.subIn K (.type "int") (.ref C) = some false
  ne : PySem.W.findIn K (.ref C) "__ne__" = some (some (.builtin "object.__ne__"))
  ob : PySem.W.subIn K (.ref C) (.type "object") = some true
theorem eq_pre {pins : List (Addr × Obj)} {σ : L2.St} {H : Hp} {s : Shared} {y : V} {u : Value} (O : EqF X.K C f) (I : Inv X pins σ H s) (ry : RelV y u) (h : (∃ i, y = .int i) ∨ ∃ b dy gs, y = .ref b ∧ H b = some (.ins C dy gs)) :
    ∃ tb, PySem.W.Looks (model X.prog X.w) s.heap (typeOf u) tb ∧ PySem.W.notFirst X.K C tb = true := by
  rcases h with ⟨i, rfl⟩ | ⟨b, dy, gs, rfl, hb⟩
  · obtain ⟨t, rfl⟩ := ry
    exact ⟨.type "int", PySem.W.Looks.of_pure rfl, by unfold PySem.W.notFirst; rw [O.sub]; rfl⟩
  · cases ry
    obtain ⟨ox, od, J, hd⟩ := plain_at I hb
    exact ⟨.ref C, J.type, by unfold PySem.W.notFirst; simp⟩
theorem op_eqO (F : FnOk X.prog X.w X.K X.mg X.base CX n f fd ps sp) (O : EqF X.K C f) (hu : X.A.units < cLine) (hr : Room n X.A) (hb : Binds X.K fd ps []) (hx : Passes CX X E) : OpR X (compareOp .Eq) (rEqO C sp E id) := by
  intro pins s σ H x y v u Q I rx ry h
  obtain ⟨p, dx, fs, rfl, hp, hy, q⟩ := h
  cases rx
  obtain ⟨ox, od, J, hd⟩ := plain_at I hp
  obtain ⟨tb, hl, hn⟩ := eq_pre O I ry hy
  obtain ⟨m, hF⟩ := I.fr
  have rv : Vals [V.ref p, y] [Value.ref p, u] := .cons rfl (.cons ry .nil)
  show wpAny _ _ (richCompare .Eq (.ref p) u) _ _ _
  refine PySem.W.cmp_K hu hF I.ok.mod.kin J hl hn O.own.at_ O.own.fn (run_at F ⟨hr, rfl⟩ hb hx I rv q fun v u H' s' I' rv qv => ?_)
  obtain ⟨k, rfl, qv⟩ := qv
  cases rv
  exact ⟨.bl (id k), H', I', rfl, qv⟩
theorem op_neO (F : FnOk X.prog X.w X.K X.mg X.base CX n f fd ps sp) (O : EqF X.K C f) (hu : X.A.units + 1 < cLine) (hr : Room (n + 1) X.A) (hb : Binds X.K fd ps []) (hx : Passes CX X E) : OpR X (compareOp .NotEq) (rEqO C sp E not) := by
  intro pins s σ H x y v u Q I rx ry h
  obtain ⟨p, dx, fs, rfl, hp, hy, q⟩ := h
  cases rx
  obtain ⟨ox, od, J, hd⟩ := plain_at I hp
  obtain ⟨tb, hl, hn⟩ := eq_pre O I ry hy
  obtain ⟨m, hF⟩ := I.fr
  have rv : Vals [V.ref p, y] [Value.ref p, u] := .cons rfl (.cons ry .nil)
  show wpAny _ _ (richCompare .NotEq (.ref p) u) _ _ _
  refine ne_own hu hF I.ok.mod.kin J hl hn O.ne O.own.at_ O.own.fn O.ob (run_at F (Sub.in1 (n := n) ⟨hr, rfl⟩) hb hx I rv q fun v u H' s' I' rv qv => ?_)
  obtain ⟨k, rfl, qv⟩ := qv
  cases rv
  exact ⟨k, rfl, .bl (!k), H', I', rfl, qv⟩
/-- x op= y, x an instance without the in-place method -/
structure IpF (K : PySem.W.Frag) (C : Addr) (m : Str) : Prop where
  m2 : Mro2 K C
  h1 : PySem.W.findIn K (.ref C) m = some none
  h2 : PySem.W.findIn K (.type "object") m = some none
theorem ip_own2 {op : Operator} (F : FnOk X.prog X.w X.K X.mg X.base CX n f fd ps sp) (o : Own X.K C (PySem.dunder op.info.2) f) (hc : PySem.W.selfFirst X.K C = true) (ip : IpF X.K C (dunderI op.info.2))
    (hr : Room n X.A) (hb : Binds X.K fd ps []) (hx : Passes CX X E) : PIp X op (rB2 C sp E) := by
  intro pins s σ H x y v u Q I rx ry h
  obtain ⟨a, dx, fs, b, dy, gs, rfl, rfl, ha, hb', q⟩ := h
  cases rx
  cases ry
  obtain ⟨ox, od, J, _⟩ := plain_at I ha
  obtain ⟨oy, oe, J', _⟩ := plain_at I hb'
  exact inplace_own I.kIn J ip.m2 ip.h1 ip.h2 (bin1_same I.kIn J J'.type hc o.at_ o.fn (run_at F ⟨hr, rfl⟩ hb hx I v2 q fun v u H' s' I' rv qv => notImpl rv ⟨v, H', I', rv, qv⟩))
theorem ip_ownI {op : Operator} {fo ro rc : Option Value} (F : FnOk X.prog X.w X.K X.mg X.base CX n f fd ps sp) (o : Own X.K C (PySem.dunder op.info.2) f) (hc : PySem.W.selfFirst X.K C = true) (ip : IpF X.K C (dunderI op.info.2))
    (hrr : PySem.W.findIn X.K (.ref C) (dunderR op.info.2) = some rc) (hp : rc = none ∨ ∃ g : Addr, rc = some (.ref g)) (h1 : PySem.W.findIn X.K (.type "int") (PySem.dunder op.info.2) = some fo) (h2 : PySem.W.findIn X.K (.type "int") (dunderR op.info.2) = some ro)
    (hsub : PySem.W.subIn X.K (.type "int") (.ref C) = some false) (hr : Room n X.A) (hb : Binds X.K fd ps []) (hx : Passes CX X E) : PIp X op (rB1 C sp E) := by
  intro pins s σ H x y v u Q I rx ry h
  obtain ⟨a, dx, fs, i, rfl, rfl, ha, q⟩ := h
  cases rx
  obtain ⟨t, rfl⟩ := ry
  obtain ⟨ox, od, J, _⟩ := plain_at I ha
  exact inplace_own I.kIn J ip.m2 ip.h1 ip.h2 (bin1_T (T := "int") I.kIn J rfl hc o.at_ o.fn hrr hp h1 h2 hsub (run_at F ⟨hr, rfl⟩ hb hx I v2i q fun v u H' s' I' rv qv => notImpl rv ⟨v, H', I', rv, qv⟩))
end
end OS

namespace OS
open PySem L2 PySem.Spec PyProof.Rows
/-! ### == and != of objects of own classes, the other's class no class above or below -/
section
variable {X : Cx} {CX : CXT} {n : Nat} {f C : Addr} {fd : FuncData} {ps : List Str} {sp : Sp} {E : XK}
/-- an object of the class itself, or of one that is none of its kind -/
def rEqX (K : PySem.W.Frag) (C : Addr) (sp : Sp) (E : XK) (g : Bool → Bool) : R2 := fun x y H Q => ∃ p dx fs b D dy gs, x = .ref p ∧ H p = some (.ins C dx fs) ∧ y = .ref b ∧ H b = some (.ins D dy gs) ∧ (D = C ∨ PySem.W.subIn K (.ref D) (.ref C) = some false) ∧ sp [x, y] H (fun v H' => ∃ k, v = .bl k ∧ Q (.bl (g k)) H') E
theorem eqx_pre {pins : List (Addr × Obj)} {σ : L2.St} {H : Hp} {s : Shared} {b D dy : Addr} {gs : List (Str × V)} (I : Inv X pins σ H s) (hb : H b = some (.ins D dy gs)) (h : D = C ∨ PySem.W.subIn X.K (.ref D) (.ref C) = some false) :
    ∃ tb, PySem.W.Looks (model X.prog X.w) s.heap (typeOf (.ref b)) tb ∧ PySem.W.notFirst X.K C tb = true := by
  obtain ⟨ox, od, J, hd⟩ := plain_at I hb
  refine ⟨.ref D, J.type, ?_⟩
  rcases h with rfl | h
  · unfold PySem.W.notFirst; simp
  · unfold PySem.W.notFirst; rw [h]; simp
theorem op_eqX (F : FnOk X.prog X.w X.K X.mg X.base CX n f fd ps sp) (O : EqF X.K C f) (hu : X.A.units < cLine) (hr : Room n X.A) (hb : Binds X.K fd ps []) (hx : Passes CX X E) : OpR X (compareOp .Eq) (rEqX X.K C sp E id) := by
  intro pins s σ H x y v u Q I rx ry h
  obtain ⟨p, dx, fs, b, D, dy, gs, rfl, hp, rfl, hB, hD, q⟩ := h
  cases rx
  cases ry
  obtain ⟨ox, od, J, hd⟩ := plain_at I hp
  obtain ⟨tb, hl, hn⟩ := eqx_pre I hB hD
  obtain ⟨m, hF⟩ := I.fr
  have rv : Vals [V.ref p, V.ref b] [Value.ref p, Value.ref b] := .cons rfl (.cons rfl .nil)
  show wpAny _ _ (richCompare .Eq (.ref p) (.ref b)) _ _ _
  refine PySem.W.cmp_K hu hF I.ok.mod.kin J hl hn O.own.at_ O.own.fn (run_at F ⟨hr, rfl⟩ hb hx I rv q fun v u H' s' I' rv qv => ?_)
  obtain ⟨k, rfl, qv⟩ := qv
  cases rv
  exact ⟨.bl (id k), H', I', rfl, qv⟩
theorem op_neX (F : FnOk X.prog X.w X.K X.mg X.base CX n f fd ps sp) (O : EqF X.K C f) (hu : X.A.units + 1 < cLine) (hr : Room (n + 1) X.A) (hb : Binds X.K fd ps []) (hx : Passes CX X E) : OpR X (compareOp .NotEq) (rEqX X.K C sp E not) := by
  intro pins s σ H x y v u Q I rx ry h
  obtain ⟨p, dx, fs, b, D, dy, gs, rfl, hp, rfl, hB, hD, q⟩ := h
  cases rx
  cases ry
  obtain ⟨ox, od, J, hd⟩ := plain_at I hp
  obtain ⟨tb, hl, hn⟩ := eqx_pre I hB hD
  obtain ⟨m, hF⟩ := I.fr
  have rv : Vals [V.ref p, V.ref b] [Value.ref p, Value.ref b] := .cons rfl (.cons rfl .nil)
  show wpAny _ _ (richCompare .NotEq (.ref p) (.ref b)) _ _ _
  refine ne_own hu hF I.ok.mod.kin J hl hn O.ne O.own.at_ O.own.fn O.ob (run_at F (Sub.in1 (n := n) ⟨hr, rfl⟩) hb hx I rv q fun v u H' s' I' rv qv => ?_)
  obtain ⟨k, rfl, qv⟩ := qv
  cases rv
  exact ⟨k, rfl, .bl (!k), H', I', rfl, qv⟩
end
end OS

/-! ### operators of own classes, over data -/
namespace OZ
open PySem L2 PySem.Spec PyProof.Rows
structure SpecG (M : Mode) (B : Bd) (k : Nat) (C : Addr) (mt : Str) (n : Nat) (F : FD) : Prop where
  ex : ∃ g : Addr, OS.Own B.K C mt g ∧ FnG M B k g n F
theorem SpecG.lift {M : Mode} {B : Bd} {k n : Nat} {C : Addr} {mt : Str} {F : FD} (c : SpecG pureM B k C mt n F) : SpecG M B k C mt n (FP F) := by
  obtain ⟨g, h1, h2⟩ := c.ex
  exact ⟨g, h1, h2.lift⟩
section
variable {M : Mode} {X : Cx} {KE : Kx} {P : Da → Nat → Prop} {m k j n : Nat} {C D f : Addr} {F : FD} {mt : Str} {fs gs : List (Str × Da)} {ds : List Da} {B : Bd} {N : List Str} {sc : Scope}
theorem run_atD {A : Around} (c : FnG M (bdOf X) k f n F) (sb : Sub X j A) (hk : k ≤ j) (hl : ds.length = n) {P' : Da → Nat → Prop} (hF : F ds P' KE m) {G H : Hp} {σ : L2.St} {W : WX} {pins : List (Addr × Obj)} {s : Shared} {vs : List V} {us : List Value} {R : Value → Shared → Prop} (ok : Ok M G H G H m) (wi : Wis M X KE G H σ W)
    (r : Reps X.K G vs ds) (I : Inv X pins σ H s) (rv : Vals vs us) (kk : ∀ v d m' G' H' u s', P' d m' → Ok M G H G' H' m' → Rep X.K G' v d → Inv X pins σ H' s' → RelV v u → R u s') : wpAny (model X.prog X.w) A (call (.ref f) us) R X.xe s := by
  obtain ⟨CX, fd, ps, Fo, hb, hc, hn⟩ := c.ex
  have e0 : Env0 X.prog X.w X.K X.mg X.base A X.stack s H := by
    have e := I.env0
    exact ⟨by rw [sb.fr]; exact e.frames, e.mod, e.bs, e.bsz, e.funs, e.frf, e.hok, e.bare⟩
  have sp : spD M X.K n F vs H (fun v H' => ∃ d m' G', P' d m' ∧ Ok M G H G' H' m' ∧ Rep X.K G' v d) (WE W σ) := ⟨r.length.trans hl, G, m, ds, P', KE, ok, r, hF, fun v d m' G' H' p o rr => ⟨d, m', G', p, o, rr⟩, fun C fs d m' G' H' => wi.ex C fs d m' G' H'⟩
  refine wpAny_call (codeAny_mono (Fo.run A X.stack s H ⟨us, []⟩ us vs _ (WE W σ) (sb.room.mono hk) e0 (by
    have := hb s us I.kIn (by rw [List.append_nil, ← rv.length, r.length, hl]; exact hn)
    simpa using this) rv sp) fun r' s' hq => ?_)
  cases r' with
  | error e => exact passes_any wi.tk hc σ pins H s e s' I hq
  | ok fl =>
    cases fl with
    | ret u =>
      obtain ⟨v, H', I', rv, d, m', G', p, o, rr⟩ := I.after hq
      exact kk v d m' G' H' u s' p o rr I' rv
    | next => exact False.elim hq
    | brk => exact False.elim hq
    | cont => exact False.elim hq
/-- x op y, both of the class -/
theorem opd_own2 {op : Operator} (cx : Ctx X N sc B) (c : SpecG M B k C (PySem.dunder op.info.2) 2 F) (hc : PySem.W.selfFirst X.K C = true) (hr : Room j X.A) (h : F [.obj C fs, .obj C gs] P KE m) (hk : k ≤ j := by with_unfolding_all decide) : OpD M X KE (binaryOp op) (.obj C fs) (.obj C gs) P m := by
  have eb := cx.b
  subst eb
  obtain ⟨g, o, fg⟩ := c.ex
  intro G H σ W Q x y ok wi r1 r2 po pins s v u I rx ry
  have r10 := r1; have r20 := r2
  obtain ⟨a, dx, vs, rfl, ea, _⟩ := r1.obj_inv
  obtain ⟨b, dy, ws, rfl, eb, _⟩ := r2.obj_inv
  cases rx; cases ry
  obtain ⟨mA, J, _⟩ := ins_get I.hok (ok.sub _ _ ea)
  obtain ⟨mB, J', _⟩ := ins_get I.hok (ok.sub _ _ eb)
  obtain ⟨od, J, _⟩ := J.look
  obtain ⟨od', J', _⟩ := J'.look
  obtain ⟨mm, hF⟩ := I.fr
  exact PySem.W.binop_K hF I.ok.mod.kin J J'.type hc o.at_ o.fn (run_atD fg ⟨hr, rfl⟩ hk rfl h ok wi (.cons r10 (.cons r20 .nil)) I OS.v2 fun v d m' G' H' u s' p o2 rr I' rv => OS.notImpl rv ⟨v, H', I', rv, po v d m' G' H' p o2 rr⟩)
/-- len(o) -/
theorem cd_lenO (cx : Ctx X N sc B) (c : SpecG M B k C "__len__" 1 F) (hr : Room j X.A) (h : F [.obj C fs] (fun d m1 => ∃ i : Int, d = .int i ∧ (0 ≤ i ∧ i < 2 ^ 63) ∧ P (.int i) m1) KE m) (hk : k + 1 ≤ j := by with_unfolding_all decide) : CallD M X KE (.builtin "len") [.obj C fs] P m := by
  have eb := cx.b
  subst eb
  obtain ⟨g, o, fg⟩ := c.ex
  intro G H σ W Q vs ok wi r po pins s us I rv
  obtain ⟨x, rfl, r1⟩ := reps1 r
  have r10 := r1
  obtain ⟨a, dx, ws, rfl, ea, _⟩ := r1.obj_inv
  obtain ⟨u, rfl, ru⟩ := vals1 rv
  cases ru
  obtain ⟨mA, J, _⟩ := ins_get I.hok (ok.sub _ _ ea)
  obtain ⟨od, J, _⟩ := J.look
  obtain ⟨mm, hF⟩ := I.fr
  refine PySem.W.len_K hF I.ok.mod.kin J o.at_ o.fn (run_atD fg (Sub.in1 (n := k) ⟨hr.mono hk, rfl⟩) (Nat.le_refl _) rfl h ok wi (.cons r10 .nil) I OS.v1 fun v d m' G' H' u s' p o2 rr I' rv => ?_)
  obtain ⟨i, rfl, hi, p⟩ := p
  cases rr.int_inv
  obtain ⟨t, rfl⟩ := rv
  exact ⟨hi, .int i, H', I'.tok _, ⟨_, rfl⟩, po _ _ m' G' H' p o2 (.int i)⟩
/-- k in o -/
theorem opd_inO {x : Da} (cx : Ctx X N sc B) (c : SpecG M B k C "__contains__" 2 F) (hr : Room j X.A) (h : F [.obj C fs, x] (fun d m1 => ∃ b, d = .bl b ∧ P (.bl b) m1) KE m) (hk : k ≤ j := by with_unfolding_all decide) : OpD M X KE (compareOp .In) x (.obj C fs) P m := by
  have eb := cx.b
  subst eb
  obtain ⟨g, o, fg⟩ := c.ex
  intro G H σ W Q y z ok wi r1 r2 po pins s v u I rx ry
  have r20 := r2
  obtain ⟨a, dx, ws, rfl, ea, _⟩ := r2.obj_inv
  cases ry
  obtain ⟨mA, J, _⟩ := ins_get I.hok (ok.sub _ _ ea)
  obtain ⟨od, J, _⟩ := J.look
  obtain ⟨mm, hF⟩ := I.fr
  refine PySem.W.in_K hF I.ok.mod.kin J o.at_ o.fn (run_atD fg ⟨hr, rfl⟩ hk rfl h ok wi (.cons r20 (.cons r1 .nil)) I (.cons rfl (.cons rx .nil)) fun v d m' G' H' u s' p o2 rr I' rv => ?_)
  obtain ⟨b, rfl, p⟩ := p
  cases rr.bl_inv
  cases rv
  exact wpAny_truthy_bool ⟨.bl b, H', I', rfl, po _ _ m' G' H' p o2 (.bl b)⟩
/-- o == p, o != p -/
theorem opd_eqO (cx : Ctx X N sc B) (c : FnG M B k f 2 F) (O : OS.EqF X.K C f) (hD : D = C ∨ PySem.W.subIn X.K (.ref D) (.ref C) = some false) (hr : Room j X.A) (hu : X.A.units < cLine) (h : F [.obj C fs, .obj D gs] (fun d m1 => ∃ b, d = .bl b ∧ P (.bl b) m1) KE m) (hk : k ≤ j := by with_unfolding_all decide) : OpD M X KE (compareOp .Eq) (.obj C fs) (.obj D gs) P m := by
  have eb := cx.b
  subst eb
  intro G H σ W Q x y ok wi r1 r2 po pins s v u I rx ry
  have r10 := r1; have r20 := r2
  obtain ⟨a, dx, vs, rfl, ea, _⟩ := r1.obj_inv
  obtain ⟨b, dy, ws, rfl, eb, _⟩ := r2.obj_inv
  cases rx; cases ry
  obtain ⟨ox, od, J, hd⟩ := OS.plain_at I (ok.sub _ _ ea)
  obtain ⟨tb, hl, hn⟩ := OS.eqx_pre I (ok.sub _ _ eb) hD
  obtain ⟨mm, hF⟩ := I.fr
  show wpAny _ _ (richCompare .Eq (.ref a) (.ref b)) _ _ _
  refine PySem.W.cmp_K hu hF I.ok.mod.kin J hl hn O.own.at_ O.own.fn (run_atD c ⟨hr, rfl⟩ hk rfl h ok wi (.cons r10 (.cons r20 .nil)) I OS.v2 fun v d m' G' H' u s' p o2 rr I' rv => ?_)
  obtain ⟨b, rfl, p⟩ := p
  cases rr.bl_inv
  cases rv
  exact ⟨.bl b, H', I', rfl, po _ _ m' G' H' p o2 (.bl b)⟩
theorem opd_neO (cx : Ctx X N sc B) (c : FnG M B k f 2 F) (O : OS.EqF X.K C f) (hD : D = C ∨ PySem.W.subIn X.K (.ref D) (.ref C) = some false) (hr : Room j X.A) (hu : X.A.units + 1 < cLine) (h : F [.obj C fs, .obj D gs] (fun d m1 => ∃ b, d = .bl b ∧ P (.bl (!b)) m1) KE m) (hk : k + 1 ≤ j := by with_unfolding_all decide) : OpD M X KE (compareOp .NotEq) (.obj C fs) (.obj D gs) P m := by
  have eb := cx.b
  subst eb
  intro G H σ W Q x y ok wi r1 r2 po pins s v u I rx ry
  have r10 := r1; have r20 := r2
  obtain ⟨a, dx, vs, rfl, ea, _⟩ := r1.obj_inv
  obtain ⟨b, dy, ws, rfl, eb, _⟩ := r2.obj_inv
  cases rx; cases ry
  obtain ⟨ox, od, J, hd⟩ := OS.plain_at I (ok.sub _ _ ea)
  obtain ⟨tb, hl, hn⟩ := OS.eqx_pre I (ok.sub _ _ eb) hD
  obtain ⟨mm, hF⟩ := I.fr
  show wpAny _ _ (richCompare .NotEq (.ref a) (.ref b)) _ _ _
  refine OS.ne_own hu hF I.ok.mod.kin J hl hn O.ne O.own.at_ O.own.fn O.ob (run_atD c (Sub.in1 (n := k) ⟨hr.mono hk, rfl⟩) (Nat.le_refl _) rfl h ok wi (.cons r10 (.cons r20 .nil)) I OS.v2 fun v d m' G' H' u s' p o2 rr I' rv => ?_)
  obtain ⟨b, rfl, p⟩ := p
  cases rr.bl_inv
  cases rv
  exact ⟨b, rfl, .bl (!b), H', I', rfl, po _ _ m' G' H' p o2 (.bl (!b))⟩
/-- i.bit_length() -/
theorem evd_bits {o : Expr} {sl : List Sl} {apos pos : Pos} (h : EvD M X KE o sl (fun d m1 => ∃ i : Int, d = .int i ∧ P (.int ((Builtin.Int.intBits i : Nat) : Int)) m1) m) (hbase : attributeBase o "bit_length" X.env (eval o X.env) = eval o X.env := by with_unfolding_all rfl) (hline : (apos.endLine == pos.line) = true := by with_unfolding_all rfl) : EvD M X KE (.Call (.Attribute o "bit_length" apos) [] [] pos) sl P m := fun G0 H0 G H σ W Q ok so wi po =>
  wpE.of (pe_bits pe_wp hbase hline) (h G0 H0 G H σ W _ ok so wi fun v d m' G' H' q o r => by
    obtain ⟨i, rfl, q⟩ := q
    exact ⟨i, r.int_inv, po _ _ m' G' H' q o (.int _)⟩)
end
end OZ

/-! ### defs with defaults; the law -/
namespace OZ
open PySem L2 PySem.Spec PyProof.Rows
section
variable {B : Bd} {M : Mode} {x qual : Str} {st : Stmt} {f : Addr} {fd : FuncData} {N ps : List Str} {k n : Nat} {F : FD} {dvs : List V} {kws : List (Str × V)}
theorem fnD_ok (Fn : FunD B.K x qual (defArgs st) (defBody st) (defScope st) dvs kws f fd) (S : FnScope N ps (defScope st)) (hn : n = ps.length)
    (h : ∀ (X : Cx) (ds : List Da) (KR : Da → Nat → Prop) (KE : Kx) (m : Nat), (∃ cdv A outer s H E, X = cxOf (L2.CX B.P B.w) B.P B.w B.K B.mg B.base N qual (defScope st) f cdv A outer s H E) → Ctx X N (defScope st) B → Room k X.A → ds.length = n → F ds KR KE m →
      StD M X (fun _ => KE) (defBody st) (startD N ds) { nx := fun _ m' => KR .non m', rt := KR } m) : FnOk B.P B.w B.K B.mg B.base (L2.CX B.P B.w) (k + 1) f fd ps (spD M B.K n F) := by
  refine Fn.ok S (fun vs H Q E q => q.1.trans hn) (fun cdv A outer s H vs Q E hr q => ?_)
  obtain ⟨hl, G, m, ds, KR, KE, ok, r, hF, po, px⟩ := q
  refine ⟨_, pss_wp, ?_⟩
  refine h (cxOf (L2.CX B.P B.w) B.P B.w B.K B.mg B.base N qual (defScope st) f cdv A outer s H E) ds KR KE m ⟨cdv, A, outer, s, H, E, rfl⟩ ⟨rfl, rfl, S.nd, rfl⟩ hr (r.length.symm.trans hl) hF G H G H (L2.start N vs) (fun cls d _ H => E cls d H) _ ok (sok_start r) ⟨takes_of rfl rfl rfl rfl, fun C fs d σ sl m' G' H' q o _ x => px C fs d m' G' H' q o x⟩ ⟨?_, ?_, ?_, ?_, ?_⟩
  · exact fun σ sl m' G' H' q o _ => po .non .non m' G' H' q o .non
  · exact fun v d m' G' H' q o rr => po v d m' G' H' q o rr
  · exact fun _ _ _ _ _ z => z.elim
  · exact fun _ _ _ _ _ z => z.elim
  · exact fun _ _ _ _ _ z => z.elim
theorem FnK.dflt {CX : CXT} {vs0 : List V} {us0 : List Value} {ds0 : List Da} (Fo : FnOk B.P B.w B.K B.mg B.base CX k f fd ps (spD M B.K ps.length F)) (hc : CX = CX0 ∨ CX = L2.CX B.P B.w) (hb : Binds B.K fd ps us0) (hv : Vals vs0 us0) (hr : ∀ G, Reps B.K G vs0 ds0) (hn : n + ds0.length = ps.length) : FnK M B k f n [] (fun ds _ => ds ++ ds0) F := by
  have l0 : us0.length = ds0.length := by rw [← hv.length, (hr (fun _ => none)).length]
  refine ⟨CX, fd, ps, fun us _ => us ++ us0, fun vs _ => vs ++ vs0, Fo, ⟨fun s us ws Kin l1 l2 => hb s us Kin (by rw [List.length_append, l1, l0]; exact hn), fun a _ => a.append hv⟩, fun G vs zs ds es r1 r2 h1 _ => ⟨r1.append (hr G), by rw [List.length_append, h1]; exact hn⟩, hc⟩
theorem FnK.kw {CX : CXT} {ks : List Str} {g : List Value → List Value → List Value} {gV : List V → List V → List V} {gD : List Da → List Da → List Da} (Fo : FnOk B.P B.w B.K B.mg B.base CX k f fd ps (spD M B.K ps.length F)) (hc : CX = CX0 ∨ CX = L2.CX B.P B.w) (hb : KBn B.K fd ps n ks g gV)
    (hr : ∀ (G : Hp) (vs zs : List V) (ds es : List Da), Reps B.K G vs ds → Reps B.K G zs es → ds.length = n → es.length = ks.length → Reps B.K G (gV vs zs) (gD ds es) ∧ (gD ds es).length = ps.length) : FnK M B k f n ks gD F := ⟨CX, fd, ps, g, gV, Fo, hb, hr, hc⟩
end
def spLaw (K : PySem.W.Frag) : Sp := fun vs H Q _ => ∃ (a : Addr) (ns : List Int), vs = [.ref a] ∧ SqL K H a (ns.map V.int) ∧ ns.length ≤ 63 ∧ ∀ H', Q (.bl true) H'
end OZ
namespace OZ
open PySem L2 PySem.Spec PyProof.Rows
theorem calld_make {M : Mode} {X : Cx} {KE : Kx} {P : Da → Nat → Prop} {m k j n : Nat} {C : Addr} {gD : List Da → List Da → List Da} {F : FI} {ds : List Da} {N : List Str} {sc : Scope} {B : Bd} (cx : Ctx X N sc B) (c : MakeG M B k C n [] gD F) (hr : Room j X.A) (h1 : ds.length = n) (h : F (gD ds []) (fun fs m1 => P (.obj C fs) m1) KE m) (hk : k + 1 ≤ j := by with_unfolding_all decide) : CallD M X KE (.ref C) ds P m := by
  have eb := cx.b
  subst eb
  exact (c.call hr h1 rfl h hk).toK.d
theorem FnG.mk' {B : Bd} {M : Mode} {CX : CXT} {k n : Nat} {f : Addr} {fd : FuncData} {ps : List Str} {F : FD} (Fo : FnOk B.P B.w B.K B.mg B.base CX k f fd ps (spD M B.K n F)) (hb : Binds B.K fd ps []) (hc : CX = CX0 ∨ CX = L2.CX B.P B.w) (hn : n = ps.length) : FnG M B k f n F := ⟨CX, fd, ps, Fo, hb, hc, hn⟩
end OZ

/-! ### comprehensions and loops by an invariant -/
namespace OZ
open PySem L2 PySem.Spec PyProof.Rows
theorem compd_go {step : Da → (Option Da → Nat → Prop) → Nat → Prop} (mono : ∀ d k k' m, (∀ o m', k o m' → k' o m') → step d k m → step d k' m) (I : Nat → List Da → Nat → Prop) : ∀ (ds : List Da) (i : Nat) (acc : List Da) (m : Nat) (K : List Da → Nat → Prop), I i acc m →
    (∀ j d acc m, ds[j]? = some d → I (i + j) acc m → step d (fun o m1 => I (i + j + 1) (acc ++ o.toList) m1) m) → (∀ r m, I (i + ds.length) (acc ++ r) m → K r m) → CompD step ds K m
  | [], i, acc, m, K, h0, _, k => k [] m (by simpa using h0)
  | d :: ds, i, acc, m, K, h0, h, k => by
    refine mono d _ _ m (fun o m1 h1 => ?_) (h 0 d acc m rfl h0)
    refine compd_go mono I ds (i + 1) (acc ++ o.toList) m1 _ h1 (fun j d acc m e h2 => ?_) fun r m2 h2 => ?_
    · have := h (j + 1) d acc m (by simpa using e) (by rw [show i + (j + 1) = i + 1 + j by omega]; exact h2)
      rw [show i + 1 + j + 1 = i + (j + 1) + 1 by omega]
      exact this
    · refine k _ m2 ?_
      rw [← List.append_assoc, show i + (d :: ds).length = i + 1 + ds.length by simp; omega]
      exact h2
theorem compd_inv {step : Da → (Option Da → Nat → Prop) → Nat → Prop} (mono : ∀ d k k' m, (∀ o m', k o m' → k' o m') → step d k m → step d k' m) (I : Nat → List Da → Nat → Prop) {ds : List Da} {m : Nat} {K : List Da → Nat → Prop} (h0 : I 0 [] m)
    (h : ∀ j d acc m, ds[j]? = some d → I j acc m → step d (fun o m1 => I (j + 1) (acc ++ o.toList) m1) m) (k : ∀ r m, I ds.length r m → K r m) : CompD step ds K m :=
  compd_go mono I ds 0 [] m K h0 (fun j d acc m e h1 => by rw [Nat.zero_add] at h1 ⊢; exact h j d acc m e h1) fun r m h1 => k r m (by simpa using h1)
section
variable {M : Mode} {X : Cx} {scope : Scope} {N : List Str} {sc : Scope} {B : Bd} {j : Nat} {vs : List Nat} {tg elt : Expr} {ifs : List Expr} {sl : List Sl} {m : Nat} {x : Str} {p : Pos}
theorem lcstep_mono : ∀ d k k' m, (∀ o m', k o m' → k' o m') → lcStep M X scope N sc B j vs tg ifs elt sl d k m → lcStep M X scope N sc B j vs tg ifs elt sl d k' m := by
  rintro d k k' m hk ⟨sl', is, h1, h2, h3⟩
  refine ⟨sl', is, h1, h2, ?_⟩
  have one : ∀ b m1, (if b = true then AllX X scope N sc B j fun X' => EvD M X' K0 elt sl' (fun y m2 => k (some y) m2) m1 else k none m1) → if b = true then AllX X scope N sc B j fun X' => EvD M X' K0 elt sl' (fun y m2 => k' (some y) m2) m1 else k' none m1 := by
    intro b m1 h
    cases b with
    | true => rw [if_pos rfl] at h ⊢; exact fun s H C cl fp cx hr => evd_imp (h s H C cl fp cx hr) fun y m' q => hk _ _ q
    | false => rw [if_neg Bool.false_ne_true] at h ⊢; exact hk _ _ h
  match ifs, h3 with
  | [], h3 => exact one true m h3
  | [c], h3 => exact fun s H C cl fp cx hr => evt_imp (h3 s H C cl fp cx hr) fun b m' q => one b m' q
  | _ :: _ :: _, h3 => exact h3.elim
/-- [elt for x in ..] -/
theorem lcstep_name {i : Nat} {d : Da} {k : Option Da → Nat → Prop} (hi : EnvSet N sl x i (.v d) (sl.set i (.v d))) (hv : i ∈ vs) (h : AllX X scope N sc B j fun X' => EvD M X' K0 elt (sl.set i (.v d)) (fun y m2 => k (some y) m2) m) (hl : (relabelS scope sc).names.lookup x = some .local) : lcStep M X scope N sc B j vs (.Name x p) [] elt sl d k m :=
  ⟨_, [i], fun s H C cl fp cx hr => .name hi (.inl hl) (.inr (by rw [cx.s]; exact hl)), fun a ha => (by rw [List.mem_singleton.mp ha]; exact hv), h⟩
/-- .. if c -/
theorem lcstep_nameIf {c : Expr} {i : Nat} {d : Da} {k : Option Da → Nat → Prop} (hi : EnvSet N sl x i (.v d) (sl.set i (.v d))) (hv : i ∈ vs)
    (h : AllX X scope N sc B j fun X' => EvT M X' K0 c (sl.set i (.v d)) (fun b m1 => if b = true then AllX X scope N sc B j fun X' => EvD M X' K0 elt (sl.set i (.v d)) (fun y m2 => k (some y) m2) m1 else k none m1) m) (hl : (relabelS scope sc).names.lookup x = some .local) : lcStep M X scope N sc B j vs (.Name x p) [c] elt sl d k m :=
  ⟨_, [i], fun s H C cl fp cx hr => .name hi (.inl hl) (.inr (by rw [cx.s]; exact hl)), fun a ha => (by rw [List.mem_singleton.mp ha]; exact hv), h⟩
theorem EnvSet.of : ∀ {N : List Str} {sl : List Sl} {x : Str} {i : Nat} {s : Sl}, IdxAt N x i → sl.length = N.length → EnvSet N sl x i s (sl.set i s)
  | _ :: _, _ :: _, _, _, _, .here, _ => .here
  | _ :: _, _ :: _, _, _, _, .there h, e => .there (EnvSet.of h (by simpa using e))
  | _ :: _, [], _, _, _, _, e => by simp at e
/-- the comprehension [elt for x in ds], elt the value f of each, no drawing -/
theorem compd_map {i : Nat} (f : Da → Da) {ds : List Da} {K : List Da → Nat → Prop} (hi : IdxAt N x i) (hN : sl.length = N.length) (hv : i ∈ vs) (h : ∀ d ∈ ds, ∀ (P : Da → Nat → Prop), P (f d) m → AllX X scope N sc B j fun X' => EvD M X' K0 elt (sl.set i (.v d)) P m) (k : K (ds.map f) m) (hl : (relabelS scope sc).names.lookup x = some .local := by with_unfolding_all rfl) :
    CompD (lcStep M X scope N sc B j vs (.Name x p) [] elt sl) ds K m := by
  refine compd_inv lcstep_mono (fun n acc m' => m' = m ∧ acc = (ds.take n).map f) ⟨rfl, rfl⟩ ?_ fun r m' ⟨e1, e2⟩ => by rw [e1, e2, List.take_length]; exact k
  rintro n d acc m' e ⟨rfl, rfl⟩
  refine lcstep_name (.of hi hN) hv (h d (List.mem_of_getElem? e) _ ⟨rfl, ?_⟩) hl
  rw [List.take_succ, e]
  simp
/-- .. by an invariant -/
theorem compd_all {i : Nat} (I : Nat → List Da → Nat → Prop) {ds : List Da} {K : List Da → Nat → Prop} (hi : IdxAt N x i) (hN : sl.length = N.length) (hv : i ∈ vs) (h0 : I 0 [] m) (h : ∀ n d acc m, ds[n]? = some d → I n acc m → AllX X scope N sc B j fun X' => EvD M X' K0 elt (sl.set i (.v d)) (fun y m1 => I (n + 1) (acc ++ [y]) m1) m) (k : ∀ r m, I ds.length r m → K r m) (hl : (relabelS scope sc).names.lookup x = some .local := by with_unfolding_all rfl) :
    CompD (lcStep M X scope N sc B j vs (.Name x p) [] elt sl) ds K m := compd_inv lcstep_mono I h0 (fun n d acc m e q => lcstep_name (.of hi hN) hv (h n d acc m e q) hl) k
end
section
variable {body : Da → List Sl → Kn → Nat → Prop} {D : Kn}
theorem ford_go (mono : ∀ d sl D D' m, (∀ s n, D.nx s n → D'.nx s n) → (∀ s n, D.ct s n → D'.ct s n) → D.rt = D'.rt → D.bk = D'.bk → D.rn = D'.rn → body d sl D m → body d sl D' m) (I : Nat → List Sl → Nat → Prop) : ∀ (ds : List Da) (i : Nat) (sl : List Sl) (m : Nat), I i sl m →
    (∀ j d sl m, ds[j]? = some d → I (i + j) sl m → body d sl { D with nx := I (i + j + 1), ct := I (i + j + 1), bk := D.nx } m) → (∀ sl m, I (i + ds.length) sl m → D.nx sl m) → ForD body D ds sl m
  | [], i, sl, m, h0, _, k => k sl m h0
  | d :: ds, i, sl, m, h0, h, k => by
    have nx : ∀ s n, I (i + 1) s n → ForD body D ds s n := fun s n q => ford_go mono I ds (i + 1) s n q (fun j d sl m e h2 => by
      have := h (j + 1) d sl m (by simpa using e) (by rw [show i + (j + 1) = i + 1 + j by omega]; exact h2)
      rw [show i + 1 + j + 1 = i + (j + 1) + 1 by omega]
      exact this) fun sl m h2 => k sl m (by rw [show i + (d :: ds).length = i + 1 + ds.length by simp; omega]; exact h2)
    exact mono d sl { D with nx := I (i + 0 + 1), ct := I (i + 0 + 1), bk := D.nx } _ m nx nx rfl rfl rfl (h 0 d sl m rfl h0)
theorem ford_inv (mono : ∀ d sl D D' m, (∀ s n, D.nx s n → D'.nx s n) → (∀ s n, D.ct s n → D'.ct s n) → D.rt = D'.rt → D.bk = D'.bk → D.rn = D'.rn → body d sl D m → body d sl D' m) (I : Nat → List Sl → Nat → Prop) {ds : List Da} {sl : List Sl} {m : Nat} (h0 : I 0 sl m)
    (h : ∀ j d sl m, ds[j]? = some d → I j sl m → body d sl { D with nx := I (j + 1), ct := I (j + 1), bk := D.nx } m) (k : ∀ sl m, I ds.length sl m → D.nx sl m) : ForD body D ds sl m :=
  ford_go mono I ds 0 sl m h0 (fun j d sl m e h1 => by rw [Nat.zero_add] at h1 ⊢; exact h j d sl m e h1) fun sl m h1 => k sl m (by simpa using h1)
theorem for_mono {M : Mode} {X : Cx} {KE : Ks} {N : List Str} {sc : Scope} {tg : Expr} {st : List Stmt} : ∀ d sl (D D' : Kn) m, (∀ s n, D.nx s n → D'.nx s n) → (∀ s n, D.ct s n → D'.ct s n) → D.rt = D'.rt → D.bk = D'.bk → D.rn = D'.rn →
    (∃ sl' is, Tg X N sc tg d sl sl' is ∧ StD M X KE st sl' D m) → ∃ sl' is, Tg X N sc tg d sl sl' is ∧ StD M X KE st sl' D' m := fun d sl D D' m h1 h2 h3 h4 h5 ⟨sl', is, t, s⟩ =>
  ⟨sl', is, t, std_imp s h1 (fun _ _ q => h3 ▸ q) (fun _ _ q => h4 ▸ q) h2 (fun _ _ q => h5 ▸ q)⟩
/-- for x in ds, by an invariant -/
theorem for_inv {M : Mode} {X : Cx} {KE : Ks} {N : List Str} {sc : Scope} {x : Str} {p : Pos} {st : List Stmt} {i : Nat} {B : Bd} (cx : Ctx X N sc B) (I : Nat → List Sl → Nat → Prop) {ds : List Da} {sl : List Sl} {m : Nat} (hi : IdxAt N x i) (h0 : I 0 sl m) (hN : ∀ n sl m, I n sl m → sl.length = N.length)
    (h : ∀ j d sl m, ds[j]? = some d → I j sl m → StD M X KE st (sl.set i (.v d)) { D with nx := I (j + 1), ct := I (j + 1), bk := D.nx } m) (k : ∀ sl m, I ds.length sl m → D.nx sl m) (hl : Loc sc x := by with_unfolding_all first | exact Or.inl rfl | exact Or.inr rfl) (hf : X.fn x = true ∨ X.env.scope.names.lookup x = some .local := by with_unfolding_all first | exact Or.inl rfl | exact Or.inr rfl) : ForD (fun d sl D m => ∃ sl' is, Tg X N sc (.Name x p) d sl sl' is ∧ StD M X KE st sl' D m) D ds sl m :=
  ford_inv for_mono I h0 (fun j d sl m e q => ⟨_, [i], .name (.of hi (hN j sl m q)) hl hf, h j d sl m e q⟩) k
end
end OZ
namespace OZ
open PySem L2 PySem.Spec PyProof.Rows
theorem evd_fldB {M : Mode} {X : Cx} {KE : Kx} {e : Expr} {sl : List Sl} {P : Da → Nat → Prop} {m : Nat} {pos : Pos} {f : Str} {N : List Str} {sc : Scope} {B : Bd} (cx : Ctx X N sc B) (h : EvD M X KE e sl (fun d m1 => ∃ C fs v, d = .obj C fs ∧ Cls B.K C ∧ NoAttr B.K C f ∧ fs.lookup f = some v ∧ P v m1) m) (hb : attributeBase e f X.env (eval e X.env) = eval e X.env := by with_unfolding_all rfl) : EvD M X KE (.Attribute e f pos) sl P m := by
  have eb := cx.b
  subst eb
  exact evd_fld h hb
end OZ
namespace OZ
open PySem L2 PySem.Spec PyProof.Rows
theorem tryk_hit {M : Mode} {X : Cx} {KS : Ks} {C C' : Addr} {i : Nat} {suite : List Stmt} {D : Kn} {sl : List Sl} {fs : List (Str × Da)} {m : Nat} (hb : PySem.W.exmOne X.K (.ref C') (.ref C) = some true) (hne : fs.isEmpty = false)
    (h : ∀ a oe dd pn, SuX (X.suite a ((a, oe) :: pn)) C' a dd → StD M (X.suite a ((a, oe) :: pn)) (fun _ => K0) suite (sl.set i (.v (.exc a dd fs))) { D with nx := fun sl' m' => D.nx (sl'.set i .un) m', bk := fun sl' m' => D.bk (sl'.set i .un) m', ct := fun sl' m' => D.ct (sl'.set i .un) m' } m) : TryK M X KS C i suite D sl C' fs m :=
  ⟨true, hb, fun _ => ⟨h, fun e => (by rw [e] at hne; exact nomatch hne)⟩, fun z => nomatch z⟩
theorem tryk_pass {M : Mode} {X : Cx} {KS : Ks} {C C' : Addr} {i : Nat} {suite : List Stmt} {D : Kn} {sl : List Sl} {fs : List (Str × Da)} {m : Nat} (hb : PySem.W.exmOne X.K (.ref C') (.ref C) = some false) (h : KS sl C' fs m) : TryK M X KS C i suite D sl C' fs m :=
  ⟨false, hb, (fun z => nomatch z), fun _ => h⟩
structure ErrX (B : Bd) (C : Addr) (n : Str) : Prop where
  xf : XfC B.K C
  no : PySem.W.findIn B.K (.ref C) n = some none
theorem evd_xfB {M : Mode} {X : Cx} {KE : Kx} {e : Expr} {sl : List Sl} {P : Da → Nat → Prop} {m : Nat} {pos : Pos} {C a dd : Addr} {n : Str} {N : List Str} {sc : Scope} {B : Bd} (cx : Ctx X N sc B) (su : SuX X C a dd) (T : ErrX B C n) (h : EvD M X KE e sl (fun d m1 => ∃ fs v, d = .exc a dd fs ∧ fs.lookup n = some v ∧ P v m1) m) (hb : attributeBase e n X.env (eval e X.env) = eval e X.env := by with_unfolding_all rfl) : EvD M X KE (.Attribute e n pos) sl P m := by
  have eb := cx.b
  subst eb
  exact evd_xf su T.xf T.no h hb
end OZ
namespace OZ
open PySem L2 PySem.Spec PyProof.Rows
/-- try with one clause for the one class that its body may raise; what stands at the clause -/
theorem st1_tryI {M : Mode} {X : Cx} {KS : Ks} {sl : List Sl} {D : Kn} {m : Nat} {pos : Pos} {x : Str} {C : Addr} {N : List Str} {sc : Scope} {B : Bd} {i : Nat} {nm : Str} {np hpos : Pos} {body suite : List Stmt} {b₀ : Stmt} (I : List Sl → List (Str × Da) → Nat → Prop) (cx : Ctx X N sc B) (hm : B.mg x = some (.ref C)) (hi : IdxAt N nm i) (te : PySem.W.exmOne B.K (.ref C) (.ref C) = some true)
    (h : ∀ pn xe, PassesOwn (model X.prog X.w) X.A X.env xe → Ctx (X.tr pn xe) N sc B → StD M (X.tr pn xe) (fun sl' C' fs m' => C' = C ∧ fs.isEmpty = false ∧ I sl' fs m') body sl D m)
    (h2 : ∀ sl' fs m' a oe dd pn, I sl' fs m' → SuX (X.suite a ((a, oe) :: pn)) C a dd → Ctx (X.suite a ((a, oe) :: pn)) N sc B → StD M (X.suite a ((a, oe) :: pn)) (fun _ => K0) (b₀ :: suite) (sl'.set i (.v (.exc a dd fs))) { D with nx := fun sl' m' => D.nx (sl'.set i .un) m', bk := fun sl' m' => D.bk (sl'.set i .un) m', ct := fun sl' m' => D.ct (sl'.set i .un) m' } m')
    (hl : sc.names.lookup nm = some .local := by with_unfolding_all rfl) (hs : X.stack = X.env :: X.outer := by with_unfolding_all rfl) (hf : X.env.frame = some X.env.locals := by with_unfolding_all rfl) (hg : GlS sc x := by with_unfolding_all rfl) (hdb : (x == ("__debug__" : Str)) = false := by with_unfolding_all decide) :
    St1 M X KS (.Try body [.ExceptHandler (some (.Name x np)) (some nm) (b₀ :: suite) hpos] [] [] pos) sl D m := by
  have eb := cx.b
  subst eb
  refine st1_try cx hm hi (fun pn xe ps => ?_) hl hs hf hg hdb
  have := h pn xe ps (ctx_tr cx pn xe)
  intro G0 H0 G H σ W E ok so wi po
  refine this G0 H0 G H σ W E ok so ⟨wi.tk, ?_⟩ po
  rintro C' fs d σ' sl' m' G' H' ⟨rfl, hne, hI⟩ ok' so' xr
  refine wi.ex C' fs d σ' sl' m' G' H' ?_ ok' so' xr
  exact tryk_hit te hne fun a oe dd pn2 su => h2 sl' fs m' a oe dd pn2 hI su (ctx_suite cx a _)
end OZ
namespace OZ
open PySem L2 PySem.Spec PyProof.Rows
/-- where two ways meet -/
theorem zjoin {M : Mode} {X : Cx} {KE : Ks} {sa sb : List Stmt} {sl : List Sl} {D : Kn} {m : Nat} {b : Bool} (Mid : List Sl → Nat → Prop) (h : if b = true then StD M X KE sa sl { D with nx := Mid } m else StD M X KE sb sl { D with nx := Mid } m) (k : ∀ sl' m', Mid sl' m' → D.nx sl' m') : if b = true then StD M X KE sa sl D m else StD M X KE sb sl D m := by
  cases b with
  | true => rw [if_pos rfl] at h ⊢; exact std_imp h k (fun _ _ q => q) (fun _ _ q => q) (fun _ _ q => q) (fun _ _ q => q)
  | false => rw [if_neg Bool.false_ne_true] at h ⊢; exact std_imp h k (fun _ _ q => q) (fun _ _ q => q) (fun _ _ q => q) (fun _ _ q => q)
end OZ
namespace OZ
open PySem L2
theorem PropG.lift {M : Mode} {B : Bd} {k : Nat} {C : Addr} {f : Str} {F : FD} (c : PropG pureM B k C f F) : PropG M B k C f (FP F) := by
  obtain ⟨p, g, fd, ps, h1, h2, Fo, hb⟩ := c.ex
  exact ⟨p, g, fd, ps, h1, h2, Fo.imp fun _ _ _ _ q => spD_pure q, hb⟩
end OZ
namespace OZ
mutual
theorem deq_refl : ∀ d : Da, plD d = true → deq d d = true
  | .non, _ => rfl
  | .bl b, _ => by simp [deq]
  | .int i, _ => by simp [deq]
  | .str s, _ => by simp [deq]
  | .tup ds, h => by simp only [deq]; exact deqs_refl ds (by simpa [plD] using h)
  | .lst ds, h => by simp only [deq]; exact deqs_refl ds (by simpa [plD] using h)
  | .ty _, h => by simp [plD] at h
  | .ref _, h => by simp [plD] at h
  | .dct _, h => by simp [plD] at h
  | .obj _ _, h => by simp [plD] at h
  | .exc _ _ _, h => by simp [plD] at h
theorem deqs_refl : ∀ ds : List Da, plDs ds = true → deqs ds ds = true
  | [], _ => rfl
  | d :: ds, h => by
    simp only [plDs, Bool.and_eq_true] at h
    simp only [deqs, deq_refl d h.1, deqs_refl ds h.2, Bool.and_self]
end
theorem zdqT {d : Da} {A B : Prop} (h : plD d = true) (k : A) : if deq d d = true then A else B := by rw [deq_refl d h]; exact k
theorem zdqF {d : Da} {A B : Prop} (h : plD d = true) (k : B) : if (!deq d d) = true then A else B := by rw [deq_refl d h]; exact k
theorem zdqE {d : Da} (h : plD d = true) : Da.bl (deq d d) = Da.bl true := by rw [deq_refl d h]
end OZ

namespace OZ
open PySem L2 PySem.Spec PyProof.Rows
section
variable {B : Bd} {M : Mode} {x qual : Str} {st : Stmt} {f : Addr} {fd : FuncData} {N ps : List Str} {k n : Nat} {F : FD}
theorem fn0_ok (Fn : Fun B.K x qual st f fd) (S : FnScope N ps (defScope st)) (hn : n = ps.length)
    (h : ∀ (X : Cx) (ds : List Da) (KR : Da → Nat → Prop) (KE : Kx) (m : Nat), (∃ cdv A outer s H E, X = (cxOf CX0 B.P B.w B.K B.mg B.base N qual (defScope st) f cdv A outer s H E).nox) → Ctx X N (defScope st) B → Room k X.A → ds.length = n → F ds KR KE m →
      StD M X (fun _ => K0) (defBody st) (startD N ds) { nx := fun _ m' => KR .non m', rt := KR } m) : FnOk B.P B.w B.K B.mg B.base CX0 (k + 1) f fd ps (spD M B.K n F) := by
  refine Fn.ok S (fun vs H Q E q => q.1.trans hn) (fun cdv A outer s H vs Q E hr q => ?_)
  obtain ⟨hl, G, m, ds, KR, KE, ok, r, hF, po, _⟩ := q
  refine ⟨_, pss_wp, ?_⟩
  refine h (cxOf CX0 B.P B.w B.K B.mg B.base N qual (defScope st) f cdv A outer s H E).nox ds KR KE m ⟨cdv, A, outer, s, H, E, rfl⟩ ⟨rfl, rfl, S.nd, rfl⟩ hr (r.length.symm.trans hl) hF G H G H (L2.start N vs) (fun _ _ _ _ => False) _ ok (sok_start r) ⟨takes0, fun _ _ _ _ _ _ _ _ z => z.elim⟩ ⟨?_, ?_, ?_, ?_, ?_⟩
  · exact fun σ sl m' G' H' q o _ => po .non .non m' G' H' q o .non
  · exact fun v d m' G' H' q o rr => po v d m' G' H' q o rr
  · exact fun _ _ _ _ _ z => z.elim
  · exact fun _ _ _ _ _ z => z.elim
  · exact fun _ _ _ _ _ z => z.elim
end
end OZ
namespace OZ
section
variable {P : Bool → Nat → Prop} {m : Nat}
theorem tru_bl {b : Bool} (h : P b m) : Tru P (.bl b) m := h
theorem tru_int {i : Int} (h : P (decide (i ≠ 0)) m) : Tru P (.int i) m := h
theorem tru_non (h : P false m) : Tru P .non m := h
theorem tru_lst {ds : List Da} (h : P (!ds.isEmpty) m) : Tru P (.lst ds) m := h
theorem tru_tup {ds : List Da} (h : P (!ds.isEmpty) m) : Tru P (.tup ds) m := h
end
end OZ

/-! ### own objects looked at; own stores -/
namespace OZ
open PySem L2 PySem.Spec PyProof.Rows
theorem flD_rep {K : PySem.W.Frag} {G G' : Hp} {v : V} {d : Da} (h : flD d = true) (r : Rep K G v d) : Rep K G' v d := by
  cases r with
  | non => exact .non
  | bl b => exact .bl b
  | int b => exact .int b
  | str b => exact .str b
  | _ => simp [flD] at h
def flF (fs : List (Str × Da)) : Bool := fs.all fun p => flD p.2
theorem flF_rep {K : PySem.W.Frag} {G G' : Hp} : ∀ {vs : List (Str × V)} {fs : List (Str × Da)}, flF fs = true → RepF K G vs fs → RepF K G' vs fs
  | _, _, _, .nil => .nil
  | _, _, h, .cons a b => by
    simp only [flF, List.all_cons, Bool.and_eq_true] at h
    exact .cons (flD_rep h.1 a) (flF_rep (by simpa [flF] using h.2) b)
theorem Ok.forget {M : Mode} {G G1 H G' H' : Hp} {m' : Nat} (b : Ok M G1 H G' H' m') (s : Same G G1) : Ok M G H G H' m' :=
  ⟨fun c u e => b.sub _ _ (b.le _ _ (s _ _ e)), b.inv, fun c x => (by
    cases e : G c with
    | none => rfl
    | some u => have h1 := b.off c x; rw [b.le _ _ (s _ _ e)] at h1; cases h1), Same.refl _, b.keep, fun _ _ _ _ g => g⟩
theorem sok_pub {K : PySem.W.Frag} {M : Mode} {H0 G H : Hp} {σ : L2.St} {sl : List Sl} {i : Nat} {q : Option Addr} {d : Da} (so : SOk K M H0 G H σ sl) (hi : sl[i]? = some (.mm q d)) (nd : notDct d = true) :
    ∃ a u, σ[i]? = some (some (.ref a)) ∧ H a = some u ∧ G a = none ∧ ¬ M.X H a ∧ (H0 a = none ∨ M.X H0 a) ∧ RepM K G H a d ∧ SOk K M H0 (L2.upd G a u) H σ (sl.set i (.v d)) := by
  obtain ⟨a, e1, ga, nx, h0, rm, f⟩ := sok_pub' so hi
  obtain ⟨u, hu⟩ := rm.there
  refine ⟨a, u, e1, hu, ga, nx, h0, rm, ?_⟩
  have := f u (repM_rep hu ga rm nd) (by rw [upd_self' hu]; exact fun _ z => z)
  rwa [upd_self' hu] at this
section
variable {M : Mode} {X : Cx} {KE : Kx} {e : Expr} {sl : List Sl} {P : Da → Nat → Prop} {PT' : Bool → Nat → Prop} {m i : Nat} {q : Option Addr} {d : Da}
theorem wis_bor {G H : Hp} {σ : L2.St} {W : WX} {a : Addr} {u : HO} (wi : Wis M X KE G H σ W) (hu : H a = some u) (ga : G a = none) (hx : ∀ vs, u ≠ .xd vs) : Wis M X (fun C fs m => flF fs = true ∧ KE C fs m) (L2.upd G a u) H σ W := by
  refine ⟨wi.tk, fun C fs dd m' G' H' ⟨fl, k⟩ ok xr => ?_⟩
  have s0 : Same G (L2.upd G a u) := sameUp ga
  rcases xr with ⟨rfl, rfl⟩ | ⟨d', vs, rfl, e, r⟩
  · exact wi.ex C [] none m' G H' k (ok.forget s0) (.inl ⟨rfl, rfl⟩)
  · by_cases g : ∃ o, G d' = some o
    · obtain ⟨o, g⟩ := g
      have : G' d' = some o := ok.le _ _ (s0 _ _ g)
      rw [e] at this
      cases this
      exact wi.ex C fs (some d') m' G H' k (ok.forget s0) (.inr ⟨d', vs, rfl, g, flF_rep fl r⟩)
    · have g : G d' = none := by
        cases z : G d' with
        | none => rfl
        | some o => exact absurd ⟨o, z⟩ g
      have na : d' ≠ a := fun z => by
        subst z
        have : G' d' = some u := ok.le _ _ upd_same
        rw [e] at this
        cases this
        exact hx _ rfl
      have f := ok.forget s0
      refine wi.ex C fs (some d') m' (L2.upd G d' (.xd vs)) H' k ⟨fun c o h => ?_, ok.inv, fun c x => ?_, sameUp g, ok.keep, fun c o h n gc => ?_⟩ (.inr ⟨d', vs, rfl, upd_same, flF_rep fl r⟩)
      · by_cases z : c = d'
        · subst z; rw [upd_same] at h; cases h; exact ok.sub _ _ e
        · rw [upd_ne z] at h; exact f.sub _ _ h
      · by_cases z : c = d'
        · subst z; rw [ok.off _ x] at e; cases e
        · rw [upd_ne z]; exact f.off _ x
      · by_cases z : c = d'
        · subst z
          have : G' c = none := ok.new c o h n (by rw [upd_ne na]; exact gc)
          rw [this] at e; cases e
        · rw [upd_ne z]; exact gc
theorem repm_xd {K : PySem.W.Frag} {G H : Hp} {a : Addr} {u : HO} {d : Da} (r : RepM K G H a d) (hu : H a = some u) (vs : List (Str × V)) : u ≠ .xd vs := fun z => by
  subst z
  cases d <;> first | exact r.elim | (obtain ⟨_, h, _⟩ := r; rw [hu] at h; cases h) | (obtain ⟨_, _, h, _⟩ := r; rw [hu] at h; cases h)
/-- an own object is looked at for a while: the value told is flat -/
theorem evd_bor (hi : sl[i]? = some (.mm q d)) (nd : notDct d = true) (h : EvD M X (fun C fs m => flF fs = true ∧ KE C fs m) e (sl.set i (.v d)) (fun z m' => flD z = true ∧ P z m') m) : EvD M X KE e sl P m := by
  intro G0 H0 G H σ W Q ok so wi po
  obtain ⟨a, u, e1, hu, ga, nx, h0, rm, so2⟩ := sok_pub so hi nd
  exact h G0 H0 _ H σ W Q (ok.pub hu ga nx h0) so2 (wis_bor wi hu ga (repm_xd rm hu)) fun v z m' G' H' ⟨fl, p⟩ ok' r => po v z m' G H' p (ok'.forget (sameUp ga)) (flD_rep fl r)
theorem evt_bor (hi : sl[i]? = some (.mm q d)) (nd : notDct d = true) (h : EvT M X (fun C fs m => flF fs = true ∧ KE C fs m) e (sl.set i (.v d)) PT' m) : EvT M X KE e sl PT' m := by
  intro G0 H0 G H σ W Q ok so wi po
  obtain ⟨a, u, e1, hu, ga, nx, h0, rm, so2⟩ := sok_pub so hi nd
  exact h G0 H0 _ H σ W Q (ok.pub hu ga nx h0) so2 (wis_bor wi hu ga (repm_xd rm hu)) fun b m' G' H' p ok' => po b m' G H' p (ok'.forget (sameUp ga))
end
/-! own[e] -/
section
variable {M : Mode} {X : Cx} {KE : Kx} {b e : Expr} {sl : List Sl} {P : Da → Nat → Prop} {m i : Nat} {x : Str} {p pos : Pos} {N : List Str} {sc : Scope} {B : Bd}
theorem evd_ixOwn {ds : List Da} {q : Option Addr} (cx : Ctx X N sc B) (hx : EnvAt N sl x i (.mm q (.lst ds))) (h : EvD M X KE b sl (fun y m1 => ∃ j z, y = .int j ∧ atI ds j = some z ∧ P z m1) m)
    (hv : Vis sc x := by with_unfolding_all first | exact Or.inl rfl | exact Or.inr (Or.inl rfl) | exact Or.inr (Or.inr rfl)) (hd : (x == ("__debug__" : Str)) = false := by with_unfolding_all decide) (hcd : (x == ("__classdict__" : Str)) = false := by with_unfolding_all decide)
    (hs : PlainIx b := by with_unfolding_all (intro _ _; rfl)) : EvD M X KE (.Subscript (.Name x p) b pos) sl P m := by
  intro G0 H0 G H σ W Q ok so wi po
  obtain ⟨o, e1, ad, rfl, zz, g, h0, n, rm⟩ := paired_get so.rel hx.slot
  refine wpE.of (pe_ix ix_list (pe_var (by rw [cx.n]; exact hx.name) (cx.vis hv) hd hcd) pe_wp fun _ _ => hs _ _) ⟨_, e1, ?_⟩
  refine h G0 H0 G H σ W _ ok so wi fun v d m1 G1 H1 ⟨j, z, hy, ha, q1⟩ o1 r1 => ?_
  subst hy
  have so1 := so.step o1
  obtain ⟨o', e2, ad', hh, zz', g', h0', n', vs, hl, rs⟩ := paired_get so1.rel hx.slot
  rw [e1] at e2
  cases e2
  cases hh
  obtain ⟨k, a1, a2⟩ := atI_len rs.length ha
  obtain ⟨w, w1, w2⟩ := rs.get a2
  exact ⟨ad, vs, j, w, rfl, r1.int_inv, sq_l hl, a1.trans w1, po w z m1 G1 H1 q1 o1 w2⟩
theorem evd_ixOwnK {ks : List (Key × Da)} {q : Option Addr} {j : Nat} (cx : Ctx X N sc B) (hr : Room j X.A) (hx : EnvAt N sl x i (.mm q (.dct ks))) (h : EvD M X KE b sl (fun y m1 => ∃ k z, y = keyD k ∧ look k ks = some z ∧ P z m1) m)
    (hv : Vis sc x := by with_unfolding_all first | exact Or.inl rfl | exact Or.inr (Or.inl rfl) | exact Or.inr (Or.inr rfl)) (hd : (x == ("__debug__" : Str)) = false := by with_unfolding_all decide) (hcd : (x == ("__classdict__" : Str)) = false := by with_unfolding_all decide)
    (hs : PlainIx b := by with_unfolding_all (intro _ _; rfl)) : EvD M X KE (.Subscript (.Name x p) b pos) sl P m := by
  intro G0 H0 G H σ W Q ok so wi po
  obtain ⟨o, e1, ad, rfl, zz, g, h0, n, rm⟩ := paired_get so.rel hx.slot
  refine wpE.of (pe_ix (ix_dct (by have := L2.Room.units hr; omega)) (pe_var (by rw [cx.n]; exact hx.name) (cx.vis hv) hd hcd) pe_wp fun _ _ => hs _ _) ⟨_, e1, ?_⟩
  refine h G0 H0 G H σ W _ ok so wi fun v d m1 G1 H1 ⟨k, z, hy, ha, q1⟩ o1 r1 => ?_
  subst hy
  have so1 := so.step o1
  obtain ⟨o', e2, ad', hh, zz', g', h0', n', kvs, hl, rs⟩ := paired_get so1.rel hx.slot
  rw [e1] at e2
  cases e2
  cases hh
  obtain ⟨o2, w1, _, w2⟩ := repK_get (k := k) rs
  obtain ⟨w, rfl, rw'⟩ := w2 z ha
  exact ⟨ad, w, rfl, .inl ⟨kvs, k, .inl hl, rep_key r1, w1.symm⟩, po w z m1 G1 H1 q1 o1 rw'⟩
end
/-! own[i] = e -/
theorem setAt {α β : Type} {xs : List α} {ys : List β} {i : Int} {j : Nat} (e : xs.length = ys.length) (h : ixN ys.length i = some j) : ixN xs.length i = some j := by rw [e]; exact h
section
variable {M : Mode} {X : Cx} {KE : Ks} {b e : Expr} {sl : List Sl} {D : Kn} {m i : Nat} {x : Str} {p pos spos : Pos} {N : List Str} {sc : Scope} {B : Bd}
theorem st1_setIx {ds : List Da} (cx : Ctx X N sc B) (hx : EnvAt N sl x i (.m (.lst ds))) (h : EvD M X (KE sl) e sl (fun z m1 => EvD M X (KE sl) b sl (fun y m2 => ∃ k j, y = .int k ∧ ixN ds.length k = some j ∧ ∃ i' sl', EnvSet N sl x i' (.m (.lst (ds.set j z))) sl' ∧ D.nx sl' m2) m1) m)
    (hv : Vis sc x := by with_unfolding_all first | exact Or.inl rfl | exact Or.inr (Or.inl rfl) | exact Or.inr (Or.inr rfl)) (hd : (x == ("__debug__" : Str)) = false := by with_unfolding_all decide) (hcd : (x == ("__classdict__" : Str)) = false := by with_unfolding_all decide)
    (ha : ∀ v, assign (.Subscript (.Name x p) b pos) X.env v = (do
      let ov ← holding [v] (eval (.Name x p) X.env)
      let iv ← holding [v, ov] (eval b X.env)
      standAt pos
      holding [v, ov, iv] (setItem ov iv v)
      release [v, ov, iv] []) := by with_unfolding_all (intro _; rfl))
    (hs : swapsWithSole [.Subscript (.Name x p) b pos] e spos.line X.env = pure false := by with_unfolding_all rfl) (hw : swappedStores [.Subscript (.Name x p) b pos] e X.env = pure none := by with_unfolding_all rfl)
    (h1 : (assignEach [.Subscript (.Name x p) b pos] X.env).map (·.2) = [assign (.Subscript (.Name x p) b pos) X.env] := by with_unfolding_all rfl) : St1 M X KE (.Assign [.Subscript (.Name x p) b pos] e spos) sl D m := by
  intro G0 H0 G H σ W E ok so wi po
  refine wpS.of (ps_asg pe_wp (pg_sub (pe_var (by rw [cx.n]; exact hx.name) (cx.vis hv) hd hcd) pe_wp set_list ha) hs hw h1) ?_
  have wi' := wi.at ok so
  refine h G0 H0 G H σ W _ ok so wi' fun v z m1 G1 H1 q1 o1 r1 => ?_
  have so1 := so.step o1
  obtain ⟨o, e1, ad, rfl, zz, g, h0, n, rm⟩ := paired_get so1.rel hx.slot
  refine ⟨_, e1, ?_⟩
  refine q1 G0 H0 G1 H1 σ W _ (ok.trans o1) so1 (wi'.step o1) fun w y m2 G2 H2 ⟨k, j, hy, hj, i', sl', es, q2⟩ o2 r2 => ?_
  subst hy
  have so2 := so1.step o2
  obtain ⟨o', e2, ad', hh, zz', g', h0', n', vs, hl, rs⟩ := paired_get so2.rel hx.slot
  rw [e1] at e2
  cases e2
  cases hh
  refine ⟨ad, vs, k, j, rfl, r2.int_inv, hl, setAt rs.length hj, ?_⟩
  obtain ⟨k1, k2⟩ := own_step (ok.trans (o1.trans o2)) so2 hx.slot e1 (o := .lst (vs.set j v)) (d1 := .lst (ds.set j z)) ⟨_, upd_same, rs.set (r1.mono o2.le) j⟩
  exact po.nx σ _ m2 G2 _ q2 k1 (envset_eq (cx.n ▸ cx.nd) hx.name es ▸ k2)
end
end OZ
namespace OZ
open PySem L2
/-- the list or dict that is made for this name will change -/
def OwnHint (_ : Str) : Prop := True
theorem big_size : 100000 ≤ sizeLine := Nat.le_of_ble_eq_true rfl
section
variable {M : Mode} {X : Cx} {KE : Ks} {e : Expr} {sl : List Sl} {D : Kn} {m : Nat} {x : Str} {p pos : Pos} {N : List Str} {sc : Scope} {B : Bd}
theorem st1_setNewH {i0 : Nat} (_ : OwnHint x) (cx : Ctx X N sc B) (hi : IdxAt N x i0) (h : EvN M X (KE sl) e sl (fun d m1 => ∃ i sl', EnvSet N sl x i (.m d) sl' ∧ D.nx sl' m1) m) (hx : Loc sc x := by with_unfolding_all first | exact Or.inl rfl | exact Or.inr rfl)
    (hs : swapsWith e (some (.Name x p)) pos.line X.env = pure false := by with_unfolding_all rfl) (hf : X.fn x = true ∨ X.env.scope.names.lookup x = some .local := by with_unfolding_all first | exact .inl rfl | exact .inr rfl) : St1 M X KE (.Assign [.Name x p] e pos) sl D m := st1_setNew cx h hi hx hs hf
end
end OZ
namespace OZ
open PySem L2 PySem.Spec PyProof.Rows
section
variable {M : Mode} {X : Cx} {KE : Kx} {a b c e : Expr} {es : List Expr} {sl : List Sl} {P : Da → Nat → Prop} {PT' : Bool → Nat → Prop} {m : Nat} {pos : Pos}
theorem evd_chain {op op' : CmpOp} (h : EvD M X KE a sl (fun x m1 => EvD M X KE b sl (fun y m2 => OpD M X KE (compareOp op) x y (fun z m3 => ∃ k, z = .bl k ∧ if k = true then EvD M X KE c sl (fun w m4 => OpD M X KE (compareOp op') y w P m4) m3 else P (.bl false) m3) m2) m1) m)
    (hm : lastMarks [op, op'] [b, c] = false := by with_unfolding_all rfl) : EvD M X KE (.Compare a [op, op'] [b, c] pos) sl P m := by
  intro G0 H0 G H σ W Q ok so wi po pins s I
  refine Compare_chain (h.run ok so wi I fun u s1 v d m1 G1 H1 p1 k1 o1 so1 wi1 r1 I1 rv1 => chain_link (p1.run k1 so1 wi1 I1 fun u2 s2 v2 d2 m2 G2 H2 p2 k2 o2 so2 wi2 r2 I2 rv2 =>
    thn (p2 G2 H2 σ W (fun v H' => ∃ k m3 G3, v = .bl k ∧ Ok M G2 H2 G3 H' m3 ∧ if k = true then EvD M X KE c sl (fun w m4 => OpD M X KE (compareOp op') d2 w P m4) m3 else P (.bl false) m3) v v2 k2.here wi2 (r1.mono o2.le) r2 (fun z d3 m3 G3 H3 p3 o3 r3 => ?_) pins s2 u u2 I2 rv1 rv2) fun c s3 ⟨z, H3, I3, r3, k, m3, G3, e, o3, q3⟩ => ?_)) hm
  · obtain ⟨k, rfl, p⟩ := p3
    exact ⟨k, m3, G3, r3.bl_inv, o3, p⟩
  · subst e
    cases r3
    refine wpAny_truthy_bool ?_
    cases k with
    | false => exact ite_ff ⟨.bl false, H3, I3, rfl, po (.bl false) (.bl false) m3 G3 H3 q3 ((o1.trans o2).trans o3) (.bl false)⟩
    | true =>
      rw [if_pos rfl] at q3
      exact ite_tt (chain_last (q3.run (k2.trans o3) (so2.step o3) (wi2.step o3) I3 fun u4 s4 v4 d4 m4 G4 H4 p4 k4 o4 so4 wi4 r4 I4 rv4 =>
        p4 G4 H4 σ W Q v2 v4 k4.here wi4 ((r2.mono o3.le).mono o4.le) r4 (po.step (((o1.trans o2).trans o3).trans o4)) pins s4 u2 u4 I4 rv2 rv4))
theorem evt_chainD {op op' : CmpOp} (h : EvD M X KE a sl (fun x m1 => EvD M X KE b sl (fun y m2 => OpD M X KE (compareOp op) x y (fun z m3 => ∃ k, z = .bl k ∧ if k = true then EvD M X KE c sl (fun w m4 => OpD M X KE (compareOp op') y w (fun z m5 => ∃ k, z = .bl k ∧ PT' k m5) m4) m3 else PT' false m3) m2) m1) m)
    (hm : lastMarks [op, op'] [b, c] = false := by with_unfolding_all rfl) : EvT M X KE (.Compare a [op, op'] [b, c] pos) sl PT' m := by
  intro G0 H0 G H σ W Q ok so wi po pins s I
  refine isTrue_chain (h.run ok so wi I fun u s1 v d m1 G1 H1 p1 k1 o1 so1 wi1 r1 I1 rv1 => test_link (p1.run k1 so1 wi1 I1 fun u2 s2 v2 d2 m2 G2 H2 p2 k2 o2 so2 wi2 r2 I2 rv2 =>
    thn (p2 G2 H2 σ W (fun v H' => ∃ k m3 G3, v = .bl k ∧ Ok M G2 H2 G3 H' m3 ∧ if k = true then EvD M X KE c sl (fun w m4 => OpD M X KE (compareOp op') d2 w (fun z m5 => ∃ k, z = .bl k ∧ PT' k m5) m4) m3 else PT' false m3) v v2 k2.here wi2 (r1.mono o2.le) r2 (fun z d3 m3 G3 H3 p3 o3 r3 => ?_) pins s2 u u2 I2 rv1 rv2) fun c s3 ⟨z, H3, I3, r3, k, m3, G3, e, o3, q3⟩ => ?_)) hm
  · obtain ⟨k, rfl, p⟩ := p3
    exact ⟨k, m3, G3, r3.bl_inv, o3, p⟩
  · subst e
    cases r3
    refine wpAny_truthy_bool ?_
    cases k with
    | false => exact ite_ff ⟨H3, I3, po false m3 G3 H3 q3 ((o1.trans o2).trans o3)⟩
    | true =>
      rw [if_pos rfl] at q3
      refine ite_tt (test_last (q3.run (k2.trans o3) (so2.step o3) (wi2.step o3) I3 fun u4 s4 v4 d4 m4 G4 H4 p4 k4 o4 so4 wi4 r4 I4 rv4 =>
        thn (p4 G4 H4 σ W (fun v H' => ∃ k, v = .bl k ∧ Q k H') v2 v4 k4.here wi4 ((r2.mono o3.le).mono o4.le) r4 (fun z d5 m5 G5 H5 p5 o5 r5 => ?_) pins s4 u2 u4 I4 rv2 rv4) fun c s5 ⟨z, H5, I5, r5, k, e, q5⟩ => ?_))
      · obtain ⟨k, rfl, p⟩ := p5
        exact ⟨k, r5.bl_inv, po k m5 G5 H5 p ((((o1.trans o2).trans o3).trans o4).trans o5)⟩
      · subst e
        cases r5
        exact wpAny_truthy_bool ⟨H5, I5, q5⟩
end
end OZ
namespace OZ
open PySem L2
section
variable {M : Mode} {X : Cx} {scope : Scope} {N : List Str} {sc : Scope} {B : Bd} {j : Nat} {vs : List Nat} {elt : Expr} {sl : List Sl} {m : Nat} {x : Str} {p : Pos}
/-- the comprehension [elt for x in xs.map g], elt the value f of each, no drawing -/
theorem compd_mapL {α : Type} {i : Nat} (g f : α → Da) {xs : List α} {K : List Da → Nat → Prop} (hi : IdxAt N x i) (hN : sl.length = N.length) (hv : i ∈ vs) (h : ∀ a ∈ xs, ∀ (P : Da → Nat → Prop), P (f a) m → AllX X scope N sc B j fun X' => EvD M X' K0 elt (sl.set i (.v (g a))) P m) (k : K (xs.map f) m) (hl : (relabelS scope sc).names.lookup x = some .local := by with_unfolding_all rfl) :
    CompD (lcStep M X scope N sc B j vs (.Name x p) [] elt sl) (xs.map g) K m := by
  refine compd_inv lcstep_mono (fun n acc m' => m' = m ∧ acc = (xs.take n).map f) ⟨rfl, rfl⟩ ?_ fun r m' ⟨e1, e2⟩ => by rw [e1, e2, List.length_map, List.take_length]; exact k
  rintro n d acc m' e ⟨rfl, rfl⟩
  rw [List.getElem?_map] at e
  cases ha : xs[n]? with
  | none => rw [ha] at e; cases e
  | some a =>
    rw [ha] at e
    cases e
    refine lcstep_name (.of hi hN) hv (h a (List.mem_of_getElem? ha) _ ⟨rfl, ?_⟩) hl
    rw [List.take_succ, ha]
    simp
end
end OZ
namespace OZ
theorem zeT {b : Bool} {A B : Prop} (h : b = true) (k : A) : if b = true then A else B := by rw [h]; exact k
theorem zeF {b : Bool} {A B : Prop} (h : b = false) (k : B) : if b = true then A else B := by rw [h]; exact k
end OZ
namespace OZ
theorem intsD_get {n : Int} {i : Nat} {d : Da} (h : (intsD 0 n.toNat)[i]? = some d) : (i : Int) < n ∧ d = .int (0 + (i : Int)) := by
  have hl := (List.getElem?_eq_some_iff.mp h).1
  rw [intsD_len] at hl
  rw [intsD_at hl] at h
  exact ⟨by omega, by cases h; rfl⟩
end OZ

/-! ### slices -/
namespace OZ
open PySem L2 PySem.Spec PyProof.Rows
def cutD {α : Type} (xs : List α) (lo hi : Option Int) : List α := (xs.drop (HT.sIx xs.length 0 lo)).take (HT.sIx xs.length xs.length hi - HT.sIx xs.length 0 lo)
theorem cutD_from {α : Type} {xs : List α} {i : Int} (h : 0 ≤ i) : cutD xs (some i) none = xs.drop i.toNat := by
  unfold cutD
  simp only [HT.sIx]
  rw [if_neg (by omega)]
  by_cases z : i.toNat ≤ xs.length
  · rw [Nat.min_eq_left z, List.take_of_length_le (by rw [List.length_drop]; exact Nat.le_refl _)]
  · rw [Nat.min_eq_right (by omega), List.drop_eq_nil_of_le (Nat.le_refl _), List.drop_eq_nil_of_le (by omega)]
    simp
theorem cutD_to {α : Type} {xs : List α} {i : Int} (h : 0 ≤ i) : cutD xs none (some i) = xs.take i.toNat := by
  unfold cutD
  simp only [HT.sIx]
  rw [if_neg (by omega), List.drop_zero, Nat.sub_zero]
  by_cases z : i.toNat ≤ xs.length
  · rw [Nat.min_eq_left z]
  · rw [Nat.min_eq_right (by omega), List.take_length, List.take_of_length_le (by omega)]
theorem cutD_but {α : Type} {xs : List α} {i : Int} (h : i < 0) : cutD xs none (some i) = xs.take (i + xs.length).toNat := by
  unfold cutD
  simp only [HT.sIx]
  rw [if_pos h, List.drop_zero, Nat.sub_zero]
theorem reps_cut {K : PySem.W.Frag} {G : Hp} {vs : List V} {ds : List Da} (r : Reps K G vs ds) (lo hi : Option Int) : Reps K G (L2.cutV vs lo hi) (cutD ds lo hi) := by
  unfold L2.cutV cutD
  rw [r.length]
  exact (r.drop _).take _
def wpO (X : Cx) (e : Option Expr) : L2.TO := fun σ H Q => ∀ pins s, Inv X pins σ H s → wpAny (model X.prog X.w) X.A (evalPart e X.env) (fun u s' => ∃ o H', Inv X pins σ H' s' ∧ IsPart u o ∧ Q o H') X.xe s
theorem po_wp {X : Cx} {e : Option Expr} : L2.PO X e (wpO X e) := ⟨fun pins s _ _ _ I h => h pins s I⟩
theorem wpO.of {X : Cx} {e : Option Expr} {t : L2.TO} {σ : L2.St} {H : Hp} {Q : Option Int → Hp → Prop} (p : L2.PO X e t) (h : t σ H Q) : wpO X e σ H Q := fun pins s I => p.run pins s σ H Q I h
section
variable {M : Mode} {X : Cx} {KE : Kx} {a b c e : Expr} {o1 o2 : Option Expr} {es : List Expr} {sl : List Sl} {P : Da → Nat → Prop} {m : Nat} {pos p2 : Pos}
variable (M X KE) in
def EvP (e : Option Expr) (sl : List Sl) (P : Option Int → Nat → Prop) (m : Nat) : Prop :=
  ∀ (G0 H0 G H : Hp) (σ : L2.St) (W : WX) (Q : Option Int → Hp → Prop), Ok M G0 H0 G H m → SOk X.K M H0 G H σ sl → Wis M X KE G H σ W → (∀ o m' G' H', P o m' → Ok M G H G' H' m' → Q o H') → wpO X e σ H Q
theorem evp_none {PO' : Option Int → Nat → Prop} (h : PO' none m) : EvP M X KE none sl PO' m := fun G0 H0 G H σ W Q ok so wi po => wpO.of po_none (po none m G H h ok.here)
theorem evp_some {PO' : Option Int → Nat → Prop} (h : EvD M X KE e sl (fun y m1 => ∃ i : Int, y = .int i ∧ PO' (some i) m1) m) : EvP M X KE (some e) sl PO' m := fun G0 H0 G H σ W Q ok so wi po =>
  wpO.of (po_some pe_wp) (h G0 H0 G H σ W _ ok so wi fun v d m' G' H' ⟨i, e, p⟩ o r => by subst e; exact ⟨i, r.int_inv, po _ m' G' H' p o⟩)
/-- what x[lo:hi] tells -/
def SlD (x : Da) (lo hi : Option Int) (P : Da → Nat → Prop) (m : Nat) : Prop := match x with
  | .lst ds => P (.lst (cutD ds lo hi)) m
  | .tup ds => ¬ (HT.sIx ds.length 0 lo = 0 ∧ HT.sIx ds.length ds.length hi = ds.length) ∧ P (.tup (cutD ds lo hi)) m
  | .str z => z.length ≤ sizeLine ∧ P (.str (cutS z lo hi)) m
  | _ => False
theorem evd_slice (h : EvD M X KE e sl (fun x m1 => EvP M X KE o1 sl (fun lo m2 => EvP M X KE o2 sl (fun hi m3 => SlD x lo hi P m3) m2) m1) m) : EvD M X KE (.Subscript e (.Slice o1 o2 none p2) pos) sl P m := fun G0 H0 G H σ W Q ok so wi po =>
  wpE.of (pe_slice (sl_list.or (sl_tup.or sl_str)) pe_wp po_wp po_wp) (h G0 H0 G H σ W _ ok so wi fun v d m1 G1 H1 q1 k1 r1 => q1 G0 H0 G1 H1 σ W _ (ok.trans k1) (so.step k1) (wi.step k1) fun lo m2 G2 H2 q2 k2 =>
    q2 G0 H0 G2 H2 σ W _ ((ok.trans k1).trans k2) ((so.step k1).step k2) ((wi.step k1).step k2) fun hi m3 G3 H3 q3 k3 => by
    have kk := (k1.trans k2).trans k3
    have r3 := (r1.mono k2.le).mono k3.le
    cases r3 with
    | @lst a vs ds q r =>
      refine .inl ⟨a, vs, rfl, sq_l (kk.sub _ _ q), fun p hp => ?_⟩
      have al := kk.here.alloc (o := .lst (L2.cutV vs lo hi)) hp
      exact po _ _ m3 _ _ q3 (kk.trans al) (.lst upd_same ((reps_cut r lo hi).mono al.le))
    | @tup a vs ds q r =>
      refine .inr (.inl ⟨a, vs, rfl, sqT_same kk.sub q, by rw [r.length]; exact q3.1, fun p hp => ?_⟩)
      have al := kk.here.alloc (o := .tup (L2.cutV vs lo hi)) hp
      exact po _ _ m3 _ _ q3.2 (kk.trans al) (.tup (sq_t upd_same) ((reps_cut r lo hi).mono al.le))
    | str z => exact .inr (.inr ⟨z, rfl, q3.1, po _ _ m3 _ _ q3.2 kk (.str _)⟩)
    | _ => exact q3.elim)
/-- xs[::-1] -/
theorem evd_revL {k : Nat} {p1 p3 : Pos} (h : EvD M X KE e sl (fun x m1 => ∃ ds, x = .lst ds ∧ P (.lst ds.reverse) m1) m) : EvD M X KE (.Subscript e (.Slice none none (some (.UnaryOp .USub (.Constant (.int 1) k p1) p2)) p3) pos) sl P m := fun G0 H0 G H σ W Q ok so wi po =>
  wpE.of (pe_revL pe_wp) (h G0 H0 G H σ W _ ok so wi fun v d m1 G1 H1 ⟨ds, e, q1⟩ k1 r1 => by
    subst e
    obtain ⟨a, vs, rfl, q, r⟩ := r1.lst_inv
    refine ⟨a, vs, rfl, sq_l (k1.sub _ _ q), fun p hp => ?_⟩
    have al := k1.here.alloc (o := .lst vs.reverse) hp
    exact po _ _ m1 _ _ q1 (k1.trans al) (.lst upd_same (r.rev.mono al.le)))
end
/-! lists, tuples, texts and locked dicts walked over -/
section
variable {M : Mode} {X : Cx} {KE : Kx} {tg e : Expr} {es : List Expr} {sl : List Sl} {KI : List Da → Nat → Prop} {m : Nat} {pos p apos cpos : Pos} {N : List Str} {sc : Scope} {B : Bd}
def chrsD (z : Str) : List Da := z.cps.toList.map fun c => Da.str ⟨#[c]⟩
theorem walkd_str {K : PySem.W.Frag} {G1 : Hp} {z : Str} : WalkD M K (Its z) (chrsD z) G1 := by
  refine ⟨_, _, by show Walk (Its z) (chrsD z).length _ _; rw [show (chrsD z).length = z.cps.size by simp [chrsD]]; exact walk_str, fun _ _ _ _ _ => trivial, fun i H x H' G m hi y le ok => ?_⟩
  obtain ⟨rfl, c, hc, rfl⟩ := y
  refine ⟨G, _, ok, ?_, .str _⟩
  unfold chrsD
  rw [List.getElem?_map, Array.getElem?_toList, hc]
  rfl
def keysD (ks : List (Key × Da)) : List Da := ks.map fun kv => keyD kv.1
def valsD (ks : List (Key × Da)) : List Da := ks.map fun kv => kv.2
def itemsD (ks : List (Key × Da)) : List Da := ks.map fun kv => .tup [keyD kv.1, kv.2]
theorem key_rep {K : PySem.W.Frag} {G : Hp} (k : Key) : Rep K G (kV k) (keyD k) := by
  cases k <;> constructor
theorem RepK.get' {K : PySem.W.Frag} {G : Hp} : ∀ {kvs : List (Key × V)} {ks : List (Key × Da)} {i : Nat} {k : Key} {v : V}, RepK K G kvs ks → kvs[i]? = some (k, v) → ∃ d, ks[i]? = some (k, d) ∧ Rep K G v d
  | _, _, _, _, _, .nil, e => by simp at e
  | _, _, 0, _, _, .cons a _, e => by simp at e; obtain ⟨rfl, rfl⟩ := e; exact ⟨_, rfl, a⟩
  | _, _, i + 1, _, _, .cons _ b, e => by
    obtain ⟨d, h1, h2⟩ := RepK.get' b (by simpa using e)
    exact ⟨d, by simpa using h1, h2⟩
theorem RepK.length {K : PySem.W.Frag} {G : Hp} : ∀ {kvs : List (Key × V)} {ks : List (Key × Da)}, RepK K G kvs ks → kvs.length = ks.length
  | _, _, .nil => rfl
  | _, _, .cons _ b => by simp [RepK.length b]
theorem walkd_keys {K : PySem.W.Frag} {G1 : Hp} {a : Addr} {o : Obj} {kvs : List (Key × V)} {ks : List (Key × Da)} (q : G1 a = some (.frz o (.dK kvs))) (r : RepK K G1 kvs ks) : WalkD M K (Itk a o kvs) (keysD ks) G1 := by
  refine ⟨_, _, by show Walk (Itk a o kvs) (keysD ks).length _ _; rw [show (keysD ks).length = kvs.length by simp [keysD, r.length]]; exact walk_keys, fun G H m le ok => ok.sub _ _ (le _ _ q), fun i H x H' G m hi y le ok => ?_⟩
  obtain ⟨rfl, k, v, hk, rfl⟩ := y
  obtain ⟨d, hd, _⟩ := r.get' hk
  exact ⟨G, _, ok, by unfold keysD; rw [List.getElem?_map, hd]; rfl, key_rep k⟩
theorem walkd_values {K : PySem.W.Frag} {G1 : Hp} {a : Addr} {o : Obj} {kvs : List (Key × V)} {ks : List (Key × Da)} (q : G1 a = some (.frz o (.dK kvs))) (r : RepK K G1 kvs ks) : WalkD M K (Itd a o kvs) (valsD ks) G1 := by
  refine ⟨_, _, by show Walk (Itd a o kvs) (valsD ks).length _ _; rw [show (valsD ks).length = kvs.length by simp [valsD, r.length]]; exact walk_values, fun G H m le ok => ok.sub _ _ (le _ _ q), fun i H x H' G m hi y le ok => ?_⟩
  obtain ⟨rfl, k, hk⟩ := y
  obtain ⟨d, hd, rd⟩ := r.get' hk
  exact ⟨G, _, ok, by unfold valsD; rw [List.getElem?_map, hd]; rfl, rd.mono le⟩
theorem walkd_items {K : PySem.W.Frag} {G1 : Hp} {a : Addr} {o : Obj} {kvs : List (Key × V)} {ks : List (Key × Da)} (q : G1 a = some (.frz o (.dK kvs))) (r : RepK K G1 kvs ks) : WalkD M K (Iti a o kvs) (itemsD ks) G1 := by
  refine ⟨_, _, by show Walk (Iti a o kvs) (itemsD ks).length _ _; rw [show (itemsD ks).length = kvs.length by simp [itemsD, r.length]]; exact walk_items, fun G H m le ok => ok.sub _ _ (le _ _ q), fun i H x H' G m hi y le ok => ?_⟩
  obtain ⟨T, x1, y1, rfl, hT, rfl, e1, e2⟩ := y
  dsimp only at e1 e2
  cases hk : kvs[i]? with
  | none => rw [hk] at e2; cases e2
  | some kv =>
    rw [hk] at e1 e2
    cases e1
    cases e2
    obtain ⟨d, hd, rd⟩ := r.get' (k := kv.1) (v := kv.2) hk
    have al := ok.alloc (o := .tup [kV kv.1, kv.2]) hT
    exact ⟨_, .tup [keyD kv.1, d], al, by unfold itemsD; rw [List.getElem?_map, hd]; rfl, .tup (sq_t upd_same) (.cons (key_rep _) (.cons ((rd.mono le).mono al.le) .nil))⟩
/-- what a for walks over -/
def SeqD (KI : List Da → Nat → Prop) : Da → Nat → Prop
  | .lst ds, m => KI ds m
  | .tup ds, m => KI ds m
  | .str z, m => KI (chrsD z) m
  | .dct ks, m => KI (keysD ks) m
  | _, _ => False
theorem iter_seq (h : EvD M X KE e sl (SeqD KI) m) : IterD M X KE tg e sl KI m := by
  intro G0 H0 G H σ W R ok so wi k pins s I
  refine h.run ok so wi I fun u s1 v d m1 G1 H1 p1 k1 o1 so1 wi1 r1 I1 rv1 => ?_
  cases r1 with
  | @lst a vs ds q r =>
    cases rv1
    obtain ⟨its, rv, pq, hz⟩ := I1.list (sq_l (K := X.K) (o1.sub _ _ q))
    refine wpAny_pyIter_list pq.isList ?_
    refine ⟨s1.heap.objs.size, [s1.heap.objs.size], _, _, H1, rfl, I1.kept (t' := s1.toks) fun b o e => Heap.get?_push_of_some _ e, turn_list a _, ⟨_, Heap.get?_push_size _ rfl, rfl, rfl⟩, fun b hb => ?_, k _ ds m1 G1 H1 p1 o1 (walkd_list q r)⟩
    have e : b = s1.heap.objs.size := by simpa using hb
    subst e
    exact I1.fpOk (Nat.le_refl _) (I1.hok.fresh (Nat.le_refl _))
  | @tup a vs ds q r =>
    cases rv1
    obtain ⟨its, rv, pq, hz⟩ := I1.tuple (sqT_same o1.sub q)
    refine wpAny_pyIter_tuple (show s1.heap.IsTuple a its.toArray from pq) ?_
    refine ⟨s1.heap.objs.size, [s1.heap.objs.size], _, _, H1, rfl, I1.kept (t' := s1.toks) fun b o e => Heap.get?_push_of_some _ e, turn_tuple a _, ⟨_, Heap.get?_push_size _ rfl, rfl, rfl⟩, fun b hb => ?_, k _ ds m1 G1 H1 p1 o1 (walkd_tup q r)⟩
    have e : b = s1.heap.objs.size := by simpa using hb
    subst e
    exact I1.fpOk (Nat.le_refl _) (I1.hok.fresh (Nat.le_refl _))
  | str x =>
    obtain ⟨t, rfl⟩ := rv1
    have q := k _ _ m1 G1 H1 p1 o1 (walkd_str (K := X.K) (G1 := G1) (z := x))
    cases ha : x.cps.all (· < 128)
    · exact wpAny_pyIter_wide ha (pi_one (tk := s1.toks) I1 _ (turn_str _ x t "str_iterator" (.inr rfl)) ⟨_, Heap.get?_push_size _ rfl, rfl, rfl⟩ q)
    · exact wpAny_pyIter_ascii ha (pi_one (tk := s1.toks) I1 _ (turn_str _ x t "str_ascii_iterator" (.inl rfl)) ⟨_, Heap.get?_push_size _ rfl, rfl, rfl⟩ q)
  | @dct a o kvs ks q r =>
    cases rv1
    have q2 := k _ _ m1 G1 H1 p1 o1 (walkd_keys q r)
    obtain ⟨hs, hgd, hx, es, ep, vs, hdt, hsz, kv, hm⟩ := I1.frzK (o1.sub _ _ q)
    refine iter_keys hs hgd hx hdt (pi_one (tk := s1.toks) I1 _ (turn_keys _ hdt) ⟨_, Heap.get?_push_size _ rfl, rfl, ?_⟩ q2)
    rw [hsz] <;> rfl
  | _ => exact p1.elim
theorem iter_values (h : EvD M X KE e sl (fun d m1 => ∃ ks, d = .dct ks ∧ KI (valsD ks) m1) m) (hbase : attributeBase e "values" X.env (eval e X.env) = eval e X.env := by with_unfolding_all rfl) (hline : (apos.endLine == cpos.line) = true := by with_unfolding_all rfl) :
    IterD M X KE tg (.Call (.Attribute e "values" apos) [] [] cpos) sl KI m := fun G0 H0 G H σ W R ok so wi k =>
  wpI.of (pi_values pe_wp hbase hline) (h G0 H0 G H σ W _ ok so wi fun v d m' G' H' ⟨ks, e, p⟩ o r => by
    subst e
    obtain ⟨a, ob, kvs, rfl, q, t⟩ := r.dct_inv
    exact ⟨a, ob, kvs, rfl, o.sub _ _ q, k _ _ m' G' H' p o (walkd_values q t)⟩)
theorem iter_items {elts : List Expr} {kk : Nat} {tpos : Pos} (h : EvD M X KE e sl (fun d m1 => ∃ ks, d = .dct ks ∧ KI (itemsD ks) m1) m) (hbase : attributeBase e "items" X.env (eval e X.env) = eval e X.env := by with_unfolding_all rfl) (hline : (apos.endLine == cpos.line) = true := by with_unfolding_all rfl) :
    IterD M X KE (.Tuple elts kk tpos) (.Call (.Attribute e "items" apos) [] [] cpos) sl KI m := fun G0 H0 G H σ W R ok so wi k =>
  wpI.of (pi_items pe_wp hbase hline) (h G0 H0 G H σ W _ ok so wi fun v d m' G' H' ⟨ks, e, p⟩ o r => by
    subst e
    obtain ⟨a, ob, kvs, rfl, q, t⟩ := r.dct_inv
    exact ⟨a, ob, kvs, rfl, o.sub _ _ q, k _ _ m' G' H' p o (walkd_items q t)⟩)
end
end OZ

/-! isinstance -/
namespace OZ
open PySem L2 PySem.Spec PyProof.Rows
structure TyC (K : PySem.W.Frag) (C : Addr) : Prop where
  cl : Cls K C
  ha : PySem.W.findIn K (.ref C) "__class__" = some (some (.builtin "object.__class__"))
  hn : PySem.W.specialIn K (.builtin "object.__class__") "__get__" = some (some (.builtin "getset_descriptor.__get__"))
  htk : PySem.W.takesIn K (.builtin "object.__class__") = some true
  hm : PySem.W.mroIn K C (.type "object") = some true
inductive TyDa (K : PySem.W.Frag) : Da → Value → Prop
  | non : TyDa K .non (.type "NoneType")
  | bl (b : Bool) : TyDa K (.bl b) (.type "bool")
  | int (i : Int) : TyDa K (.int i) (.type "int")
  | str (s : Str) : TyDa K (.str s) (.type "str")
  | lst (ds : List Da) : TyDa K (.lst ds) (.type "list")
  | tup (ds : List Da) : TyDa K (.tup ds) (.type "tuple")
  | dct (ks : List (Key × Da)) : TyDa K (.dct ks) (.type "dict")
  | obj {C : Addr} (fs : List (Str × Da)) (c : TyC K C) : TyDa K (.obj C fs) (.ref C)
theorem TyDa.x {K : PySem.W.Frag} {G H : Hp} {v : V} {d : Da} {t : Value} (s : Same G H) (r : Rep K G v d) (h : TyDa K d t) : TyX K H v t := by
  cases h with
  | non => cases r; exact .base .non
  | bl b => cases r; exact .base (.bl _)
  | int i => cases r; exact .base (.int _)
  | str i => cases r; exact .base (.str _)
  | lst ds => cases r with | lst q _ => exact .base (.lst (s _ _ q))
  | tup ds =>
    cases r with
    | tup q _ =>
      rcases q with (q | ⟨o, q⟩) | ⟨o, its, n, q, q2, _⟩
      · exact .base (.tup (s _ _ q))
      · exact .fTuple (s _ _ q)
      · exact .kTuple q q2
  | dct ks => cases r with | dct q _ => exact .fDict (s _ _ q)
  | obj fs c => cases r with | obj q _ => exact .base (.ins (s _ _ q) c.cl c.ha c.hn c.htk c.hm)
inductive ClsDa : Da → Value → Prop
  | ty (n : String) : ClsDa (.ty n) (.type n)
  | own (C : Addr) : ClsDa (.ref C) (.ref C)
structure KitG (K : PySem.W.Frag) (t u : Value) (b : Bool) : Prop where
  k : PySem.W.kitOne K t u = some b
theorem cd_isi {M : Mode} {X : Cx} {KE : Kx} {P : Da → Nat → Prop} {m : Nat} {N : List Str} {sc : Scope} {B : Bd} {x c : Da} {t u : Value} {b : Bool} (cx : Ctx X N sc B) (hx : TyDa B.K x t) (hc : ClsDa c u) (hk : KitG B.K t u b) (k : P (.bl b) m) : CallD M X KE (.builtin "isinstance") [x, c] P m := by
  have eb := cx.b
  subst eb
  exact .of call_isi fun G H _ vs ok r po => by
    obtain ⟨v, w, rfl, r1, r2⟩ := reps2 r
    have hcv : ClsV w u := by
      cases hc with
      | ty n => cases r2; exact .ty n
      | own C => cases r2; exact .own C
    exact ⟨v, w, t, u, b, rfl, hcv, hx.x ok.sub r1, hk.k, po _ _ m G H k ok (.bl b)⟩
end OZ
namespace OZ
open PySem L2 PySem.Spec PyProof.Rows
structure EqG (M : Mode) (B : Bd) (k : Nat) (C : Addr) (F : FD) : Prop where
  ex : ∃ f : Addr, FnG M B k f 2 F ∧ OS.EqF B.K C f
theorem EqG.lift {M : Mode} {B : Bd} {k : Nat} {C : Addr} {F : FD} (c : EqG pureM B k C F) : EqG M B k C (FP F) := by
  obtain ⟨f, h1, h2⟩ := c.ex
  exact ⟨f, h1.lift, h2⟩
section
variable {M : Mode} {X : Cx} {KE : Kx} {P : Da → Nat → Prop} {m k j : Nat} {C D : Addr} {F : FD} {fs gs : List (Str × Da)} {B : Bd} {N : List Str} {sc : Scope}
theorem opd_eqG (cx : Ctx X N sc B) (c : EqG M B k C F) (hr : Room j X.A) (h : F [.obj C fs, .obj C gs] (fun d m1 => ∃ b, d = .bl b ∧ P (.bl b) m1) KE m) (hk : k ≤ j := by with_unfolding_all decide) : OpD M X KE (compareOp .Eq) (.obj C fs) (.obj C gs) P m := by
  have eb := cx.b
  obtain ⟨f, h1, h2⟩ := c.ex
  subst eb
  exact opd_eqO cx h1 h2 (.inl rfl) hr (by have := L2.Room.units hr; omega) h hk
theorem opd_neG (cx : Ctx X N sc B) (c : EqG M B k C F) (hr : Room j X.A) (h : F [.obj C fs, .obj C gs] (fun d m1 => ∃ b, d = .bl b ∧ P (.bl (!b)) m1) KE m) (hk : k + 1 ≤ j := by with_unfolding_all decide) : OpD M X KE (compareOp .NotEq) (.obj C fs) (.obj C gs) P m := by
  have eb := cx.b
  obtain ⟨f, h1, h2⟩ := c.ex
  subst eb
  exact opd_neO cx h1 h2 (.inl rfl) hr (by have := L2.Room.units hr; omega) h hk
theorem opd_eqX (cx : Ctx X N sc B) (c : EqG M B k C F) (hD : PySem.W.subIn B.K (.ref D) (.ref C) = some false) (hr : Room j X.A) (h : F [.obj C fs, .obj D gs] (fun d m1 => ∃ b, d = .bl b ∧ P (.bl b) m1) KE m) (hk : k ≤ j := by with_unfolding_all decide) : OpD M X KE (compareOp .Eq) (.obj C fs) (.obj D gs) P m := by
  have eb := cx.b
  obtain ⟨f, h1, h2⟩ := c.ex
  subst eb
  exact opd_eqO cx h1 h2 (.inr hD) hr (by have := L2.Room.units hr; omega) h hk
theorem opd_neX (cx : Ctx X N sc B) (c : EqG M B k C F) (hD : PySem.W.subIn B.K (.ref D) (.ref C) = some false) (hr : Room j X.A) (h : F [.obj C fs, .obj D gs] (fun d m1 => ∃ b, d = .bl b ∧ P (.bl (!b)) m1) KE m) (hk : k + 1 ≤ j := by with_unfolding_all decide) : OpD M X KE (compareOp .NotEq) (.obj C fs) (.obj D gs) P m := by
  have eb := cx.b
  obtain ⟨f, h1, h2⟩ := c.ex
  subst eb
  exact opd_neO cx h1 h2 (.inr hD) hr (by have := L2.Room.units hr; omega) h hk
theorem opd_mulG (cx : Ctx X N sc B) (c : SpecG M B k C "__mul__" 2 F) (hc : PySem.W.selfFirst B.K C = true) (hr : Room j X.A) (h : F [.obj C fs, .obj C gs] P KE m) (hk : k ≤ j := by with_unfolding_all decide) : OpD M X KE (binaryOp .Mult) (.obj C fs) (.obj C gs) P m := by
  have eb := cx.b
  subst eb
  exact opd_own2 (op := .Mult) cx c hc hr h hk
end
end OZ
namespace OZ
open PySem L2
section
variable {P : Da → Nat → Prop} {KI : List Da → Nat → Prop} {m : Nat} {ds es : List Da} {lo hi : Option Int}
theorem sld_lst (h : P (.lst (cutD ds lo hi)) m) : SlD (.lst ds) lo hi P m := h
theorem sld_str {z : Str} (hz : z.length ≤ sizeLine) (h : P (.str (cutS z lo hi)) m) : SlD (.str z) lo hi P m := ⟨hz, h⟩
theorem sld_tup' (h0 : ¬ (HT.sIx ds.length 0 lo = 0 ∧ HT.sIx ds.length ds.length hi = ds.length)) (e : cutD ds lo hi = es) (h : P (.tup es) m) : SlD (.tup ds) lo hi P m := ⟨h0, by rw [e]; exact h⟩
theorem sld_lst' (e : cutD ds lo hi = es) (h : P (.lst es) m) : SlD (.lst ds) lo hi P m := by rw [← e] at h; exact h
theorem seqd_lst (h : KI ds m) : SeqD KI (.lst ds) m := h
theorem seqd_tup (h : KI ds m) : SeqD KI (.tup ds) m := h
theorem seqd_str {z : Str} (h : KI (chrsD z) m) : SeqD KI (.str z) m := h
theorem seqd_dct {ks : List (Key × Da)} (h : KI (keysD ks) m) : SeqD KI (.dct ks) m := h
end
end OZ
namespace OZ
open PySem L2
theorem kit_self {K : PySem.W.Frag} (C : Addr) : KitG K (.ref C) (.ref C) true := ⟨by unfold PySem.W.kitOne; rw [if_pos (by simp)]⟩
theorem kit_T {K : PySem.W.Frag} {t : Value} {T : String} {b : Bool} (h : PySem.W.subIn K t (.type T) = some b) (hn : (t == .type T) = false) (hm : PySem.W.kitMeta T = true) : KitG K t (.type T) b := by
  refine ⟨?_⟩
  unfold PySem.W.kitOne
  rw [if_neg (by rw [hn]; exact Bool.false_ne_true)]
  show (if PySem.W.kitMeta T = true then PySem.W.subIn K t (.type T) else none) = some b
  rw [if_pos hm]
  exact h
theorem kit_C {K : PySem.W.Frag} {t : Value} {C : Addr} {b : Bool} (c : Cls K C) (h1 : PySem.W.typeIn K (.ref C) = some (.type "type")) (h : PySem.W.subIn K t (.ref C) = some b) (hn : (t == .ref C) = false) : KitG K t (.ref C) b := by
  refine ⟨?_⟩
  unfold PySem.W.kitOne
  rw [if_neg (by rw [hn]; exact Bool.false_ne_true)]
  obtain ⟨cd, hc, _⟩ := PySem.W.any_some c.hd
  show (if ((PySem.W.clsIn K C).isSome && PySem.W.typeIn K (.ref C) == some (.type "type")) = true then PySem.W.subIn K t (.ref C) else none) = some b
  rw [if_pos (by rw [hc, h1] <;> rfl)]
  exact h
end OZ

namespace OS
open PySem L2
def top (i : Nat) : Stmt := PySem.Challenge.pw_oneshard_k53_whole_products.main.body.getD i (.Pass ⟨0, 0, 0, 0⟩)
abbrev s_wall : Stmt := top 0
abbrev sBadCount_init : Stmt := inClass (top 3) 0
abbrev sOutOfRange_init : Stmt := inClass (top 4) 0
abbrev sNotPrime_init : Stmt := inClass (top 5) 0
abbrev s_is_prime : Stmt := top 7
abbrev s_last_figure : Stmt := top 15
abbrev s_leading_figures : Stmt := top 16
abbrev s_entry : Stmt := top 17
abbrev s_label : Stmt := top 18
abbrev sRule_init : Stmt := inClass (top 19) 0
abbrev sRule_one_shard : Stmt := inClass (top 19) 1
abbrev sRule_remainder : Stmt := inClass (top 19) 2
abbrev sRule_last_figure : Stmt := inClass (top 19) 3
abbrev sRule_leading : Stmt := inClass (top 19) 4
abbrev sRule_factors : Stmt := inClass (top 19) 5
abbrev sRule_same : Stmt := inClass (top 19) 6
abbrev sRule_call : Stmt := inClass (top 19) 7
abbrev sRule_mul : Stmt := inClass (top 19) 8
abbrev sRule_len : Stmt := inClass (top 19) 9
abbrev sRule_eq : Stmt := inClass (top 19) 10
abbrev sStart : Stmt := top 21
abbrev sTake : Stmt := top 22
abbrev l_record : Stmt := top 23
abbrev l_lift : Stmt := top 24
abbrev l_entry : Stmt := top 25
abbrev l_primes : Stmt := top 26
abbrev l_factor : Stmt := top 27
abbrev l_rule : Stmt := top 28
abbrev l_times : Stmt := top 29
abbrev l_product : Stmt := top 30
abbrev l_refused : Stmt := top 31
abbrev l_near : Stmt := top 32
abbrev l_agrees : Stmt := top 33
abbrev l_unlike : Stmt := top 34
abbrev sLaw : Stmt := top 35
abbrev n_s_wall : List Str := ["k"]
theorem c_s_wall : FnScope n_s_wall ["k"] (defScope s_wall) := ⟨rfl, rfl, rfl, by decide +kernel, rfl, by decide +kernel, by decide +kernel⟩
abbrev n_sBadCount_init : List Str := ["self", "count"]
theorem c_sBadCount_init : FnScope n_sBadCount_init ["self", "count"] (defScope sBadCount_init) := ⟨rfl, rfl, rfl, by decide +kernel, rfl, by decide +kernel, by decide +kernel⟩
abbrev n_sOutOfRange_init : List Str := ["self", "value"]
theorem c_sOutOfRange_init : FnScope n_sOutOfRange_init ["self", "value"] (defScope sOutOfRange_init) := ⟨rfl, rfl, rfl, by decide +kernel, rfl, by decide +kernel, by decide +kernel⟩
abbrev n_sNotPrime_init : List Str := ["self", "value"]
theorem c_sNotPrime_init : FnScope n_sNotPrime_init ["self", "value"] (defScope sNotPrime_init) := ⟨rfl, rfl, rfl, by decide +kernel, rfl, by decide +kernel, by decide +kernel⟩
abbrev n_s_is_prime : List Str := ["number", "factor"]
theorem c_s_is_prime : FnScope n_s_is_prime ["number"] (defScope s_is_prime) := ⟨rfl, rfl, rfl, by decide +kernel, rfl, by decide +kernel, by decide +kernel⟩
abbrev n_s_last_figure : List Str := ["number", "prime"]
theorem c_s_last_figure : FnScope n_s_last_figure ["number", "prime"] (defScope s_last_figure) := ⟨rfl, rfl, rfl, by decide +kernel, rfl, by decide +kernel, by decide +kernel⟩
abbrev n_s_leading_figures : List Str := ["number", "bits", "modulus", "length"]
theorem c_s_leading_figures : FnScope n_s_leading_figures ["number", "bits", "modulus"] (defScope s_leading_figures) := ⟨rfl, rfl, rfl, by decide +kernel, rfl, by decide +kernel, by decide +kernel⟩
abbrev n_s_entry : List Str := ["factor", "record", "kind", "first", "others", "number", "entry"]
theorem c_s_entry : FnScope n_s_entry ["factor", "record"] (defScope s_entry) := ⟨rfl, rfl, rfl, by decide +kernel, rfl, by decide +kernel, by decide +kernel⟩
abbrev n_s_label : List Str := ["factors", "record", "factor"]
theorem c_s_label : FnScope n_s_label ["factors", "record"] (defScope s_label) := ⟨rfl, rfl, rfl, by decide +kernel, rfl, by decide +kernel, by decide +kernel⟩
abbrev n_sRule_init : List Str := ["self", "factors"]
theorem c_sRule_init : FnScope n_sRule_init ["self", "factors"] (defScope sRule_init) := ⟨rfl, rfl, rfl, by decide +kernel, rfl, by decide +kernel, by decide +kernel⟩
abbrev n_sRule_one_shard : List Str := ["cls"]
theorem c_sRule_one_shard : FnScope n_sRule_one_shard ["cls"] (defScope sRule_one_shard) := ⟨rfl, rfl, rfl, by decide +kernel, rfl, by decide +kernel, by decide +kernel⟩
abbrev n_sRule_remainder : List Str := ["cls", "modulus", "shift"]
theorem c_sRule_remainder : FnScope n_sRule_remainder ["cls", "modulus", "shift"] (defScope sRule_remainder) := ⟨rfl, rfl, rfl, by decide +kernel, rfl, by decide +kernel, by decide +kernel⟩
abbrev n_sRule_last_figure : List Str := ["cls", "prime", "shift"]
theorem c_sRule_last_figure : FnScope n_sRule_last_figure ["cls", "prime", "shift"] (defScope sRule_last_figure) := ⟨rfl, rfl, rfl, by decide +kernel, rfl, by decide +kernel, by decide +kernel⟩
abbrev n_sRule_leading : List Str := ["cls", "bits", "modulus", "shift"]
theorem c_sRule_leading : FnScope n_sRule_leading ["cls", "bits", "modulus", "shift"] (defScope sRule_leading) := ⟨rfl, rfl, rfl, by decide +kernel, rfl, by decide +kernel, by decide +kernel⟩
abbrev n_sRule_factors : List Str := ["self"]
theorem c_sRule_factors : FnScope n_sRule_factors ["self"] (defScope sRule_factors) := ⟨rfl, rfl, rfl, by decide +kernel, rfl, by decide +kernel, by decide +kernel⟩
abbrev n_sRule_same : List Str := ["self", "records"]
theorem c_sRule_same : FnScope n_sRule_same ["self", "records"] (defScope sRule_same) := ⟨rfl, rfl, rfl, by decide +kernel, rfl, by decide +kernel, by decide +kernel⟩
abbrev n_sRule_call : List Str := ["self", "record"]
theorem c_sRule_call : FnScope n_sRule_call ["self", "record"] (defScope sRule_call) := ⟨rfl, rfl, rfl, by decide +kernel, rfl, by decide +kernel, by decide +kernel⟩
abbrev n_sRule_mul : List Str := ["self", "other", "factors"]
theorem c_sRule_mul : FnScope n_sRule_mul ["self", "other"] (defScope sRule_mul) := ⟨rfl, rfl, rfl, by decide +kernel, rfl, by decide +kernel, by decide +kernel⟩
abbrev n_sRule_len : List Str := ["self"]
theorem c_sRule_len : FnScope n_sRule_len ["self"] (defScope sRule_len) := ⟨rfl, rfl, rfl, by decide +kernel, rfl, by decide +kernel, by decide +kernel⟩
abbrev n_sRule_eq : List Str := ["self", "other"]
theorem c_sRule_eq : FnScope n_sRule_eq ["self", "other"] (defScope sRule_eq) := ⟨rfl, rfl, rfl, by decide +kernel, rfl, by decide +kernel, by decide +kernel⟩
abbrev n_l_record : List Str := ["_law_state", "_law_lift_here", "_law_powers", "_law_plan", "_law_number"]
theorem c_l_record : FnScope n_l_record ["_law_state", "_law_lift_here"] (defScope l_record) := ⟨rfl, rfl, rfl, by decide +kernel, rfl, by decide +kernel, by decide +kernel⟩
abbrev n_l_lift : List Str := ["_law_state", "_law_plan"]
theorem c_l_lift : FnScope n_l_lift ["_law_state"] (defScope l_lift) := ⟨rfl, rfl, rfl, by decide +kernel, rfl, by decide +kernel, by decide +kernel⟩
abbrev n_l_entry : List Str := ["_law_factor_here", "_law_record_here", "_law_number", "_law_figures", "_law_first", "_law_k"]
theorem c_l_entry : FnScope n_l_entry ["_law_factor_here", "_law_record_here"] (defScope l_entry) := ⟨rfl, rfl, rfl, by decide +kernel, rfl, by decide +kernel, by decide +kernel⟩
abbrev n_l_primes : List Str := []
theorem c_l_primes : FnScope n_l_primes [] (defScope l_primes) := ⟨rfl, rfl, rfl, by decide +kernel, rfl, by decide +kernel, by decide +kernel⟩
abbrev n_l_factor : List Str := ["_law_state", "_law_plan", "_law_lift_here"]
theorem c_l_factor : FnScope n_l_factor ["_law_state"] (defScope l_factor) := ⟨rfl, rfl, rfl, by decide +kernel, rfl, by decide +kernel, by decide +kernel⟩
abbrev n_l_rule : List Str := ["_law_factor_here"]
theorem c_l_rule : FnScope n_l_rule ["_law_factor_here"] (defScope l_rule) := ⟨rfl, rfl, rfl, by decide +kernel, rfl, by decide +kernel, by decide +kernel⟩
abbrev n_l_times : List Str := ["_law_first", "_law_second", "e"]
theorem c_l_times : FnScope n_l_times ["_law_first", "_law_second"] (defScope l_times) := ⟨rfl, rfl, rfl, by decide +kernel, rfl, by decide +kernel, by decide +kernel⟩
abbrev n_l_product : List Str := ["_law_factors", "_law_rule_here", "_law_factor_here", "_law_told"]
theorem c_l_product : FnScope n_l_product ["_law_factors"] (defScope l_product) := ⟨rfl, rfl, rfl, by decide +kernel, rfl, by decide +kernel, by decide +kernel⟩
abbrev n_l_refused : List Str := ["_law_rule_here", "_law_record_here", "e"]
theorem c_l_refused : FnScope n_l_refused ["_law_rule_here", "_law_record_here"] (defScope l_refused) := ⟨rfl, rfl, rfl, by decide +kernel, rfl, by decide +kernel, by decide +kernel⟩
abbrev n_l_near : List Str := ["_law_state", "_law_factor_here", "_law_plan"]
theorem c_l_near : FnScope n_l_near ["_law_state", "_law_factor_here"] (defScope l_near) := ⟨rfl, rfl, rfl, by decide +kernel, rfl, by decide +kernel, by decide +kernel⟩
abbrev n_l_agrees : List Str := ["_law_rule_here", "_law_factors", "_law_records", "_law_record_here", "_law_factor_here"]
theorem c_l_agrees : FnScope n_l_agrees ["_law_rule_here", "_law_factors", "_law_records"] (defScope l_agrees) := ⟨rfl, rfl, rfl, by decide +kernel, rfl, by decide +kernel, by decide +kernel⟩
abbrev n_l_unlike : List Str := ["_law_state", "_law_rule_here", "_law_factors", "_law_spot", "_law_near_here", "_law_fewer"]
theorem c_l_unlike : FnScope n_l_unlike ["_law_state", "_law_rule_here", "_law_factors"] (defScope l_unlike) := ⟨rfl, rfl, rfl, by decide +kernel, rfl, by decide +kernel, by decide +kernel⟩
abbrev n_sLaw : List Str := ["_law_script", "_law_state", "_law_factors", "_law_k", "_law_lift_here", "_law_records", "_law_told", "_law_half", "_law_cut", "_law_left", "_law_right", "_law_both", "_law_turned"]
theorem c_sLaw : FnScope n_sLaw ["_law_script"] (defScope sLaw) := ⟨rfl, rfl, rfl, by decide +kernel, rfl, by decide +kernel, by decide +kernel⟩
end OS

namespace OS
open PySem L2
/-- but for st and cl all that was tracked is as it was -/
def Kb (st cl : Addr) (H H' : Hp) : Prop := ∀ b o, H b = some o → b ≠ st → b ≠ cl → H' b = some o
/-- the drawing state: its cells at cl, at most m draws so far -/
structure StAt (H : Hp) (st cl : Addr) (m : Nat) : Prop where
  ob : ∃ p c : Int, H st = some (.lst [.ref cl, .int p, .int c]) ∧ 0 ≤ c ∧ c ≤ m
  cs : ∃ ns : List Int, H cl = some (.lst (ns.map V.int)) ∧ ns.length ≤ 63
  ne : st ≠ cl
structure Bi (mg : Str → Option Value) : Prop where
  len : mg "len" = none
  int : mg "int" = none
  max : mg "max" = none
  abs : mg "abs" = none
def spTake : Sp := fun vs H Q _ => ∃ (st cl : Addr) (m : Nat) (lim : Int), vs = [.ref st, .int lim] ∧ StAt H st cl m ∧ m ≤ 1000000000 ∧ 0 < lim ∧ lim < 1073741824 ∧
  ∀ (n : Int) (H' : Hp), 0 ≤ n → n < lim → StAt H' st cl (m + 1) → Kb st cl H H' → Q (.int n) H'
theorem fmod_in {i j : Int} (h : 0 < j) : 0 ≤ i.fmod j ∧ i.fmod j < j := ⟨Int.fmod_nonneg_of_pos _ h, Int.fmod_lt_of_pos _ h⟩
theorem getD_int {ns : List Int} {k : Int} (h0 : 0 ≤ k) (h1 : k < (ns.length : Int)) : ∃ z : Int, (ns.map V.int)[k.toNat]? = some (V.int z) ∧ ns[k.toNat]? = some z := by
  have hk : k.toNat < ns.length := by omega
  refine ⟨ns[k.toNat], ?_, List.getElem?_eq_getElem hk⟩
  rw [List.getElem?_map, List.getElem?_eq_getElem hk]
  rfl
theorem ixN_in {n : Nat} {k : Int} (h0 : 0 ≤ k) (h1 : k < (n : Int)) : ixN n k = some k.toNat := by
  unfold ixN
  rw [if_pos h0, if_pos h1]
theorem atI_in {α : Type} {xs : List α} {k : Int} {v : α} (h0 : 0 ≤ k) (h : xs[k.toNat]? = some v) : atI xs k = some v := by
  have := atI_nat h
  rwa [Int.toNat_of_nonneg h0] at this
section
variable {P : Program} {w : World} {K : PySem.W.Frag} {mg : Str → Option Value} {base : Heap}
abbrev nTake : List Str := ["_law_state", "_law_limit", "_law_cells", "_law_at", "_law_cell", "_law_number"]
theorem scTake : FnScope nTake ["_law_state", "_law_limit"] (defScope sTake) := ⟨rfl, rfl, rfl, by decide +kernel, rfl, by decide +kernel, by decide +kernel⟩
theorem ok_take {f : Addr} {fd : FuncData} (F : Fun K "_law_take" "_law_take" sTake f fd) (T : Bi mg) : FnOk P w K mg base CX0 1 f fd ["_law_state", "_law_limit"] spTake := by
  refine F.ok scTake (fun vs H Q E h => ?_) (fun cdv A outer s H vs Q E hr h => ?_)
  · obtain ⟨st, cl, m, lim, rfl, _⟩ := h
    rfl
  · obtain ⟨st, cl, m, lim, rfl, S, hm, hl0, hl1, k⟩ := h
    obtain ⟨⟨p, c, hst, hc0, hc1⟩, ⟨ns, hcl, hn⟩, hne⟩ := S
    refine ⟨_, pss_cons (ps_set (i := 2) scTake.nd rfl (Or.inl rfl) (pe_ix ix_list (pv 0) pe_int fun _ _ => rfl))
      (pss_cons (ps_asg (pe_op op_add (pe_ix ix_list (pv 0) pe_int fun _ _ => rfl) pe_int) (pg_sub (pv 0) pe_int set_list))
      (pss_cons (ps_set (i := 3) scTake.nd rfl (Or.inl rfl) (pe_op op_modN (pe_callTy call_int1 (by rfl) T.int (by decide +kernel) (pa_cons (pe_ix ix_list (pv 0) pe_int fun _ _ => rfl) pa_nil))
          (pe_callB (call_max2 rfl) (by rfl) T.max (by decide +kernel) (pa_cons pe_int (pa_cons (pe_callB call_len_seq (by rfl) T.len PySem.boot_len (pa_cons (pv 2) pa_nil)) pa_nil)))))
      (pss_cons (ps_set (i := 4) scTake.nd rfl (Or.inl rfl) pe_int)
      (pss_cons (ps_if (pt_truth (pv 2) (by intro _; rfl)) (pss_one (ps_set (i := 4) scTake.nd rfl (Or.inl rfl) (pe_ix ix_list (pv 2) (pv 3) fun _ _ => rfl))) pss_nil)
      (pss_cons (ps_if (pt_cmpR op_ge (pe_callB call_abs (by rfl) T.abs (by decide +kernel) (pa_cons (pv 4) pa_nil)) (pe_op op_pow pe_int pe_int) (nomark _))
        (pss_cons (ps_asg (pe_op op_fdivN (pe_callB call_abs (by rfl) T.abs (by decide +kernel) (pa_cons (pv 4) pa_nil)) (pv 1)) (pg_sub (pv 2) (pv 3) set_list))
          (pss_one (ps_ret (pe_op op_modN (pe_callB call_abs (by rfl) T.abs (by decide +kernel) (pa_cons (pv 4) pa_nil)) (pv 1))))) pss_nil)
      (pss_cons (ps_asg (pe_op op_add (pe_ix ix_list (pv 0) pe_int fun _ _ => rfl) pe_int) (pg_sub (pv 0) pe_int set_list))
      (pss_cons (ps_set (i := 5) scTake.nd rfl (Or.inl rfl) (pe_op op_modN (pe_op op_pow (pe_callTy call_int1 (by rfl) T.int (by decide +kernel) (pa_cons (pe_op op_add (pe_op op_add (pe_op op_mul (pe_op op_modN (pe_callTy call_int1 (by rfl) T.int (by decide +kernel) (pa_cons (pv 4) pa_nil)) pe_int) pe_int) (pe_op op_mul (pe_ix ix_list (pv 0) pe_int fun _ _ => rfl) pe_int)) pe_int) pa_nil)) pe_int) pe_int))
      (pss_cons (ps_set (i := 5) scTake.nd rfl (Or.inl rfl) (pe_op op_modN (pe_op op_pow (pe_callTy call_int1 (by rfl) T.int (by decide +kernel) (pa_cons (pe_op op_add (pe_op op_add (pe_op op_mul (pv 5) pe_int) (pe_op op_mul (pe_ix ix_list (pv 0) pe_int fun _ _ => rfl) pe_int)) pe_int) pa_nil)) pe_int) pe_int))
      (pss_one (ps_ret (pe_op op_modN (pe_op op_fdivN (pv 5) pe_int) (pv 1)))))))))))), ?_⟩
    have a0 : atI [V.ref cl, V.int p, V.int c] 0 = some (V.ref cl) := rfl
    refine ⟨_, rfl, st, _, _, _, rfl, rfl, SqL.of hst, a0, ?_⟩
    -- state[2] = state[2] + 1
    refine ⟨_, rfl, st, _, _, V.int c, rfl, rfl, SqL.of hst, rfl, _, _, rfl, rfl, ?_⟩
    refine ⟨_, rfl, st, _, _, 2, rfl, rfl, hst, rfl, ?_⟩
    have h1 : ∀ o, (upd H st o) cl = some (.lst (ns.map V.int)) := fun o => by rw [upd_ne hne.symm]; exact hcl
    -- at = int(state[1]) % max(1, len(cells))
    refine ⟨_, rfl, st, _, _, V.int p, rfl, rfl, SqL.of upd_same, rfl, .inl ⟨_, rfl, ?_⟩⟩
    refine ⟨_, rfl, cl, ns.map V.int, rfl, .inl (SqL.of (h1 _)), _, _, rfl, ?_⟩
    have hL : (((ns.map V.int).length : Nat) : Int) = (ns.length : Int) := by rw [List.length_map]
    rw [hL]
    have hmx : ∃ mx : Int, (if (ns.length : Int) > 1 then (ns.length : Int) else 1) = mx ∧ 0 < mx ∧ (0 < ns.length → mx ≤ ns.length) := by
      refine ⟨_, rfl, ?_, fun _ => ?_⟩
      · split <;> omega
      · split <;> omega
    obtain ⟨mx, emx, mx0, mx1⟩ := hmx
    rw [emx]
    refine ⟨_, _, rfl, rfl, (by omega), ?_⟩
    obtain ⟨ka, kb⟩ := fmod_in (i := p) mx0
    obtain ⟨at_, hat⟩ : ∃ a, a = p.fmod mx := ⟨_, rfl⟩
    rw [← hat] at ka kb
    -- cell = 0; if cells: cell = cells[at]
    refine ⟨_, rfl, _, .inl ⟨_, SqL.of (h1 _), rfl⟩, ?_⟩
    show if (!(ns.map V.int).isEmpty) = true then _ else _
    have hE : (!(ns.map V.int).isEmpty) = decide (0 < ns.length) := by cases ns <;> simp
    rw [hE]
    rw [show (fun i j => V.int (Int.fmod i j)) p mx = V.int at_ by rw [hat]]
    have h10 : ((10 : Int) ^ (18 : Int).toNat) = 1000000000000000000 := by decide
    by_cases hp : 0 < ns.length
    all_goals first
      | have hp' : 0 < ns.length := hp
        rw [decide_eq_true hp]
        refine iteT ?_
        obtain ⟨z, hz1, hz2⟩ := getD_int (ns := ns) (k := at_) ka (by have := mx1 hp; omega)
        refine ⟨_, rfl, _, rfl, cl, _, _, V.int z, rfl, rfl, SqL.of (h1 _), atI_in ka hz1, ?_⟩
        have hz : z = 0 ∨ at_ < (ns.length : Int) := .inr (by have := mx1 hp; omega)
      | have hp' : ¬ 0 < ns.length := hp
        rw [decide_eq_false hp]
        refine iteF ?_
        obtain ⟨z, ez⟩ : ∃ z : Int, z = 0 := ⟨0, rfl⟩
        rw [show (some (V.int 0) : Option V) = some (V.int z) by rw [ez]]
        have hz : z = 0 ∨ at_ < (ns.length : Int) := .inl ez
    all_goals
      refine ⟨_, rfl, _, rfl, _, _, rfl, rfl, ⟨by decide, by decide, by decide⟩, _, _, rfl, rfl, _, rfl, ?_⟩
      rw [h10]
      obtain ⟨az, haz⟩ : ∃ az, az = (if z < 0 then -z else z) := ⟨_, rfl⟩
      have haz0 : 0 ≤ az := by rw [haz]; split <;> omega
      rw [← haz]
      refine ite2 (fun hb => ?_) (fun hb => ?_)
      · have hb' : (1000000000000000000 : Int) ≤ az := of_decide_eq_true hb
        have hat2 : at_ < (ns.length : Int) := by
          rcases hz with h | h
          · subst h; rw [haz] at hb'; simp at hb'
          · exact h
        refine ⟨_, rfl, _, rfl, _, rfl, _, _, rfl, rfl, ⟨by omega, by omega⟩, ?_⟩
        refine ⟨_, rfl, _, rfl, cl, _, _, at_.toNat, rfl, rfl, h1 _, ixN_in ka (by rw [List.length_map]; exact hat2), ?_⟩
        refine ⟨_, rfl, _, rfl, _, rfl, _, _, rfl, rfl, (by omega), ?_⟩
        rw [← haz]
        obtain ⟨k0, k1⟩ := fmod_in (i := az) hl0
        refine k _ _ k0 k1 ⟨⟨p, c + 1, ?_, by omega, by push_cast; omega⟩, ⟨ns.set at_.toNat (az.fdiv lim), ?_, by rw [List.length_set]; exact hn⟩, hne⟩ ?_
        · rw [upd_ne hne, upd_same]
          rfl
        · rw [upd_same, List.map_set]
        · intro b o e hb1 hb2
          rw [upd_ne hb2, upd_ne hb1]
          exact e
      · -- state[1] = state[1] + 1
        refine ⟨_, rfl, st, _, _, V.int p, rfl, rfl, SqL.of upd_same, rfl, _, _, rfl, rfl, ?_⟩
        refine ⟨_, rfl, st, _, _, 1, rfl, rfl, upd_same, rfl, ?_⟩
        -- number
        have r1 : ∀ i : Int, 0 ≤ i.fmod 2147483647 ∧ i.fmod 2147483647 < 2147483647 := fun i => fmod_in (by decide)
        obtain ⟨y1, hy1⟩ : ∃ y, y = z.fmod 2147483647 := ⟨_, rfl⟩
        obtain ⟨q1, q2⟩ := r1 z
        rw [← hy1] at q1 q2
        refine ⟨_, rfl, .inl ⟨_, rfl, ?_⟩⟩
        refine ⟨_, _, rfl, rfl, (by show (_ : Int) ≠ 0; decide), ?_⟩
        rw [show (fun i j => V.int (Int.fmod i j)) z 2147483647 = V.int y1 by rw [hy1]]
        refine ⟨_, _, rfl, rfl, .inl ⟨by omega, by omega⟩, ?_⟩
        refine ⟨_, rfl, st, _, _, V.int (c + 1), rfl, rfl, SqL.of upd_same, rfl, _, _, rfl, rfl, .inl ⟨by omega, by omega⟩, ?_⟩
        refine ⟨_, _, rfl, rfl, _, _, rfl, rfl, .inl ⟨_, rfl, ?_⟩⟩
        refine ⟨_, _, rfl, rfl, ⟨by decide, by decide, ?_⟩, ?_⟩
        · show (y1 * 48271 + (c + 1) * 69621 + 11).natAbs < 2 ^ 64
          omega
        refine ⟨_, _, rfl, rfl, (by show (_ : Int) ≠ 0; decide), ?_⟩
        obtain ⟨q3, q4⟩ := r1 ((y1 * 48271 + (c + 1) * 69621 + 11) ^ (5 : Int).toNat)
        obtain ⟨y2, hy2⟩ : ∃ y, y = ((y1 * 48271 + (c + 1) * 69621 + 11) ^ (5 : Int).toNat).fmod 2147483647 := ⟨_, rfl⟩
        rw [← hy2] at q3 q4
        refine ⟨_, rfl, _, _, rfl, rfl, .inl ⟨?_, ?_⟩, ?_⟩
        · show -(2 ^ 64) < (((y1 * 48271 + (c + 1) * 69621 + 11) ^ (5 : Int).toNat).fmod 2147483647)
          rw [← hy2]; omega
        · show (((y1 * 48271 + (c + 1) * 69621 + 11) ^ (5 : Int).toNat).fmod 2147483647) < 2 ^ 64
          rw [← hy2]; omega
        refine ⟨_, rfl, st, _, _, V.int (c + 1), rfl, rfl, SqL.of upd_same, rfl, _, _, rfl, rfl, .inl ⟨by omega, by omega⟩, ?_⟩
        refine ⟨_, _, rfl, rfl, _, _, rfl, rfl, .inl ⟨_, rfl, ?_⟩⟩
        refine ⟨_, _, rfl, rfl, ⟨by decide, by decide, ?_⟩, ?_⟩
        · show ((((y1 * 48271 + (c + 1) * 69621 + 11) ^ (5 : Int).toNat).fmod 2147483647) * 16807 + (c + 1) * 40692 + 7).natAbs < 2 ^ 64
          rw [← hy2]; omega
        refine ⟨_, _, rfl, rfl, (by show (_ : Int) ≠ 0; decide), ?_⟩
        refine ⟨_, rfl, _, _, rfl, rfl, ⟨by decide, by decide⟩, _, rfl, _, _, rfl, rfl, (by omega), ?_⟩
        obtain ⟨k0, k1⟩ := fmod_in (i := (((((((y1 * 48271 + (c + 1) * 69621 + 11) ^ (5 : Int).toNat).fmod 2147483647) * 16807 + (c + 1) * 40692 + 7) ^ (5 : Int).toNat).fmod 2147483629).fdiv 16)) hl0
        refine k _ _ k0 k1 ⟨⟨p + 1, c + 1, ?_, by omega, by push_cast; omega⟩, ⟨ns, ?_, hn⟩, hne⟩ ?_
        · rw [upd_same]
          rfl
        · rw [upd_ne hne.symm, upd_ne hne.symm]
          exact hcl
        · intro b o e hb1 hb2
          rw [upd_ne hb1, upd_ne hb1]
          exact e
def spStart (K : PySem.W.Frag) : Sp := fun vs H Q _ => ∃ (a : Addr) (ns : List Int), vs = [.ref a] ∧ SqL K H a (ns.map V.int) ∧ ns.length ≤ 63 ∧
  ∀ (st cl : Addr) (H' : Hp), StAt H' st cl 0 → Same H H' → H st = none → H cl = none → Q (.ref st) H'
abbrev nStart : List Str := ["_law_script", "_law_cell"]
theorem scStart : FnScope nStart ["_law_script"] (defScope sStart) := ⟨rfl, rfl, rfl, by decide +kernel, rfl, by decide +kernel, by decide +kernel⟩
theorem ok_start {f : Addr} {fd : FuncData} (F : Fun K "_law_start" "_law_start" sStart f fd) (T : Bi mg) : FnOk P w K mg base CX0 1 f fd ["_law_script"] (spStart K) := by
  refine F.ok scStart (fun vs H Q E h => ?_) (fun cdv A outer s H vs Q E hr h => ?_)
  · obtain ⟨a, ns, rfl, _⟩ := h
    rfl
  · obtain ⟨a, ns, rfl, hS, hn, k⟩ := h
    refine ⟨_, pss_one (ps_ret (pe_lst (pa_cons (pe_lc (own := [("_law_cell", 1)]) (g := gName 1) (tt := tYes) rfl scStart.nd (pi_list (pv 0)) (blkOk_by (own := [("_law_cell", 1)]) (N := nStart) (sc := defScope sStart) (by decide +kernel))
        (fun _ _ _ _ _ => pg_name (i := 1) scStart.nd rfl (Or.inl rfl)) (fun _ _ _ _ _ => pts_nil) (fun _ _ _ _ _ => pe_callTy call_int1 (by rfl) T.int (by decide +kernel) (pa_cons (pv 1) pa_nil)))
      (pa_cons pe_int (pa_cons pe_int pa_nil))))), ?_⟩
    refine ⟨_, rfl, a, rfl, ⟨_, hS⟩, fun D hD => lc_list (K := K) (a := a) (xs := ns.map V.int) (fun i H' => Same H H' ∧ H' D = some (.lst ((ns.take i).map V.int))) ⟨?_, ?_⟩ (fun i H' _ h => h.1.seq hS) ?_ ?_⟩
    · intro b o e
      rw [upd_ne (ne_of_none e hD)]
      exact e
    · rw [upd_same]
      rfl
    · intro i x H' hi ⟨s1, s2⟩
      obtain ⟨z, hz, rfl⟩ : ∃ z, ns[i]? = some z ∧ x = V.int z := by
        rw [List.getElem?_map] at hi
        cases e : ns[i]? with
        | none => rw [e] at hi; cases hi
        | some z => rw [e] at hi; exact ⟨z, rfl, (Option.some.inj hi).symm⟩
      have hil : i < ns.length := (List.getElem?_eq_some_iff.mp hz).1
      refine ⟨rfl, ?_⟩
      refine ⟨_, rfl, .inl ⟨_, rfl, _, s2, ?_, ?_, ?_⟩⟩
      · rw [List.length_map, List.length_take]
        exact small1000 (by omega)
      · intro b o e
        rw [upd_ne (ne_of_none e hD)]
        exact s1 b o e
      · rw [upd_same, List.take_succ, hz]
        simp
    · intro H' ⟨s1, s2⟩
      rw [List.length_map, List.take_length] at s2
      refine ⟨by show 3 ≤ sizeLine; decide, fun st hst => ?_⟩
      have hne : st ≠ D := (ne_of_none s2 hst).symm
      refine k st D _ ⟨⟨0, 0, upd_same, by decide, by decide⟩, ⟨ns, by rw [upd_ne hne.symm]; exact s2, hn⟩, hne⟩ ?_ ?_ hD
      · intro b o e
        rw [upd_ne (ne_of_none (s1 b o e) hst)]
        exact s1 b o e
      · exact s1.free hst
end
end OS

/-! ### drawing, over data -/
namespace OS
open PySem L2 OZ
def takeM (st cl : Addr) : Mode where
  X := fun _ b => b = st ∨ b = cl
  S := fun m H => StAt H st cl m
  clo := fun m H H' S h => by
    refine ⟨⟨?_, ?_, S.ne⟩, fun b x => x⟩
    · obtain ⟨p, c, e, r⟩ := S.ob
      exact ⟨p, c, h st _ (.inl rfl) e, r⟩
    · obtain ⟨ns, e, r⟩ := S.cs
      exact ⟨ns, h cl _ (.inr rfl) e, r⟩
  there := fun m H b S x => by
    rcases x with rfl | rfl
    · obtain ⟨p, c, e, r⟩ := S.ob; exact ⟨_, e⟩
    · obtain ⟨ns, e, r⟩ := S.cs; exact ⟨_, e⟩
def FTake (st : Addr) : FD := fun ds KR _ m => ∃ lim, ds = [.ref st, .int lim] ∧ m ≤ 1000000000 ∧ 0 < lim ∧ lim < 1073741824 ∧ ∀ n, 0 ≤ n → n < lim → KR (.int n) (m + 1)
theorem FTake.use {st : Addr} {lim : Int} {KR : Da → Nat → Prop} {KE : Kx} {m : Nat} (hm : m ≤ 1000000000) (h0 : 0 < lim) (h1 : lim < 1073741824) (k : ∀ n, 0 ≤ n → n < lim → KR (.int n) (m + 1)) : FTake st [.ref st, .int lim] KR KE m := ⟨lim, rfl, hm, h0, h1, k⟩
theorem take_ok {B : Bd} {st cl f : Addr} {fd : FuncData} (F : Fun B.K "_law_take" "_law_take" sTake f fd) (T : Bi B.mg) (hm : B.mg "_law_take" = some (.ref f)) (hb : Binds B.K fd ["_law_state", "_law_limit"] []) : CallG (takeM st cl) B 1 "_law_take" 2 (FTake st) := by
  refine ⟨f, hm, F.kp, CX0, fd, _, (ok_take F T).imp fun vs H Q E q => ?_, hb, .inl rfl, rfl⟩
  obtain ⟨_, G, m, ds, KR, KE, ok, r, ⟨lim, rfl, h1, h2, h3, k⟩, po, _⟩ := q
  obtain ⟨a, b, rfl, ra, rb⟩ := reps2 r
  cases ra.ref_inv
  cases rb.int_inv
  refine ⟨st, cl, m, lim, rfl, ok.inv, h1, h2, h3, fun n H' n0 n1 S kb => ?_⟩
  have g : ∀ c o, G c = some o → c ≠ st ∧ c ≠ cl := fun c o e =>
    ⟨fun z => (by rw [z, ok.off _ (.inl rfl)] at e; cases e), fun z => (by rw [z, ok.off _ (.inr rfl)] at e; cases e)⟩
  refine po (.int n) (.int n) (m + 1) G H' (k n n0 n1) ⟨fun c o e => kb c o (ok.sub _ _ e) (g c o e).1 (g c o e).2, S, ok.off, Same.refl _, fun c o e n => ⟨kb c o e (fun z => n (.inl z)) fun z => n (.inr z), n⟩, fun c o _ _ z => z⟩ (.int n)
end OS

namespace OS
open PySem L2 OZ
/-- the law, behind the start of its drawing -/
theorem law_take {B : Bd} {f fS : Addr} {fd dS : FuncData} {k : Nat} {N : List Str} {rest : List Stmt} {p1 p2 p3 p4 p5 : Pos} (Fn : Fun B.K "law" "law" sLaw f fd) (S : FnScope ("_law_script" :: "_law_state" :: N) ["_law_script"] (defScope sLaw))
    (hb : defBody sLaw = .Assign [.Name "_law_state" p1] (.Call (.Name "_law_start" p2) [.Name "_law_script" p3] [] p4) p5 :: rest)
    (ES : FnOk B.P B.w B.K B.mg B.base CX0 1 fS dS ["_law_script"] (spStart B.K)) (mS : B.mg "_law_start" = some (.ref fS)) (kS : PySem.W.keepIn B.K (.ref fS) = true) (bS : Binds B.K dS ["_law_script"] [])
    (hg : (defScope sLaw).names.lookup ("_law_start" : Str) = some .globalImplicit) (hv : (defScope sLaw).names.lookup ("_law_script" : Str) = some .local) (hst : Loc (defScope sLaw) "_law_state")
    (hsw : ∀ X : Cx, X.env.scope = defScope sLaw → swapsWith (.Call (.Name "_law_start" p2) [.Name "_law_script" p3] [] p4) (some (.Name "_law_state" p1)) p5.line X.env = pure false)
    (h : ∀ (X : Cx) (st cl : Addr), (∃ cdv A outer s H E, X = (cxOf CX0 B.P B.w B.K B.mg B.base ("_law_script" :: "_law_state" :: N) "law" (defScope sLaw) f cdv A outer s H E).nox) → Ctx X ("_law_script" :: "_law_state" :: N) (defScope sLaw) B → Room k X.A →
      OZ.StD (takeM st cl) X (fun _ => K0) rest (.un :: .v (.ref st) :: List.replicate N.length .un) { nx := fun _ _ => False, rt := fun d _ => d = .bl true } 0) (hk : 1 ≤ k) :
    FnOk B.P B.w B.K B.mg B.base CX0 (k + 1) f fd ["_law_script"] (OZ.spLaw B.K) := by
  refine Fn.ok S (fun vs H Q E q => ?_) (fun cdv A outer s H vs Q E hr q => ?_)
  · obtain ⟨a, ns, rfl, _⟩ := q
    rfl
  · obtain ⟨a, ns, rfl, hS, hn, kk⟩ := q
    rw [hb]
    refine ⟨_, pss_cons (ps_set (hf := .inl rfl) (i := 1) S.nd rfl hst (pe_call ES (hr.mono hk) hg mS kS bS .nil pass0 (pa_cons (pe_var (i := 0) rfl (.inl hv)) pa_nil)) (hsw _ rfl)) pss_wp, ?_⟩
    refine ⟨_, rfl, a, ns, rfl, hS, hn, fun st cl H' sa s' e1 e2 => ?_⟩
    refine h (cxOf CX0 B.P B.w B.K B.mg B.base ("_law_script" :: "_law_state" :: N) "law" (defScope sLaw) f cdv A outer s H E).nox st cl ⟨cdv, A, outer, s, H, E, rfl⟩ ⟨rfl, rfl, S.nd, rfl⟩ hr (fun _ => none) H' (fun _ => none) H' _ (fun _ _ _ _ => False) _
      ⟨(fun _ _ z => nomatch z), sa, fun _ _ => rfl, Same.refl _, fun _ _ e n => ⟨e, n⟩, fun _ _ _ _ z => z⟩ ?_ ⟨takes0, fun _ _ _ _ _ _ _ _ z => z.elim⟩ ⟨fun _ _ _ _ _ z => z.elim, ?_, fun _ _ _ _ _ z => z.elim, fun _ _ _ _ _ z => z.elim, fun _ _ _ _ _ z => z.elim⟩
    · have e : ∀ n : Nat, Paired (RelSl B.K (takeM st cl) H' (fun _ => none) H') (List.replicate n none) (List.replicate n .un) := fun n => by
        induction n with
        | zero => exact .nil
        | succ n ih => rw [List.replicate_succ, List.replicate_succ]; exact .cons trivial ih
      refine ⟨?_, fun i j a ⟨q, d, hd⟩ => ?_⟩
      · show Paired _ (some (V.ref a) :: some (V.ref st) :: List.replicate _ none) _
        refine .cons trivial (.cons ⟨_, rfl, .ref st⟩ ?_)
        have : ("_law_script" :: "_law_state" :: N : List Str).length - [V.ref a].length - 1 = N.length := by simp
        exact e N.length
      · have hm : Sl.mm q d ∈ (Sl.un :: Sl.v (.ref st) :: List.replicate N.length .un) := List.mem_of_getElem? hd
        simp at hm
    · rintro v d m G H2 rfl ok r
      cases r.bl_inv
      exact kk H2
end OS

section
open PySem L2 OZ
-- MACROS
local macro_rules | `(tactic| fail "zn") => `(tactic| (repeat (first | with_reducible exact EnvAt.here | with_reducible apply EnvAt.there)))
local macro_rules | `(tactic| fail "zs") => `(tactic| (repeat (first | with_reducible exact EnvSet.here | with_reducible apply EnvSet.there)))
local macro_rules | `(tactic| fail "zo") => `(tactic| with_unfolding_all first | decide | omega)
local macro_rules | `(tactic| fail "za") => `(tactic| with_reducible assumption)
local macro_rules | `(tactic| fail "zpl") => `(tactic| with_unfolding_all first | rfl | (simp only [OZ.plD, OZ.plDs, Bool.and_true, Bool.true_and, Bool.and_eq_true] <;> decide +kernel))
local macro_rules | `(tactic| fail "zop") => `(tactic| first
  | with_reducible refine opd_add ?_
  | with_reducible refine opd_sub ?_
  | with_reducible refine opd_lt ?_
  | with_reducible refine opd_le ?_
  | with_reducible refine opd_gt ?_
  | with_reducible refine opd_ge ?_
  | with_reducible refine opd_eqI ?_
  | with_reducible refine opd_neI ?_
  | with_reducible refine opd_eqS ?_
  | with_reducible refine opd_neS ?_
  | with_reducible refine opd_eqB ?_
  | with_reducible refine opd_neB ?_
  | with_reducible refine opd_mul (by first | exact cmul_l (by fail "zo") (by fail "zo") | exact cmul_r (by fail "zo") (by fail "zo")) ?_
  | with_reducible refine opd_mod (by fail "zo") ?_
  | with_reducible refine opd_fdiv (by exact cdiv_s (by fail "zo") (by fail "zo")) ?_
  | with_reducible refine opd_pow (by exact cpow_s (by fail "zo") (by fail "zo") (by fail "zo") (by fail "zo")) ?_
  | ((with_reducible first | show OpD _ _ _ (compareOp .Eq) (.tup _) (.tup _) _ _ | show OpD _ _ _ (compareOp .Eq) (.lst _) (.lst _) _ _); with_reducible refine opd_eq (L2.Room.units (by fail "za")) (by fail "zpl") (by fail "zpl") (Nat.le_of_ble_eq_true (by with_unfolding_all rfl)) (Nat.le_of_ble_eq_true (by with_unfolding_all rfl)) ?_)
  | ((with_reducible first | show OpD _ _ _ (compareOp .NotEq) (.tup _) (.tup _) _ _ | show OpD _ _ _ (compareOp .NotEq) (.lst _) (.lst _) _ _); with_reducible refine opd_ne (L2.Room.units (by fail "za")) (by fail "zpl") (by fail "zpl") (Nat.le_of_ble_eq_true (by with_unfolding_all rfl)) (Nat.le_of_ble_eq_true (by with_unfolding_all rfl)) ?_)
  | with_reducible refine opd_shr (by fail "zo") ?_
  | with_reducible refine opd_cat (by fail "zsz") ?_
  | with_reducible refine opd_catT (by fail "zsz") ?_
  | ((with_reducible show OpD _ _ _ (compareOp .Eq) (.obj _ _) (.obj _ _) _ _); with_reducible refine opd_eqG (by fail "za") (by fail "za") (by fail "za") ?_)
  | ((with_reducible show OpD _ _ _ (compareOp .NotEq) (.obj _ _) (.obj _ _) _ _); with_reducible refine opd_neG (by fail "za") (by fail "za") (by fail "za") ?_)
  | ((with_reducible show OpD _ _ _ (binaryOp .Mult) (.obj _ _) (.obj _ _) _ _); with_reducible refine opd_mulG (by fail "za") (by fail "za") (by fail "za") (by fail "za") ?_)
  | with_reducible refine opd_is ?_
  | with_reducible refine opd_isnot ?_)
local macro_rules | `(tactic| fail "zbn") => `(tactic| first
  | ((with_reducible show EvD _ _ _ (.Call (.Name "len" _) _ _ _) _ _ _); with_reducible refine evd_callB (by fail "za") (Bn.len (by fail "za")) ?_)
  | ((with_reducible show EvD _ _ _ (.Call (.Name "abs" _) _ _ _) _ _ _); with_reducible refine evd_callB (by fail "za") (Bn.abs (by fail "za")) ?_)
  | ((with_reducible show EvD _ _ _ (.Call (.Name "max" _) _ _ _) _ _ _); with_reducible refine evd_callB (by fail "za") (Bn.max (by fail "za")) ?_)
  | ((with_reducible show EvD _ _ _ (.Call (.Name "min" _) _ _ _) _ _ _); with_reducible refine evd_callB (by fail "za") (Bn.min (by fail "za")) ?_)
  | ((with_reducible show EvD _ _ _ (.Call (.Name "sum" _) _ _ _) _ _ _); with_reducible refine evd_callB (by fail "za") (Bn.sum (by fail "za")) ?_)
  | ((with_reducible show EvD _ _ _ (.Call (.Name "any" _) _ _ _) _ _ _); with_reducible refine evd_callB (by fail "za") (Bn.any (by fail "za")) ?_)
  | ((with_reducible show EvD _ _ _ (.Call (.Name "all" _) _ _ _) _ _ _); with_reducible refine evd_callB (by fail "za") (Bn.all (by fail "za")) ?_)
  | ((with_reducible show EvD _ _ _ (.Call (.Name "sorted" _) _ _ _) _ _ _); with_reducible refine evd_callB (by fail "za") (Bn.sorted (by fail "za")) ?_)
  | ((with_reducible show EvD _ _ _ (.Call (.Name "isinstance" _) _ _ _) _ _ _); with_reducible refine evd_callB (by fail "za") (Bn.isinstance (by fail "za")) ?_)
  | ((with_reducible show EvD _ _ _ (.Call (.Name "divmod" _) _ _ _) _ _ _); with_reducible refine evd_callB (by fail "za") (Bn.divmod (by fail "za")) ?_)
  | ((with_reducible show EvD _ _ _ (.Call (.Name "int" _) _ _ _) _ _ _); with_reducible refine evd_callTy (by fail "za") (Bn.int (by fail "za")) ?_)
  | ((with_reducible show EvD _ _ _ (.Call (.Name "tuple" _) _ _ _) _ _ _); with_reducible refine evd_callTy (by fail "za") (Bn.tuple (by fail "za")) ?_)
  | ((with_reducible show EvD _ _ _ (.Call (.Name "list" _) _ _ _) _ _ _); with_reducible refine evd_callTy (by fail "za") (Bn.list (by fail "za")) ?_)
  | ((with_reducible show EvD _ _ _ (.Call (.Name "str" _) _ _ _) _ _ _); with_reducible refine evd_callTy (by fail "za") (Bn.str (by fail "za")) ?_)
  | ((with_reducible show EvD _ _ _ (.Call (.Name "dict" _) _ _ _) _ _ _); with_reducible refine evd_callTy (by fail "za") (Bn.dict (by fail "za")) ?_)
  | ((with_reducible show EvD _ _ _ (.Call (.Name "set" _) _ _ _) _ _ _); with_reducible refine evd_callTy (by fail "za") (Bn.set (by fail "za")) ?_))
local macro_rules | `(tactic| fail "zty") => `(tactic| with_reducible first | exact TyDa.int _ | exact TyDa.bl _ | exact TyDa.str _ | exact TyDa.non | exact TyDa.tup _ | exact TyDa.lst _ | exact TyDa.dct _ | exact TyDa.obj _ (by assumption))
local macro_rules | `(tactic| fail "zcls") => `(tactic| with_reducible first | exact ClsDa.ty _ | exact ClsDa.own _)
local macro_rules | `(tactic| fail "zcall") => `(tactic| first
  | ((with_reducible show EvD _ _ _ (.Call (.Name _ _) (_ :: _) [] _) _ _ _); first
    | with_reducible refine evd_call (by fail "za") (by fail "za") (by fail "za") ?_
    | with_reducible refine evd_callP (by fail "za") (by fail "za") (by fail "za") ?_
    | fail "zbn"
    | with_reducible refine evd_inst (by fail "za") (by fail "za") (by fail "za") ?_
    | with_reducible refine evd_callF (by fail "za") (by fail "za") (by with_unfolding_all assumption) ?_)
  | ((with_reducible show EvD _ _ _ (.Call (.Subscript _ _ _) (_ :: _) [] _) _ _ _); with_reducible refine evd_inst (by fail "za") (by fail "za") (by fail "za") ?_)
  | ((with_reducible show EvD _ _ _ (.Call (.Attribute _ "bit_length" _) [] [] _) _ _ _); with_reducible refine evd_bits ?_)
  | ((with_reducible show EvD _ _ _ (.Call (.Attribute _ _ _) [_] [] _) _ _ _); first
    | with_reducible refine evd_cmeth (n := 1) (ks := []) (by fail "za") (by fail "za") (by fail "za") ?_
    | with_reducible refine evd_meth (n := 1) (ks := []) (by fail "za") (by fail "za") (by fail "za") ?_)
  | ((with_reducible show EvD _ _ _ (.Call (.Attribute _ _ _) [_] [_] _) _ _ _); first
    | with_reducible refine evd_cmeth (n := 1) (ks := [_]) (by fail "za") (by fail "za") (by fail "za") ?_
    | with_reducible refine evd_meth (n := 1) (ks := [_]) (by fail "za") (by fail "za") (by fail "za") ?_)
  | ((with_reducible show EvD _ _ _ (.Call (.Attribute _ _ _) [_, _] [] _) _ _ _); first
    | with_reducible refine evd_cmeth (n := 2) (ks := []) (by fail "za") (by fail "za") (by fail "za") ?_
    | with_reducible refine evd_meth (n := 2) (ks := []) (by fail "za") (by fail "za") (by fail "za") ?_)
  | ((with_reducible show EvD _ _ _ (.Call (.Attribute _ _ _) [_, _] [_] _) _ _ _); first
    | with_reducible refine evd_cmeth (n := 2) (ks := [_]) (by fail "za") (by fail "za") (by fail "za") ?_
    | with_reducible refine evd_meth (n := 2) (ks := [_]) (by fail "za") (by fail "za") (by fail "za") ?_)
  | ((with_reducible show EvD _ _ _ (.Call (.Attribute _ _ _) [_, _, _] [] _) _ _ _); first
    | with_reducible refine evd_cmeth (n := 3) (ks := []) (by fail "za") (by fail "za") (by fail "za") ?_
    | with_reducible refine evd_meth (n := 3) (ks := []) (by fail "za") (by fail "za") (by fail "za") ?_)
  | ((with_reducible show EvD _ _ _ (.Call (.Attribute _ _ _) [_, _, _] [_] _) _ _ _); first
    | with_reducible refine evd_cmeth (n := 3) (ks := [_]) (by fail "za") (by fail "za") (by fail "za") ?_
    | with_reducible refine evd_meth (n := 3) (ks := [_]) (by fail "za") (by fail "za") (by fail "za") ?_)
  | ((with_reducible show EvD _ _ _ (.Call (.Attribute _ _ _) [] [] _) _ _ _); first
    | with_reducible refine evd_cmeth0 (ks := []) (by fail "za") (by fail "za") (by fail "za") ?_
    | with_reducible refine evd_meth0 (ks := []) (by fail "za") (by fail "za") (by fail "za") ?_)
  | ((with_reducible show EvD _ _ _ (.Call (.Name _ _) (_ :: _) [_] _) _ _ _); with_reducible refine evd_callK (ks := [_]) (by fail "za") (by fail "za") (by fail "za") ?_)
  | ((with_reducible show EvD _ _ _ (.Call (.Name _ _) [] [] _) _ _ _); first
    | with_reducible refine evd_call0 (by fail "za") (by fail "za") (by fail "za") ?_
    | with_reducible refine evd_callP0 (by fail "za") (by fail "za") (by fail "za") ?_))
local macro_rules | `(tactic| fail "zev") => `(tactic| first
  | ((with_reducible show EvD _ _ _ (.Name _ _) _ _ _); first
    | with_reducible refine evd_name (by fail "za") (by fail "zn") ?_
    | with_reducible refine evd_glob (by fail "za") (by fail "za") ?_
    | with_reducible refine evd_gint (by fail "za") (by fail "za") ?_
    | with_reducible refine evd_gstr (by fail "za") (by fail "za") ?_
    | ((with_reducible show EvD _ _ _ (.Name "int" _) _ _ _); with_reducible refine evd_ty (by fail "za") (Bn.int (by fail "za")) ?_)
    | ((with_reducible show EvD _ _ _ (.Name "bool" _) _ _ _); with_reducible refine evd_ty (by fail "za") (Bn.bool (by fail "za")) ?_))
  | with_reducible refine evd_int ?_
  | with_reducible refine evd_str ?_
  | with_reducible refine evd_bl ?_
  | with_reducible refine evd_non ?_
  | ((with_reducible show EvD _ _ _ (.BinOp _ _ _ _) _ _ _); with_reducible refine evd_op ?_)
  | ((with_reducible show EvD _ _ _ (.Compare _ [_] [_] _) _ _ _); with_reducible refine evd_cmp ?_)
  | ((with_reducible show EvD _ _ _ (.Compare _ [_, _] [_, _] _) _ _ _); with_reducible refine evd_chain ?_)
  | ((with_reducible show EvD _ _ _ (.Call _ _ _ _) _ _ _); fail "zcall")
  | ((with_reducible show EvD _ _ _ (.Subscript _ (.Slice none none (some _) _) _) _ _ _); with_reducible refine evd_revL ?_)
  | ((with_reducible show EvD _ _ _ (.Subscript _ (.Slice _ _ none _) _) _ _ _); with_reducible refine evd_slice ?_)
  | ((with_reducible show EvD _ _ _ (.Subscript _ _ _) _ _ _); with_reducible refine evd_ix ?_)
  | ((with_reducible show EvD _ _ _ (.Attribute _ _ _) _ _ _); first
    | with_reducible refine evd_prop (by fail "za") (by fail "za") (by fail "za") ?_
    | with_reducible refine evd_xfB (by fail "za") (by fail "za") (by fail "za") ?_
    | with_reducible refine evd_fldB (by fail "za") ?_)
  | ((with_reducible show EvD _ _ _ (.Tuple _ _ _) _ _ _); with_reducible refine evd_tuple ?_)
  | ((with_reducible show EvD _ _ _ (.List _ _) _ _ _); with_reducible refine evd_list ?_)
  | ((with_reducible show EvD _ _ _ (.UnaryOp _ _ _) _ _ _); first | ((with_reducible show EvD _ _ _ (.UnaryOp .Not _ _) _ _ _); with_reducible refine evd_notV ?_) | with_reducible refine evd_un ?_)
  | ((with_reducible show EvD _ _ _ (.IfExp _ _ _ _) _ _ _); with_reducible refine evd_if ?_)
  | ((with_reducible show EvD _ _ _ (.BoolOp _ _ _) _ _ _); first | with_reducible refine evd_and1 ?_ | with_reducible refine evd_and ?_ | with_reducible refine evd_or ?_))
local macro_rules | `(tactic| fail "zcd") => `(tactic| with_reducible first
  | refine cd_int ?_
  | with_reducible refine cd_intB ?_
  | with_reducible refine cd_lenL ?_
  | with_reducible refine cd_lenT ?_
  | with_reducible refine cd_tupL ?_
  | with_reducible refine cd_tupT ?_
  | with_reducible refine cd_lstL ?_
  | with_reducible refine cd_lstT ?_
  | with_reducible refine cd_abs ?_)
local macro_rules | `(tactic| fail "zcd2") => `(tactic| first
  | ((with_reducible show CallD _ _ _ (.builtin "max") [.int _, .int _] _ _); with_reducible refine cd_max2 ?_)
  | ((with_reducible show CallD _ _ _ (.builtin "min") [.int _, .int _] _ _); with_reducible refine cd_min2 ?_))
local macro_rules | `(tactic| fail "zet") => `(tactic| first
  | ((with_reducible show EvT _ _ _ (.Compare _ [_] [_] _) _ _ _); with_reducible refine evt_cmp ?_)
  | ((with_reducible show EvT _ _ _ (.Compare _ [_, _] [_, _] _) _ _ _); with_reducible refine evt_chainD ?_)
  | ((with_reducible show EvT _ _ _ (.UnaryOp .Not _ _) _ _ _); with_reducible refine evt_not ?_)
  | ((with_reducible show EvT _ _ _ (.BoolOp _ _ _) _ _ _); with_reducible refine evt_w ?_)
  | ((with_reducible show EvT _ _ _ _ _ _ _); with_reducible refine evt_tru ?_)
  | ((with_reducible show EvW _ _ _ _ _ _ _); first | with_reducible refine evw_and1 ?_ | with_reducible refine evw_or1 ?_ | with_reducible refine evw_and ?_ | with_reducible refine evw_or ?_))
local macro_rules | `(tactic| fail "zif") => `(tactic| first
  | ((with_reducible first | show if isNonD _ = true then _ else _ | show if (!isNonD _) = true then _ else _ | show if (!List.isEmpty _) = true then _ else _); first | with_reducible refine zeT (by with_unfolding_all rfl) ?_ | with_reducible refine zeF (by with_unfolding_all rfl) ?_)
  | with_reducible refine zt ?_
  | with_reducible refine zf ?_
  | with_reducible refine zntt ?_
  | with_reducible refine znff ?_
  | with_reducible refine zdqT (by fail "zpl") ?_
  | with_reducible refine zdqF (by fail "zpl") ?_
  | with_reducible refine zifT (by fail "zo") ?_
  | with_reducible refine zifF (by fail "zo") ?_
  | with_reducible refine zifnT (by fail "zo") ?_
  | with_reducible refine zifnF (by fail "zo") ?_)
local macro_rules | `(tactic| fail "zi") => `(tactic| (repeat (first | with_reducible exact IdxAt.here | with_reducible apply IdxAt.there)))
local macro_rules | `(tactic| fail "zsz") => `(tactic| with_unfolding_all first | exact Nat.lt_of_lt_of_le (by simp only [List.length_append, List.length_cons, List.length_nil, List.length_map, List.length_take, List.length_drop, List.length_reverse]; omega) OZ.big_size | exact Nat.le_trans (by simp only [List.length_append, List.length_cons, List.length_nil, List.length_map, List.length_take, List.length_drop, List.length_reverse]; omega) OZ.big_size)
local macro_rules | `(tactic| fail "zst") => `(tactic| first
  | ((with_reducible show St1 _ _ _ (.Assign [.Name _ _] (.List _ _) _) _ _ _); with_reducible refine st1_setNewH (by fail "za") (by fail "za") (by fail "zi") (evn_list ?_))
  | ((with_reducible show St1 _ _ _ (.Expr (.Call (.Attribute (.Name _ _) "append" _) [_] [] _) _) _ _ _); with_reducible refine st1_own (by fail "za") (by fail "zn") oc_append tym_lst ?_)
  | ((with_reducible show St1 _ _ _ (.For _ (.Name _ _) _ [] _) _ _ _); with_reducible refine st1_for (by fail "za") (iter_seq ?_))
  | ((with_reducible show St1 _ _ _ (.For _ (.Subscript _ _ _) _ [] _) _ _ _); with_reducible refine st1_for (by fail "za") (iter_seq ?_))
  | ((with_reducible show St1 _ _ _ (.For _ (.Attribute _ _ _) _ [] _) _ _ _); with_reducible refine st1_for (by fail "za") (iter_seq ?_))
  | ((with_reducible show St1 _ _ _ (.For _ (.Call (.Name "range" _) [_] [] _) _ [] _) _ _ _); with_reducible refine st1_for (by fail "za") (iter_range (by fail "za") (Bn.range (by fail "za")) ?_))
  | ((with_reducible show St1 _ _ _ (.For _ (.Call (.Name "range" _) [_, _] [] _) _ [] _) _ _ _); with_reducible refine st1_for (by fail "za") (iter_range2 (by fail "za") (Bn.range (by fail "za")) ?_))
  | ((with_reducible show St1 _ _ _ (.Assign _ _ _) _ _ _); with_reducible refine st1_set (by fail "za") ?_)
  | ((with_reducible show St1 _ _ _ (.If _ _ _ _) _ _ _); with_reducible refine st1_if ?_)
  | ((with_reducible show St1 _ _ _ (.Return _ _) _ _ _); first | with_reducible refine st1_ret ?_ | with_reducible refine st1_retN ?_)
  | ((with_reducible show St1 _ _ _ (.Expr _ _) _ _ _); with_reducible refine st1_expr ?_)
  | ((with_reducible show St1 _ _ _ (.Pass _) _ _ _); with_reducible refine st1_pass ?_)
  | ((with_reducible show St1 _ _ _ (.Raise _ _ _) _ _ _); with_reducible refine st1_raise (by fail "za") (by fail "za") (by fail "za") ?_)
  | ((with_reducible show StD _ _ _ [] _ _ _); with_reducible refine std_nil ?_)
  | ((with_reducible show StD _ _ _ _ _ _ _); first | with_reducible refine std_cons ?_ | refine std_cons ?_))
local macro_rules | `(tactic| fail "z1") => `(tactic| first
  | fail "zev"
  | ((with_reducible show OpD _ _ _ _ _ _ _ _); fail "zop")
  | ((with_reducible show UnD _ _ _ _ _ _ _); with_reducible refine und_neg ?_)
  | ((with_reducible first | show IxD _ _ _ (.tup _) (.int (OfNat.ofNat _)) _ _ | show IxD _ _ _ (.tup _) (.int (-(OfNat.ofNat _))) _ _); with_reducible refine ixd_tup (by with_unfolding_all rfl) ?_)
  | ((with_reducible first | show IxD _ _ _ (.lst _) (.int (OfNat.ofNat _)) _ _ | show IxD _ _ _ (.lst _) (.int (-(OfNat.ofNat _))) _ _); with_reducible refine ixd_lst (by with_unfolding_all rfl) ?_)
  | with_reducible refine seqd_lst ?_
  | with_reducible refine seqd_tup ?_
  | with_reducible refine seqd_str ?_
  | with_reducible refine seqd_dct ?_
  | with_reducible refine evp_none ?_
  | with_reducible refine evp_some ?_
  | ((with_reducible show EvA _ _ _ [] _ _ _); with_reducible refine eva_nil ?_)
  | ((with_reducible show EvK _ _ _ [] _ _ _); with_reducible refine evk_nil ?_)
  | ((with_reducible show EvK _ _ _ _ _ _ _); with_reducible refine evk_cons ?_)
  | ((with_reducible show EvA _ _ _ _ _ _ _); with_reducible refine eva_cons ?_)
  | fail "zet"
  | fail "zst"
  | ((with_reducible show CallD _ _ _ (.ref _) _ _ _); with_reducible refine calld_make (by fail "za") (by fail "za") (by fail "za") (by with_unfolding_all rfl) ?_)
  | ((with_reducible show CallD _ _ _ (.builtin "isinstance") [_, _] _ _); with_reducible refine cd_isi (by fail "za") (by fail "zty") (by fail "zcls") (by fail "za") ?_)
  | ((with_reducible show CallD _ _ _ (.builtin "len") [.obj _ _] _ _); with_reducible refine cd_lenO (by fail "za") (by fail "za") (by fail "za") ?_)
  | ((with_reducible show CallD _ _ _ _ _ _ _); first | fail "zcd" | fail "zcd2")
  | ((with_reducible show ∃ res d1, OwnR _ rAppend _ _ res d1 ∧ _); with_reducible refine ⟨_, _, own_append (by fail "zsz"), ?_⟩)
  | (with_reducible refine ⟨_, _, by fail "zs", ?_⟩)
  | (with_reducible refine ⟨_, rfl, rfl, ?_⟩)
  | ((with_reducible show ∃ fs v, Da.exc _ _ _ = _ ∧ _); with_reducible refine ⟨_, _, (by with_unfolding_all rfl), (by with_unfolding_all rfl), ?_⟩)
  | ((with_reducible show ∃ C fs v, _ = Da.obj C fs ∧ _); with_reducible refine ⟨_, _, _, (by with_unfolding_all rfl), by fail "za", by fail "za", (by with_unfolding_all rfl), ?_⟩)
  | fail "zif"
  | with_reducible refine tru_bl ?_
  | with_reducible refine tru_int ?_
  | with_reducible refine tru_non ?_
  | with_reducible refine tru_lst ?_
  | with_reducible refine tru_tup ?_
  | (with_reducible refine ⟨_, rfl, ?_⟩)
  | ((with_reducible show _ ≤ sizeLine ∧ _); with_reducible refine And.intro (Nat.le_of_ble_eq_true (by with_unfolding_all rfl)) ?_)
  | (with_reducible refine And.intro rfl ?_)
  | (with_reducible refine And.intro (by fail "zo") ?_))
local macro_rules | `(tactic| fail "go") => `(tactic| (repeat fail "z1"))
local macro_rules | `(tactic| fail "zj") => `(tactic| first | omega | exact ⟨_, rfl, by omega⟩ | exact ⟨_, _, rfl, by omega⟩ | exact ⟨_, _, _, rfl, by omega⟩ | exact ⟨_, _, _, _, rfl, by omega⟩)
-- END MACROS

namespace OS
open PySem L2 OZ
/-! ### factors of a rule and what they see of a record -/
def lastG (p : Int) : Nat → Int → Int
  | 0, x => x % p
  | k + 1, x => if x % p = 0 then lastG p k (x / p) else x % p
def lastF (p x : Int) : Int := lastG p x.toNat x
abbrev nbits (x : Int) : Int := ((Builtin.Int.intBits x : Nat) : Int)
def leadD (b q x : Int) : Da := if nbits x < b then .non else .tup [.str "leading", .int (x / 2 ^ (nbits x - b).toNat), .int (nbits x % q)]
inductive Fac | rem (q s : Int) | fig (p s : Int) | lead (b q s : Int)
def Fac.d : Fac → Da
  | .rem q s => .tup [.str "remainder", .int q, .int s]
  | .fig p s => .tup [.str "last figure", .int p, .int s]
  | .lead b q s => .tup [.str "leading", .int b, .int q, .int s]
def Fac.sh : Fac → Int
  | .rem _ s => s | .fig _ s => s | .lead _ _ s => s
def Fac.ok : Fac → Prop
  | .rem q _ => 1 ≤ q | .fig p _ => 2 ≤ p ∧ p ≤ 1000000 | .lead b q _ => 1 ≤ b ∧ b ≤ 8 ∧ 1 ≤ q ∧ q ≤ 6
def Fac.see : Fac → Int → Da
  | .rem q _, x => .tup [.str "rest", .int (x % q)]
  | .fig p _, x => .tup [.str "figure", .int (lastF p x)]
  | .lead b q _, x => leadD b q x
abbrev ownD (n : Int) : Da := .tup [.str "own", .int n]
def orOwn (n : Int) : Da → Da
  | .non => ownD n
  | e => e
def Fac.ent (f : Fac) (n : Int) : Da := if n - f.sh < 1 then ownD n else orOwn n (f.see (n - f.sh))
theorem orOwn_lead (n b q x : Int) : orOwn n (leadD b q x) = if nbits x < b then ownD n else .tup [.str "leading", .int (x / 2 ^ (nbits x - b).toNat), .int (nbits x % q)] := by
  unfold leadD
  by_cases h : nbits x < b
  · rw [if_pos h, if_pos h]; rfl
  · rw [if_neg h, if_neg h]; rfl
theorem div_fact {x p : Int} (h0 : 0 < x) (hp : 2 ≤ p) (e : x % p = 0) : 0 < x / p ∧ x / p < x := by
  have h1 : x / p < x := Int.ediv_lt_self_of_pos_of_ne_one h0 (by omega)
  refine ⟨?_, h1⟩
  have := Int.mul_ediv_add_emod x p
  rw [e] at this
  rcases Int.lt_trichotomy (x / p) 0 with h | h | h
  · have := Int.mul_neg_of_pos_of_neg (show 0 < p by omega) h; omega
  · rw [h] at this; simp at this; omega
  · exact h
theorem lastG_step {p : Int} (hp : 2 ≤ p) : ∀ (k : Nat) (x : Int), 0 < x → x.toNat ≤ k → lastG p k x = lastG p (k + 1) x
  | 0, x, h0, hk => by omega
  | k + 1, x, h0, hk => by
    rw [lastG, lastG]
    by_cases e : x % p = 0
    · rw [if_pos e, if_pos e]
      obtain ⟨d1, d2⟩ := div_fact h0 hp e
      exact lastG_step hp k (x / p) d1 (by omega)
    · rw [if_neg e, if_neg e]
theorem lastG_more {p : Int} (hp : 2 ≤ p) (x : Int) (h0 : 0 < x) (k : Nat) (hk : x.toNat ≤ k) : ∀ j, lastG p (k + j) x = lastG p k x
  | 0 => rfl
  | j + 1 => by rw [← Nat.add_assoc, ← lastG_step hp (k + j) x h0 (by omega), lastG_more hp x h0 k hk j]
theorem lastF_go {p x : Int} (hp : 2 ≤ p) (h0 : 0 < x) (e : x % p = 0) : lastF p x = lastF p (x / p) := by
  obtain ⟨d1, d2⟩ := div_fact h0 hp e
  unfold lastF
  obtain ⟨k, hk⟩ : ∃ k, x.toNat = k + 1 := ⟨x.toNat - 1, by omega⟩
  rw [hk, lastG, if_pos e]
  have : k = (x / p).toNat + (k - (x / p).toNat) := by omega
  rw [this, lastG_more hp (x / p) d1 _ (Nat.le_refl _)]
theorem lastF_out {p x : Int} (h0 : 0 < x) (e : x % p ≠ 0) : lastF p x = x % p := by
  unfold lastF
  obtain ⟨k, hk⟩ : ∃ k, x.toNat = k + 1 := ⟨x.toNat - 1, by omega⟩
  rw [hk, lastG, if_neg e]
theorem see_pl (f : Fac) (x : Int) : plD (f.see x) = true ∧ dpt (f.see x) ≤ 64 := by
  cases f with
  | lead b q s =>
    show plD (leadD b q x) = true ∧ dpt (leadD b q x) ≤ 64
    unfold leadD
    by_cases h : nbits x < b
    · rw [if_pos h]; exact ⟨by fail "zpl", Nat.le_of_ble_eq_true rfl⟩
    · rw [if_neg h]; exact ⟨by fail "zpl", Nat.le_of_ble_eq_true rfl⟩
  | _ => exact ⟨by fail "zpl", Nat.le_of_ble_eq_true rfl⟩
theorem ent_pl (f : Fac) (n : Int) : plD (f.ent n) = true ∧ dpt (f.ent n) ≤ 1 := by
  unfold Fac.ent
  split
  · exact ⟨by fail "zpl", Nat.le_of_ble_eq_true rfl⟩
  · cases f with
    | lead b q s =>
      show plD (orOwn n (leadD b q _)) = true ∧ dpt (orOwn n (leadD b q _)) ≤ 1
      rw [orOwn_lead]
      split <;> exact ⟨by fail "zpl", Nat.le_of_ble_eq_true rfl⟩
    | rem q s => exact ⟨by show plD (.tup [.str "rest", .int _]) = true; fail "zpl", Nat.le_of_ble_eq_true rfl⟩
    | fig q s => exact ⟨by show plD (.tup [.str "figure", .int _]) = true; fail "zpl", Nat.le_of_ble_eq_true rfl⟩
theorem facd_pl (f : Fac) : plD f.d = true ∧ dpt f.d ≤ 1 := by
  cases f <;> exact ⟨by fail "zpl", Nat.le_of_ble_eq_true rfl⟩
theorem pls_map {α : Type} {g : α → Da} (h : ∀ a, plD (g a) = true) : ∀ xs : List α, plDs (xs.map g) = true
  | [] => rfl
  | a :: xs => by simp [plDs, h a, pls_map h xs]
theorem dpts_map {α : Type} {g : α → Da} {k : Nat} (h : ∀ a, dpt (g a) ≤ k) : ∀ xs : List α, dpts (xs.map g) ≤ k
  | [] => Nat.zero_le _
  | a :: xs => by
    simp only [List.map_cons, dpts]
    exact Nat.max_le.mpr ⟨h a, dpts_map h xs⟩
theorem nbits_of {x : Int} {t : Nat} (h0 : 0 < x) (h1 : x / 2 ^ t = 0) (h2 : t = 0 ∨ 0 < x / 2 ^ (t - 1)) : nbits x = t := by
  obtain ⟨n, rfl⟩ : ∃ n : Nat, x = n := ⟨x.toNat, by omega⟩
  have hn : n ≠ 0 := by omega
  have e : ∀ t : Nat, ((n : Int) / 2 ^ t) = ((n / 2 ^ t : Nat) : Int) := fun t => by rw [Int.natCast_ediv, Int.natCast_pow]; rfl
  rw [e] at h1
  have a1 : n / 2 ^ t = 0 := by omega
  have a2 : n < 2 ^ t := by
    rcases Nat.div_eq_zero_iff.mp a1 with h | h
    · have := Nat.two_pow_pos t; omega
    · exact h
  have a3 : n.log2 < t := (Nat.log2_lt hn).mpr a2
  have a4 : t ≤ n.log2 + 1 := by
    rcases h2 with h | h
    · omega
    · rw [e] at h
      have : 2 ^ (t - 1) ≤ n := by
        by_cases z : 2 ^ (t - 1) ≤ n
        · exact z
        · rw [Nat.div_eq_of_lt (by omega)] at h; omega
      have := (Nat.le_log2 hn).mpr this
      omega
  unfold nbits Builtin.Int.intBits
  rw [if_neg (by simp; omega)]
  simp
  omega
theorem half_pow (x : Int) (k : Nat) : x / 2 ^ k = x / 2 ^ (k + 1) * 2 + x / 2 ^ k % 2 := by
  have : x / 2 ^ (k + 1) = x / 2 ^ k / 2 := by
    rw [Int.pow_succ, Int.mul_comm, Int.mul_comm, Int.ediv_ediv_of_nonneg (Int.pow_nonneg (by decide))]
  rw [this]
  have := Int.mul_ediv_add_emod (x / 2 ^ k) 2
  omega
end OS

namespace OS
open PySem L2 OZ
/-! ### rules.py -/
def FRinit : FI := fun ds KR _ m => ∃ fs, ds = [.tup fs] ∧ KR [("_factors", .tup fs)] m
abbrev ruleD (C : Addr) (fs : List Fac) : Da := .obj C [("_factors", .tup (fs.map Fac.d))]
def FLast : FD := fun ds KR _ m => ∃ x p, ds = [.int x, .int p] ∧ 0 < x ∧ 2 ≤ p ∧ p ≤ 1000000 ∧ KR (.int (lastF p x)) m
def FLeadF : FD := fun ds KR _ m => ∃ x b q, ds = [.int x, .int b, .int q] ∧ 1 ≤ q ∧ KR (leadD b q x) m
def FEnt : FD := fun ds KR _ m => ∃ (f : Fac) (n : Int), ds = [f.d, .int n] ∧ f.ok ∧ KR (f.ent n) m
def FLab (CE : Addr) : FD := fun ds KR KE m => ∃ (fs : List Fac) (n : Int), ds = [.tup (fs.map Fac.d), .int n] ∧ fs.length ≤ 100 ∧ (∀ f ∈ fs, f.ok) ∧ (1 ≤ n → KR (.tup (fs.map fun f => f.ent n)) m) ∧ (n < 1 → KE CE [("value", .int n)] m)
def FCall (C CE : Addr) : FD := fun ds KR KE m => ∃ (fs : List Fac) (n : Int), ds = [ruleD C fs, .int n] ∧ fs.length ≤ 100 ∧ (∀ f ∈ fs, f.ok) ∧ (1 ≤ n → KR (.tup (fs.map fun f => f.ent n)) m) ∧ (n < 1 → KE CE [("value", .int n)] m)
def FRLen (C : Addr) : FD := fun ds KR _ m => ∃ (fs : List Fac) (n : Int), ds = [ruleD C fs] ∧ n = fs.length ∧ KR (.int n) m
def FFac (C : Addr) : FD := fun ds KR _ m => ∃ fs : List Fac, ds = [ruleD C fs] ∧ KR (.tup (fs.map Fac.d)) m
def FLead (C CE : Addr) : FD := fun ds KR KE m => ∃ b q s, ds = [.ref C, .int b, .int q, .int s] ∧ (1 ≤ b → b ≤ 8 → 1 ≤ q → q ≤ 6 → KR (ruleD C [.lead b q s]) m) ∧ ((b < 1 ∨ 8 < b) → KE CE [("value", .int b)] m) ∧ (1 ≤ b → b ≤ 8 → (q < 1 ∨ 6 < q) → KE CE [("value", .int q)] m)
section
variable {B : Bd} {C CE f : Addr} {fd : FuncData}
theorem rinit_ok (Fn : Fun B.K "__init__" "Rule.__init__" sRule_init f fd) (T : Bn B) (cl : Cls B.K C) (nF : NoAttr B.K C "_factors") : FnOk B.P B.w B.K B.mg B.base (L2.CX B.P B.w) 1 f fd ["self", "factors"] (spI pureM B.K C 1 FRinit) := by
  refine fnI_ok Fn c_sRule_init rfl ?_
  rintro X ds KR KE m a ⟨cdv, A, outer, s, H, E, rfl⟩ cx hr hl ⟨fs, rfl, k⟩
  show StD _ _ _ _ [.mm (some a) (.obj C []), .v (.tup fs)] _ _
  fail "go"
  refine st1_setF cx (by fail "zn") cl nF ?_
  fail "go"
  exact k
theorem last_ok (Fn : Fun B.K "_last_figure" "_last_figure" s_last_figure f fd) (hb : Binds B.K fd ["number", "prime"] []) (T : Bn B) : FnG pureM B 1 f 2 FLast := by
  refine fnG_ok Fn c_s_last_figure rfl hb ?_
  rintro X ds KR KE m ⟨cdv, A, outer, s, H, E, rfl⟩ cx hr hl ⟨x, p, rfl, h0, hp, hp2, k⟩
  show StD _ _ _ _ [.v (.int x), .v (.int p)] _ _
  fail "go"
  refine st1_while (fun k sl m' => m' = m ∧ ∃ y, 0 < y ∧ lastF p y = lastF p x ∧ k = y.toNat ∧ sl = [.v (.int y), .v (.int p)]) ⟨_, rfl, x, h0, rfl, rfl, rfl⟩ ?_
  rintro k1 sl m' ⟨rfl, y, y0, hy, rfl, rfl⟩
  fail "go"
  refine zif (fun e => ?_) fun e => ?_
  · fail "go"
    obtain ⟨d1, d2⟩ := div_fact y0 hp e
    exact ⟨_, by omega, rfl, y / p, d1, by rw [← lastF_go hp y0 e]; exact hy, rfl, rfl⟩
  · fail "go"
    rw [← hy, lastF_out y0 e] at k
    exact k
theorem leadf_ok (Fn : Fun B.K "_leading_figures" "_leading_figures" s_leading_figures f fd) (hb : Binds B.K fd ["number", "bits", "modulus"] []) (T : Bn B) : FnG pureM B 1 f 3 FLeadF := by
  refine fnG_ok Fn c_s_leading_figures rfl hb ?_
  rintro X ds KR KE m ⟨cdv, A, outer, s, H, E, rfl⟩ cx hr hl ⟨x, b, q, rfl, hq, k⟩
  show StD _ _ _ _ [.v (.int x), .v (.int b), .v (.int q), .un] _ _
  fail "go"
  unfold leadD at k
  refine zif (fun e => ?_) fun e => ?_
  · fail "go"
    rwa [if_pos e] at k
  fail "go"
  rwa [if_neg e] at k
theorem ent_ok {t t2 : Tok} (Fn : Fun B.K "_entry" "_entry" s_entry f fd) (hb : Binds B.K fd ["factor", "record"] []) (T : Bn B) (gR : B.mg "REMAINDER" = some (.str "remainder" t)) (gF : B.mg "LAST_FIGURE" = some (.str "last figure" t2))
    (EL : CallG pureM B 1 "_last_figure" 2 FLast) (ED : CallG pureM B 1 "_leading_figures" 3 FLeadF) : FnG pureM B 2 f 2 FEnt := by
  refine fnG_ok Fn c_s_entry rfl hb ?_
  rintro X ds KR KE m ⟨cdv, A, outer, s', H, E, rfl⟩ cx hr hl ⟨f, n, rfl, hf, k⟩
  cases f with
  | rem q s =>
    show StD _ _ _ _ [.v (.tup [.str "remainder", .int q, .int s]), .v (.int n), .un, .un, .un, .un, .un] _ _
    have hq : 1 ≤ q := hf
    fail "go"
    refine st1_star2 cx (.there (.there .here)) (.there (.there (.there .here))) (.there (.there (.there (.there .here)))) ?_
    fail "go"
    refine ⟨_, _, _, .inl rfl, ?_⟩
    fail "go"
    have k : KR (if n - s < 1 then ownD n else orOwn n (Fac.see (.rem q s) (n - s))) m := k
    refine zif (fun e => ?_) fun e => ?_
    · fail "go"
      rwa [if_pos e] at k
    fail "go"
    rwa [if_neg e] at k
  | fig p s =>
    show StD _ _ _ _ [.v (.tup [.str "last figure", .int p, .int s]), .v (.int n), .un, .un, .un, .un, .un] _ _
    have hq : 2 ≤ p ∧ p ≤ 1000000 := hf
    fail "go"
    refine st1_star2 cx (.there (.there .here)) (.there (.there (.there .here))) (.there (.there (.there (.there .here)))) ?_
    fail "go"
    refine ⟨_, _, _, .inl rfl, ?_⟩
    fail "go"
    have k : KR (if n - s < 1 then ownD n else orOwn n (Fac.see (.fig p s) (n - s))) m := k
    refine zif (fun e => ?_) fun e => ?_
    · fail "go"
      rwa [if_pos e] at k
    fail "go"
    refine ⟨n - s, p, rfl, by omega, hq.1, hq.2, ?_⟩
    fail "go"
    rwa [if_neg e] at k
  | lead b q s =>
    show StD _ _ _ _ [.v (.tup [.str "leading", .int b, .int q, .int s]), .v (.int n), .un, .un, .un, .un, .un] _ _
    have hq : 1 ≤ b ∧ b ≤ 8 ∧ 1 ≤ q ∧ q ≤ 6 := hf
    fail "go"
    refine st1_star2 cx (.there (.there .here)) (.there (.there (.there .here))) (.there (.there (.there (.there .here)))) ?_
    fail "go"
    refine ⟨_, _, _, .inl rfl, ?_⟩
    fail "go"
    have k : KR (if n - s < 1 then ownD n else orOwn n (Fac.see (.lead b q s) (n - s))) m := k
    refine zif (fun e => ?_) fun e => ?_
    · fail "go"
      rwa [if_pos e] at k
    fail "go"
    refine ⟨n - s, b, q, rfl, hq.2.2.1, ?_⟩
    rw [if_neg e] at k
    change KR (orOwn n (leadD b q (n - s))) m at k
    rw [orOwn_lead] at k
    unfold leadD
    by_cases h : nbits (n - s) < b
    · rw [if_pos h] at k ⊢
      fail "go"
      exact k
    · rw [if_neg h] at k ⊢
      fail "go"
      exact k
theorem lab_ok (Fn : Fun B.K "_label" "_label" s_label f fd) (hb : Binds B.K fd ["factors", "record"] []) (T : Bn B) (U : ErrG B 1 "OutOfRange" CE "value") (EE : CallG pureM B 2 "_entry" 2 FEnt) : FnG pureM B 4 f 2 (FLab CE) := by
  refine fnG_okX Fn c_s_label rfl hb ?_
  rintro X ds KR KE m ⟨cdv, A, outer, s', H, E, rfl⟩ cx hr hl ⟨fs, n, rfl, hl2, hf, k1, k2⟩
  show StD _ _ _ _ [.v (.tup (fs.map Fac.d)), .v (.int n), .un] _ _
  fail "go"
  refine zif (fun e => ?_) fun e => ?_
  · fail "go"
    exact k2 e
  fail "go"
  refine evd_lc (own := [("factor", 2)]) cx hr (.name (.there (.there .here))) (.cons .nil (by fail "zs")) ?_
  refine iter_tup ?_
  fail "go"
  refine And.intro (by rw [List.length_map]; exact Nat.lt_of_le_of_lt hl2 (Nat.le_of_ble_eq_true rfl)) ?_
  refine compd_mapL Fac.d (fun f => f.ent n) (.there (.there .here)) rfl (.head _) ?_ ?_
  · rintro f hd P k s0 H0 C0 cl0 fp0 cx' hr'
    show EvD _ _ _ _ [.v (.tup (fs.map Fac.d)), .v (.int n), .v f.d] _ _
    fail "go"
    exact ⟨f, n, rfl, hf f hd, k⟩
  fail "go"
  exact k1 (by omega)
theorem rcall_ok (Fn : Fun B.K "__call__" "Rule.__call__" sRule_call f fd) (hb : Binds B.K fd ["self", "record"] []) (cl : Cls B.K C) (nF : NoAttr B.K C "_factors") (EL : CallG pureM B 4 "_label" 2 (FLab CE)) : FnG pureM B 5 f 2 (FCall C CE) := by
  refine fnG_okX Fn c_sRule_call rfl hb ?_
  rintro X ds KR KE m ⟨cdv, A, outer, s', H, E, rfl⟩ cx hr hl ⟨fs, n, rfl, hl2, hf, k1, k2⟩
  show StD _ _ _ _ [.v (.obj C [("_factors", .tup (fs.map Fac.d))]), .v (.int n)] _ _
  fail "go"
  exact ⟨fs, n, rfl, hl2, hf, k1, k2⟩
theorem rlen_ok (Fn : Fun B.K "__len__" "Rule.__len__" sRule_len f fd) (hb : Binds B.K fd ["self"] []) (T : Bn B) (cl : Cls B.K C) (nF : NoAttr B.K C "_factors") : FnG pureM B 1 f 1 (FRLen C) := by
  refine fnG_ok Fn c_sRule_len rfl hb ?_
  rintro X ds KR KE m ⟨cdv, A, outer, s', H, E, rfl⟩ cx hr hl ⟨fs, n, rfl, rfl, k⟩
  show StD _ _ _ _ [.v (.obj C [("_factors", .tup (fs.map Fac.d))])] _ _
  fail "go"
  rw [List.length_map]
  exact k
theorem rfac_ok (Fn : Fun B.K "factors" "Rule.factors" sRule_factors f fd) (cl : Cls B.K C) (nF : NoAttr B.K C "_factors") : FnOk B.P B.w B.K B.mg B.base CX0 1 f fd ["self"] (spD pureM B.K 1 (FFac C)) := by
  refine fn0_ok Fn c_sRule_factors rfl ?_
  rintro X ds KR KE m ⟨cdv, A, outer, s', H, E, rfl⟩ cx hr hl ⟨fs, rfl, k⟩
  show StD _ _ _ _ [.v (.obj C [("_factors", .tup (fs.map Fac.d))])] _ _
  fail "go"
  exact k
theorem lead_ok {t t1 t2 : Tok} (Fn : FunD B.K "leading" "Rule.leading" (defArgs sRule_leading) (defBody sRule_leading) (defScope sRule_leading) [.int 1] [("shift", .int 0)] f fd) (T : Bn B) (kC : PySem.W.keepIn B.K (.ref C) = true) (gL : B.mg "LEADING" = some (.str "leading" t)) (gB : B.mg "MOST_BITS" = some (.int 8 t1)) (gM : B.mg "MOST_LENGTHS" = some (.int 6 t2))
    (U : ErrG B 1 "OutOfRange" CE "value") (mk : MakeG pureM B 1 C 1 [] (fun ds _ => ds) FRinit) : FnOk B.P B.w B.K B.mg B.base (L2.CX B.P B.w) 3 f fd ["cls", "bits", "modulus", "shift"] (spD pureM B.K 4 (FLead C CE)) := by
  refine fnD_ok Fn c_sRule_leading rfl ?_
  rintro X ds KR KE m ⟨cdv, A, outer, s, H, E, rfl⟩ cx hr hl ⟨b, q, s, rfl, k1, k2, k3⟩
  show StD _ _ _ _ [.v (.ref C), .v (.int b), .v (.int q), .v (.int s)] _ _
  fail "go"
  refine zif (fun e1 => ?_) fun e1 => ?_
  · fail "go"
    refine zifn (fun e2 => ?_) fun e2 => ?_
    · fail "go"
      exact k2 (by omega)
    · fail "go"
      refine zif (fun e3 => ?_) fun e3 => ?_
      · fail "go"
        refine zifn (fun e4 => ?_) fun e4 => ?_
        · fail "go"
          exact k3 e1 e2 (by omega)
        · fail "go"
          refine evd_callL cx (by fail "zn") kC ?_
          fail "go"
          exact ⟨_, rfl, k1 e1 e2 e3 e4⟩
      · fail "go"
        exact k3 e1 e2 (by omega)
  · fail "go"
    exact k2 (by omega)
end
end OS

namespace OS
open PySem L2 OZ
/-! ### primes -/
def Pr (n : Int) : Prop := 2 ≤ n ∧ ∀ k, 2 ≤ k → k < n → n % k ≠ 0
theorem div_facts {x p : Int} (h0 : 0 < x) (hp : 2 ≤ p) (e : x % p = 0) : 0 < x / p ∧ x / p < x := div_fact h0 hp e
end OS
namespace OS
open PySem L2 OZ
def FIsP : FD := fun ds KR _ m => ∃ n : Int, ds = [.int n] ∧ n ≤ 1000000 ∧ ∀ b : Bool, (b = true ↔ Pr n) → KR (.bl b) m
theorem pr_end {n f : Int} (h5 : 4 ≤ n) (h3 : 3 ≤ f) (hn : n < f * f) (h : ∀ k, 2 ≤ k → k < f → n % k ≠ 0) : Pr n := by
  refine ⟨by omega, fun k k2 kn e => ?_⟩
  by_cases kf : k < f
  · exact h k k2 kf e
  have hj : k * (n / k) = n := by have := Int.mul_ediv_add_emod n k; omega
  have j0 : 0 < n / k := (div_facts (by omega) k2 e).1
  have j1 : n / k ≠ 1 := fun z => by rw [z] at hj; omega
  have jf : n / k < f := by
    by_cases z : n / k < f
    · exact z
    · have : f * f ≤ k * (n / k) := Int.mul_le_mul (by omega) (by omega) (by omega) (by omega)
      omega
  refine h (n / k) (by omega) jf ?_
  rw [← hj, show k * (n / k) / k = n / k by rw [hj]]
  exact Int.mul_emod_left k (n / k)
section
variable {B : Bd} {C CE f : Addr} {fd : FuncData}
theorem isp_ok (Fn : Fun B.K "is_prime" "is_prime" s_is_prime f fd) (hb : Binds B.K fd ["number"] []) (T : Bn B) : FnG pureM B 1 f 1 FIsP := by
  refine fnG_ok Fn c_s_is_prime rfl hb ?_
  rintro X ds KR KE m ⟨cdv, A, outer, s, H, E, rfl⟩ cx hr hl ⟨n, rfl, hn, k⟩
  show StD _ _ _ _ [.v (.int n), .un] _ _
  fail "go"
  refine zif (fun e => ?_) fun e => ?_
  · fail "go"
    refine k _ ⟨fun h => ⟨by have := of_decide_eq_true h; omega, fun j j2 jn z => ?_⟩, fun h => decide_eq_true (by have := h.1; omega)⟩
    obtain rfl : j = 2 := by omega
    omega
  fail "go"
  refine zif (fun e2 => ?_) fun e2 => ?_
  · fail "go"
    exact k _ ⟨(fun h => nomatch h), fun h => absurd e2 (h.2 2 (by omega) (by omega))⟩
  fail "go"
  refine st1_while (fun k sl m' => m' = m ∧ ∃ g, 3 ≤ g ∧ g ≤ n + 2 ∧ g % 2 = 1 ∧ (∀ j, 2 ≤ j → j < g → n % j ≠ 0) ∧ k = (n + 3 - g).toNat ∧ sl = [.v (.int n), .v (.int g)])
    ⟨_, rfl, 3, by omega, by omega, by omega, (fun j a b => by obtain rfl : j = 2 := by omega
                                                               exact e2), rfl, rfl⟩ ?_
  rintro k1 sl m' ⟨rfl, g, g3, gn, g2, hg, rfl, rfl⟩
  fail "go"
  refine zif (fun e3 => ?_) fun e3 => ?_
  · have gg : g ≤ n := by
      have : g * 1 ≤ g * g := Int.mul_le_mul_of_nonneg_left (by omega) (by omega)
      omega
    fail "go"
    refine zif (fun e4 => ?_) fun e4 => ?_
    · fail "go"
      refine k _ ⟨(fun h => nomatch h), fun h => absurd e4 (h.2 g (by omega) ?_)⟩
      by_cases z : g < n
      · exact z
      · have : g * 2 ≤ g * g := Int.mul_le_mul_of_nonneg_left (by omega) (by omega)
        omega
    · fail "go"
      refine ⟨_, ?_, rfl, g + 2, by omega, by omega, by omega, fun j a b => ?_, rfl, rfl⟩
      · omega
      · by_cases z : j < g
        · exact hg j a z
        · by_cases y : g < j
          · obtain rfl : j = g + 1 := by omega
            intro q
            have : n % 2 = 0 := Int.emod_eq_zero_of_dvd (Int.dvd_trans (by omega) (Int.dvd_of_emod_eq_zero q))
            exact e2 this
          · obtain rfl : j = g := by omega
            exact e4
  · fail "go"
    exact k _ ⟨fun _ => pr_end (by omega) g3 (by omega) hg, fun _ => rfl⟩
end
end OS

namespace OS
open PySem L2 OZ Classical
/-! ### rules.py: making, multiplying and comparing rules -/
/-- a factor that a rule may have -/
def Fac.mk? : Fac → Prop
  | .rem q _ => 1 ≤ q | .fig p _ => Pr p ∧ p ≤ 1000000 | .lead b q _ => 1 ≤ b ∧ b ≤ 8 ∧ 1 ≤ q ∧ q ≤ 6
theorem Fac.mk_ok {f : Fac} (h : f.mk?) : f.ok := by
  cases f with
  | rem q s => exact h
  | fig p s => exact ⟨h.1.1, h.2⟩
  | lead b q s => exact h
theorem deqs_facs : ∀ fs gs : List Fac, deqs (fs.map Fac.d) (gs.map Fac.d) = decide (fs = gs)
  | [], [] => by simp [deqs]
  | [], g :: gs => by simp [deqs]
  | f :: fs, [] => by simp [deqs]
  | f :: fs, g :: gs => by
    have h1 : deq f.d g.d = decide (f = g) := by
      have a1 : decide (("remainder" : Str) = "last figure") = false := by decide +kernel
      have a2 : decide (("remainder" : Str) = "leading") = false := by decide +kernel
      have a3 : decide (("last figure" : Str) = "remainder") = false := by decide +kernel
      have a4 : decide (("last figure" : Str) = "leading") = false := by decide +kernel
      have a5 : decide (("leading" : Str) = "remainder") = false := by decide +kernel
      have a6 : decide (("leading" : Str) = "last figure") = false := by decide +kernel
      cases f <;> cases g <;> simp only [Fac.d, deq, deqs, a1, a2, a3, a4, a5, a6, Bool.false_and, decide_true, Bool.true_and, Bool.and_true] <;>
        first | (symm; apply decide_eq_false; intro h; cases h; done) | (rw [Bool.eq_iff_iff]; simp)
    simp only [List.map_cons, deqs, h1, deqs_facs fs gs]
    rw [Bool.eq_iff_iff]
    simp
theorem facs_pl (fs : List Fac) : plD (.tup (fs.map Fac.d)) = true ∧ dpt (.tup (fs.map Fac.d)) ≤ 64 := by
  refine ⟨pls_map (fun f => (facd_pl f).1) fs, ?_⟩
  have := dpts_map (fun f => (facd_pl f).2) fs
  show dpts (fs.map Fac.d) + 1 ≤ 64
  omega
theorem facs_plL (fs : List Fac) : plD (.lst (fs.map Fac.d)) = true ∧ dpt (.lst (fs.map Fac.d)) ≤ 64 := facs_pl fs
def FRem (C CE : Addr) : FD := fun ds KR KE m => ∃ q s, ds = [.ref C, .int q, .int s] ∧ (1 ≤ q → KR (ruleD C [.rem q s]) m) ∧ (q < 1 → KE CE [("value", .int q)] m)
def FLFig (C CN : Addr) : FD := fun ds KR KE m => ∃ p s, ds = [.ref C, .int p, .int s] ∧ p ≤ 1000000 ∧ (Pr p → KR (ruleD C [.fig p s]) m) ∧ (¬ Pr p → KE CN [("value", .int p)] m)
def FOne (C : Addr) : FD := fun ds KR _ m => ds = [.ref C] ∧ KR (ruleD C []) m
def FMul (C CB : Addr) : FD := fun ds KR KE m => ∃ fs gs : List Fac, ds = [ruleD C fs, ruleD C gs] ∧ fs.length + gs.length ≤ 100 ∧ (fs.length + gs.length ≤ 12 → KR (ruleD C (fs ++ gs)) m) ∧ (12 < fs.length + gs.length → KE CB [("count", .int ((fs.length + gs.length : Nat) : Int))] m)
def FREq (C : Addr) : FD := fun ds KR _ m => ∃ fs gs : List Fac, ds = [ruleD C fs, ruleD C gs] ∧ KR (.bl (decide (fs = gs))) m
section
variable {B : Bd} {C CE CN CB f : Addr} {fd : FuncData}
theorem rem_ok {t : Tok} (Fn : FunD B.K "remainder" "Rule.remainder" (defArgs sRule_remainder) (defBody sRule_remainder) (defScope sRule_remainder) [] [("shift", .int 0)] f fd) (T : Bn B) (kC : PySem.W.keepIn B.K (.ref C) = true) (gR : B.mg "REMAINDER" = some (.str "remainder" t))
    (U : ErrG B 1 "OutOfRange" CE "value") (mk : MakeG pureM B 1 C 1 [] (fun ds _ => ds) FRinit) : FnOk B.P B.w B.K B.mg B.base (L2.CX B.P B.w) 3 f fd ["cls", "modulus", "shift"] (spD pureM B.K 3 (FRem C CE)) := by
  refine fnD_ok Fn c_sRule_remainder rfl ?_
  rintro X ds KR KE m ⟨cdv, A, outer, s, H, E, rfl⟩ cx hr hl ⟨q, s, rfl, k1, k2⟩
  show StD _ _ _ _ [.v (.ref C), .v (.int q), .v (.int s)] _ _
  fail "go"
  refine zif (fun e => ?_) fun e => ?_
  · fail "go"
    exact k2 e
  · fail "go"
    refine evd_callL cx (by fail "zn") kC ?_
    fail "go"
    exact ⟨_, rfl, k1 (by omega)⟩
theorem lfm_ok {t : Tok} (Fn : FunD B.K "last_figure" "Rule.last_figure" (defArgs sRule_last_figure) (defBody sRule_last_figure) (defScope sRule_last_figure) [] [("shift", .int 0)] f fd) (T : Bn B) (kC : PySem.W.keepIn B.K (.ref C) = true) (gF : B.mg "LAST_FIGURE" = some (.str "last figure" t))
    (U : ErrG B 1 "NotPrime" CN "value") (EP : CallG pureM B 1 "is_prime" 1 FIsP) (mk : MakeG pureM B 1 C 1 [] (fun ds _ => ds) FRinit) : FnOk B.P B.w B.K B.mg B.base (L2.CX B.P B.w) 3 f fd ["cls", "prime", "shift"] (spD pureM B.K 3 (FLFig C CN)) := by
  refine fnD_ok Fn c_sRule_last_figure rfl ?_
  rintro X ds KR KE m ⟨cdv, A, outer, s, H, E, rfl⟩ cx hr hl ⟨p, s, rfl, hp, k1, k2⟩
  show StD _ _ _ _ [.v (.ref C), .v (.int p), .v (.int s)] _ _
  fail "go"
  refine ⟨p, rfl, hp, fun b hb => ?_⟩
  fail "go"
  cases b with
  | true =>
    fail "go"
    refine evd_callL cx (by fail "zn") kC ?_
    fail "go"
    exact ⟨_, rfl, k1 (hb.mp rfl)⟩
  | false =>
    fail "go"
    exact k2 fun z => nomatch hb.mpr z
theorem one_ok (Fn : Fun B.K "one_shard" "Rule.one_shard" sRule_one_shard f fd) (hb : Binds B.K fd ["cls"] []) (T : Bn B) (kC : PySem.W.keepIn B.K (.ref C) = true) (mk : MakeG pureM B 1 C 1 [] (fun ds _ => ds) FRinit) : FnG pureM B 3 f 1 (FOne C) := by
  refine fnG_okX Fn c_sRule_one_shard rfl hb ?_
  rintro X ds KR KE m ⟨cdv, A, outer, s, H, E, rfl⟩ cx hr hl ⟨rfl, k1⟩
  show StD _ _ _ _ [.v (.ref C)] _ _
  fail "go"
  refine evd_callL cx (by fail "zn") kC ?_
  fail "go"
  exact ⟨_, rfl, k1⟩
theorem mul_ok {t : Tok} (Fn : Fun B.K "__mul__" "Rule.__mul__" sRule_mul f fd) (hb : Binds B.K fd ["self", "other"] []) (T : Bn B) (mC : B.mg "Rule" = some (.ref C)) (kC : PySem.W.keepIn B.K (.ref C) = true) (cl : Cls B.K C) (nF : NoAttr B.K C "_factors") (ty : TyC B.K C) (kt : KitG B.K (.ref C) (.ref C) true) (gM : B.mg "MOST_FACTORS" = some (.int 12 t))
    (U : ErrG B 1 "BadCount" CB "count") (mk : MakeG pureM B 1 C 1 [] (fun ds _ => ds) FRinit) : FnG pureM B 3 f 2 (FMul C CB) := by
  refine fnG_okX Fn c_sRule_mul rfl hb ?_
  rintro X ds KR KE m ⟨cdv, A, outer, s, H, E, rfl⟩ cx hr hl ⟨fs, gs, rfl, hl2, k1, k2⟩
  show StD _ _ _ _ [.v (.obj C [("_factors", .tup (fs.map Fac.d))]), .v (.obj C [("_factors", .tup (gs.map Fac.d))]), .un] _ _
  fail "go"
  rw [← List.map_append, List.length_map, List.length_append]
  refine zif (fun e => ?_) fun e => ?_
  · fail "go"
    rw [List.length_map, List.length_append]
    exact k2 (by omega)
  · fail "go"
    exact ⟨_, rfl, k1 (by omega)⟩
theorem req_ok (Fn : Fun B.K "__eq__" "Rule.__eq__" sRule_eq f fd) (hb : Binds B.K fd ["self", "other"] []) (T : Bn B) (mC : B.mg "Rule" = some (.ref C)) (cl : Cls B.K C) (nF : NoAttr B.K C "_factors") (ty : TyC B.K C) (kt : KitG B.K (.ref C) (.ref C) true) : FnG pureM B 2 f 2 (FREq C) := by
  refine fnG_ok Fn c_sRule_eq rfl hb ?_
  rintro X ds KR KE m ⟨cdv, A, outer, s, H, E, rfl⟩ cx hr hl ⟨fs, gs, rfl, k⟩
  show StD _ _ _ _ [.v (.obj C [("_factors", .tup (fs.map Fac.d))]), .v (.obj C [("_factors", .tup (gs.map Fac.d))])] _ _
  fail "go"
  refine opd_eq (L2.Room.units hr) (facs_pl _).1 (facs_pl _).1 (facs_pl _).2 (facs_pl _).2 ?_
  rw [show deq (.tup (fs.map Fac.d)) (.tup (gs.map Fac.d)) = decide (fs = gs) from deqs_facs fs gs]
  exact k
end
end OS

namespace OS
open PySem L2 OZ
/-! ### the law's own reading of a label's entry -/
def bigB : Nat := 10000
def FLEnt : FD := fun ds KR _ m => ∃ (f : Fac) (n : Int), ds = [f.d, .int n] ∧ f.ok ∧ n - f.sh < 2 ^ bigB ∧ KR (f.ent n) m
def figs (x : Int) (t : Nat) : List Da := (List.range t).map fun k => Da.int (x / 2 ^ k % 2)
theorem figs_len (x : Int) (t : Nat) : (figs x t).length = t := by simp [figs]
theorem figs_succ (x : Int) (t : Nat) : figs x t ++ [.int (x / 2 ^ t % 2)] = figs x (t + 1) := by
  unfold figs
  rw [List.range_succ, List.map_append]
  rfl
theorem figs_at (x : Int) {t k : Nat} (h : k < t) : (figs x t)[k]? = some (.int (x / 2 ^ k % 2)) := by
  unfold figs
  rw [List.getElem?_map, List.getElem?_range h]
  rfl
theorem pow_mono {a b : Nat} (h : a ≤ b) : (2 : Int) ^ a ≤ 2 ^ b := by
  have := Nat.pow_le_pow_right (n := 2) (by decide) h
  have e : ∀ k : Nat, (2 : Int) ^ k = ((2 ^ k : Nat) : Int) := fun k => by rw [Int.natCast_pow]; rfl
  rw [e, e]
  omega
theorem t_small {x : Int} {t : Nat} (h0 : 0 < x) (hx : x < 2 ^ bigB) (h : t = 0 ∨ 0 < x / 2 ^ (t - 1)) : t ≤ bigB := by
  rcases h with h | h
  · omega
  · by_cases z : t ≤ bigB
    · exact z
    · have := pow_mono (show bigB ≤ t - 1 by omega)
      rw [Int.ediv_eq_zero_of_lt (by omega) (by omega)] at h
      omega
section
variable {B : Bd} {C CE f : Addr} {fd : FuncData}
theorem lent_ok (Fn : Fun B.K "_law_entry" "_law_entry" l_entry f fd) (hb : Binds B.K fd ["_law_factor_here", "_law_record_here"] []) (T : Bn B) : FnG pureM B 1 f 2 FLEnt := by
  refine fnG_ok Fn c_l_entry rfl hb ?_
  rintro X ds KR KE m ⟨cdv, A, outer, s', H, E, rfl⟩ cx hr hl ⟨f, n, rfl, hf, hn, k⟩
  have hint : OwnHint "_law_figures" := trivial
  cases f with
  | rem q s =>
    show StD _ _ _ _ [.v (.tup [.str "remainder", .int q, .int s]), .v (.int n), .un, .un, .un, .un] _ _
    have hq : 1 ≤ q := hf
    fail "go"
    have k : KR (if n - s < 1 then ownD n else orOwn n (Fac.see (.rem q s) (n - s))) m := k
    refine zif (fun e => ?_) fun e => ?_
    · fail "go"
      rwa [if_pos e] at k
    fail "go"
    rwa [if_neg e] at k
  | fig p s =>
    show StD _ _ _ _ [.v (.tup [.str "last figure", .int p, .int s]), .v (.int n), .un, .un, .un, .un] _ _
    have hq : 2 ≤ p ∧ p ≤ 1000000 := hf
    fail "go"
    have k : KR (if n - s < 1 then ownD n else orOwn n (Fac.see (.fig p s) (n - s))) m := k
    refine zif (fun e => ?_) fun e => ?_
    · fail "go"
      rwa [if_pos e] at k
    fail "go"
    rw [if_neg e] at k
    refine st1_while (fun k sl m' => m' = m ∧ ∃ y, 0 < y ∧ lastF p y = lastF p (n - s) ∧ k = y.toNat ∧ sl = [.v (.tup [.str "last figure", .int p, .int s]), .v (.int n), .v (.int y), .un, .un, .un]) ⟨_, rfl, n - s, by omega, rfl, rfl, rfl⟩ ?_
    rintro k1 sl m' ⟨rfl, y, y0, hy, rfl, rfl⟩
    fail "go"
    refine zif (fun e => ?_) fun e => ?_
    · fail "go"
      obtain ⟨d1, d2⟩ := div_fact y0 hq.1 e
      exact ⟨_, by omega, rfl, y / p, d1, by rw [← lastF_go hq.1 y0 e]; exact hy, rfl, rfl⟩
    · fail "go"
      have k : KR (.tup [.str "figure", .int (lastF p (n - s))]) m' := k
      rw [← hy, lastF_out y0 e] at k
      exact k
  | lead b q s =>
    show StD _ _ _ _ [.v (.tup [.str "leading", .int b, .int q, .int s]), .v (.int n), .un, .un, .un, .un] _ _
    have hq : 1 ≤ b ∧ b ≤ 8 ∧ 1 ≤ q ∧ q ≤ 6 := hf
    fail "go"
    have k : KR (if n - s < 1 then ownD n else orOwn n (leadD b q (n - s))) m := k
    refine zif (fun e => ?_) fun e => ?_
    · fail "go"
      rwa [if_pos e] at k
    fail "go"
    rw [if_neg e, orOwn_lead] at k
    have hn : n - s < 2 ^ bigB := hn
    generalize hx : n - s = x at k hn e
    have x0 : 0 < x := by omega
    refine st1_while (fun k sl m' => m' = m ∧ ∃ t : Nat, (t = 0 ∨ 0 < x / 2 ^ (t - 1)) ∧ k = (x / 2 ^ t).toNat ∧ sl = [.v (.tup [.str "leading", .int b, .int q, .int s]), .v (.int n), .v (.int (x / 2 ^ t)), .m (.lst (figs x t)), .un, .un]) ⟨_, rfl, 0, .inl rfl, rfl, by simp [hx, figs]⟩ ?_
    rintro k1 sl m' ⟨rfl, t, ht, rfl, rfl⟩
    have tb := t_small x0 hn ht
    have fl := figs_len x t
    unfold bigB at tb
    have hd : (figs x t).length < sizeLine := by rw [fl]; exact Nat.lt_of_le_of_lt tb (Nat.le_of_ble_eq_true rfl)
    fail "go"
    refine zif (fun e1 => ?_) fun e1 => ?_
    · fail "go"
      refine ⟨_, _, own_append hd, ?_⟩
      fail "go"
      have e2 := half_pow x t
      have e3 : x / 2 ^ t / 2 = x / 2 ^ (t + 1) := by rw [Int.pow_succ, Int.ediv_ediv_of_nonneg (Int.pow_nonneg (by decide))]
      rw [figs_succ, e3]
      exact ⟨_, by omega, rfl, t + 1, .inr e1, rfl, rfl⟩
    have z0 : x / 2 ^ t = 0 := by
      have : 0 ≤ x / 2 ^ t := Int.ediv_nonneg (by omega) (Int.pow_nonneg (by decide))
      omega
    have nb := nbits_of x0 z0 ht
    rw [nb] at k
    show StD _ _ _ _ _ _ _
    refine std_pub (i := 3) rfl ?_
    show StD _ _ _ _ [.v (.tup [.str "leading", .int b, .int q, .int s]), .v (.int n), .v (.int (x / 2 ^ t)), .v (.lst (figs x t)), .un, .un] _ _
    fail "go"
    rw [fl]
    refine zif (fun e4 => ?_) fun e4 => ?_
    · fail "go"
      rwa [if_pos e4] at k
    fail "go"
    rw [if_neg e4] at k
    refine for_inv cx (i := 5) (fun i sl' m2 => ∃ s5 : Sl, m2 = m' ∧ (i : Int) ≤ b ∧ sl' = [.v (.tup [.str "leading", .int b, .int q, .int s]), .v (.int n), .v (.int (x / 2 ^ t)), .v (.lst (figs x t)), .v (.int (x / 2 ^ (t - i))), s5]) (by fail "zi") ⟨.un, rfl, by omega, by simp [z0]⟩ (by rintro i sl m ⟨s5, _, _, rfl⟩; rfl) ?_ ?_
    · rintro i d sl m2 hd2 ⟨s5, rfl, hi, rfl⟩
      have hil : i < b.toNat := by
        have := (List.getElem?_eq_some_iff.mp hd2).1
        rwa [intsD_len] at this
      rw [intsD_at hil] at hd2
      cases hd2
      show StD _ _ _ _ [_, _, _, _, _, .v (.int (0 + (i : Int)))] _ _
      fail "go"
      rw [fl]
      refine ixd_lst (d := .int (x / 2 ^ (t - 1 - i) % 2)) (atI_pos (by omega) (by rw [show ((t : Int) - 1 - (0 + (i : Int))).toNat = t - 1 - i by omega]; exact figs_at x (by omega))) ?_
      fail "go"
      have := half_pow x (t - 1 - i)
      rw [show t - 1 - i + 1 = t - i by omega] at this
      exact ⟨.v (.int (0 + (i : Int))), rfl, by omega, by rw [show t - (i + 1) = t - 1 - i by omega, ← this]⟩
    · rintro sl m2 ⟨s5, rfl, hi, rfl⟩
      rw [intsD_len] at hi
      fail "go"
      rw [fl, intsD_len]
      rw [show ((t : Int) - b).toNat = t - b.toNat by omega] at k
      exact k
end
end OS

namespace OS
open PySem L2 OZ
def FLift (st : Addr) : FD := fun ds KR _ m => ds = [.ref st] ∧ m ≤ 900000000 ∧ ∀ n m', -10000 ≤ n → n ≤ 10000 → m' ≤ m + 2 → KR (.int n) m'
section
variable {B : Bd} {st cl f : Addr} {fd : FuncData}
theorem lift_ok (Fn : Fun B.K "_law_lift" "_law_lift" l_lift f fd) (hb : Binds B.K fd ["_law_state"] []) (T : Bn B) (ET : CallG (takeM st cl) B 1 "_law_take" 2 (FTake st)) : FnG (takeM st cl) B 2 f 1 (FLift st) := by
  refine fnG_ok Fn c_l_lift rfl hb ?_
  rintro X ds KR KE m ⟨cdv, A, outer, s, H, E, rfl⟩ cx hr hl ⟨rfl, hm, k⟩
  show StD _ _ _ _ [.v (.ref st), .un] _ _
  fail "go"
  refine FTake.use (by omega) (by decide) (by decide) fun n h0 h1 => ?_
  fail "go"
  refine zif (fun e => ?_) fun e => ?_
  · fail "go"
    exact k 0 _ (by decide) (by decide) (by omega)
  fail "go"
  refine zif (fun e => ?_) fun e => ?_
  · fail "go"
    refine FTake.use (by omega) (by decide) (by decide) fun j j0 j1 => ?_
    fail "go"
    refine ixd_lstM (Pr := fun d => ∃ i : Int, d = .int i ∧ -10000 ≤ i ∧ i ≤ 10000) j0 j1 (by simp) ?_
    rintro d ⟨i, rfl, i0, i1⟩
    exact k i _ i0 i1 (by omega)
  fail "go"
  refine FTake.use (by omega) (by decide) (by decide) fun j j0 j1 => ?_
  fail "go"
  exact k _ _ (by omega) (by omega) (by omega)
end
end OS

namespace OS
open PySem L2 OZ
def FRec (st : Addr) : FD := fun ds KR _ m => ∃ l : Int, ds = [.ref st, .int l] ∧ m ≤ 900000000 ∧ -10000 ≤ l ∧ l ≤ 10000 ∧ ∀ n m', 1 ≤ n → n < 2 ^ 62 → m' ≤ m + 10 → KR (.int n) m'
section
variable {B : Bd} {st cl f : Addr} {fd : FuncData}
theorem rec_ok (Fn : Fun B.K "_law_record" "_law_record" l_record f fd) (hb : Binds B.K fd ["_law_state", "_law_lift_here"] []) (T : Bn B) (ET : CallG (takeM st cl) B 1 "_law_take" 2 (FTake st)) : FnG (takeM st cl) B 2 f 2 (FRec st) := by
  refine fnG_ok Fn c_l_record rfl hb ?_
  rintro X ds KR KE m ⟨cdv, A, outer, s, H, E, rfl⟩ cx hr hl ⟨l, rfl, hm, hl0, hl1, k⟩
  show StD _ _ _ _ [.v (.ref st), .v (.int l), .un, .un, .un] _ _
  fail "go"
  refine FTake.use (by omega) (by decide) (by decide) fun p p0 p1 => ?_
  fail "go"
  refine FTake.use (by omega) (by decide) (by decide) fun a a0 a1 => ?_
  fail "go"
  refine FTake.use (by omega) (by decide) (by decide) fun b b0 b1 => ?_
  fail "go"
  refine ixd_lstM (Pr := fun d => ∃ i : Int, d = .int i ∧ 0 ≤ i ∧ i ≤ 1099511627776) b0 b1 ?_ ?_
  · intro d hd
    simp only [List.mem_cons, List.not_mem_nil, or_false] at hd
    rcases hd with rfl | rfl | rfl | rfl | rfl | rfl | rfl | rfl | rfl <;> exact ⟨_, rfl, by decide, by decide⟩
  rintro d ⟨i, rfl, i0, i1⟩
  have b0 : (1 + a) * i ≤ 100000 * 1099511627776 := Int.mul_le_mul (by omega) (by omega) (by omega) (by omega)
  have b2 : (2 : Int) ^ Int.toNat 20 = 1048576 := by decide
  have b1 : 0 ≤ (1 + a) * i := Int.mul_nonneg (by omega) (by omega)
  fail "go"
  refine zjoin (fun sl' m' => ∃ (z : Int) (L : Da), sl' = [.v (.ref st), .v (.int l), .v L, .v (.int p), .v (.int z)] ∧ m' ≤ m + 4 ∧ -20000 * 1 ≤ z ∧ z < 200000000000000000 + 20000 * 1) ?_ ?_
  · refine zif (fun e => ?_) fun e => ?_
    · fail "go"
      refine FTake.use (by omega) (by decide) (by decide) fun a a0 a1 => ?_
      fail "go"
      exact ⟨_, _, rfl, by omega, by omega, by omega⟩
    · fail "go"
      exact ⟨_, _, rfl, by omega, by omega, by omega⟩
  rintro sl' m1 ⟨z, L, rfl, h1, z0, z1⟩
  fail "go"
  refine zjoin (fun sl' m' => ∃ (z : Int) (L : Da), sl' = [.v (.ref st), .v (.int l), .v L, .v (.int p), .v (.int z)] ∧ m' ≤ m + 5 ∧ -20000 * 2 ≤ z ∧ z < 200000000000000000 + 20000 * 2) ?_ ?_
  · refine zif (fun e => ?_) fun e => ?_
    · fail "go"
      refine FTake.use (by omega) (by decide) (by decide) fun a a0 a1 => ?_
      fail "go"
      exact ⟨_, _, rfl, by omega, by omega, by omega⟩
    · fail "go"
      exact ⟨_, _, rfl, by omega, by omega, by omega⟩
  rintro sl' m2 ⟨z, L, rfl, h2, z0, z1⟩
  fail "go"
  refine zjoin (fun sl' m' => ∃ (z : Int) (L : Da), sl' = [.v (.ref st), .v (.int l), .v L, .v (.int p), .v (.int z)] ∧ m' ≤ m + 5 ∧ -20000 * 3 ≤ z ∧ z < 200000000000000000 + 20000 * 3) ?_ ?_
  · refine zif (fun e => ?_) fun e => ?_
    · fail "go"
      exact ⟨_, _, rfl, by omega, by omega, by omega⟩
    · fail "go"
      exact ⟨_, _, rfl, by omega, by omega, by omega⟩
  rintro sl' m3 ⟨z, L, rfl, h3, z0, z1⟩
  fail "go"
  refine zjoin (fun sl' m' => ∃ (z : Int) (L : Da), sl' = [.v (.ref st), .v (.int l), .v L, .v (.int p), .v (.int z)] ∧ m' ≤ m + 6 ∧ -20000 * 4 ≤ z ∧ z < 200000000000000000 + 20000 * 4) ?_ ?_
  · refine zif (fun e => ?_) fun e => ?_
    · fail "go"
      refine FTake.use (by omega) (by decide) (by decide) fun a a0 a1 => ?_
      fail "go"
      exact ⟨_, _, rfl, by omega, by omega, by omega⟩
    · fail "go"
      exact ⟨_, _, rfl, by omega, by omega, by omega⟩
  rintro sl' m4 ⟨z, L, rfl, h4, z0, z1⟩
  fail "go"
  refine k _ m4 ?_ ?_ (by omega) <;> split <;> omega
end
end OS

namespace OS
open PySem L2 OZ
/-! ### drawn factors and their rules -/
def primes : List Int := [2, 3, 5, 7, 11, 13, 17, 19, 23, 29, 31, 37, 41, 43, 47, 53, 59, 61, 67, 71, 73, 79, 83, 89, 97, 101, 9973]
theorem primes_pr : ∀ p ∈ primes, Pr p ∧ p ≤ 10000 := by
  have key : ∀ p : Int, 4 ≤ p → p < 10000 → (List.range 100).all (fun k => decide (k < 2) || decide ((k : Int) ≥ p) || decide (p % (k : Int) ≠ 0)) = true → Pr p := by
    intro p h4 hp h
    rw [List.all_eq_true] at h
    have hk : ∀ k : Int, 2 ≤ k → k < 100 → k < p → p % k ≠ 0 := fun k h0 h1 h2 => by
      have := h k.toNat (by rw [List.mem_range]; omega)
      simp only [Bool.or_eq_true, decide_eq_true_eq] at this
      rw [show ((k.toNat : Nat) : Int) = k by omega] at this
      rcases this with (a | a) | a
      · omega
      · omega
      · exact a
    by_cases z : p ≤ 100
    · exact ⟨by omega, fun k h0 h1 => hk k h0 (by omega) h1⟩
    · exact pr_end (f := 100) h4 (by omega) (by omega) fun k h0 h1 => hk k h0 h1 (by omega)
  have p2 : Pr 2 := ⟨by omega, fun k h0 h1 => by omega⟩
  have p3 : Pr 3 := ⟨by omega, fun k h0 h1 => by
    obtain rfl : k = 2 := by omega
    decide⟩
  intro p hp
  simp only [primes, List.mem_cons, List.not_mem_nil, or_false] at hp
  rcases hp with rfl | rfl | hp
  · exact ⟨p2, by omega⟩
  · exact ⟨p3, by omega⟩
  refine ⟨key p ?_ ?_ ?_, ?_⟩ <;> (rcases hp with rfl | rfl | rfl | rfl | rfl | rfl | rfl | rfl | rfl | rfl | rfl | rfl | rfl | rfl | rfl | rfl | rfl | rfl | rfl | rfl | rfl | rfl | rfl | rfl | rfl <;> decide +kernel)
/-- a factor as the law draws it -/
def Fac.drawn (f : Fac) : Prop := f.mk? ∧ -10000 ≤ f.sh ∧ f.sh ≤ 10000
def FPrimes : FD := fun ds KR _ m => ds = [] ∧ KR (.lst (primes.map Da.int)) m
def FFact (st : Addr) : FD := fun ds KR _ m => ds = [.ref st] ∧ m ≤ 800000000 ∧ ∀ f m', Fac.drawn f → m' ≤ m + 6 → KR f.d m'
def FRule (C : Addr) : FD := fun ds KR _ m => ∃ f : Fac, ds = [f.d] ∧ f.drawn ∧ KR (ruleD C [f]) m
section
variable {B : Bd} {C CE CN CB st cl f : Addr} {fd : FuncData}
theorem primes_ok (Fn : Fun B.K "_law_primes" "_law_primes" l_primes f fd) (hb : Binds B.K fd [] []) (T : Bn B) : FnG pureM B 1 f 0 FPrimes := by
  refine fnG_ok Fn c_l_primes rfl hb ?_
  rintro X ds KR KE m ⟨cdv, A, outer, s', H, E, rfl⟩ cx hr hl ⟨rfl, k⟩
  show StD _ _ _ _ [] _ _
  fail "go"
  exact k
theorem fact_ok (Fn : Fun B.K "_law_factor" "_law_factor" l_factor f fd) (hb : Binds B.K fd ["_law_state"] []) (T : Bn B) (ET : CallG (takeM st cl) B 1 "_law_take" 2 (FTake st)) (EL : CallG (takeM st cl) B 2 "_law_lift" 1 (FLift st)) (EP : CallG pureM B 1 "_law_primes" 0 FPrimes) : FnG (takeM st cl) B 3 f 1 (FFact st) := by
  refine fnG_ok Fn c_l_factor rfl hb ?_
  rintro X ds KR KE m ⟨cdv, A, outer, s', H, E, rfl⟩ cx hr hl ⟨rfl, hm, k⟩
  show StD _ _ _ _ [.v (.ref st), .un, .un] _ _
  fail "go"
  refine FTake.use (by omega) (by decide) (by decide) fun p p0 p1 => ?_
  fail "go"
  refine ⟨rfl, by omega, fun l m2 l0 l1 h2 => ?_⟩
  fail "go"
  refine zif (fun e => ?_) fun e => ?_
  · fail "go"
    refine FTake.use (by omega) (by decide) (by decide) fun a a0 a1 => ?_
    fail "go"
    exact k (.rem (1 + a) l) _ ⟨by show 1 ≤ 1 + a; omega, l0, l1⟩ (by omega)
  fail "go"
  refine zif (fun e => ?_) fun e => ?_
  · fail "go"
    refine ⟨rfl, ?_⟩
    fail "go"
    refine FTake.use (by omega) (by decide) (by decide) fun a a0 a1 => ?_
    fail "go"
    refine ixd_lstM (Pr := fun d => ∃ i : Int, d = .int i ∧ Pr i ∧ i ≤ 10000) a0 (by simpa [primes] using a1) (fun d hd => by obtain ⟨i, hi, rfl⟩ := List.mem_map.mp hd; exact ⟨i, rfl, primes_pr i hi⟩) ?_
    rintro d ⟨i, rfl, i0, i1⟩
    fail "go"
    exact k (.fig i l) _ ⟨⟨i0, by omega⟩, l0, l1⟩ (by omega)
  fail "go"
  refine FTake.use (by omega) (by decide) (by decide) fun a a0 a1 => ?_
  fail "go"
  refine FTake.use (by omega) (by decide) (by decide) fun b b0 b1 => ?_
  fail "go"
  exact k (.lead (1 + a) (1 + b) l) _ ⟨⟨by omega, by omega, by omega, by omega⟩, l0, l1⟩ (by omega)
theorem rule_ok (Fn : Fun B.K "_law_rule" "_law_rule" l_rule f fd) (hb : Binds B.K fd ["_law_factor_here"] []) (T : Bn B) (mC : B.mg "Rule" = some (.ref C))
    (A0 : ClsG pureM B 3 C "remainder" 1 [] (fun ds _ => ds ++ [.int 0]) (FRem C CE)) (A1 : ClsG pureM B 3 C "remainder" 1 ["shift"] (fun ds es => ds ++ es) (FRem C CE))
    (B0 : ClsG pureM B 3 C "last_figure" 1 [] (fun ds _ => ds ++ [.int 0]) (FLFig C CN)) (B1 : ClsG pureM B 3 C "last_figure" 1 ["shift"] (fun ds es => ds ++ es) (FLFig C CN))
    (R0 : ClsG pureM B 3 C "leading" 1 [] (fun ds _ => ds ++ [.int 1, .int 0]) (FLead C CE)) (R4 : ClsG pureM B 3 C "leading" 2 ["shift"] (fun ds es => ds ++ es) (FLead C CE)) : FnG pureM B 4 f 1 (FRule C) := by
  refine fnG_ok Fn c_l_rule rfl hb ?_
  rintro X ds KR KE m ⟨cdv, A, outer, s', H, E, rfl⟩ cx hr hl ⟨f, rfl, ⟨hf, s0, s1⟩, k⟩
  cases f with
  | rem q s =>
    show StD _ _ _ _ [.v (.tup [.str "remainder", .int q, .int s])] _ _
    have hq : 1 ≤ q := hf
    fail "go"
    refine zif (fun e => ?_) fun e => ?_
    · fail "go"
      subst e
      exact ⟨q, 0, rfl, fun _ => k, fun h => absurd h (by omega)⟩
    · fail "go"
      exact ⟨q, s, rfl, fun _ => k, fun h => absurd h (by omega)⟩
  | fig p s =>
    show StD _ _ _ _ [.v (.tup [.str "last figure", .int p, .int s])] _ _
    obtain ⟨hq, hp⟩ : Pr p ∧ p ≤ 1000000 := hf
    fail "go"
    refine zif (fun e => ?_) fun e => ?_
    · fail "go"
      subst e
      exact ⟨p, 0, rfl, hp, fun _ => k, fun h => absurd hq h⟩
    · fail "go"
      exact ⟨p, s, rfl, hp, fun _ => k, fun h => absurd hq h⟩
  | lead b q s =>
    show StD _ _ _ _ [.v (.tup [.str "leading", .int b, .int q, .int s])] _ _
    obtain ⟨h1, h2, h3, h4⟩ : 1 ≤ b ∧ b ≤ 8 ∧ 1 ≤ q ∧ q ≤ 6 := hf
    fail "go"
    refine zif (fun e => ?_) fun e => ?_
    · fail "go"
      refine zif (fun e2 => ?_) fun e2 => ?_
      · fail "go"
        subst e e2
        exact ⟨b, 1, 0, rfl, fun _ _ _ _ => k, fun h => absurd h (by omega), fun _ _ h => absurd h (by omega)⟩
      · fail "go"
        exact ⟨b, q, s, rfl, fun _ _ _ _ => k, fun h => absurd h (by omega), fun _ _ h => absurd h (by omega)⟩
    · fail "go"
      exact ⟨b, q, s, rfl, fun _ _ _ _ => k, fun h => absurd h (by omega), fun _ _ h => absurd h (by omega)⟩
end
end OS

namespace OS
open PySem L2 OZ Classical
/-! ### products -/
def toldD (C : Addr) (fs : List Fac) : Da := if fs.length ≤ 12 then .tup [.str "rule", ruleD C fs] else .tup [.str "count", .int ((fs.length : Nat) : Int)]
def FTimes (C : Addr) : FD := fun ds KR _ m => ∃ fs gs : List Fac, ds = [ruleD C fs, ruleD C gs] ∧ fs.length + gs.length ≤ 100 ∧ KR (toldD C (fs ++ gs)) m
def FProd (C : Addr) : FD := fun ds KR _ m => ∃ fs : List Fac, ds = [.lst (fs.map Fac.d)] ∧ (∀ f ∈ fs, f.drawn) ∧ KR (toldD C (fs.take 13)) m
def FRefused (C : Addr) : FD := fun ds KR _ m => ∃ (fs : List Fac) (n : Int), ds = [ruleD C fs, .int n] ∧ fs.length ≤ 100 ∧ (∀ f ∈ fs, f.ok) ∧ n < 1 ∧ KR (.bl true) m
def FNear (st : Addr) : FD := fun ds KR _ m => ∃ f : Fac, ds = [.ref st, f.d] ∧ m ≤ 900000000 ∧ f.drawn ∧ ∀ g, g ≠ f → Fac.drawn g → KR g.d (m + 1)
section
variable {B : Bd} {C CE CN CB st cl f : Addr} {fd : FuncData}
theorem times_ok (Fn : Fun B.K "_law_times" "_law_times" l_times f fd) (hb : Binds B.K fd ["_law_first", "_law_second"] []) (T : Bn B) (mB : B.mg "BadCount" = some (.ref CB)) (te : PySem.W.exmOne B.K (.ref CB) (.ref CB) = some true) (ex : ErrX B CB "count")
    (SM : SpecG pureM B 3 C "__mul__" 2 (FMul C CB)) (sf : PySem.W.selfFirst B.K C = true) : FnG pureM B 4 f 2 (FTimes C) := by
  refine fnG_ok Fn c_l_times rfl hb ?_
  rintro X ds KR KE m ⟨cdv, A, outer, s', H, E, rfl⟩ cx hr hl ⟨fs, gs, rfl, hlen, k⟩
  show StD _ _ _ _ [.v (.obj C [("_factors", .tup (fs.map Fac.d))]), .v (.obj C [("_factors", .tup (gs.map Fac.d))]), .un] _ _
  fail "go"
  refine st1_tryI (fun sl' fs' m' => sl' = [.v (.obj C [("_factors", .tup (fs.map Fac.d))]), .v (.obj C [("_factors", .tup (gs.map Fac.d))]), .un] ∧ fs' = ([("count", .int ((fs.length + gs.length : Nat) : Int))] : List (Str × Da)) ∧ m' = m ∧ 12 < fs.length + gs.length) cx mB (.there (.there .here)) te ?_ ?_
  · intro pn xe ps cxt
    fail "go"
    refine ⟨fs, gs, rfl, hlen, fun h => ?_, fun h => ⟨rfl, rfl, rfl, rfl, rfl, h⟩⟩
    fail "go"
    unfold toldD at k
    rw [List.length_append, if_pos h] at k
    exact k
  · rintro sl' fs' m' a oe dd pn ⟨rfl, rfl, rfl, h⟩ su cxs
    show StD _ _ _ _ [.v (.obj C [("_factors", .tup (fs.map Fac.d))]), .v (.obj C [("_factors", .tup (gs.map Fac.d))]), .v (.exc a dd [("count", .int ((fs.length + gs.length : Nat) : Int))])] _ _
    fail "go"
    unfold toldD at k
    rw [List.length_append, if_neg (by omega)] at k
    exact k
theorem prod_ok (Fn : Fun B.K "_law_product" "_law_product" l_product f fd) (hb : Binds B.K fd ["_law_factors"] []) (T : Bn B) (mC : B.mg "Rule" = some (.ref C)) (O : ClsG pureM B 3 C "one_shard" 0 [] (fun ds _ => ds) (FOne C))
    (ER : CallG pureM B 4 "_law_rule" 1 (FRule C)) (EM : CallG pureM B 4 "_law_times" 2 (FTimes C)) : FnG pureM B 5 f 1 (FProd C) := by
  refine fnG_ok Fn c_l_product rfl hb ?_
  rintro X ds KR KE m ⟨cdv, A, outer, s', H, E, rfl⟩ cx hr hl ⟨fs, rfl, hd, k⟩
  cases fs with
  | nil =>
    show StD _ _ _ _ [.v (.lst []), .un, .un, .un] _ _
    fail "go"
    refine ⟨rfl, ?_⟩
    fail "go"
    exact k
  | cons f fs =>
    show StD _ _ _ _ [.v (.lst ((f :: fs).map Fac.d)), .un, .un, .un] _ _
    fail "go"
    refine opd_eq (L2.Room.units hr) (facs_plL _).1 (by fail "zpl") (facs_plL _).2 (Nat.le_of_ble_eq_true rfl) ?_
    refine ⟨_, rfl, ?_⟩
    refine zeF rfl ?_
    fail "go"
    refine ixd_lst (d := f.d) (atI_pos (by decide) rfl) ?_
    fail "go"
    refine ⟨f, rfl, hd f (List.mem_cons_self ..), ?_⟩
    fail "go"
    refine sld_lst' (es := fs.map Fac.d) (cutD_from (by decide)) ?_
    fail "go"
    refine for_inv cx (i := 2) (fun i sl' m' => ∃ s2 s3, m' = m ∧ i + 1 ≤ 12 ∧ i ≤ fs.length ∧ sl' = [.v (.lst ((f :: fs).map Fac.d)), .v (ruleD C (f :: fs.take i)), s2, s3]) (by fail "zi") ⟨_, _, rfl, by decide, Nat.zero_le _, rfl⟩ (by rintro i sl m ⟨s2, s3, _, _, _, rfl⟩; rfl) ?_ ?_
    · rintro i d sl m2 hi ⟨s2, s3, rfl, h12, hil, rfl⟩
      obtain ⟨g, hg, rfl⟩ : ∃ g, fs[i]? = some g ∧ d = g.d := by
        rw [List.getElem?_map] at hi
        cases e : fs[i]? with
        | none => rw [e] at hi; cases hi
        | some g => rw [e] at hi; cases hi; exact ⟨g, rfl, rfl⟩
      have hi1 : i < fs.length := (List.getElem?_eq_some_iff.mp hg).1
      have tk : fs.take (i + 1) = fs.take i ++ [g] := by rw [List.take_succ, hg]; rfl
      show StD _ _ _ _ [_, .v (ruleD C (f :: fs.take i)), .v g.d, _] _ _
      fail "go"
      refine ⟨g, rfl, hd g (List.mem_cons_of_mem _ (List.mem_of_getElem? hg)), ?_⟩
      fail "go"
      have hlen : (f :: fs.take i ++ [g]).length = i + 2 := by simp; omega
      refine ⟨f :: fs.take i, [g], rfl, by simp; omega, ?_⟩
      unfold toldD
      rw [hlen]
      by_cases z : i + 2 ≤ 12
      · rw [if_pos z]
        fail "go"
        exact ⟨_, _, rfl, z, hi1, by rw [tk]; rfl⟩
      · rw [if_neg z]
        fail "go"
        unfold toldD at k
        have e : ((f :: fs).take 13).length = i + 2 := by
          simp; omega
        rw [e, if_neg z] at k
        exact k
    · rintro sl m2 ⟨s2, s3, rfl, h12, hil, rfl⟩
      rw [List.length_map] at *
      fail "go"
      unfold toldD at k
      rw [List.take_of_length_le (by simp; omega), if_pos (by simp; omega)] at k
      rw [List.take_length]
      exact k
theorem refused_ok (Fn : Fun B.K "_law_refused" "_law_refused" l_refused f fd) (hb : Binds B.K fd ["_law_rule_here", "_law_record_here"] []) (T : Bn B) (mE : B.mg "OutOfRange" = some (.ref CE)) (te : PySem.W.exmOne B.K (.ref CE) (.ref CE) = some true) (ex : ErrX B CE "value")
    (CC : InstG pureM B 5 C 1 (FCall C CE)) : FnG pureM B 6 f 2 (FRefused C) := by
  refine fnG_ok Fn c_l_refused rfl hb ?_
  rintro X ds KR KE m ⟨cdv, A, outer, s', H, E, rfl⟩ cx hr hl ⟨fs, n, rfl, hlen, hf, hn, k⟩
  show StD _ _ _ _ [.v (.obj C [("_factors", .tup (fs.map Fac.d))]), .v (.int n), .un] _ _
  fail "go"
  refine st1_tryI (fun sl' fs' m' => sl' = [.v (.obj C [("_factors", .tup (fs.map Fac.d))]), .v (.int n), .un] ∧ fs' = ([("value", .int n)] : List (Str × Da)) ∧ m' = m) cx mE (.there (.there .here)) te ?_ ?_
  · intro pn xe ps cxt
    fail "go"
    exact ⟨fs, n, rfl, hlen, hf, fun h => absurd h (by omega), fun h => ⟨rfl, rfl, rfl, rfl, rfl⟩⟩
  · rintro sl' fs' m' a oe dd pn ⟨rfl, rfl, rfl⟩ su cxs
    show StD _ _ _ _ [.v (.obj C [("_factors", .tup (fs.map Fac.d))]), .v (.int n), .v (.exc a dd [("value", .int n)])] _ _
    fail "go"
    rw [decide_eq_true rfl]
    exact k
theorem near_ok (Fn : Fun B.K "_law_near" "_law_near" l_near f fd) (hb : Binds B.K fd ["_law_state", "_law_factor_here"] []) (T : Bn B) (ET : CallG (takeM st cl) B 1 "_law_take" 2 (FTake st)) : FnG (takeM st cl) B 2 f 2 (FNear st) := by
  refine fnG_ok Fn c_l_near rfl hb ?_
  rintro X ds KR KE m ⟨cdv, A, outer, s', H, E, rfl⟩ cx hr hl ⟨f, rfl, hm, ⟨hf, l0, l1⟩, k⟩
  cases f with
  | rem q s =>
    show StD _ _ _ _ [.v (.ref st), .v (.tup [.str "remainder", .int q, .int s]), .un] _ _
    have hq : 1 ≤ q := hf
    have l0 : -10000 ≤ s := l0
    have l1 : s ≤ 10000 := l1
    fail "go"
    refine FTake.use (by omega) (by decide) (by decide) fun p p0 p1 => ?_
    fail "go"
    refine zif (fun e => ?_) fun e => ?_
    · fail "go"
      refine sld_tup' (es := [.str "remainder", .int q]) (by show ¬ (HT.sIx 3 0 none = 0 ∧ HT.sIx 3 3 (some (-1)) = 3); decide) rfl ?_
      fail "go"
      refine k (.rem q _) (fun z => ?_) ⟨hq, ?_, ?_⟩
      · injection z with z1 z2
        split at z2 <;> omega
      · show -10000 ≤ s + 1 - _
        split <;> rename_i z <;> simp at z <;> omega
      · show s + 1 - _ ≤ 10000
        split <;> rename_i z <;> simp at z <;> omega
    · fail "go"
      exact k (.rem (q + 1) s) (fun z => by injection z with z1 z2; omega) ⟨by show 1 ≤ q + 1; omega, l0, l1⟩
  | fig q s =>
    show StD _ _ _ _ [.v (.ref st), .v (.tup [.str "last figure", .int q, .int s]), .un] _ _
    have hq : Pr q ∧ q ≤ 1000000 := hf
    have q2 := hq.1.1
    have l0 : -10000 ≤ s := l0
    have l1 : s ≤ 10000 := l1
    fail "go"
    refine FTake.use (by omega) (by decide) (by decide) fun p p0 p1 => ?_
    fail "go"
    refine zif (fun e => ?_) fun e => ?_
    · fail "go"
      refine sld_tup' (es := [.str "last figure", .int q]) (by show ¬ (HT.sIx 3 0 none = 0 ∧ HT.sIx 3 3 (some (-1)) = 3); decide) rfl ?_
      fail "go"
      refine k (.fig q _) (fun z => ?_) ⟨hq, ?_, ?_⟩
      · injection z with z1 z2
        split at z2 <;> omega
      · show -10000 ≤ s + 1 - _
        split <;> rename_i z <;> simp at z <;> omega
      · show s + 1 - _ ≤ 10000
        split <;> rename_i z <;> simp at z <;> omega
    · fail "go"
      refine zif (fun e2 => ?_) fun e2 => ?_
      · fail "go"
        exact k (.rem q s) (fun z => by cases z) ⟨by show 1 ≤ q; omega, l0, l1⟩
      · fail "go"
        have h2 := primes_pr 2 (by decide)
        have h3 := primes_pr 3 (by decide)
        by_cases z : q = 2
        · rw [decide_eq_true z]
          exact k (.fig 3 s) (fun y => by injection y with y1 y2; omega) ⟨⟨h3.1, by omega⟩, l0, l1⟩
        · rw [decide_eq_false z]
          exact k (.fig 2 s) (fun y => by injection y with y1 y2; omega) ⟨⟨h2.1, by omega⟩, l0, l1⟩
  | lead b q s =>
    show StD _ _ _ _ [.v (.ref st), .v (.tup [.str "leading", .int b, .int q, .int s]), .un] _ _
    obtain ⟨h1, h2, h3, h4⟩ : 1 ≤ b ∧ b ≤ 8 ∧ 1 ≤ q ∧ q ≤ 6 := hf
    have l0 : -10000 ≤ s := l0
    have l1 : s ≤ 10000 := l1
    fail "go"
    refine FTake.use (by omega) (by decide) (by decide) fun p p0 p1 => ?_
    fail "go"
    refine zif (fun e => ?_) fun e => ?_
    · fail "go"
      refine sld_tup' (es := [.str "leading", .int b, .int q]) (by show ¬ (HT.sIx 4 0 none = 0 ∧ HT.sIx 4 4 (some (-1)) = 4); decide) rfl ?_
      fail "go"
      refine k (.lead b q _) (fun z => ?_) ⟨⟨h1, h2, h3, h4⟩, ?_, ?_⟩
      · injection z with z1 z2 z3
        split at z3 <;> omega
      · show -10000 ≤ s + 1 - _
        split <;> rename_i z <;> simp at z <;> omega
      · show s + 1 - _ ≤ 10000
        split <;> rename_i z <;> simp at z <;> omega
    · fail "go"
      refine zif (fun e2 => ?_) fun e2 => ?_
      · fail "go"
        exact k (.lead b (7 - q) s) (fun z => by injection z with z1 z2 z3; omega) ⟨⟨h1, h2, by omega, by omega⟩, l0, l1⟩
      · fail "go"
        exact k (.lead (9 - b) q s) (fun z => by injection z with z1 z2 z3; omega) ⟨⟨by omega, by omega, h3, h4⟩, l0, l1⟩
end
end OS

namespace OS
open PySem L2 OZ Classical
theorem ents_pl (fs : List Fac) (n : Int) : plD (.tup (fs.map fun f => f.ent n)) = true ∧ dpt (.tup (fs.map fun f => f.ent n)) ≤ 64 := by
  refine ⟨pls_map (fun f => (ent_pl f n).1) fs, ?_⟩
  have := dpts_map (fun f => (ent_pl f n).2) fs
  show dpts (fs.map fun f => f.ent n) + 1 ≤ 64
  omega
/-- a record as the law draws it -/
def recOk (n : Int) : Prop := 1 ≤ n ∧ n < 2 ^ 62
theorem rec_small {n s : Int} (h : recOk n) (hs : -10000 ≤ s) : n - s < 2 ^ bigB := by
  have := pow_mono (show 63 ≤ bigB by decide)
  have e : (2 : Int) ^ 63 = 9223372036854775808 := by decide
  have e2 : (2 : Int) ^ 62 = 4611686018427387904 := by decide
  have := h.2
  omega
def FAgrees (C : Addr) : FD := fun ds KR _ m => ∃ (fs : List Fac) (ns : List Int), ds = [ruleD C fs, .lst (fs.map Fac.d), .lst (ns.map Da.int)] ∧ fs.length ≤ 12 ∧ (∀ f ∈ fs, f.drawn) ∧ (∀ n ∈ ns, recOk n) ∧ KR (.bl true) m
def FUnlike (C st : Addr) : FD := fun ds KR _ m => ∃ fs : List Fac, ds = [.ref st, ruleD C fs, .lst (fs.map Fac.d)] ∧ fs ≠ [] ∧ fs.length ≤ 12 ∧ m ≤ 800000000 ∧ (∀ f ∈ fs, f.drawn) ∧ ∀ m', KR (.bl true) m'
section
variable {B : Bd} {C CE CN CB st cl f : Addr} {fd : FuncData}
theorem agrees_ok (Fn : Fun B.K "_law_agrees" "_law_agrees" l_agrees f fd) (hb : Binds B.K fd ["_law_rule_here", "_law_factors", "_law_records"] []) (T : Bn B)
    (CC : InstG pureM B 5 C 1 (FCall C CE)) (PF : PropG pureM B 1 C "factors" (FFac C)) (SL : SpecG pureM B 1 C "__len__" 1 (FRLen C)) (EE : CallG pureM B 1 "_law_entry" 2 FLEnt) : FnG pureM B 6 f 3 (FAgrees C) := by
  refine fnG_ok Fn c_l_agrees rfl hb ?_
  rintro X ds KR KE m ⟨cdv, A, outer, s', H, E, rfl⟩ cx hr hl ⟨fs, ns, rfl, hlen, hf, hn, k⟩
  show StD _ _ _ _ [.v (.obj C [("_factors", .tup (fs.map Fac.d))]), .v (.lst (fs.map Fac.d)), .v (.lst (ns.map Da.int)), .un, .un] _ _
  fail "go"
  refine ⟨fs, rfl, ?_⟩
  fail "go"
  refine opd_ne (L2.Room.units hr) (facs_pl _).1 (facs_pl _).1 (facs_pl _).2 (facs_pl _).2 ?_
  refine ⟨_, rfl, ?_⟩
  refine zdqF (facs_pl _).1 ?_
  fail "go"
  refine ⟨fs, _, rfl, rfl, ?_⟩
  refine ⟨_, rfl, ⟨by omega, by omega⟩, ?_⟩
  fail "go"
  rw [List.length_map, decide_eq_true rfl]
  fail "go"
  refine for_inv cx (i := 3) (fun i sl' m' => ∃ s3, m' = m ∧ sl' = [.v (.obj C [("_factors", .tup (fs.map Fac.d))]), .v (.lst (fs.map Fac.d)), .v (.lst (ns.map Da.int)), s3, .un]) (by fail "zi") ⟨.un, rfl, rfl⟩ (by rintro i sl m ⟨s3, _, rfl⟩; rfl) ?_ ?_
  · rintro i d sl m2 hi ⟨s3, rfl, rfl⟩
    obtain ⟨n, hn1, rfl⟩ := List.mem_map.mp (List.mem_of_getElem? hi)
    have hn2 := hn n hn1
    show StD _ _ _ _ [.v (.obj C [("_factors", .tup (fs.map Fac.d))]), .v (.lst (fs.map Fac.d)), .v (.lst (ns.map Da.int)), .v (.int n), .un] _ _
    fail "go"
    refine ⟨fs, n, rfl, by omega, fun f h => Fac.mk_ok (hf f h).1, fun _ => ?_, fun h => absurd hn2.1 (by omega)⟩
    fail "go"
    refine evd_lc (own := [("_law_factor_here", 4)]) cx hr (.name (.there (.there (.there (.there .here))))) (.cons .nil (by fail "zs")) ?_
    refine iter_seq ?_
    fail "go"
    refine And.intro (by rw [List.length_map]; exact Nat.lt_of_le_of_lt hlen (Nat.le_of_ble_eq_true rfl)) ?_
    refine compd_mapL Fac.d (fun f => f.ent n) (.there (.there (.there (.there .here)))) rfl (.head _) ?_ ?_
    · rintro f hfm P k s0 H0 C0 cl0 fp0 cx' hr'
      show EvD _ _ _ _ [.v (.obj C [("_factors", .tup (fs.map Fac.d))]), .v (.lst (fs.map Fac.d)), .v (.lst (ns.map Da.int)), .v (.int n), .v f.d] _ _
      fail "go"
      exact ⟨f, n, rfl, Fac.mk_ok (hf f hfm).1, rec_small hn2 (hf f hfm).2.1, k⟩
    fail "go"
    refine opd_ne (L2.Room.units hr) (ents_pl _ _).1 (ents_pl _ _).1 (ents_pl _ _).2 (ents_pl _ _).2 ?_
    refine ⟨_, rfl, ?_⟩
    refine zdqF (ents_pl _ _).1 ?_
    fail "go"
    exact ⟨_, rfl, rfl⟩
  · rintro sl m2 ⟨s3, rfl, rfl⟩
    fail "go"
    exact k
theorem unlike_ok (Fn : Fun B.K "_law_unlike" "_law_unlike" l_unlike f fd) (hb : Binds B.K fd ["_law_state", "_law_rule_here", "_law_factors"] []) (T : Bn B) (ET : CallG (takeM st cl) B 1 "_law_take" 2 (FTake st))
    (EN : CallG (takeM st cl) B 2 "_law_near" 2 (FNear st)) (EP : CallG pureM B 5 "_law_product" 1 (FProd C)) (EQ' : EqG pureM B 2 C (FREq C)) : FnG (takeM st cl) B 6 f 3 (FUnlike C st) := by
  refine fnG_ok Fn c_l_unlike rfl hb ?_
  rintro X ds KR KE m ⟨cdv, A, outer, s', H, E, rfl⟩ cx hr hl ⟨fs, rfl, hne, hlen, hm, hf, k⟩
  have EQ := EQ'.lift (M := takeM st cl)
  have hpos : 0 < fs.length := List.length_pos_iff.mpr hne
  show StD _ _ _ _ [.v (.ref st), .v (.obj C [("_factors", .tup (fs.map Fac.d))]), .v (.lst (fs.map Fac.d)), .un, .un, .un] _ _
  fail "go"
  rw [List.length_map]
  refine FTake.use (by omega) (by omega) (by omega) fun p p0 p1 => ?_
  fail "go"
  refine sld_lst' (es := (fs.take p.toNat).map Fac.d) (by rw [cutD_to p0, List.map_take]) ?_
  fail "go"
  have hp : p.toNat < fs.length := by omega
  refine ixd_lst (d := fs[p.toNat].d) (atI_pos p0 (by rw [List.getElem?_map, List.getElem?_eq_getElem hp]; rfl)) ?_
  fail "go"
  refine ⟨fs[p.toNat], rfl, by omega, hf _ (List.getElem_mem hp), fun g hg hgd => ?_⟩
  fail "go"
  refine sld_lst' (es := (fs.drop (p.toNat + 1)).map Fac.d) (by rw [cutD_from (by omega), List.map_drop, show (p + 1).toNat = p.toNat + 1 by omega]) ?_
  fail "go"
  refine ⟨fs.take p.toNat ++ [g] ++ fs.drop (p.toNat + 1), by simp, ?_, ?_⟩
  · intro f hfm
    simp only [List.mem_append, List.mem_singleton] at hfm
    rcases hfm with (h | rfl) | h
    · exact hf f (List.mem_of_mem_take h)
    · exact hgd
    · exact hf f (List.mem_of_mem_drop h)
  have l2 : (fs.take p.toNat ++ [g] ++ fs.drop (p.toNat + 1)).length = fs.length := by simp; omega
  have ne2 : fs.take p.toNat ++ [g] ++ fs.drop (p.toNat + 1) ≠ fs := fun h => by
    have := congrArg (fun l => l[p.toNat]?) h
    simp only [List.getElem?_eq_getElem hp] at this
    rw [List.append_assoc, List.getElem?_append_right (by simp; omega)] at this
    simp [Nat.min_eq_left (Nat.le_of_lt hp)] at this
    exact hg this
  generalize fs.take p.toNat ++ [g] ++ fs.drop (p.toNat + 1) = gs at l2 ne2
  unfold toldD
  rw [List.take_of_length_le (by omega), if_pos (by omega)]
  fail "go"
  refine sld_lst' (es := (fs.take (fs.length - 1)).map Fac.d) (by rw [cutD_but (by decide), List.map_take, List.length_map, show ((-1 : Int) + fs.length).toNat = fs.length - 1 by omega]) ?_
  fail "go"
  refine ⟨_, rfl, fun f h => hf f (List.mem_of_mem_take h), ?_⟩
  have l3 : (fs.take (fs.length - 1)).length = fs.length - 1 := by simp
  have ne3 : fs.take (fs.length - 1) ≠ fs := fun h => by
    have := congrArg List.length h
    omega
  generalize fs.take (fs.length - 1) = hs at l3 ne3
  unfold toldD
  rw [List.take_of_length_le (by omega), if_pos (by omega)]
  unfold ruleD
  fail "go"
  refine ⟨gs, fs, rfl, ?_⟩
  rw [decide_eq_false ne2]
  fail "go"
  refine ⟨fs, gs, rfl, ?_⟩
  rw [decide_eq_false ne2.symm]
  fail "go"
  refine ⟨hs, fs, rfl, ?_⟩
  rw [decide_eq_false ne3]
  fail "go"
  refine ⟨fs, hs, rfl, ?_⟩
  rw [decide_eq_false ne3.symm]
  fail "go"
  exact k _
end
end OS

namespace OS
open PySem L2 OZ Classical
theorem ixd_sh {M : Mode} {X : Cx} {KE : Kx} {P : Da → Nat → Prop} {m : Nat} (f : Fac) (k : P (.int f.sh) m) : IxD M X KE f.d (.int (-1)) P m := by
  cases f <;> exact ixd_tup (d := .int _) rfl k
section
variable {B : Bd} {C CE f fS : Addr} {fd dS : FuncData}
theorem law_ok (Fn : Fun B.K "law" "law" sLaw f fd) (T : Bn B) (mC : B.mg "Rule" = some (.ref C)) (ES : FnOk B.P B.w B.K B.mg B.base CX0 1 fS dS ["_law_script"] (spStart B.K)) (mS : B.mg "_law_start" = some (.ref fS)) (kS : PySem.W.keepIn B.K (.ref fS) = true) (bS : Binds B.K dS ["_law_script"] [])
    (ET' : ∀ st cl, CallG (takeM st cl) B 1 "_law_take" 2 (FTake st)) (EF' : ∀ st cl, CallG (takeM st cl) B 3 "_law_factor" 1 (FFact st)) (ER' : ∀ st cl, CallG (takeM st cl) B 2 "_law_record" 2 (FRec st)) (EU' : ∀ st cl, CallG (takeM st cl) B 6 "_law_unlike" 3 (FUnlike C st))
    (EP : CallG pureM B 5 "_law_product" 1 (FProd C)) (EM : CallG pureM B 4 "_law_times" 2 (FTimes C)) (EA : CallG pureM B 6 "_law_agrees" 3 (FAgrees C)) (ED : CallG pureM B 6 "_law_refused" 2 (FRefused C)) (O' : ClsG pureM B 3 C "one_shard" 0 [] (fun ds _ => ds) (FOne C))
    (EQ' : EqG pureM B 2 C (FREq C)) (SM' : SpecG pureM B 3 C "__mul__" 2 (FMul C CB)) (sf : PySem.W.selfFirst B.K C = true) : FnOk B.P B.w B.K B.mg B.base CX0 8 f fd ["_law_script"] (OZ.spLaw B.K) := by
  refine law_take (k := 7) Fn c_sLaw rfl ES mS kS bS rfl rfl (by first | exact Or.inl rfl | exact Or.inr rfl) (fun X h => by first | rfl | (unfold swapsWith; simp [h]; rfl)) ?_ (by decide)
  rintro X st cl ⟨cdv, A, outer, s, H, E, rfl⟩ cx hr
  have ET := ET' st cl
  have EF := EF' st cl
  have ER := ER' st cl
  have EU := EU' st cl
  have EQ := EQ'.lift (M := takeM st cl)
  have SM := SM'.lift (M := takeM st cl)
  have O := O'.lift (M := takeM st cl)
  show StD _ _ _ _ [.un, .v (.ref st), .un, .un, .un, .un, .un, .un, .un, .un, .un, .un, .un] _ _
  fail "go"
  with_reducible refine st1_setLc (own := [("_law_k", 3)]) cx hr (.name (by fail "zi")) (.cons .nil (by fail "zs")) ?_ (hN := by with_unfolding_all exact ⟨2, rfl⟩)
  refine iter_range cx T.range ?_
  fail "go"
  refine FTake.use (by omega) (by decide) (by decide) fun a a0 a1 => ?_
  fail "go"
  refine ixd_lstM (Pr := fun d => ∃ i : Int, d = .int i ∧ 0 ≤ i ∧ i ≤ 14) a0 a1 (by simp) ?_
  rintro d ⟨i, rfl, i0, i1⟩
  refine ⟨i, rfl, ⟨by omega, by omega⟩, ?_⟩
  refine And.intro (by rw [intsD_len]; exact Nat.lt_of_le_of_lt (show i.toNat ≤ 14 by omega) (Nat.le_of_ble_eq_true rfl)) ?_
  refine compd_all (fun n acc m' => ∃ fs : List Fac, acc = fs.map Fac.d ∧ fs.length = n ∧ (∀ f ∈ fs, f.drawn) ∧ n ≤ 14 ∧ m' ≤ 10 + 6 * n) (by fail "zi") rfl (.head _) ⟨[], rfl, rfl, by simp, by omega, by omega⟩ ?_ ?_
  · rintro n d acc m2 hd ⟨fs, rfl, hl, hf, hn, hm⟩ s0 H0 C0 cl0 fp0 cx' hr'
    obtain ⟨hn1, rfl⟩ := intsD_get hd
    show EvD _ _ _ _ [.un, .v (.ref st), _, _, _, _, _, _, _, _, _, _, _] _ _
    fail "go"
    refine ⟨rfl, by omega, fun f m3 hfd h3 => ?_⟩
    exact ⟨fs ++ [f], by simp, by simp [hl], fun g hg => (List.mem_append.mp hg).elim (hf g) (fun h => by rw [List.mem_singleton.mp h]; exact hfd), by omega, by omega⟩
  rintro r m2 ⟨fs, rfl, hl, hf, _, hm⟩
  rw [intsD_len] at hl hm
  have hl14 : fs.length ≤ 14 := by omega
  clear hl
  fail "go"
  refine zjoin (fun sl' m' => ∃ (l : Int), -10000 ≤ l ∧ l ≤ 10000 ∧ sl' = [.un, .v (.ref st), .v (.lst (fs.map Fac.d)), .un, .v (.int l), .un, .un, .un, .un, .un, .un, .un, .un] ∧ m' ≤ 101) ?_ ?_
  · refine zifb (fun e => ?_) fun e => ?_
    · fail "go"
      have hpos : 0 < fs.length := by
        cases fs with
        | nil => simp at e
        | cons _ _ => simp
      rw [List.length_map]
      refine FTake.use (by omega) (by omega) (by omega) fun p p0 p1 => ?_
      fail "go"
      have hp : p.toNat < fs.length := by omega
      have hpd := hf _ (List.getElem_mem hp)
      refine ixd_lst (d := fs[p.toNat].d) (atI_pos p0 (by rw [List.getElem?_map, List.getElem?_eq_getElem hp]; rfl)) ?_
      fail "go"
      refine ixd_sh _ ?_
      fail "go"
      exact ⟨_, hpd.2.1, hpd.2.2, rfl, by omega⟩
    · fail "go"
      exact ⟨0, by omega, by omega, rfl, by omega⟩
  rintro sl' m3 ⟨l, l0, l1, rfl, hm3⟩
  fail "go"
  with_reducible refine st1_setLc (own := [("_law_k", 3)]) cx hr (.name (by fail "zi")) (.cons .nil (by fail "zs")) ?_ (hN := by with_unfolding_all exact ⟨5, rfl⟩)
  refine iter_range cx T.range ?_
  fail "go"
  refine compd_all (fun n acc m' => ∃ ns : List Int, acc = ns.map Da.int ∧ (∀ n ∈ ns, recOk n) ∧ n ≤ 3 ∧ m' ≤ 101 + 10 * n) (by fail "zi") rfl (.head _) ⟨[], rfl, by simp, by omega, by omega⟩ ?_ ?_
  · rintro n d acc m2 hd ⟨ns, rfl, hn1, hn3, hm⟩ s0 H0 C0 cl0 fp0 cx' hr'
    obtain ⟨hn2, rfl⟩ := intsD_get hd
    show EvD _ _ _ _ [.un, .v (.ref st), .v (.lst (fs.map Fac.d)), _, .v (.int l), _, _, _, _, _, _, _, _] _ _
    fail "go"
    refine ⟨l, rfl, by omega, l0, l1, fun n m4 n0 n1 h4 => ?_⟩
    exact ⟨ns ++ [n], by simp, fun g hg => (List.mem_append.mp hg).elim (hn1 g) (fun h => by rw [List.mem_singleton.mp h]; exact ⟨n0, n1⟩), by omega, by omega⟩
  rintro r m4 ⟨ns, rfl, hns, _, hm4⟩
  have hm4 : m4 ≤ 200 := by rw [intsD_len] at hm4; simp at hm4; omega
  fail "go"
  refine ⟨fs, rfl, hf, ?_⟩
  unfold toldD
  by_cases h12 : 12 < fs.length
  · rw [if_neg (by simp; omega), show (fs.take 13).length = 13 by simp; omega, show ((13 : Nat) : Int) = 13 from rfl]
    fail "go"
    rw [List.length_map]
    fail "go"
    refine sld_lst' (es := (fs.take 7).map Fac.d) (by rw [cutD_to (by decide), List.map_take]; rfl) ?_
    fail "go"
    refine ⟨fs.take 7, rfl, fun f h => hf f (List.mem_of_mem_take h), ?_⟩
    have e1 : ((fs.take 7).take 13) = fs.take 7 := List.take_of_length_le (by simp; omega)
    unfold toldD
    rw [e1, if_pos (by simp; omega)]
    fail "go"
    refine sld_lst' (es := (fs.drop 7).map Fac.d) (by rw [cutD_from (by decide), List.map_drop]; rfl) ?_
    fail "go"
    refine ⟨fs.drop 7, rfl, fun f h => hf f (List.mem_of_mem_drop h), ?_⟩
    have e2 : ((fs.drop 7).take 13) = fs.drop 7 := List.take_of_length_le (by simp; omega)
    unfold toldD
    rw [e2, if_pos (by simp; omega)]
    fail "go"
    refine ⟨fs.take 7, fs.drop 7, rfl, by simp; omega, ?_⟩
    unfold toldD
    rw [List.take_append_drop, if_neg (by omega)]
    fail "go"
    rw [List.length_map]
    fail "go"
    exact zdqE (by fail "zpl")
  · have et : fs.take 13 = fs := List.take_of_length_le (by omega)
    rw [et, if_pos (by omega)]
    fail "go"
    rw [List.length_map]
    fail "go"
    refine ⟨fs, ns, rfl, by omega, hf, hns, ?_⟩
    fail "go"
    have hok : ∀ f ∈ fs, f.ok := fun f h => Fac.mk_ok (hf f h).1
    refine ⟨fs, 0, rfl, by omega, hok, by decide, ?_⟩
    fail "go"
    refine ⟨fs, -3, rfl, by omega, hok, by decide, ?_⟩
    fail "go"
    rw [List.length_map]
    refine FTake.use (by omega) (by omega) (by omega) fun p p0 p1 => ?_
    fail "go"
    refine sld_lst' (es := (fs.take p.toNat).map Fac.d) (by rw [cutD_to p0, List.map_take]) ?_
    have e1 : ((fs.take p.toNat).take 13) = fs.take p.toNat := List.take_of_length_le (by simp; omega)
    have e2 : ((fs.drop p.toNat).take 13) = fs.drop p.toNat := List.take_of_length_le (by simp; omega)
    have f1 : ∀ f ∈ fs.take p.toNat, f.drawn := fun f h => hf f (List.mem_of_mem_take h)
    have f2 : ∀ f ∈ fs.drop p.toNat, f.drawn := fun f h => hf f (List.mem_of_mem_drop h)
    have s1 : cutD (fs.map Fac.d) none (some p) = (fs.take p.toNat).map Fac.d := by rw [cutD_to p0, List.map_take]
    have s2 : cutD (fs.map Fac.d) (some p) none = (fs.drop p.toNat).map Fac.d := by rw [cutD_from p0, List.map_drop]
    have l1 : (fs.take p.toNat).length ≤ 12 := by simp; omega
    have l2 : (fs.drop p.toNat).length ≤ 12 := by simp; omega
    fail "go"
    refine ⟨fs.take p.toNat, rfl, f1, ?_⟩
    unfold toldD
    rw [e1, if_pos l1]
    fail "go"
    refine sld_lst' s2 ?_
    fail "go"
    refine ⟨fs.drop p.toNat, rfl, f2, ?_⟩
    unfold toldD
    rw [e2, if_pos l2]
    fail "go"
    refine sld_lst' s1 ?_
    fail "go"
    refine ⟨fs.take p.toNat, ns, rfl, l1, f1, hns, ?_⟩
    fail "go"
    refine sld_lst' s2 ?_
    fail "go"
    refine sld_lst' (es := (ns.drop 1).map Da.int) (by rw [cutD_from (by decide), List.map_drop]; rfl) ?_
    fail "go"
    refine ⟨fs.drop p.toNat, ns.drop 1, rfl, l2, f2, fun n h => hns n (List.mem_of_mem_drop h), ?_⟩
    fail "go"
    refine ⟨fs.take p.toNat, fs.drop p.toNat, rfl, by omega, ?_⟩
    unfold toldD
    rw [List.take_append_drop, if_pos (by omega)]
    fail "go"
    refine ⟨fs, ns, rfl, by omega, hf, hns, ?_⟩
    fail "go"
    refine ⟨fs, fs, rfl, ?_⟩
    rw [decide_eq_true rfl]
    fail "go"
    refine sld_lst' s1 ?_
    fail "go"
    refine ⟨fs.take p.toNat, ns, rfl, l1, f1, hns, ?_⟩
    fail "go"
    refine sld_lst' s2 ?_
    fail "go"
    refine ⟨fs.drop p.toNat, ns, rfl, l2, f2, hns, ?_⟩
    fail "go"
    rw [← List.map_reverse]
    refine ⟨fs.reverse, rfl, fun f h => hf f (List.mem_reverse.mp h), ?_⟩
    have e3 : (fs.reverse.take 13) = fs.reverse := List.take_of_length_le (by simp; omega)
    unfold toldD
    rw [e3, if_pos (by simp; omega)]
    fail "go"
    refine ⟨fs.reverse, fs, rfl, ?_⟩
    fail "go"
    rw [← List.map_reverse]
    refine opd_eq (L2.Room.units hr) (facs_plL _).1 (facs_plL _).1 (facs_plL _).2 (facs_plL _).2 ?_
    rw [show deq (.lst (fs.map Fac.d)) (.lst (fs.reverse.map Fac.d)) = decide (fs = fs.reverse) from deqs_facs _ _]
    fail "go"
    rw [show decide (fs.reverse = fs) = decide (fs = fs.reverse) from decide_eq_decide.mpr ⟨Eq.symm, Eq.symm⟩, decide_eq_true rfl]
    fail "go"
    by_cases hfs : fs = []
    · rw [show (fs.map Fac.d).isEmpty = true by rw [hfs]; rfl]
      fail "go"
      refine ⟨rfl, ?_⟩
      fail "go"
      refine ⟨[], fs, rfl, ?_⟩
      fail "go"
      refine opd_eq (L2.Room.units hr) (facs_plL _).1 (by fail "zpl") (facs_plL _).2 (Nat.le_of_ble_eq_true rfl) ?_
      rw [show deq (.lst (fs.map Fac.d)) (.lst []) = decide (fs = []) from deqs_facs fs [], show decide ([] = fs) = decide (fs = []) from decide_eq_decide.mpr ⟨Eq.symm, Eq.symm⟩]
      fail "go"
      rw [decide_eq_true rfl]
      fail "go"
      refine ⟨rfl, ?_⟩
      fail "go"
      refine ⟨[], fs, rfl, by simp; omega, fun _ => ?_, fun h => absurd h (by simp; omega)⟩
      fail "go"
      refine ⟨fs, fs, rfl, ?_⟩
      fail "go"
      rw [decide_eq_true rfl]
    · rw [show (fs.map Fac.d).isEmpty = false by cases fs with | nil => exact absurd rfl hfs | cons _ _ => rfl]
      fail "go"
      refine ⟨fs, rfl, hfs, by omega, by omega, hf, fun m5 => ?_⟩
      fail "go"
      refine ⟨rfl, ?_⟩
      fail "go"
      refine ⟨[], fs, rfl, ?_⟩
      fail "go"
      refine opd_eq (L2.Room.units hr) (facs_plL _).1 (by fail "zpl") (facs_plL _).2 (Nat.le_of_ble_eq_true rfl) ?_
      rw [show deq (.lst (fs.map Fac.d)) (.lst []) = decide (fs = []) from deqs_facs fs [], show decide ([] = fs) = decide (fs = []) from decide_eq_decide.mpr ⟨Eq.symm, Eq.symm⟩]
      fail "go"
      rw [decide_eq_true rfl]
      fail "go"
      refine ⟨rfl, ?_⟩
      fail "go"
      refine ⟨[], fs, rfl, by simp; omega, fun _ => ?_, fun h => absurd h (by simp; omega)⟩
      fail "go"
      refine ⟨fs, fs, rfl, ?_⟩
      fail "go"
      rw [decide_eq_true rfl]
end
end OS

end
namespace OS
open PySem L2
theorem all_mk {l : PySem.W.OpenLaw} {w : World} {K : PySem.W.Frag} {h : Heap} {mg : Str → Option Value} {fa : Addr} (X : K.In h) (G : h.Ns mainGlobals mg) (hfa : mg "law" = some (.ref fa))
    {CRule : Addr} {COORge fOORge ONOORge : Addr} {odOORge anOORge : Option Addr} {slOORge : Array (Option Value)} {ocOORge kVOORge dcOORge pmOORge cdOORge ctOORge : Value} {nmOORge qnOORge : Str} {NUOORge : Addr} {bsOORge : List Value} {snOORge : List Str} {suOORge : List Value} {abOORge : Bool} {coOORge : Option Bool} {ddOORge : Option Addr} {k0OORge k1OORge k2OORge k3OORge k5OORge : Option Value} {CNPme fNPme ONNPme : Addr} {odNPme anNPme : Option Addr} {slNPme : Array (Option Value)} {ocNPme kVNPme dcNPme pmNPme cdNPme ctNPme : Value} {nmNPme qnNPme : Str} {NUNPme : Addr} {bsNPme : List Value} {snNPme : List Str} {suNPme : List Value} {abNPme : Bool} {coNPme : Option Bool} {ddNPme : Option Addr} {k0NPme k1NPme k2NPme k3NPme k5NPme : Option Value} {CBCnt fBCnt ONBCnt : Addr} {odBCnt anBCnt : Option Addr} {slBCnt : Array (Option Value)} {ocBCnt kVBCnt dcBCnt pmBCnt cdBCnt ctBCnt : Value} {nmBCnt qnBCnt : Str} {NUBCnt : Addr} {bsBCnt : List Value} {snBCnt : List Str} {suBCnt : List Value} {abBCnt : Bool} {coBCnt : Option Bool} {ddBCnt : Option Addr} {k0BCnt k1BCnt k2BCnt k3BCnt k5BCnt : Option Value} {f_is_prime : Addr} {od_is_prime an_is_prime : Option Addr} {sl_is_prime : Array (Option Value)} {oc_is_prime dc_is_prime pm_is_prime cd_is_prime ct_is_prime : Value} {kV_is_prime : Value} {f_last_figure : Addr} {od_last_figure an_last_figure : Option Addr} {sl_last_figure : Array (Option Value)} {oc_last_figure dc_last_figure pm_last_figure cd_last_figure ct_last_figure : Value} {kV_last_figure : Value} {f_leading_figures : Addr} {od_leading_figures an_leading_figures : Option Addr} {sl_leading_figures : Array (Option Value)} {oc_leading_figures dc_leading_figures pm_leading_figures cd_leading_figures ct_leading_figures : Value} {kV_leading_figures : Value} {f_entry : Addr} {od_entry an_entry : Option Addr} {sl_entry : Array (Option Value)} {oc_entry dc_entry pm_entry cd_entry ct_entry : Value} {kV_entry : Value} {f_label : Addr} {od_label an_label : Option Addr} {sl_label : Array (Option Value)} {oc_label dc_label pm_label cd_label ct_label : Value} {kV_label : Value} {f_Rule_init : Addr} {od_Rule_init an_Rule_init : Option Addr} {sl_Rule_init : Array (Option Value)} {oc_Rule_init dc_Rule_init pm_Rule_init cd_Rule_init ct_Rule_init : Value} {kV_Rule_init : Value} {f_Rule_one_shard : Addr} {od_Rule_one_shard an_Rule_one_shard : Option Addr} {sl_Rule_one_shard : Array (Option Value)} {oc_Rule_one_shard dc_Rule_one_shard pm_Rule_one_shard cd_Rule_one_shard ct_Rule_one_shard : Value} {p_Rule_one_shard : Addr} {r_Rule_one_shard : List Value} {kV_Rule_one_shard : Value} {f_Rule_remainder : Addr} {od_Rule_remainder an_Rule_remainder : Option Addr} {sl_Rule_remainder : Array (Option Value)} {oc_Rule_remainder dc_Rule_remainder pm_Rule_remainder cd_Rule_remainder ct_Rule_remainder : Value} {p_Rule_remainder : Addr} {r_Rule_remainder : List Value} {D_Rule_remainder : Addr} {tK_Rule_remainder0 : Tok} {f_Rule_last_figure : Addr} {od_Rule_last_figure an_Rule_last_figure : Option Addr} {sl_Rule_last_figure : Array (Option Value)} {oc_Rule_last_figure dc_Rule_last_figure pm_Rule_last_figure cd_Rule_last_figure ct_Rule_last_figure : Value} {p_Rule_last_figure : Addr} {r_Rule_last_figure : List Value} {D_Rule_last_figure : Addr} {tK_Rule_last_figure0 : Tok} {f_Rule_leading : Addr} {od_Rule_leading an_Rule_leading : Option Addr} {sl_Rule_leading : Array (Option Value)} {oc_Rule_leading dc_Rule_leading pm_Rule_leading cd_Rule_leading ct_Rule_leading : Value} {p_Rule_leading : Addr} {r_Rule_leading : List Value} {D_Rule_leading : Addr} {T_Rule_leading : Addr} {ocT_Rule_leading : Value} {odT_Rule_leading : Option Addr} {nT_Rule_leading : Nat} {slT_Rule_leading : Array (Option Value)} {tD_Rule_leading0 : Tok} {tK_Rule_leading0 : Tok} {f_Rule_factors : Addr} {od_Rule_factors an_Rule_factors : Option Addr} {sl_Rule_factors : Array (Option Value)} {oc_Rule_factors dc_Rule_factors pm_Rule_factors cd_Rule_factors ct_Rule_factors : Value} {p_Rule_factors : Addr} {r_Rule_factors : List Value} {kV_Rule_factors : Value} {f_Rule_call : Addr} {od_Rule_call an_Rule_call : Option Addr} {sl_Rule_call : Array (Option Value)} {oc_Rule_call dc_Rule_call pm_Rule_call cd_Rule_call ct_Rule_call : Value} {kV_Rule_call : Value} {f_Rule_mul : Addr} {od_Rule_mul an_Rule_mul : Option Addr} {sl_Rule_mul : Array (Option Value)} {oc_Rule_mul dc_Rule_mul pm_Rule_mul cd_Rule_mul ct_Rule_mul : Value} {kV_Rule_mul : Value} {f_Rule_len : Addr} {od_Rule_len an_Rule_len : Option Addr} {sl_Rule_len : Array (Option Value)} {oc_Rule_len dc_Rule_len pm_Rule_len cd_Rule_len ct_Rule_len : Value} {kV_Rule_len : Value} {f_Rule_eq : Addr} {od_Rule_eq an_Rule_eq : Option Addr} {sl_Rule_eq : Array (Option Value)} {oc_Rule_eq dc_Rule_eq pm_Rule_eq cd_Rule_eq ct_Rule_eq : Value} {kV_Rule_eq : Value} {f_start : Addr} {od_start an_start : Option Addr} {sl_start : Array (Option Value)} {oc_start dc_start pm_start cd_start ct_start : Value} {kV_start : Value} {f_take : Addr} {od_take an_take : Option Addr} {sl_take : Array (Option Value)} {oc_take dc_take pm_take cd_take ct_take : Value} {kV_take : Value} {f_Lrecord : Addr} {od_Lrecord an_Lrecord : Option Addr} {sl_Lrecord : Array (Option Value)} {oc_Lrecord dc_Lrecord pm_Lrecord cd_Lrecord ct_Lrecord : Value} {kV_Lrecord : Value} {f_Llift : Addr} {od_Llift an_Llift : Option Addr} {sl_Llift : Array (Option Value)} {oc_Llift dc_Llift pm_Llift cd_Llift ct_Llift : Value} {kV_Llift : Value} {f_Lentry : Addr} {od_Lentry an_Lentry : Option Addr} {sl_Lentry : Array (Option Value)} {oc_Lentry dc_Lentry pm_Lentry cd_Lentry ct_Lentry : Value} {kV_Lentry : Value} {f_Lprimes : Addr} {od_Lprimes an_Lprimes : Option Addr} {sl_Lprimes : Array (Option Value)} {oc_Lprimes dc_Lprimes pm_Lprimes cd_Lprimes ct_Lprimes : Value} {kV_Lprimes : Value} {f_Lfactor : Addr} {od_Lfactor an_Lfactor : Option Addr} {sl_Lfactor : Array (Option Value)} {oc_Lfactor dc_Lfactor pm_Lfactor cd_Lfactor ct_Lfactor : Value} {kV_Lfactor : Value} {f_Lrule : Addr} {od_Lrule an_Lrule : Option Addr} {sl_Lrule : Array (Option Value)} {oc_Lrule dc_Lrule pm_Lrule cd_Lrule ct_Lrule : Value} {kV_Lrule : Value} {f_Ltimes : Addr} {od_Ltimes an_Ltimes : Option Addr} {sl_Ltimes : Array (Option Value)} {oc_Ltimes dc_Ltimes pm_Ltimes cd_Ltimes ct_Ltimes : Value} {kV_Ltimes : Value} {f_Lproduct : Addr} {od_Lproduct an_Lproduct : Option Addr} {sl_Lproduct : Array (Option Value)} {oc_Lproduct dc_Lproduct pm_Lproduct cd_Lproduct ct_Lproduct : Value} {kV_Lproduct : Value} {f_Lrefused : Addr} {od_Lrefused an_Lrefused : Option Addr} {sl_Lrefused : Array (Option Value)} {oc_Lrefused dc_Lrefused pm_Lrefused cd_Lrefused ct_Lrefused : Value} {kV_Lrefused : Value} {f_Lnear : Addr} {od_Lnear an_Lnear : Option Addr} {sl_Lnear : Array (Option Value)} {oc_Lnear dc_Lnear pm_Lnear cd_Lnear ct_Lnear : Value} {kV_Lnear : Value} {f_Lagrees : Addr} {od_Lagrees an_Lagrees : Option Addr} {sl_Lagrees : Array (Option Value)} {oc_Lagrees dc_Lagrees pm_Lagrees cd_Lagrees ct_Lagrees : Value} {kV_Lagrees : Value} {f_Lunlike : Addr} {od_Lunlike an_Lunlike : Option Addr} {sl_Lunlike : Array (Option Value)} {oc_Lunlike dc_Lunlike pm_Lunlike cd_Lunlike ct_Lunlike : Value} {kV_Lunlike : Value} {f_law : Addr} {od_law an_law : Option Addr} {sl_law : Array (Option Value)} {oc_law dc_law pm_law cd_law ct_law : Value} {kV_law : Value} {tc0 : Tok} {tc1 : Tok} {tc2 : Tok} {tc3 : Tok} {tc4 : Tok} {tc5 : Tok}
    (aC_CRule : PySem.W.nsIn K mainGlobals "Rule" = some (some (.ref CRule)))
    (pg_CRule : PySem.W.plainGet K CRule Str.empty = true)
    (hd_CRule : PySem.W.hasDictIn K CRule = true)
    (po_CRule : PySem.W.plainOver K CRule = true)
    (sa_CRule : PySem.W.findIn K (.ref CRule) "__setattr__" = some (some (.builtin "object.__setattr__")))
    (mk_CRule : PySem.W.makesIn K CRule = true)
    (kc_CRule : PySem.W.keepIn K (.ref CRule) = true)
    (nF_CRule_factors : PySem.W.findIn K (.ref CRule) "_factors" = some none)
    (rd_CRule : PySem.W.readsIn K CRule (.type "type") = true)
    (ga_CRule : PySem.W.specialIn K (.ref CRule) "__getattribute__" = some (some (.builtin "type.__getattribute__")))
    (qs_CRule : PySem.W.subIn K (.type "int") (.ref CRule) = some false)
    (qn_CRule : PySem.W.findIn K (.ref CRule) "__ne__" = some (some (.builtin "object.__ne__")))
    (qo_CRule : PySem.W.subIn K (.ref CRule) (.type "object") = some true)
    (hc_CRule : PySem.W.findIn K (.ref CRule) "__class__" = some (some (.builtin "object.__class__")))
    (hm_CRule : PySem.W.mroIn K CRule (.type "object") = some true)
    (gn : PySem.W.specialIn K (.builtin "object.__class__") "__get__" = some (some (.builtin "getset_descriptor.__get__")))
    (gt : PySem.W.takesIn K (.builtin "object.__class__") = some true)
    (sf_CRule : PySem.W.selfFirst K CRule = true)
    (eaOORge : PySem.W.nsIn K mainGlobals "OutOfRange" = some (some (.ref COORge)))
    (eLOORge : K.lookup COORge = some (excClassObj nmOORge qnOORge COORge NUOORge bsOORge [.ref ONOORge, .type "ValueError", .type "Exception", .type "BaseException", .type "object"] true snOORge suOORge abOORge coOORge ddOORge k0OORge k1OORge k2OORge k3OORge k5OORge "ValueError.__new__"))
    (esOORge : PySem.W.findIn K (.ref COORge) "__setattr__" = some (some (.builtin "object.__setattr__")))
    (exOORge : PySem.W.subIn K (.ref COORge) (.type "BaseException") = some true)
    (etOORge : PySem.W.typeIn K (.ref COORge) = some (.type "type"))
    (ekOORge : PySem.W.keepIn K (.ref COORge) = true)
    (eiOORge : PySem.W.findIn K (.ref COORge) "__init__" = some (some (.ref fOORge)))
    (eTOORge : PySem.W.typeIn K (.ref fOORge) = some (.type "function"))
    (enOORge : PySem.W.findIn K (.ref COORge) "value" = some none)
    (egOORge : PySem.W.findIn K (.ref COORge) "__getattribute__" = some (some (.builtin "BaseException.__getattribute__")))
    (eGOORge : PySem.W.findIn K (.ref COORge) "__getattr__" = some none)
    (ehOORge : PySem.W.hasDictIn K COORge = true)
    (euOORge : PySem.W.subIn K (.ref COORge) (.ref COORge) = some true)
    (elOORge : K.lookup fOORge = some ⟨ocOORge, odOORge, .func (PySem.W.fnOf "__init__" "OutOfRange.__init__" (defArgs sOutOfRange_init) (defBody sOutOfRange_init) (defScope sOutOfRange_init) .none kVOORge dcOORge pmOORge anOORge cdOORge ctOORge), slOORge⟩)
    (ecOORge : PySem.W.codeIn K cdOORge "OutOfRange.__init__" = true)
    (efOORge : PySem.W.keepIn K (.ref fOORge) = true)
    (eaNPme : PySem.W.nsIn K mainGlobals "NotPrime" = some (some (.ref CNPme)))
    (eLNPme : K.lookup CNPme = some (excClassObj nmNPme qnNPme CNPme NUNPme bsNPme [.ref ONNPme, .type "ValueError", .type "Exception", .type "BaseException", .type "object"] true snNPme suNPme abNPme coNPme ddNPme k0NPme k1NPme k2NPme k3NPme k5NPme "ValueError.__new__"))
    (esNPme : PySem.W.findIn K (.ref CNPme) "__setattr__" = some (some (.builtin "object.__setattr__")))
    (exNPme : PySem.W.subIn K (.ref CNPme) (.type "BaseException") = some true)
    (etNPme : PySem.W.typeIn K (.ref CNPme) = some (.type "type"))
    (ekNPme : PySem.W.keepIn K (.ref CNPme) = true)
    (eiNPme : PySem.W.findIn K (.ref CNPme) "__init__" = some (some (.ref fNPme)))
    (eTNPme : PySem.W.typeIn K (.ref fNPme) = some (.type "function"))
    (enNPme : PySem.W.findIn K (.ref CNPme) "value" = some none)
    (egNPme : PySem.W.findIn K (.ref CNPme) "__getattribute__" = some (some (.builtin "BaseException.__getattribute__")))
    (eGNPme : PySem.W.findIn K (.ref CNPme) "__getattr__" = some none)
    (ehNPme : PySem.W.hasDictIn K CNPme = true)
    (euNPme : PySem.W.subIn K (.ref CNPme) (.ref CNPme) = some true)
    (elNPme : K.lookup fNPme = some ⟨ocNPme, odNPme, .func (PySem.W.fnOf "__init__" "NotPrime.__init__" (defArgs sNotPrime_init) (defBody sNotPrime_init) (defScope sNotPrime_init) .none kVNPme dcNPme pmNPme anNPme cdNPme ctNPme), slNPme⟩)
    (ecNPme : PySem.W.codeIn K cdNPme "NotPrime.__init__" = true)
    (efNPme : PySem.W.keepIn K (.ref fNPme) = true)
    (eaBCnt : PySem.W.nsIn K mainGlobals "BadCount" = some (some (.ref CBCnt)))
    (eLBCnt : K.lookup CBCnt = some (excClassObj nmBCnt qnBCnt CBCnt NUBCnt bsBCnt [.ref ONBCnt, .type "ValueError", .type "Exception", .type "BaseException", .type "object"] true snBCnt suBCnt abBCnt coBCnt ddBCnt k0BCnt k1BCnt k2BCnt k3BCnt k5BCnt "ValueError.__new__"))
    (esBCnt : PySem.W.findIn K (.ref CBCnt) "__setattr__" = some (some (.builtin "object.__setattr__")))
    (exBCnt : PySem.W.subIn K (.ref CBCnt) (.type "BaseException") = some true)
    (etBCnt : PySem.W.typeIn K (.ref CBCnt) = some (.type "type"))
    (ekBCnt : PySem.W.keepIn K (.ref CBCnt) = true)
    (eiBCnt : PySem.W.findIn K (.ref CBCnt) "__init__" = some (some (.ref fBCnt)))
    (eTBCnt : PySem.W.typeIn K (.ref fBCnt) = some (.type "function"))
    (enBCnt : PySem.W.findIn K (.ref CBCnt) "count" = some none)
    (egBCnt : PySem.W.findIn K (.ref CBCnt) "__getattribute__" = some (some (.builtin "BaseException.__getattribute__")))
    (eGBCnt : PySem.W.findIn K (.ref CBCnt) "__getattr__" = some none)
    (ehBCnt : PySem.W.hasDictIn K CBCnt = true)
    (euBCnt : PySem.W.subIn K (.ref CBCnt) (.ref CBCnt) = some true)
    (elBCnt : K.lookup fBCnt = some ⟨ocBCnt, odBCnt, .func (PySem.W.fnOf "__init__" "BadCount.__init__" (defArgs sBadCount_init) (defBody sBadCount_init) (defScope sBadCount_init) .none kVBCnt dcBCnt pmBCnt anBCnt cdBCnt ctBCnt), slBCnt⟩)
    (ecBCnt : PySem.W.codeIn K cdBCnt "BadCount.__init__" = true)
    (efBCnt : PySem.W.keepIn K (.ref fBCnt) = true)
    (a_is_prime : PySem.W.nsIn K mainGlobals "is_prime" = some (some (.ref f_is_prime)))
    (lk_is_prime : K.lookup f_is_prime = some ⟨oc_is_prime, od_is_prime, .func (PySem.W.fnOf "is_prime" "is_prime" (defArgs s_is_prime) (defBody s_is_prime) (defScope s_is_prime) .none kV_is_prime dc_is_prime pm_is_prime an_is_prime cd_is_prime ct_is_prime), sl_is_prime⟩)
    (cq_is_prime : PySem.W.codeIn K cd_is_prime "is_prime" = true)
    (k_is_prime : PySem.W.keepIn K (.ref f_is_prime) = true)
    (a_last_figure : PySem.W.nsIn K mainGlobals "_last_figure" = some (some (.ref f_last_figure)))
    (lk_last_figure : K.lookup f_last_figure = some ⟨oc_last_figure, od_last_figure, .func (PySem.W.fnOf "_last_figure" "_last_figure" (defArgs s_last_figure) (defBody s_last_figure) (defScope s_last_figure) .none kV_last_figure dc_last_figure pm_last_figure an_last_figure cd_last_figure ct_last_figure), sl_last_figure⟩)
    (cq_last_figure : PySem.W.codeIn K cd_last_figure "_last_figure" = true)
    (k_last_figure : PySem.W.keepIn K (.ref f_last_figure) = true)
    (a_leading_figures : PySem.W.nsIn K mainGlobals "_leading_figures" = some (some (.ref f_leading_figures)))
    (lk_leading_figures : K.lookup f_leading_figures = some ⟨oc_leading_figures, od_leading_figures, .func (PySem.W.fnOf "_leading_figures" "_leading_figures" (defArgs s_leading_figures) (defBody s_leading_figures) (defScope s_leading_figures) .none kV_leading_figures dc_leading_figures pm_leading_figures an_leading_figures cd_leading_figures ct_leading_figures), sl_leading_figures⟩)
    (cq_leading_figures : PySem.W.codeIn K cd_leading_figures "_leading_figures" = true)
    (k_leading_figures : PySem.W.keepIn K (.ref f_leading_figures) = true)
    (a_entry : PySem.W.nsIn K mainGlobals "_entry" = some (some (.ref f_entry)))
    (lk_entry : K.lookup f_entry = some ⟨oc_entry, od_entry, .func (PySem.W.fnOf "_entry" "_entry" (defArgs s_entry) (defBody s_entry) (defScope s_entry) .none kV_entry dc_entry pm_entry an_entry cd_entry ct_entry), sl_entry⟩)
    (cq_entry : PySem.W.codeIn K cd_entry "_entry" = true)
    (k_entry : PySem.W.keepIn K (.ref f_entry) = true)
    (a_label : PySem.W.nsIn K mainGlobals "_label" = some (some (.ref f_label)))
    (lk_label : K.lookup f_label = some ⟨oc_label, od_label, .func (PySem.W.fnOf "_label" "_label" (defArgs s_label) (defBody s_label) (defScope s_label) .none kV_label dc_label pm_label an_label cd_label ct_label), sl_label⟩)
    (cq_label : PySem.W.codeIn K cd_label "_label" = true)
    (k_label : PySem.W.keepIn K (.ref f_label) = true)
    (a_Rule_init : PySem.W.findIn K (.ref CRule) "__init__" = some (some (.ref f_Rule_init)))
    (i_Rule_init : PySem.W.isFn K (.ref f_Rule_init) = true)
    (lk_Rule_init : K.lookup f_Rule_init = some ⟨oc_Rule_init, od_Rule_init, .func (PySem.W.fnOf "__init__" "Rule.__init__" (defArgs sRule_init) (defBody sRule_init) (defScope sRule_init) .none kV_Rule_init dc_Rule_init pm_Rule_init an_Rule_init cd_Rule_init ct_Rule_init), sl_Rule_init⟩)
    (cq_Rule_init : PySem.W.codeIn K cd_Rule_init "Rule.__init__" = true)
    (k_Rule_init : PySem.W.keepIn K (.ref f_Rule_init) = true)
    (a_Rule_one_shard : PySem.W.findCls K (.ref CRule) (.type "type") "one_shard" = some (.get (.builtin "classmethod.__get__") (.ref p_Rule_one_shard) .none (.ref CRule)))
    (rr_Rule_one_shard : PySem.W.recIn K p_Rule_one_shard "classmethod" = some (.ref f_Rule_one_shard :: r_Rule_one_shard))
    (fi_Rule_one_shard : PySem.W.fnIn K f_Rule_one_shard = true)
    (lk_Rule_one_shard : K.lookup f_Rule_one_shard = some ⟨oc_Rule_one_shard, od_Rule_one_shard, .func (PySem.W.fnOf "one_shard" "Rule.one_shard" (defArgs sRule_one_shard) (defBody sRule_one_shard) (defScope sRule_one_shard) .none kV_Rule_one_shard dc_Rule_one_shard pm_Rule_one_shard an_Rule_one_shard cd_Rule_one_shard ct_Rule_one_shard), sl_Rule_one_shard⟩)
    (cq_Rule_one_shard : PySem.W.codeIn K cd_Rule_one_shard "Rule.one_shard" = true)
    (k_Rule_one_shard : PySem.W.keepIn K (.ref f_Rule_one_shard) = true)
    (a_Rule_remainder : PySem.W.findCls K (.ref CRule) (.type "type") "remainder" = some (.get (.builtin "classmethod.__get__") (.ref p_Rule_remainder) .none (.ref CRule)))
    (rr_Rule_remainder : PySem.W.recIn K p_Rule_remainder "classmethod" = some (.ref f_Rule_remainder :: r_Rule_remainder))
    (fi_Rule_remainder : PySem.W.fnIn K f_Rule_remainder = true)
    (lk_Rule_remainder : K.lookup f_Rule_remainder = some ⟨oc_Rule_remainder, od_Rule_remainder, .func (PySem.W.fnOf "remainder" "Rule.remainder" (defArgs sRule_remainder) (defBody sRule_remainder) (defScope sRule_remainder) .none (.ref D_Rule_remainder) dc_Rule_remainder pm_Rule_remainder an_Rule_remainder cd_Rule_remainder ct_Rule_remainder), sl_Rule_remainder⟩)
    (cq_Rule_remainder : PySem.W.codeIn K cd_Rule_remainder "Rule.remainder" = true)
    (k_Rule_remainder : PySem.W.keepIn K (.ref f_Rule_remainder) = true)
    (kw_Rule_remainder0 : PySem.W.nsIn K D_Rule_remainder "shift" = some (some (.int 0 tK_Rule_remainder0)))
    (a_Rule_last_figure : PySem.W.findCls K (.ref CRule) (.type "type") "last_figure" = some (.get (.builtin "classmethod.__get__") (.ref p_Rule_last_figure) .none (.ref CRule)))
    (rr_Rule_last_figure : PySem.W.recIn K p_Rule_last_figure "classmethod" = some (.ref f_Rule_last_figure :: r_Rule_last_figure))
    (fi_Rule_last_figure : PySem.W.fnIn K f_Rule_last_figure = true)
    (lk_Rule_last_figure : K.lookup f_Rule_last_figure = some ⟨oc_Rule_last_figure, od_Rule_last_figure, .func (PySem.W.fnOf "last_figure" "Rule.last_figure" (defArgs sRule_last_figure) (defBody sRule_last_figure) (defScope sRule_last_figure) .none (.ref D_Rule_last_figure) dc_Rule_last_figure pm_Rule_last_figure an_Rule_last_figure cd_Rule_last_figure ct_Rule_last_figure), sl_Rule_last_figure⟩)
    (cq_Rule_last_figure : PySem.W.codeIn K cd_Rule_last_figure "Rule.last_figure" = true)
    (k_Rule_last_figure : PySem.W.keepIn K (.ref f_Rule_last_figure) = true)
    (kw_Rule_last_figure0 : PySem.W.nsIn K D_Rule_last_figure "shift" = some (some (.int 0 tK_Rule_last_figure0)))
    (a_Rule_leading : PySem.W.findCls K (.ref CRule) (.type "type") "leading" = some (.get (.builtin "classmethod.__get__") (.ref p_Rule_leading) .none (.ref CRule)))
    (rr_Rule_leading : PySem.W.recIn K p_Rule_leading "classmethod" = some (.ref f_Rule_leading :: r_Rule_leading))
    (fi_Rule_leading : PySem.W.fnIn K f_Rule_leading = true)
    (lk_Rule_leading : K.lookup f_Rule_leading = some ⟨oc_Rule_leading, od_Rule_leading, .func (PySem.W.fnOf "leading" "Rule.leading" (defArgs sRule_leading) (defBody sRule_leading) (defScope sRule_leading) (.ref T_Rule_leading) (.ref D_Rule_leading) dc_Rule_leading pm_Rule_leading an_Rule_leading cd_Rule_leading ct_Rule_leading), sl_Rule_leading⟩)
    (cq_Rule_leading : PySem.W.codeIn K cd_Rule_leading "Rule.leading" = true)
    (k_Rule_leading : PySem.W.keepIn K (.ref f_Rule_leading) = true)
    (lT_Rule_leading : K.lookup T_Rule_leading = some ⟨ocT_Rule_leading, odT_Rule_leading, .seq #[.int 1 tD_Rule_leading0] nT_Rule_leading, slT_Rule_leading⟩)
    (kw_Rule_leading0 : PySem.W.nsIn K D_Rule_leading "shift" = some (some (.int 0 tK_Rule_leading0)))
    (a_Rule_factors : PySem.W.findIn K (.ref CRule) "factors" = some (some (.ref p_Rule_factors)))
    (g_Rule_factors : PySem.W.specialIn K (.ref p_Rule_factors) "__get__" = some (some (.builtin "property.__get__")))
    (t_Rule_factors : PySem.W.takesIn K (.ref p_Rule_factors) = some true)
    (rr_Rule_factors : PySem.W.recIn K p_Rule_factors "property" = some (.ref f_Rule_factors :: r_Rule_factors))
    (lk_Rule_factors : K.lookup f_Rule_factors = some ⟨oc_Rule_factors, od_Rule_factors, .func (PySem.W.fnOf "factors" "Rule.factors" (defArgs sRule_factors) (defBody sRule_factors) (defScope sRule_factors) .none kV_Rule_factors dc_Rule_factors pm_Rule_factors an_Rule_factors cd_Rule_factors ct_Rule_factors), sl_Rule_factors⟩)
    (cq_Rule_factors : PySem.W.codeIn K cd_Rule_factors "Rule.factors" = true)
    (k_Rule_factors : PySem.W.keepIn K (.ref f_Rule_factors) = true)
    (a_Rule_call : PySem.W.findIn K (.ref CRule) "__call__" = some (some (.ref f_Rule_call)))
    (i_Rule_call : PySem.W.isFn K (.ref f_Rule_call) = true)
    (fi_Rule_call : PySem.W.fnIn K f_Rule_call = true)
    (lk_Rule_call : K.lookup f_Rule_call = some ⟨oc_Rule_call, od_Rule_call, .func (PySem.W.fnOf "__call__" "Rule.__call__" (defArgs sRule_call) (defBody sRule_call) (defScope sRule_call) .none kV_Rule_call dc_Rule_call pm_Rule_call an_Rule_call cd_Rule_call ct_Rule_call), sl_Rule_call⟩)
    (cq_Rule_call : PySem.W.codeIn K cd_Rule_call "Rule.__call__" = true)
    (k_Rule_call : PySem.W.keepIn K (.ref f_Rule_call) = true)
    (a_Rule_mul : PySem.W.findIn K (.ref CRule) "__mul__" = some (some (.ref f_Rule_mul)))
    (i_Rule_mul : PySem.W.isFn K (.ref f_Rule_mul) = true)
    (lk_Rule_mul : K.lookup f_Rule_mul = some ⟨oc_Rule_mul, od_Rule_mul, .func (PySem.W.fnOf "__mul__" "Rule.__mul__" (defArgs sRule_mul) (defBody sRule_mul) (defScope sRule_mul) .none kV_Rule_mul dc_Rule_mul pm_Rule_mul an_Rule_mul cd_Rule_mul ct_Rule_mul), sl_Rule_mul⟩)
    (cq_Rule_mul : PySem.W.codeIn K cd_Rule_mul "Rule.__mul__" = true)
    (k_Rule_mul : PySem.W.keepIn K (.ref f_Rule_mul) = true)
    (a_Rule_len : PySem.W.findIn K (.ref CRule) "__len__" = some (some (.ref f_Rule_len)))
    (i_Rule_len : PySem.W.isFn K (.ref f_Rule_len) = true)
    (lk_Rule_len : K.lookup f_Rule_len = some ⟨oc_Rule_len, od_Rule_len, .func (PySem.W.fnOf "__len__" "Rule.__len__" (defArgs sRule_len) (defBody sRule_len) (defScope sRule_len) .none kV_Rule_len dc_Rule_len pm_Rule_len an_Rule_len cd_Rule_len ct_Rule_len), sl_Rule_len⟩)
    (cq_Rule_len : PySem.W.codeIn K cd_Rule_len "Rule.__len__" = true)
    (k_Rule_len : PySem.W.keepIn K (.ref f_Rule_len) = true)
    (a_Rule_eq : PySem.W.findIn K (.ref CRule) "__eq__" = some (some (.ref f_Rule_eq)))
    (i_Rule_eq : PySem.W.isFn K (.ref f_Rule_eq) = true)
    (lk_Rule_eq : K.lookup f_Rule_eq = some ⟨oc_Rule_eq, od_Rule_eq, .func (PySem.W.fnOf "__eq__" "Rule.__eq__" (defArgs sRule_eq) (defBody sRule_eq) (defScope sRule_eq) .none kV_Rule_eq dc_Rule_eq pm_Rule_eq an_Rule_eq cd_Rule_eq ct_Rule_eq), sl_Rule_eq⟩)
    (cq_Rule_eq : PySem.W.codeIn K cd_Rule_eq "Rule.__eq__" = true)
    (k_Rule_eq : PySem.W.keepIn K (.ref f_Rule_eq) = true)
    (a_start : PySem.W.nsIn K mainGlobals "_law_start" = some (some (.ref f_start)))
    (lk_start : K.lookup f_start = some ⟨oc_start, od_start, .func (PySem.W.fnOf "_law_start" "_law_start" (defArgs sStart) (defBody sStart) (defScope sStart) .none kV_start dc_start pm_start an_start cd_start ct_start), sl_start⟩)
    (cq_start : PySem.W.codeIn K cd_start "_law_start" = true)
    (k_start : PySem.W.keepIn K (.ref f_start) = true)
    (a_take : PySem.W.nsIn K mainGlobals "_law_take" = some (some (.ref f_take)))
    (lk_take : K.lookup f_take = some ⟨oc_take, od_take, .func (PySem.W.fnOf "_law_take" "_law_take" (defArgs sTake) (defBody sTake) (defScope sTake) .none kV_take dc_take pm_take an_take cd_take ct_take), sl_take⟩)
    (cq_take : PySem.W.codeIn K cd_take "_law_take" = true)
    (k_take : PySem.W.keepIn K (.ref f_take) = true)
    (a_Lrecord : PySem.W.nsIn K mainGlobals "_law_record" = some (some (.ref f_Lrecord)))
    (lk_Lrecord : K.lookup f_Lrecord = some ⟨oc_Lrecord, od_Lrecord, .func (PySem.W.fnOf "_law_record" "_law_record" (defArgs l_record) (defBody l_record) (defScope l_record) .none kV_Lrecord dc_Lrecord pm_Lrecord an_Lrecord cd_Lrecord ct_Lrecord), sl_Lrecord⟩)
    (cq_Lrecord : PySem.W.codeIn K cd_Lrecord "_law_record" = true)
    (k_Lrecord : PySem.W.keepIn K (.ref f_Lrecord) = true)
    (a_Llift : PySem.W.nsIn K mainGlobals "_law_lift" = some (some (.ref f_Llift)))
    (lk_Llift : K.lookup f_Llift = some ⟨oc_Llift, od_Llift, .func (PySem.W.fnOf "_law_lift" "_law_lift" (defArgs l_lift) (defBody l_lift) (defScope l_lift) .none kV_Llift dc_Llift pm_Llift an_Llift cd_Llift ct_Llift), sl_Llift⟩)
    (cq_Llift : PySem.W.codeIn K cd_Llift "_law_lift" = true)
    (k_Llift : PySem.W.keepIn K (.ref f_Llift) = true)
    (a_Lentry : PySem.W.nsIn K mainGlobals "_law_entry" = some (some (.ref f_Lentry)))
    (lk_Lentry : K.lookup f_Lentry = some ⟨oc_Lentry, od_Lentry, .func (PySem.W.fnOf "_law_entry" "_law_entry" (defArgs l_entry) (defBody l_entry) (defScope l_entry) .none kV_Lentry dc_Lentry pm_Lentry an_Lentry cd_Lentry ct_Lentry), sl_Lentry⟩)
    (cq_Lentry : PySem.W.codeIn K cd_Lentry "_law_entry" = true)
    (k_Lentry : PySem.W.keepIn K (.ref f_Lentry) = true)
    (a_Lprimes : PySem.W.nsIn K mainGlobals "_law_primes" = some (some (.ref f_Lprimes)))
    (lk_Lprimes : K.lookup f_Lprimes = some ⟨oc_Lprimes, od_Lprimes, .func (PySem.W.fnOf "_law_primes" "_law_primes" (defArgs l_primes) (defBody l_primes) (defScope l_primes) .none kV_Lprimes dc_Lprimes pm_Lprimes an_Lprimes cd_Lprimes ct_Lprimes), sl_Lprimes⟩)
    (cq_Lprimes : PySem.W.codeIn K cd_Lprimes "_law_primes" = true)
    (k_Lprimes : PySem.W.keepIn K (.ref f_Lprimes) = true)
    (a_Lfactor : PySem.W.nsIn K mainGlobals "_law_factor" = some (some (.ref f_Lfactor)))
    (lk_Lfactor : K.lookup f_Lfactor = some ⟨oc_Lfactor, od_Lfactor, .func (PySem.W.fnOf "_law_factor" "_law_factor" (defArgs l_factor) (defBody l_factor) (defScope l_factor) .none kV_Lfactor dc_Lfactor pm_Lfactor an_Lfactor cd_Lfactor ct_Lfactor), sl_Lfactor⟩)
    (cq_Lfactor : PySem.W.codeIn K cd_Lfactor "_law_factor" = true)
    (k_Lfactor : PySem.W.keepIn K (.ref f_Lfactor) = true)
    (a_Lrule : PySem.W.nsIn K mainGlobals "_law_rule" = some (some (.ref f_Lrule)))
    (lk_Lrule : K.lookup f_Lrule = some ⟨oc_Lrule, od_Lrule, .func (PySem.W.fnOf "_law_rule" "_law_rule" (defArgs l_rule) (defBody l_rule) (defScope l_rule) .none kV_Lrule dc_Lrule pm_Lrule an_Lrule cd_Lrule ct_Lrule), sl_Lrule⟩)
    (cq_Lrule : PySem.W.codeIn K cd_Lrule "_law_rule" = true)
    (k_Lrule : PySem.W.keepIn K (.ref f_Lrule) = true)
    (a_Ltimes : PySem.W.nsIn K mainGlobals "_law_times" = some (some (.ref f_Ltimes)))
    (lk_Ltimes : K.lookup f_Ltimes = some ⟨oc_Ltimes, od_Ltimes, .func (PySem.W.fnOf "_law_times" "_law_times" (defArgs l_times) (defBody l_times) (defScope l_times) .none kV_Ltimes dc_Ltimes pm_Ltimes an_Ltimes cd_Ltimes ct_Ltimes), sl_Ltimes⟩)
    (cq_Ltimes : PySem.W.codeIn K cd_Ltimes "_law_times" = true)
    (k_Ltimes : PySem.W.keepIn K (.ref f_Ltimes) = true)
    (a_Lproduct : PySem.W.nsIn K mainGlobals "_law_product" = some (some (.ref f_Lproduct)))
    (lk_Lproduct : K.lookup f_Lproduct = some ⟨oc_Lproduct, od_Lproduct, .func (PySem.W.fnOf "_law_product" "_law_product" (defArgs l_product) (defBody l_product) (defScope l_product) .none kV_Lproduct dc_Lproduct pm_Lproduct an_Lproduct cd_Lproduct ct_Lproduct), sl_Lproduct⟩)
    (cq_Lproduct : PySem.W.codeIn K cd_Lproduct "_law_product" = true)
    (k_Lproduct : PySem.W.keepIn K (.ref f_Lproduct) = true)
    (a_Lrefused : PySem.W.nsIn K mainGlobals "_law_refused" = some (some (.ref f_Lrefused)))
    (lk_Lrefused : K.lookup f_Lrefused = some ⟨oc_Lrefused, od_Lrefused, .func (PySem.W.fnOf "_law_refused" "_law_refused" (defArgs l_refused) (defBody l_refused) (defScope l_refused) .none kV_Lrefused dc_Lrefused pm_Lrefused an_Lrefused cd_Lrefused ct_Lrefused), sl_Lrefused⟩)
    (cq_Lrefused : PySem.W.codeIn K cd_Lrefused "_law_refused" = true)
    (k_Lrefused : PySem.W.keepIn K (.ref f_Lrefused) = true)
    (a_Lnear : PySem.W.nsIn K mainGlobals "_law_near" = some (some (.ref f_Lnear)))
    (lk_Lnear : K.lookup f_Lnear = some ⟨oc_Lnear, od_Lnear, .func (PySem.W.fnOf "_law_near" "_law_near" (defArgs l_near) (defBody l_near) (defScope l_near) .none kV_Lnear dc_Lnear pm_Lnear an_Lnear cd_Lnear ct_Lnear), sl_Lnear⟩)
    (cq_Lnear : PySem.W.codeIn K cd_Lnear "_law_near" = true)
    (k_Lnear : PySem.W.keepIn K (.ref f_Lnear) = true)
    (a_Lagrees : PySem.W.nsIn K mainGlobals "_law_agrees" = some (some (.ref f_Lagrees)))
    (lk_Lagrees : K.lookup f_Lagrees = some ⟨oc_Lagrees, od_Lagrees, .func (PySem.W.fnOf "_law_agrees" "_law_agrees" (defArgs l_agrees) (defBody l_agrees) (defScope l_agrees) .none kV_Lagrees dc_Lagrees pm_Lagrees an_Lagrees cd_Lagrees ct_Lagrees), sl_Lagrees⟩)
    (cq_Lagrees : PySem.W.codeIn K cd_Lagrees "_law_agrees" = true)
    (k_Lagrees : PySem.W.keepIn K (.ref f_Lagrees) = true)
    (a_Lunlike : PySem.W.nsIn K mainGlobals "_law_unlike" = some (some (.ref f_Lunlike)))
    (lk_Lunlike : K.lookup f_Lunlike = some ⟨oc_Lunlike, od_Lunlike, .func (PySem.W.fnOf "_law_unlike" "_law_unlike" (defArgs l_unlike) (defBody l_unlike) (defScope l_unlike) .none kV_Lunlike dc_Lunlike pm_Lunlike an_Lunlike cd_Lunlike ct_Lunlike), sl_Lunlike⟩)
    (cq_Lunlike : PySem.W.codeIn K cd_Lunlike "_law_unlike" = true)
    (k_Lunlike : PySem.W.keepIn K (.ref f_Lunlike) = true)
    (a_law : PySem.W.nsIn K mainGlobals "law" = some (some (.ref f_law)))
    (lk_law : K.lookup f_law = some ⟨oc_law, od_law, .func (PySem.W.fnOf "law" "law" (defArgs sLaw) (defBody sLaw) (defScope sLaw) .none kV_law dc_law pm_law an_law cd_law ct_law), sl_law⟩)
    (cq_law : PySem.W.codeIn K cd_law "law" = true)
    (k_law : PySem.W.keepIn K (.ref f_law) = true)
    (co_REMAINDER : PySem.W.nsIn K mainGlobals "REMAINDER" = some (some (.str "remainder" tc0)))
    (co_LAST_FIGURE : PySem.W.nsIn K mainGlobals "LAST_FIGURE" = some (some (.str "last figure" tc1)))
    (co_LEADING : PySem.W.nsIn K mainGlobals "LEADING" = some (some (.str "leading" tc2)))
    (co_MOST_BITS : PySem.W.nsIn K mainGlobals "MOST_BITS" = some (some (.int 8 tc3)))
    (co_MOST_LENGTHS : PySem.W.nsIn K mainGlobals "MOST_LENGTHS" = some (some (.int 6 tc4)))
    (co_MOST_FACTORS : PySem.W.nsIn K mainGlobals "MOST_FACTORS" = some (some (.int 12 tc5)))
    (z_len : PySem.W.nsIn K mainGlobals "len" = some none)
    (z_int : PySem.W.nsIn K mainGlobals "int" = some none)
    (z_abs : PySem.W.nsIn K mainGlobals "abs" = some none)
    (z_max : PySem.W.nsIn K mainGlobals "max" = some none)
    (z_min : PySem.W.nsIn K mainGlobals "min" = some none)
    (z_sum : PySem.W.nsIn K mainGlobals "sum" = some none)
    (z_any : PySem.W.nsIn K mainGlobals "any" = some none)
    (z_all : PySem.W.nsIn K mainGlobals "all" = some none)
    (z_tuple : PySem.W.nsIn K mainGlobals "tuple" = some none)
    (z_list : PySem.W.nsIn K mainGlobals "list" = some none)
    (z_dict : PySem.W.nsIn K mainGlobals "dict" = some none)
    (z_set : PySem.W.nsIn K mainGlobals "set" = some none)
    (z_str : PySem.W.nsIn K mainGlobals "str" = some none)
    (z_bool : PySem.W.nsIn K mainGlobals "bool" = some none)
    (z_range : PySem.W.nsIn K mainGlobals "range" = some none)
    (z_enumerate : PySem.W.nsIn K mainGlobals "enumerate" = some none)
    (z_zip : PySem.W.nsIn K mainGlobals "zip" = some none)
    (z_sorted : PySem.W.nsIn K mainGlobals "sorted" = some none)
    (z_isinstance : PySem.W.nsIn K mainGlobals "isinstance" = some none)
    (z_divmod : PySem.W.nsIn K mainGlobals "divmod" = some none) :
    ∃ fd : FuncData, (∀ (s : Shared) (v : Value), BindsTo s fd ⟨[v], []⟩ [("_law_script", v)]) ∧ ∀ base : Heap, K.In base → base.Ns mainGlobals mg → FnOk l.prog w K mg base CX0 8 fa fd ["_law_script"] (OZ.spLaw K) := by
  have e := hfa.symm.trans (PySem.W.mg_of X G a_law)
  cases e
  have cl_CRule : Cls K CRule := ⟨pg_CRule, hd_CRule, po_CRule, sa_CRule⟩
  have mC_CRule : mg "Rule" = some (.ref CRule) := PySem.W.mg_of X G aC_CRule
  have cr_CRule : ClX.CRead K CRule (.type "type") := ⟨rd_CRule, ga_CRule⟩
  have ty_CRule : OZ.TyC K CRule := ⟨cl_CRule, hc_CRule, gn, gt, hm_CRule⟩
  have kit_0 : OZ.KitG K (.ref CRule) (.ref CRule) true := OZ.kit_self _
  have teOORge : PySem.W.exmOne K (.ref COORge) (.ref COORge) = some true := PySem.W.exm_ref exOORge ehOORge etOORge euOORge
  have xfOORge : XfC K COORge := ⟨egOORge, eGOORge, exOORge, ehOORge⟩
  have mEOORge : mg "OutOfRange" = some (.ref COORge) := PySem.W.mg_of X G eaOORge
  have UOORge : ErrC K mg "OutOfRange" COORge fOORge "value" := ⟨mEOORge, ⟨⟨nmOORge, qnOORge, NUOORge, bsOORge, _, snOORge, suOORge, abOORge, coOORge, ddOORge, k0OORge, k1OORge, k2OORge, k3OORge, k5OORge, eLOORge, rfl⟩, esOORge, exOORge, etOORge, ekOORge⟩, eiOORge, eTOORge, enOORge, xfOORge, teOORge⟩
  have FOORge := fun_mk (st := sOutOfRange_init) elOORge ecOORge efOORge
  have bOORge := FOORge.binds (ps := ["self", "value"]) fun _ _ _ _ _ _ us hl => match us, hl with | [_, _], _ => rfl
  have teNPme : PySem.W.exmOne K (.ref CNPme) (.ref CNPme) = some true := PySem.W.exm_ref exNPme ehNPme etNPme euNPme
  have xfNPme : XfC K CNPme := ⟨egNPme, eGNPme, exNPme, ehNPme⟩
  have mENPme : mg "NotPrime" = some (.ref CNPme) := PySem.W.mg_of X G eaNPme
  have UNPme : ErrC K mg "NotPrime" CNPme fNPme "value" := ⟨mENPme, ⟨⟨nmNPme, qnNPme, NUNPme, bsNPme, _, snNPme, suNPme, abNPme, coNPme, ddNPme, k0NPme, k1NPme, k2NPme, k3NPme, k5NPme, eLNPme, rfl⟩, esNPme, exNPme, etNPme, ekNPme⟩, eiNPme, eTNPme, enNPme, xfNPme, teNPme⟩
  have FNPme := fun_mk (st := sNotPrime_init) elNPme ecNPme efNPme
  have bNPme := FNPme.binds (ps := ["self", "value"]) fun _ _ _ _ _ _ us hl => match us, hl with | [_, _], _ => rfl
  have teBCnt : PySem.W.exmOne K (.ref CBCnt) (.ref CBCnt) = some true := PySem.W.exm_ref exBCnt ehBCnt etBCnt euBCnt
  have xfBCnt : XfC K CBCnt := ⟨egBCnt, eGBCnt, exBCnt, ehBCnt⟩
  have mEBCnt : mg "BadCount" = some (.ref CBCnt) := PySem.W.mg_of X G eaBCnt
  have UBCnt : ErrC K mg "BadCount" CBCnt fBCnt "count" := ⟨mEBCnt, ⟨⟨nmBCnt, qnBCnt, NUBCnt, bsBCnt, _, snBCnt, suBCnt, abBCnt, coBCnt, ddBCnt, k0BCnt, k1BCnt, k2BCnt, k3BCnt, k5BCnt, eLBCnt, rfl⟩, esBCnt, exBCnt, etBCnt, ekBCnt⟩, eiBCnt, eTBCnt, enBCnt, xfBCnt, teBCnt⟩
  have FBCnt := fun_mk (st := sBadCount_init) elBCnt ecBCnt efBCnt
  have bBCnt := FBCnt.binds (ps := ["self", "count"]) fun _ _ _ _ _ _ us hl => match us, hl with | [_, _], _ => rfl
  have F_is_prime := fun_mk (st := s_is_prime) lk_is_prime cq_is_prime k_is_prime
  have b_is_prime := F_is_prime.binds (ps := ["number"]) fun _ _ _ _ _ _ us hl => match us, hl with | [_], _ => rfl
  have m_is_prime : mg "is_prime" = some (.ref f_is_prime) := PySem.W.mg_of X G a_is_prime
  have F_last_figure := fun_mk (st := s_last_figure) lk_last_figure cq_last_figure k_last_figure
  have b_last_figure := F_last_figure.binds (ps := ["number", "prime"]) fun _ _ _ _ _ _ us hl => match us, hl with | [_, _], _ => rfl
  have m_last_figure : mg "_last_figure" = some (.ref f_last_figure) := PySem.W.mg_of X G a_last_figure
  have F_leading_figures := fun_mk (st := s_leading_figures) lk_leading_figures cq_leading_figures k_leading_figures
  have b_leading_figures := F_leading_figures.binds (ps := ["number", "bits", "modulus"]) fun _ _ _ _ _ _ us hl => match us, hl with | [_, _, _], _ => rfl
  have m_leading_figures : mg "_leading_figures" = some (.ref f_leading_figures) := PySem.W.mg_of X G a_leading_figures
  have F_entry := fun_mk (st := s_entry) lk_entry cq_entry k_entry
  have b_entry := F_entry.binds (ps := ["factor", "record"]) fun _ _ _ _ _ _ us hl => match us, hl with | [_, _], _ => rfl
  have m_entry : mg "_entry" = some (.ref f_entry) := PySem.W.mg_of X G a_entry
  have F_label := fun_mk (st := s_label) lk_label cq_label k_label
  have b_label := F_label.binds (ps := ["factors", "record"]) fun _ _ _ _ _ _ us hl => match us, hl with | [_, _], _ => rfl
  have m_label : mg "_label" = some (.ref f_label) := PySem.W.mg_of X G a_label
  have F_Rule_init := fun_mk (st := sRule_init) lk_Rule_init cq_Rule_init k_Rule_init
  have b_Rule_init := F_Rule_init.binds (ps := ["self", "factors"]) fun _ _ _ _ _ _ us hl => match us, hl with | [_, _], _ => rfl
  have cm_Rule_one_shard : ClX.CMet K CRule (.type "type") "one_shard" p_Rule_one_shard f_Rule_one_shard := ⟨a_Rule_one_shard, ⟨_, rr_Rule_one_shard⟩, fi_Rule_one_shard⟩
  have F_Rule_one_shard := fun_mk (st := sRule_one_shard) lk_Rule_one_shard cq_Rule_one_shard k_Rule_one_shard
  have b_Rule_one_shard := F_Rule_one_shard.binds (ps := ["cls"]) fun _ _ _ _ _ _ us hl => match us, hl with | [_], _ => rfl
  have cm_Rule_remainder : ClX.CMet K CRule (.type "type") "remainder" p_Rule_remainder f_Rule_remainder := ⟨a_Rule_remainder, ⟨_, rr_Rule_remainder⟩, fi_Rule_remainder⟩
  have F_Rule_remainder : FunD K "remainder" "Rule.remainder" (defArgs sRule_remainder) (defBody sRule_remainder) (defScope sRule_remainder) [] [("shift", V.int 0)] f_Rule_remainder _ := ⟨⟨_, _, _, _, _, _, _, _, _, _, rfl, lk_Rule_remainder, cq_Rule_remainder, .inl ⟨rfl, rfl⟩, .inr ⟨_, rfl, fun q hq => by simp only [List.mem_cons, List.not_mem_nil, or_false] at hq; rcases hq with rfl <;> first | exact ⟨_, kw_Rule_remainder0, ⟨_, rfl⟩⟩⟩⟩, k_Rule_remainder⟩
  have cm_Rule_last_figure : ClX.CMet K CRule (.type "type") "last_figure" p_Rule_last_figure f_Rule_last_figure := ⟨a_Rule_last_figure, ⟨_, rr_Rule_last_figure⟩, fi_Rule_last_figure⟩
  have F_Rule_last_figure : FunD K "last_figure" "Rule.last_figure" (defArgs sRule_last_figure) (defBody sRule_last_figure) (defScope sRule_last_figure) [] [("shift", V.int 0)] f_Rule_last_figure _ := ⟨⟨_, _, _, _, _, _, _, _, _, _, rfl, lk_Rule_last_figure, cq_Rule_last_figure, .inl ⟨rfl, rfl⟩, .inr ⟨_, rfl, fun q hq => by simp only [List.mem_cons, List.not_mem_nil, or_false] at hq; rcases hq with rfl <;> first | exact ⟨_, kw_Rule_last_figure0, ⟨_, rfl⟩⟩⟩⟩, k_Rule_last_figure⟩
  have cm_Rule_leading : ClX.CMet K CRule (.type "type") "leading" p_Rule_leading f_Rule_leading := ⟨a_Rule_leading, ⟨_, rr_Rule_leading⟩, fi_Rule_leading⟩
  have F_Rule_leading : FunD K "leading" "Rule.leading" (defArgs sRule_leading) (defBody sRule_leading) (defScope sRule_leading) [V.int 1] [("shift", V.int 0)] f_Rule_leading _ := ⟨⟨_, _, _, _, _, _, _, _, _, _, rfl, lk_Rule_leading, cq_Rule_leading, .inr ⟨by simp, _, _, _, _, rfl, lT_Rule_leading, rfl, .cons ⟨_, rfl⟩ (.nil)⟩, .inr ⟨_, rfl, fun q hq => by simp only [List.mem_cons, List.not_mem_nil, or_false] at hq; rcases hq with rfl <;> first | exact ⟨_, kw_Rule_leading0, ⟨_, rfl⟩⟩⟩⟩, k_Rule_leading⟩
  have F_Rule_factors := fun_mk (st := sRule_factors) lk_Rule_factors cq_Rule_factors k_Rule_factors
  have b_Rule_factors := F_Rule_factors.binds (ps := ["self"]) fun _ _ _ _ _ _ us hl => match us, hl with | [_], _ => rfl
  have F_Rule_call := fun_mk (st := sRule_call) lk_Rule_call cq_Rule_call k_Rule_call
  have b_Rule_call := F_Rule_call.binds (ps := ["self", "record"]) fun _ _ _ _ _ _ us hl => match us, hl with | [_, _], _ => rfl
  have F_Rule_mul := fun_mk (st := sRule_mul) lk_Rule_mul cq_Rule_mul k_Rule_mul
  have b_Rule_mul := F_Rule_mul.binds (ps := ["self", "other"]) fun _ _ _ _ _ _ us hl => match us, hl with | [_, _], _ => rfl
  have F_Rule_len := fun_mk (st := sRule_len) lk_Rule_len cq_Rule_len k_Rule_len
  have b_Rule_len := F_Rule_len.binds (ps := ["self"]) fun _ _ _ _ _ _ us hl => match us, hl with | [_], _ => rfl
  have F_Rule_eq := fun_mk (st := sRule_eq) lk_Rule_eq cq_Rule_eq k_Rule_eq
  have b_Rule_eq := F_Rule_eq.binds (ps := ["self", "other"]) fun _ _ _ _ _ _ us hl => match us, hl with | [_, _], _ => rfl
  have F_start := fun_mk (st := sStart) lk_start cq_start k_start
  have b_start := F_start.binds (ps := ["_law_script"]) fun _ _ _ _ _ _ us hl => match us, hl with | [_], _ => rfl
  have m_start : mg "_law_start" = some (.ref f_start) := PySem.W.mg_of X G a_start
  have F_take := fun_mk (st := sTake) lk_take cq_take k_take
  have b_take := F_take.binds (ps := ["_law_state", "_law_limit"]) fun _ _ _ _ _ _ us hl => match us, hl with | [_, _], _ => rfl
  have m_take : mg "_law_take" = some (.ref f_take) := PySem.W.mg_of X G a_take
  have F_Lrecord := fun_mk (st := l_record) lk_Lrecord cq_Lrecord k_Lrecord
  have b_Lrecord := F_Lrecord.binds (ps := ["_law_state", "_law_lift_here"]) fun _ _ _ _ _ _ us hl => match us, hl with | [_, _], _ => rfl
  have m_Lrecord : mg "_law_record" = some (.ref f_Lrecord) := PySem.W.mg_of X G a_Lrecord
  have F_Llift := fun_mk (st := l_lift) lk_Llift cq_Llift k_Llift
  have b_Llift := F_Llift.binds (ps := ["_law_state"]) fun _ _ _ _ _ _ us hl => match us, hl with | [_], _ => rfl
  have m_Llift : mg "_law_lift" = some (.ref f_Llift) := PySem.W.mg_of X G a_Llift
  have F_Lentry := fun_mk (st := l_entry) lk_Lentry cq_Lentry k_Lentry
  have b_Lentry := F_Lentry.binds (ps := ["_law_factor_here", "_law_record_here"]) fun _ _ _ _ _ _ us hl => match us, hl with | [_, _], _ => rfl
  have m_Lentry : mg "_law_entry" = some (.ref f_Lentry) := PySem.W.mg_of X G a_Lentry
  have F_Lprimes := fun_mk (st := l_primes) lk_Lprimes cq_Lprimes k_Lprimes
  have b_Lprimes := F_Lprimes.binds (ps := []) fun _ _ _ _ _ _ us hl => match us, hl with | [], _ => rfl
  have m_Lprimes : mg "_law_primes" = some (.ref f_Lprimes) := PySem.W.mg_of X G a_Lprimes
  have F_Lfactor := fun_mk (st := l_factor) lk_Lfactor cq_Lfactor k_Lfactor
  have b_Lfactor := F_Lfactor.binds (ps := ["_law_state"]) fun _ _ _ _ _ _ us hl => match us, hl with | [_], _ => rfl
  have m_Lfactor : mg "_law_factor" = some (.ref f_Lfactor) := PySem.W.mg_of X G a_Lfactor
  have F_Lrule := fun_mk (st := l_rule) lk_Lrule cq_Lrule k_Lrule
  have b_Lrule := F_Lrule.binds (ps := ["_law_factor_here"]) fun _ _ _ _ _ _ us hl => match us, hl with | [_], _ => rfl
  have m_Lrule : mg "_law_rule" = some (.ref f_Lrule) := PySem.W.mg_of X G a_Lrule
  have F_Ltimes := fun_mk (st := l_times) lk_Ltimes cq_Ltimes k_Ltimes
  have b_Ltimes := F_Ltimes.binds (ps := ["_law_first", "_law_second"]) fun _ _ _ _ _ _ us hl => match us, hl with | [_, _], _ => rfl
  have m_Ltimes : mg "_law_times" = some (.ref f_Ltimes) := PySem.W.mg_of X G a_Ltimes
  have F_Lproduct := fun_mk (st := l_product) lk_Lproduct cq_Lproduct k_Lproduct
  have b_Lproduct := F_Lproduct.binds (ps := ["_law_factors"]) fun _ _ _ _ _ _ us hl => match us, hl with | [_], _ => rfl
  have m_Lproduct : mg "_law_product" = some (.ref f_Lproduct) := PySem.W.mg_of X G a_Lproduct
  have F_Lrefused := fun_mk (st := l_refused) lk_Lrefused cq_Lrefused k_Lrefused
  have b_Lrefused := F_Lrefused.binds (ps := ["_law_rule_here", "_law_record_here"]) fun _ _ _ _ _ _ us hl => match us, hl with | [_, _], _ => rfl
  have m_Lrefused : mg "_law_refused" = some (.ref f_Lrefused) := PySem.W.mg_of X G a_Lrefused
  have F_Lnear := fun_mk (st := l_near) lk_Lnear cq_Lnear k_Lnear
  have b_Lnear := F_Lnear.binds (ps := ["_law_state", "_law_factor_here"]) fun _ _ _ _ _ _ us hl => match us, hl with | [_, _], _ => rfl
  have m_Lnear : mg "_law_near" = some (.ref f_Lnear) := PySem.W.mg_of X G a_Lnear
  have F_Lagrees := fun_mk (st := l_agrees) lk_Lagrees cq_Lagrees k_Lagrees
  have b_Lagrees := F_Lagrees.binds (ps := ["_law_rule_here", "_law_factors", "_law_records"]) fun _ _ _ _ _ _ us hl => match us, hl with | [_, _, _], _ => rfl
  have m_Lagrees : mg "_law_agrees" = some (.ref f_Lagrees) := PySem.W.mg_of X G a_Lagrees
  have F_Lunlike := fun_mk (st := l_unlike) lk_Lunlike cq_Lunlike k_Lunlike
  have b_Lunlike := F_Lunlike.binds (ps := ["_law_state", "_law_rule_here", "_law_factors"]) fun _ _ _ _ _ _ us hl => match us, hl with | [_, _, _], _ => rfl
  have m_Lunlike : mg "_law_unlike" = some (.ref f_Lunlike) := PySem.W.mg_of X G a_Lunlike
  have F_law := fun_mk (st := sLaw) lk_law cq_law k_law
  have g_REMAINDER : mg "REMAINDER" = some (.str "remainder" tc0) := PySem.W.mg_of X G co_REMAINDER
  have g_LAST_FIGURE : mg "LAST_FIGURE" = some (.str "last figure" tc1) := PySem.W.mg_of X G co_LAST_FIGURE
  have g_LEADING : mg "LEADING" = some (.str "leading" tc2) := PySem.W.mg_of X G co_LEADING
  have g_MOST_BITS : mg "MOST_BITS" = some (.int 8 tc3) := PySem.W.mg_of X G co_MOST_BITS
  have g_MOST_LENGTHS : mg "MOST_LENGTHS" = some (.int 6 tc4) := PySem.W.mg_of X G co_MOST_LENGTHS
  have g_MOST_FACTORS : mg "MOST_FACTORS" = some (.int 12 tc5) := PySem.W.mg_of X G co_MOST_FACTORS
  have mz_len := PySem.W.mg_none_of X G z_len
  have mz_int := PySem.W.mg_none_of X G z_int
  have mz_abs := PySem.W.mg_none_of X G z_abs
  have mz_max := PySem.W.mg_none_of X G z_max
  have mz_min := PySem.W.mg_none_of X G z_min
  have mz_sum := PySem.W.mg_none_of X G z_sum
  have mz_any := PySem.W.mg_none_of X G z_any
  have mz_all := PySem.W.mg_none_of X G z_all
  have mz_tuple := PySem.W.mg_none_of X G z_tuple
  have mz_list := PySem.W.mg_none_of X G z_list
  have mz_dict := PySem.W.mg_none_of X G z_dict
  have mz_set := PySem.W.mg_none_of X G z_set
  have mz_str := PySem.W.mg_none_of X G z_str
  have mz_bool := PySem.W.mg_none_of X G z_bool
  have mz_range := PySem.W.mg_none_of X G z_range
  have mz_enumerate := PySem.W.mg_none_of X G z_enumerate
  have mz_zip := PySem.W.mg_none_of X G z_zip
  have mz_sorted := PySem.W.mg_none_of X G z_sorted
  have mz_isinstance := PySem.W.mg_none_of X G z_isinstance
  have mz_divmod := PySem.W.mg_none_of X G z_divmod
  refine ⟨PySem.W.fnOf "law" "law" (defArgs sLaw) (defBody sLaw) (defScope sLaw) .none kV_law dc_law pm_law an_law cd_law ct_law, fun s v => .of_eq rfl, fun base _ _ => ?_⟩
  have T : OZ.Bn (⟨l.prog, w, K, mg, base⟩ : OZ.Bd) := ⟨mz_len, mz_int, mz_abs, mz_max, mz_min, mz_sum, mz_any, mz_all, mz_tuple, mz_list, mz_dict, mz_set, mz_str, mz_bool, mz_range, mz_enumerate, mz_zip, mz_sorted, mz_isinstance, mz_divmod⟩
  have T0 : Bi mg := ⟨mz_len, mz_int, mz_max, mz_abs⟩
  have EOORge : OZ.ErrG (⟨l.prog, w, K, mg, base⟩ : OZ.Bd) 1 "OutOfRange" COORge "value" := ⟨_, _, _, UOORge, OZ.errInit FOORge c_sOutOfRange_init rfl rfl rfl UOORge, bOORge⟩
  have ENPme : OZ.ErrG (⟨l.prog, w, K, mg, base⟩ : OZ.Bd) 1 "NotPrime" CNPme "value" := ⟨_, _, _, UNPme, OZ.errInit FNPme c_sNotPrime_init rfl rfl rfl UNPme, bNPme⟩
  have EBCnt : OZ.ErrG (⟨l.prog, w, K, mg, base⟩ : OZ.Bd) 1 "BadCount" CBCnt "count" := ⟨_, _, _, UBCnt, OZ.errInit FBCnt c_sBadCount_init rfl rfl rfl UBCnt, bBCnt⟩
  have XOORge : OZ.ErrX (⟨l.prog, w, K, mg, base⟩ : OZ.Bd) COORge "value" := ⟨xfOORge, enOORge⟩
  have XNPme : OZ.ErrX (⟨l.prog, w, K, mg, base⟩ : OZ.Bd) CNPme "value" := ⟨xfNPme, enNPme⟩
  have XBCnt : OZ.ErrX (⟨l.prog, w, K, mg, base⟩ : OZ.Bd) CBCnt "count" := ⟨xfBCnt, enBCnt⟩
  have C_is_prime : OZ.CallG OZ.pureM (⟨l.prog, w, K, mg, base⟩ : OZ.Bd) 1 "is_prime" 1 (FIsP) := ⟨_, m_is_prime, k_is_prime, (by apply isp_ok (B := (⟨l.prog, w, K, mg, base⟩ : OZ.Bd)) F_is_prime b_is_prime <;> first | assumption | rfl)⟩
  have bI_Rule_init := F_Rule_init.binds (ps := ["self", "factors"]) fun _ _ _ _ _ _ us hl => match us, hl with | [_, _], _ => rfl
  have MK_Rule_init : OZ.MakeG OZ.pureM (⟨l.prog, w, K, mg, base⟩ : OZ.Bd) 1 CRule 1 [] (fun ds _ => ds) (FRinit) := ⟨_, _, _, _, fun us _ => us, fun vs _ => vs, 1, ⟨mk_CRule, a_Rule_init, i_Rule_init, kc_CRule⟩, (by apply rinit_ok (B := (⟨l.prog, w, K, mg, base⟩ : OZ.Bd)) F_Rule_init <;> first | assumption | rfl), ⟨fun s us ws Kin l1 l2 => by have := bI_Rule_init s us Kin (by rw [List.append_nil]; exact l1); rw [List.append_nil] at this; exact this, fun a _ => a⟩, fun G x vs zs ds es r1 r2 h1 h2 => ⟨vs, rfl, r1, h1⟩, .inr rfl⟩
  have C_last_figure : OZ.CallG OZ.pureM (⟨l.prog, w, K, mg, base⟩ : OZ.Bd) 1 "_last_figure" 2 (FLast) := ⟨_, m_last_figure, k_last_figure, (by apply last_ok (B := (⟨l.prog, w, K, mg, base⟩ : OZ.Bd)) F_last_figure b_last_figure <;> first | assumption | rfl)⟩
  have C_leading_figures : OZ.CallG OZ.pureM (⟨l.prog, w, K, mg, base⟩ : OZ.Bd) 1 "_leading_figures" 3 (FLeadF) := ⟨_, m_leading_figures, k_leading_figures, (by apply leadf_ok (B := (⟨l.prog, w, K, mg, base⟩ : OZ.Bd)) F_leading_figures b_leading_figures <;> first | assumption | rfl)⟩
  have RO_Rule_remainder : FnOk l.prog w K mg base (L2.CX l.prog w) 3 f_Rule_remainder (PySem.W.fnOf "remainder" "Rule.remainder" (defArgs sRule_remainder) (defBody sRule_remainder) (defScope sRule_remainder) .none (.ref D_Rule_remainder) dc_Rule_remainder pm_Rule_remainder an_Rule_remainder cd_Rule_remainder ct_Rule_remainder) ["cls", "modulus", "shift"] (OZ.spD OZ.pureM K 3 (FRem CRule COORge)) := by apply rem_ok (B := (⟨l.prog, w, K, mg, base⟩ : OZ.Bd)) F_Rule_remainder <;> first | assumption | rfl
  obtain ⟨dsRule_remainder0, vdRule_remainder0, bRule_remainder0⟩ := F_Rule_remainder.binds0 (ps := ["cls", "modulus", "shift"]) 2 (by simp) rfl fun _ _ _ _ _ _ us ks h1 h2 => match us, ks, h1, h2 with | [_, _], [_], _, _ => ⟨_, _, _, _, _, _, rfl, rfl, rfl⟩
  have K_Rule_remainder0 : OZ.ClsG OZ.pureM (⟨l.prog, w, K, mg, base⟩ : OZ.Bd) 3 CRule "remainder" 1 [] (fun ds _ => ds ++ [.int 0]) (FRem CRule COORge) := ⟨_, _, _, cr_CRule, cm_Rule_remainder, OZ.FnK.dflt RO_Rule_remainder (.inr rfl) bRule_remainder0 vdRule_remainder0 (fun G => .cons (.int 0) (.nil)) rfl⟩
  obtain ⟨mvRule_remainder1, kbRule_remainder1⟩ := F_Rule_remainder.kbinds0 (ps := ["cls", "modulus", "shift"]) 2 ["shift"] [] (fun us mv ws => us ++ ws) (by simp) (by simp) (fun r1 r3 r4 => r1.append r4) fun _ _ _ _ _ _ us mv ws h1 h3 h4 => match us, mv, ws, h1, h3, h4 with | [_, _], [], [_], _, _, _ => rfl
  have K_Rule_remainder1 : OZ.ClsG OZ.pureM (⟨l.prog, w, K, mg, base⟩ : OZ.Bd) 3 CRule "remainder" 1 ["shift"] (fun ds es => ds ++ es) (FRem CRule COORge) := ⟨_, _, _, cr_CRule, cm_Rule_remainder, OZ.FnK.kw RO_Rule_remainder (.inr rfl) kbRule_remainder1 fun G vs zs ds es r1 r2 h1 h2 => ⟨r1.append r2, by simp [h1, h2]⟩⟩
  have RO_Rule_last_figure : FnOk l.prog w K mg base (L2.CX l.prog w) 3 f_Rule_last_figure (PySem.W.fnOf "last_figure" "Rule.last_figure" (defArgs sRule_last_figure) (defBody sRule_last_figure) (defScope sRule_last_figure) .none (.ref D_Rule_last_figure) dc_Rule_last_figure pm_Rule_last_figure an_Rule_last_figure cd_Rule_last_figure ct_Rule_last_figure) ["cls", "prime", "shift"] (OZ.spD OZ.pureM K 3 (FLFig CRule CNPme)) := by apply lfm_ok (B := (⟨l.prog, w, K, mg, base⟩ : OZ.Bd)) F_Rule_last_figure <;> first | assumption | rfl
  obtain ⟨dsRule_last_figure0, vdRule_last_figure0, bRule_last_figure0⟩ := F_Rule_last_figure.binds0 (ps := ["cls", "prime", "shift"]) 2 (by simp) rfl fun _ _ _ _ _ _ us ks h1 h2 => match us, ks, h1, h2 with | [_, _], [_], _, _ => ⟨_, _, _, _, _, _, rfl, rfl, rfl⟩
  have K_Rule_last_figure0 : OZ.ClsG OZ.pureM (⟨l.prog, w, K, mg, base⟩ : OZ.Bd) 3 CRule "last_figure" 1 [] (fun ds _ => ds ++ [.int 0]) (FLFig CRule CNPme) := ⟨_, _, _, cr_CRule, cm_Rule_last_figure, OZ.FnK.dflt RO_Rule_last_figure (.inr rfl) bRule_last_figure0 vdRule_last_figure0 (fun G => .cons (.int 0) (.nil)) rfl⟩
  obtain ⟨mvRule_last_figure1, kbRule_last_figure1⟩ := F_Rule_last_figure.kbinds0 (ps := ["cls", "prime", "shift"]) 2 ["shift"] [] (fun us mv ws => us ++ ws) (by simp) (by simp) (fun r1 r3 r4 => r1.append r4) fun _ _ _ _ _ _ us mv ws h1 h3 h4 => match us, mv, ws, h1, h3, h4 with | [_, _], [], [_], _, _, _ => rfl
  have K_Rule_last_figure1 : OZ.ClsG OZ.pureM (⟨l.prog, w, K, mg, base⟩ : OZ.Bd) 3 CRule "last_figure" 1 ["shift"] (fun ds es => ds ++ es) (FLFig CRule CNPme) := ⟨_, _, _, cr_CRule, cm_Rule_last_figure, OZ.FnK.kw RO_Rule_last_figure (.inr rfl) kbRule_last_figure1 fun G vs zs ds es r1 r2 h1 h2 => ⟨r1.append r2, by simp [h1, h2]⟩⟩
  have RO_Rule_leading : FnOk l.prog w K mg base (L2.CX l.prog w) 3 f_Rule_leading (PySem.W.fnOf "leading" "Rule.leading" (defArgs sRule_leading) (defBody sRule_leading) (defScope sRule_leading) (.ref T_Rule_leading) (.ref D_Rule_leading) dc_Rule_leading pm_Rule_leading an_Rule_leading cd_Rule_leading ct_Rule_leading) ["cls", "bits", "modulus", "shift"] (OZ.spD OZ.pureM K 4 (FLead CRule COORge)) := by apply lead_ok (B := (⟨l.prog, w, K, mg, base⟩ : OZ.Bd)) F_Rule_leading <;> first | assumption | rfl
  obtain ⟨dsRule_leading0, vdRule_leading0, bRule_leading0⟩ := F_Rule_leading.binds (ps := ["cls", "bits", "modulus", "shift"]) 2 0 (by simp) (by simp) (fun _ _ _ _ _ _ _ us its ks h1 h2 h3 => match us, its, ks, h1, h2, h3 with | [_, _], [_], [_], _, _, _ => ⟨_, rfl, ⟨_, _, _, _, _, _, rfl, rfl, rfl⟩⟩) (by simp)
  have K_Rule_leading0 : OZ.ClsG OZ.pureM (⟨l.prog, w, K, mg, base⟩ : OZ.Bd) 3 CRule "leading" 1 [] (fun ds _ => ds ++ [.int 1, .int 0]) (FLead CRule COORge) := ⟨_, _, _, cr_CRule, cm_Rule_leading, OZ.FnK.dflt RO_Rule_leading (.inr rfl) bRule_leading0 vdRule_leading0 (fun G => .cons (.int 1) (.cons (.int 0) (.nil))) rfl⟩
  obtain ⟨itsRule_leading1, mvRule_leading1, kbRule_leading1⟩ := F_Rule_leading.kbinds (ps := ["cls", "bits", "modulus", "shift"]) 3 ["shift"] [] (fun us its mv ws => us ++ ws) (by simp) (by simp) (by simp) (fun r1 r2 r3 r4 => r1.append r4) fun _ _ _ _ _ _ _ us its mv ws h1 h2 h3 h4 => match us, its, mv, ws, h1, h2, h3, h4 with | [_, _, _], [_], [], [_], _, _, _, _ => ⟨_, rfl, rfl⟩
  have K_Rule_leading1 : OZ.ClsG OZ.pureM (⟨l.prog, w, K, mg, base⟩ : OZ.Bd) 3 CRule "leading" 2 ["shift"] (fun ds es => ds ++ es) (FLead CRule COORge) := ⟨_, _, _, cr_CRule, cm_Rule_leading, OZ.FnK.kw RO_Rule_leading (.inr rfl) kbRule_leading1 fun G vs zs ds es r1 r2 h1 h2 => ⟨r1.append r2, by simp [h1, h2]⟩⟩
  have RO_Rule_one_shard : OZ.FnG OZ.pureM (⟨l.prog, w, K, mg, base⟩ : OZ.Bd) 3 f_Rule_one_shard 1 (FOne CRule) := by apply one_ok (B := (⟨l.prog, w, K, mg, base⟩ : OZ.Bd)) F_Rule_one_shard b_Rule_one_shard <;> first | assumption | rfl
  have K_Rule_one_shard0 : OZ.ClsG OZ.pureM (⟨l.prog, w, K, mg, base⟩ : OZ.Bd) 3 CRule "one_shard" 0 [] (fun ds _ => ds) (FOne CRule) := ⟨_, _, _, cr_CRule, cm_Rule_one_shard, RO_Rule_one_shard.k⟩
  have S_Rule_mul : OZ.SpecG OZ.pureM (⟨l.prog, w, K, mg, base⟩ : OZ.Bd) 3 CRule "__mul__" 2 (FMul CRule CBCnt) := ⟨_, ⟨a_Rule_mul, i_Rule_mul⟩, (by apply mul_ok (B := (⟨l.prog, w, K, mg, base⟩ : OZ.Bd)) F_Rule_mul b_Rule_mul <;> first | assumption | rfl)⟩
  have Q_Rule_eq : OZ.EqG OZ.pureM (⟨l.prog, w, K, mg, base⟩ : OZ.Bd) 2 CRule (FREq CRule) := ⟨_, (by apply req_ok (B := (⟨l.prog, w, K, mg, base⟩ : OZ.Bd)) F_Rule_eq b_Rule_eq <;> first | assumption | rfl), ⟨⟨a_Rule_eq, i_Rule_eq⟩, qs_CRule, qn_CRule, qo_CRule⟩⟩
  have C_entry : OZ.CallG OZ.pureM (⟨l.prog, w, K, mg, base⟩ : OZ.Bd) 2 "_entry" 2 (FEnt) := ⟨_, m_entry, k_entry, (by apply ent_ok (B := (⟨l.prog, w, K, mg, base⟩ : OZ.Bd)) F_entry b_entry <;> first | assumption | rfl)⟩
  have C_label : OZ.CallG OZ.pureM (⟨l.prog, w, K, mg, base⟩ : OZ.Bd) 4 "_label" 2 (FLab COORge) := ⟨_, m_label, k_label, (by apply lab_ok (B := (⟨l.prog, w, K, mg, base⟩ : OZ.Bd)) F_label b_label <;> first | assumption | rfl)⟩
  have I_Rule_call : OZ.InstG OZ.pureM (⟨l.prog, w, K, mg, base⟩ : OZ.Bd) 5 CRule 1 (FCall CRule COORge) := ⟨_, ⟨a_Rule_call, i_Rule_call, fi_Rule_call⟩, OZ.FnG.k (by apply rcall_ok (B := (⟨l.prog, w, K, mg, base⟩ : OZ.Bd)) F_Rule_call b_Rule_call <;> first | assumption | rfl)⟩
  have S_Rule_len : OZ.SpecG OZ.pureM (⟨l.prog, w, K, mg, base⟩ : OZ.Bd) 1 CRule "__len__" 1 (FRLen CRule) := ⟨_, ⟨a_Rule_len, i_Rule_len⟩, (by apply rlen_ok (B := (⟨l.prog, w, K, mg, base⟩ : OZ.Bd)) F_Rule_len b_Rule_len <;> first | assumption | rfl)⟩
  have P_Rule_factors : OZ.PropG OZ.pureM (⟨l.prog, w, K, mg, base⟩ : OZ.Bd) 1 CRule "factors" (FFac CRule) := ⟨_, _, _, _, cl_CRule, ⟨a_Rule_factors, g_Rule_factors, t_Rule_factors, ⟨_, rr_Rule_factors⟩⟩, (by apply rfac_ok (B := (⟨l.prog, w, K, mg, base⟩ : OZ.Bd)) F_Rule_factors <;> first | assumption | rfl), b_Rule_factors⟩
  have C_Lentry : OZ.CallG OZ.pureM (⟨l.prog, w, K, mg, base⟩ : OZ.Bd) 1 "_law_entry" 2 (FLEnt) := ⟨_, m_Lentry, k_Lentry, (by apply lent_ok (B := (⟨l.prog, w, K, mg, base⟩ : OZ.Bd)) F_Lentry b_Lentry <;> first | assumption | rfl)⟩
  have C_Lprimes : OZ.CallG OZ.pureM (⟨l.prog, w, K, mg, base⟩ : OZ.Bd) 1 "_law_primes" 0 (FPrimes) := ⟨_, m_Lprimes, k_Lprimes, (by apply primes_ok (B := (⟨l.prog, w, K, mg, base⟩ : OZ.Bd)) F_Lprimes b_Lprimes <;> first | assumption | rfl)⟩
  have C_Lrule : OZ.CallG OZ.pureM (⟨l.prog, w, K, mg, base⟩ : OZ.Bd) 4 "_law_rule" 1 (FRule CRule) := ⟨_, m_Lrule, k_Lrule, (by apply rule_ok (B := (⟨l.prog, w, K, mg, base⟩ : OZ.Bd)) F_Lrule b_Lrule <;> first | assumption | rfl)⟩
  have C_Ltimes : OZ.CallG OZ.pureM (⟨l.prog, w, K, mg, base⟩ : OZ.Bd) 4 "_law_times" 2 (FTimes CRule) := ⟨_, m_Ltimes, k_Ltimes, (by apply times_ok (B := (⟨l.prog, w, K, mg, base⟩ : OZ.Bd)) F_Ltimes b_Ltimes <;> first | assumption | rfl)⟩
  have C_Lproduct : OZ.CallG OZ.pureM (⟨l.prog, w, K, mg, base⟩ : OZ.Bd) 5 "_law_product" 1 (FProd CRule) := ⟨_, m_Lproduct, k_Lproduct, (by apply prod_ok (B := (⟨l.prog, w, K, mg, base⟩ : OZ.Bd)) F_Lproduct b_Lproduct <;> first | assumption | rfl)⟩
  have C_Lrefused : OZ.CallG OZ.pureM (⟨l.prog, w, K, mg, base⟩ : OZ.Bd) 6 "_law_refused" 2 (FRefused CRule) := ⟨_, m_Lrefused, k_Lrefused, (by apply refused_ok (B := (⟨l.prog, w, K, mg, base⟩ : OZ.Bd)) F_Lrefused b_Lrefused <;> first | assumption | rfl)⟩
  have C_Lagrees : OZ.CallG OZ.pureM (⟨l.prog, w, K, mg, base⟩ : OZ.Bd) 6 "_law_agrees" 3 (FAgrees CRule) := ⟨_, m_Lagrees, k_Lagrees, (by apply agrees_ok (B := (⟨l.prog, w, K, mg, base⟩ : OZ.Bd)) F_Lagrees b_Lagrees <;> first | assumption | rfl)⟩
  have C_take := fun st cl => take_ok (B := (⟨l.prog, w, K, mg, base⟩ : OZ.Bd)) (st := st) (cl := cl) F_take T0 m_take b_take
  have C_Llift : ∀ st cl, OZ.CallG (takeM st cl) (⟨l.prog, w, K, mg, base⟩ : OZ.Bd) 2 "_law_lift" 1 (FLift st) := fun st cl => ⟨_, m_Llift, k_Llift, (by have := C_take st cl; apply lift_ok (B := (⟨l.prog, w, K, mg, base⟩ : OZ.Bd)) F_Llift b_Llift <;> first | assumption | rfl)⟩
  have C_Lrecord : ∀ st cl, OZ.CallG (takeM st cl) (⟨l.prog, w, K, mg, base⟩ : OZ.Bd) 2 "_law_record" 2 (FRec st) := fun st cl => ⟨_, m_Lrecord, k_Lrecord, (by have := C_take st cl; have := C_Llift st cl; apply rec_ok (B := (⟨l.prog, w, K, mg, base⟩ : OZ.Bd)) F_Lrecord b_Lrecord <;> first | assumption | rfl)⟩
  have C_Lfactor : ∀ st cl, OZ.CallG (takeM st cl) (⟨l.prog, w, K, mg, base⟩ : OZ.Bd) 3 "_law_factor" 1 (FFact st) := fun st cl => ⟨_, m_Lfactor, k_Lfactor, (by have := C_take st cl; have := C_Llift st cl; have := C_Lrecord st cl; apply fact_ok (B := (⟨l.prog, w, K, mg, base⟩ : OZ.Bd)) F_Lfactor b_Lfactor <;> first | assumption | rfl)⟩
  have C_Lnear : ∀ st cl, OZ.CallG (takeM st cl) (⟨l.prog, w, K, mg, base⟩ : OZ.Bd) 2 "_law_near" 2 (FNear st) := fun st cl => ⟨_, m_Lnear, k_Lnear, (by have := C_take st cl; have := C_Llift st cl; have := C_Lrecord st cl; have := C_Lfactor st cl; apply near_ok (B := (⟨l.prog, w, K, mg, base⟩ : OZ.Bd)) F_Lnear b_Lnear <;> first | assumption | rfl)⟩
  have C_Lunlike : ∀ st cl, OZ.CallG (takeM st cl) (⟨l.prog, w, K, mg, base⟩ : OZ.Bd) 6 "_law_unlike" 3 (FUnlike CRule st) := fun st cl => ⟨_, m_Lunlike, k_Lunlike, (by have := C_take st cl; have := C_Llift st cl; have := C_Lrecord st cl; have := C_Lfactor st cl; have := C_Lnear st cl; apply unlike_ok (B := (⟨l.prog, w, K, mg, base⟩ : OZ.Bd)) F_Lunlike b_Lunlike <;> first | assumption | rfl)⟩
  apply law_ok (B := (⟨l.prog, w, K, mg, base⟩ : OZ.Bd)) F_law <;> first | assumption | rfl | exact ok_start F_start T0
theorem walk {l : PySem.W.OpenLaw} {q : Program} {loose : List Str} {XP : (Str → Option Value) → Heap → Prop} {YP : World → Heap → Prop} {d : DefRec} {K : Params → PySem.W.Frag} (hn : l.most = some 63) (hdf : d.params.defaults = [])
    (hY : ∀ (w : World) (h : Heap), YP w h → (K w.params).In h)
    (F : ∀ (w : World) (mg : Str → Option Value) (fa : Addr) (h : Heap), (K w.params).In h → h.Ns mainGlobals mg → mg d.name = some (.ref fa) →
      ∃ fd : FuncData, (∀ (s : Shared) (u : Value), BindsTo s fd ⟨[u], []⟩ [("_law_script", u)]) ∧ ∀ base : Heap, (K w.params).In base → base.Ns mainGlobals mg → FnOk l.prog w (K w.params) mg base CX0 8 fa fd ["_law_script"] (OZ.spLaw (K w.params))) :
    PySem.W.WalkO q loose XP YP l.row.toRowW d [] (fun f vs => PySem.call f vs) :=
  L2.walk_of (n := 63) (k := 8) (x := "_law_script") (CX := fun _ => CX0) (sp := fun w => OZ.spLaw (K w.params)) hn (by decide) hdf ⟨rfl, by decide, by decide⟩ hY F (fun _ _ a ns hl _ hS => ⟨a, ns, rfl, hS, hl, fun _ => rfl⟩) fun _ _ _ _ _ z => z
end OS
open PySem PySem.W PyProof.Rows
set_option maxRecDepth 100000 in
set_option maxHeartbeats 0 in
theorem PySem.Challenge.cw_oneshard_k53_whole_products_holds : PySem.Challenge.rw_oneshard_k53_whole_products.Holds := by
  w_on; o_law; k_head; (case hw => w_witness2)
  k_fill
  refine OS.walk (l := PySem.Challenge.rw_oneshard_k53_whole_products) rfl rfl (fun w h Y => PySem.W.kIn_of Y) ?F
  case F =>
    intro w mg fa h KX G hmg
    refine' OS.all_mk KX G hmg ?aC_CRule ?pg_CRule ?hd_CRule ?po_CRule ?sa_CRule ?mk_CRule ?kc_CRule ?nF_CRule_factors ?rd_CRule ?ga_CRule ?qs_CRule ?qn_CRule ?qo_CRule ?hc_CRule ?hm_CRule ?gn ?gt ?sf_CRule ?eaOORge ?eLOORge ?esOORge ?exOORge ?etOORge ?ekOORge ?eiOORge ?eTOORge ?enOORge ?egOORge ?eGOORge ?ehOORge ?euOORge ?elOORge ?ecOORge ?efOORge ?eaNPme ?eLNPme ?esNPme ?exNPme ?etNPme ?ekNPme ?eiNPme ?eTNPme ?enNPme ?egNPme ?eGNPme ?ehNPme ?euNPme ?elNPme ?ecNPme ?efNPme ?eaBCnt ?eLBCnt ?esBCnt ?exBCnt ?etBCnt ?ekBCnt ?eiBCnt ?eTBCnt ?enBCnt ?egBCnt ?eGBCnt ?ehBCnt ?euBCnt ?elBCnt ?ecBCnt ?efBCnt ?a_is_prime ?lk_is_prime ?cq_is_prime ?k_is_prime ?a_last_figure ?lk_last_figure ?cq_last_figure ?k_last_figure ?a_leading_figures ?lk_leading_figures ?cq_leading_figures ?k_leading_figures ?a_entry ?lk_entry ?cq_entry ?k_entry ?a_label ?lk_label ?cq_label ?k_label ?a_Rule_init ?i_Rule_init ?lk_Rule_init ?cq_Rule_init ?k_Rule_init ?a_Rule_one_shard ?rr_Rule_one_shard ?fi_Rule_one_shard ?lk_Rule_one_shard ?cq_Rule_one_shard ?k_Rule_one_shard ?a_Rule_remainder ?rr_Rule_remainder ?fi_Rule_remainder ?lk_Rule_remainder ?cq_Rule_remainder ?k_Rule_remainder ?kw_Rule_remainder0 ?a_Rule_last_figure ?rr_Rule_last_figure ?fi_Rule_last_figure ?lk_Rule_last_figure ?cq_Rule_last_figure ?k_Rule_last_figure ?kw_Rule_last_figure0 ?a_Rule_leading ?rr_Rule_leading ?fi_Rule_leading ?lk_Rule_leading ?cq_Rule_leading ?k_Rule_leading ?lT_Rule_leading ?kw_Rule_leading0 ?a_Rule_factors ?g_Rule_factors ?t_Rule_factors ?rr_Rule_factors ?lk_Rule_factors ?cq_Rule_factors ?k_Rule_factors ?a_Rule_call ?i_Rule_call ?fi_Rule_call ?lk_Rule_call ?cq_Rule_call ?k_Rule_call ?a_Rule_mul ?i_Rule_mul ?lk_Rule_mul ?cq_Rule_mul ?k_Rule_mul ?a_Rule_len ?i_Rule_len ?lk_Rule_len ?cq_Rule_len ?k_Rule_len ?a_Rule_eq ?i_Rule_eq ?lk_Rule_eq ?cq_Rule_eq ?k_Rule_eq ?a_start ?lk_start ?cq_start ?k_start ?a_take ?lk_take ?cq_take ?k_take ?a_Lrecord ?lk_Lrecord ?cq_Lrecord ?k_Lrecord ?a_Llift ?lk_Llift ?cq_Llift ?k_Llift ?a_Lentry ?lk_Lentry ?cq_Lentry ?k_Lentry ?a_Lprimes ?lk_Lprimes ?cq_Lprimes ?k_Lprimes ?a_Lfactor ?lk_Lfactor ?cq_Lfactor ?k_Lfactor ?a_Lrule ?lk_Lrule ?cq_Lrule ?k_Lrule ?a_Ltimes ?lk_Ltimes ?cq_Ltimes ?k_Ltimes ?a_Lproduct ?lk_Lproduct ?cq_Lproduct ?k_Lproduct ?a_Lrefused ?lk_Lrefused ?cq_Lrefused ?k_Lrefused ?a_Lnear ?lk_Lnear ?cq_Lnear ?k_Lnear ?a_Lagrees ?lk_Lagrees ?cq_Lagrees ?k_Lagrees ?a_Lunlike ?lk_Lunlike ?cq_Lunlike ?k_Lunlike ?a_law ?lk_law ?cq_law ?k_law ?co_REMAINDER ?co_LAST_FIGURE ?co_LEADING ?co_MOST_BITS ?co_MOST_LENGTHS ?co_MOST_FACTORS ?z_len ?z_int ?z_abs ?z_max ?z_min ?z_sum ?z_any ?z_all ?z_tuple ?z_list ?z_dict ?z_set ?z_str ?z_bool ?z_range ?z_enumerate ?z_zip ?z_sorted ?z_isinstance ?z_divmod
    (case aC_CRule => k_is)
    (case pg_CRule => k_is)
    (case hd_CRule => k_is)
    (case po_CRule => k_is)
    (case sa_CRule => k_is)
    (case mk_CRule => k_is)
    (case kc_CRule => k_is)
    (case nF_CRule_factors => k_is)
    (case rd_CRule => k_is)
    (case ga_CRule => k_is)
    (case qs_CRule => k_is)
    (case qn_CRule => k_is)
    (case qo_CRule => k_is)
    (case hc_CRule => k_is)
    (case hm_CRule => k_is)
    (case gn => k_is)
    (case gt => k_is)
    (case sf_CRule => k_is)
    (case eaOORge => k_is)
    (case eLOORge => k_is)
    (case esOORge => k_is)
    (case exOORge => k_is)
    (case etOORge => k_is)
    (case ekOORge => k_is)
    (case eiOORge => k_is)
    (case eTOORge => k_is)
    (case enOORge => k_is)
    (case egOORge => k_is)
    (case eGOORge => k_is)
    (case ehOORge => k_is)
    (case euOORge => k_is)
    (case elOORge => k_is)
    (case ecOORge => k_is)
    (case efOORge => k_is)
    (case eaNPme => k_is)
    (case eLNPme => k_is)
    (case esNPme => k_is)
    (case exNPme => k_is)
    (case etNPme => k_is)
    (case ekNPme => k_is)
    (case eiNPme => k_is)
    (case eTNPme => k_is)
    (case enNPme => k_is)
    (case egNPme => k_is)
    (case eGNPme => k_is)
    (case ehNPme => k_is)
    (case euNPme => k_is)
    (case elNPme => k_is)
    (case ecNPme => k_is)
    (case efNPme => k_is)
    (case eaBCnt => k_is)
    (case eLBCnt => k_is)
    (case esBCnt => k_is)
    (case exBCnt => k_is)
    (case etBCnt => k_is)
    (case ekBCnt => k_is)
    (case eiBCnt => k_is)
    (case eTBCnt => k_is)
    (case enBCnt => k_is)
    (case egBCnt => k_is)
    (case eGBCnt => k_is)
    (case ehBCnt => k_is)
    (case euBCnt => k_is)
    (case elBCnt => k_is)
    (case ecBCnt => k_is)
    (case efBCnt => k_is)
    (case a_is_prime => k_is)
    (case lk_is_prime => k_is)
    (case cq_is_prime => k_is)
    (case k_is_prime => k_is)
    (case a_last_figure => k_is)
    (case lk_last_figure => k_is)
    (case cq_last_figure => k_is)
    (case k_last_figure => k_is)
    (case a_leading_figures => k_is)
    (case lk_leading_figures => k_is)
    (case cq_leading_figures => k_is)
    (case k_leading_figures => k_is)
    (case a_entry => k_is)
    (case lk_entry => k_is)
    (case cq_entry => k_is)
    (case k_entry => k_is)
    (case a_label => k_is)
    (case lk_label => k_is)
    (case cq_label => k_is)
    (case k_label => k_is)
    (case a_Rule_init => k_is)
    (case i_Rule_init => k_is)
    (case lk_Rule_init => k_is)
    (case cq_Rule_init => k_is)
    (case k_Rule_init => k_is)
    (case a_Rule_one_shard => k_is)
    (case rr_Rule_one_shard => k_is)
    (case fi_Rule_one_shard => k_is)
    (case lk_Rule_one_shard => k_is)
    (case cq_Rule_one_shard => k_is)
    (case k_Rule_one_shard => k_is)
    (case a_Rule_remainder => k_is)
    (case rr_Rule_remainder => k_is)
    (case fi_Rule_remainder => k_is)
    (case lk_Rule_remainder => k_is)
    (case cq_Rule_remainder => k_is)
    (case k_Rule_remainder => k_is)
    (case kw_Rule_remainder0 => k_is)
    (case a_Rule_last_figure => k_is)
    (case rr_Rule_last_figure => k_is)
    (case fi_Rule_last_figure => k_is)
    (case lk_Rule_last_figure => k_is)
    (case cq_Rule_last_figure => k_is)
    (case k_Rule_last_figure => k_is)
    (case kw_Rule_last_figure0 => k_is)
    (case a_Rule_leading => k_is)
    (case rr_Rule_leading => k_is)
    (case fi_Rule_leading => k_is)
    (case lk_Rule_leading => k_is)
    (case cq_Rule_leading => k_is)
    (case k_Rule_leading => k_is)
    (case lT_Rule_leading => k_is)
    (case kw_Rule_leading0 => k_is)
    (case a_Rule_factors => k_is)
    (case g_Rule_factors => k_is)
    (case t_Rule_factors => k_is)
    (case rr_Rule_factors => k_is)
    (case lk_Rule_factors => k_is)
    (case cq_Rule_factors => k_is)
    (case k_Rule_factors => k_is)
    (case a_Rule_call => k_is)
    (case i_Rule_call => k_is)
    (case fi_Rule_call => k_is)
    (case lk_Rule_call => k_is)
    (case cq_Rule_call => k_is)
    (case k_Rule_call => k_is)
    (case a_Rule_mul => k_is)
    (case i_Rule_mul => k_is)
    (case lk_Rule_mul => k_is)
    (case cq_Rule_mul => k_is)
    (case k_Rule_mul => k_is)
    (case a_Rule_len => k_is)
    (case i_Rule_len => k_is)
    (case lk_Rule_len => k_is)
    (case cq_Rule_len => k_is)
    (case k_Rule_len => k_is)
    (case a_Rule_eq => k_is)
    (case i_Rule_eq => k_is)
    (case lk_Rule_eq => k_is)
    (case cq_Rule_eq => k_is)
    (case k_Rule_eq => k_is)
    (case a_start => k_is)
    (case lk_start => k_is)
    (case cq_start => k_is)
    (case k_start => k_is)
    (case a_take => k_is)
    (case lk_take => k_is)
    (case cq_take => k_is)
    (case k_take => k_is)
    (case a_Lrecord => k_is)
    (case lk_Lrecord => k_is)
    (case cq_Lrecord => k_is)
    (case k_Lrecord => k_is)
    (case a_Llift => k_is)
    (case lk_Llift => k_is)
    (case cq_Llift => k_is)
    (case k_Llift => k_is)
    (case a_Lentry => k_is)
    (case lk_Lentry => k_is)
    (case cq_Lentry => k_is)
    (case k_Lentry => k_is)
    (case a_Lprimes => k_is)
    (case lk_Lprimes => k_is)
    (case cq_Lprimes => k_is)
    (case k_Lprimes => k_is)
    (case a_Lfactor => k_is)
    (case lk_Lfactor => k_is)
    (case cq_Lfactor => k_is)
    (case k_Lfactor => k_is)
    (case a_Lrule => k_is)
    (case lk_Lrule => k_is)
    (case cq_Lrule => k_is)
    (case k_Lrule => k_is)
    (case a_Ltimes => k_is)
    (case lk_Ltimes => k_is)
    (case cq_Ltimes => k_is)
    (case k_Ltimes => k_is)
    (case a_Lproduct => k_is)
    (case lk_Lproduct => k_is)
    (case cq_Lproduct => k_is)
    (case k_Lproduct => k_is)
    (case a_Lrefused => k_is)
    (case lk_Lrefused => k_is)
    (case cq_Lrefused => k_is)
    (case k_Lrefused => k_is)
    (case a_Lnear => k_is)
    (case lk_Lnear => k_is)
    (case cq_Lnear => k_is)
    (case k_Lnear => k_is)
    (case a_Lagrees => k_is)
    (case lk_Lagrees => k_is)
    (case cq_Lagrees => k_is)
    (case k_Lagrees => k_is)
    (case a_Lunlike => k_is)
    (case lk_Lunlike => k_is)
    (case cq_Lunlike => k_is)
    (case k_Lunlike => k_is)
    (case a_law => k_is)
    (case lk_law => k_is)
    (case cq_law => k_is)
    (case k_law => k_is)
    (case co_REMAINDER => k_is)
    (case co_LAST_FIGURE => k_is)
    (case co_LEADING => k_is)
    (case co_MOST_BITS => k_is)
    (case co_MOST_LENGTHS => k_is)
    (case co_MOST_FACTORS => k_is)
    (case z_len => k_is)
    (case z_int => k_is)
    (case z_abs => k_is)
    (case z_max => k_is)
    (case z_min => k_is)
    (case z_sum => k_is)
    (case z_any => k_is)
    (case z_all => k_is)
    (case z_tuple => k_is)
    (case z_list => k_is)
    (case z_dict => k_is)
    (case z_set => k_is)
    (case z_str => k_is)
    (case z_bool => k_is)
    (case z_range => k_is)
    (case z_enumerate => k_is)
    (case z_zip => k_is)
    (case z_sorted => k_is)
    (case z_isinstance => k_is)
    (case z_divmod => k_is)
#print axioms PySem.Challenge.cw_oneshard_k53_whole_products_holds

