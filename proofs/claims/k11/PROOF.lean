import PyProof.Rows.All
import Wide.All
import OpenK.AllK
import Wide.FinOn
import HandS.Base
import HandS.Call
import HandS.List
import HandS.Comp
import HandS.Ends
import HandS.Dict
import HandS.Iter
import HandS.Text
import HandS.Words
import HandS.WordsList
import HandS.WordsDict
import HandS.Walk
import HandS.IsInst
import HandS.Defaults
import HandS.Codes
import HandS.More
import HandS.DictComp
import HandS.FStr
import HandS.OwnEq
import HandS.Property
import HandS.Style
import HandS.StrMore
import HandS.Exc
import HandS.ExcOwn
import HandS.ExcInit
import HandS.ExcField
import HandS.ExcIs
import HandS.ExcValue
import HandS.Finally
import HandS.TryOnly
import HandS.TryMany
import HandS.Flow
import HandS.WordsExc
import HandS.Star
import HandS.ClsMeth
import HandS.Wide
import HandS.WideBits
import HandS.Gcd
import HandS.TupAny
import HandS.MakeKw
import HandS.MakeKwOnly
import KE.KCallOwn
import KE.KOpsOwn
import KE.DataEq
import HandS.Zip
import KE.GoesEnum
import KE.GoesMore
import PySem.Challenge.RW_oneshard_k11_line_text_and_holds
set_option Elab.async false
set_option linter.all false
set_option maxRecDepth 100000
set_option maxHeartbeats 2000000
/-! ### data: values without a heap, the world of a run, what is said of a run over data -/
namespace OZ
open PySem L2
inductive Da where
  | non | bl (b : Bool) | int (i : Int) | str (s : Str) | ty (n : String) | ref (a : Addr)
  | tup (ds : List Da) | lst (ds : List Da) | dct (kvs : List (Key × Da)) | obj (C : Addr) (fs : List (Str × Da)) | exc (a dd : Addr) (fs : List (Str × Da))
mutual
inductive Rep (K : PySem.W.Frag) (G : Hp) : V → Da → Prop
  | non : Rep K G .non .non
  | bl (b : Bool) : Rep K G (.bl b) (.bl b)
  | int (i : Int) : Rep K G (.int i) (.int i)
  | str (s : Str) : Rep K G (.str s) (.str s)
  | ty (n : String) : Rep K G (.ty n) (.ty n)
  | ref (a : Addr) : Rep K G (.ref a) (.ref a)
  | tup {a : Addr} {vs : List V} {ds : List Da} : SqT K G a vs → Reps K G vs ds → Rep K G (.ref a) (.tup ds)
  | lst {a : Addr} {vs : List V} {ds : List Da} : G a = some (.lst vs) → Reps K G vs ds → Rep K G (.ref a) (.lst ds)
  | dct {a : Addr} {o : Obj} {kvs : List (Key × V)} {ks : List (Key × Da)} : G a = some (.frz o (.dK kvs)) → RepK K G kvs ks → Rep K G (.ref a) (.dct ks)
  | obj {a C dx : Addr} {vs : List (Str × V)} {fs : List (Str × Da)} : G a = some (.ins C dx vs) → RepF K G vs fs → Rep K G (.ref a) (.obj C fs)
  | exc {a dd : Addr} {vs : List (Str × V)} {fs : List (Str × Da)} : G dd = some (.xd vs) → RepF K G vs fs → Rep K G (.ref a) (.exc a dd fs)
inductive Reps (K : PySem.W.Frag) (G : Hp) : List V → List Da → Prop
  | nil : Reps K G [] []
  | cons {v : V} {d : Da} {vs : List V} {ds : List Da} : Rep K G v d → Reps K G vs ds → Reps K G (v :: vs) (d :: ds)
inductive RepK (K : PySem.W.Frag) (G : Hp) : List (Key × V) → List (Key × Da) → Prop
  | nil : RepK K G [] []
  | cons {k : Key} {v : V} {d : Da} {vs : List (Key × V)} {ds : List (Key × Da)} : Rep K G v d → RepK K G vs ds → RepK K G ((k, v) :: vs) ((k, d) :: ds)
inductive RepF (K : PySem.W.Frag) (G : Hp) : List (Str × V) → List (Str × Da) → Prop
  | nil : RepF K G [] []
  | cons {k : Str} {v : V} {d : Da} {vs : List (Str × V)} {ds : List (Str × Da)} : Rep K G v d → RepF K G vs ds → RepF K G ((k, v) :: vs) ((k, d) :: ds)
end
theorem rd_same {G G' : Hp} {a : Addr} {u : HO} (s : Same G G') (r : Rd G a u) : Rd G' a u := r.elim (fun r => .inl (s _ _ r)) fun ⟨o, r⟩ => .inr ⟨o, s _ _ r⟩
theorem sqL_same {K : PySem.W.Frag} {G G' : Hp} {a : Addr} {xs : List V} (s : Same G G') (h : SqL K G a xs) : SqL K G' a xs := h.elim (fun r => .inl (rd_same s r)) .inr
theorem sqT_same {K : PySem.W.Frag} {G G' : Hp} {a : Addr} {xs : List V} (s : Same G G') (h : SqT K G a xs) : SqT K G' a xs := h.elim (fun r => .inl (rd_same s r)) .inr
mutual
theorem Rep.mono {K : PySem.W.Frag} {G G' : Hp} (s : Same G G') : ∀ {v : V} {d : Da}, Rep K G v d → Rep K G' v d
  | _, _, .non => .non
  | _, _, .bl b => .bl b
  | _, _, .int b => .int b
  | _, _, .str b => .str b
  | _, _, .ty b => .ty b
  | _, _, .ref b => .ref b
  | _, _, .tup h r => .tup (sqT_same s h) (Reps.mono s r)
  | _, _, .lst h r => .lst (s _ _ h) (Reps.mono s r)
  | _, _, .dct h r => .dct (s _ _ h) (RepK.mono s r)
  | _, _, .obj h r => .obj (s _ _ h) (RepF.mono s r)
  | _, _, .exc h r => .exc (s _ _ h) (RepF.mono s r)
theorem Reps.mono {K : PySem.W.Frag} {G G' : Hp} (s : Same G G') : ∀ {v : List V} {d : List Da}, Reps K G v d → Reps K G' v d
  | _, _, .nil => .nil
  | _, _, .cons a b => .cons (Rep.mono s a) (Reps.mono s b)
theorem RepK.mono {K : PySem.W.Frag} {G G' : Hp} (s : Same G G') : ∀ {v : List (Key × V)} {d : List (Key × Da)}, RepK K G v d → RepK K G' v d
  | _, _, .nil => .nil
  | _, _, .cons a b => .cons (Rep.mono s a) (RepK.mono s b)
theorem RepF.mono {K : PySem.W.Frag} {G G' : Hp} (s : Same G G') : ∀ {v : List (Str × V)} {d : List (Str × Da)}, RepF K G v d → RepF K G' v d
  | _, _, .nil => .nil
  | _, _, .cons a b => .cons (Rep.mono s a) (RepF.mono s b)
end
theorem Reps.length {K : PySem.W.Frag} {G : Hp} : ∀ {v : List V} {d : List Da}, Reps K G v d → v.length = d.length
  | _, _, .nil => rfl
  | _, _, .cons _ b => by simp [Reps.length b]
theorem Reps.get {K : PySem.W.Frag} {G : Hp} : ∀ {vs : List V} {ds : List Da} {i : Nat} {d : Da}, Reps K G vs ds → ds[i]? = some d → ∃ v, vs[i]? = some v ∧ Rep K G v d
  | _, _, _, _, .nil, e => by simp at e
  | _, _, 0, _, .cons a _, e => by simp at e; subst e; exact ⟨_, rfl, a⟩
  | _, _, i + 1, d, .cons _ b, e => by
    obtain ⟨v, h1, h2⟩ := Reps.get (i := i) (d := d) b (by simpa using e)
    exact ⟨v, by simpa using h1, h2⟩
theorem Reps.get' {K : PySem.W.Frag} {G : Hp} : ∀ {vs : List V} {ds : List Da} {i : Nat} {v : V}, Reps K G vs ds → vs[i]? = some v → ∃ d, ds[i]? = some d ∧ Rep K G v d
  | _, _, _, _, .nil, e => by simp at e
  | _, _, 0, _, .cons a _, e => by simp at e; subst e; exact ⟨_, rfl, a⟩
  | _, _, i + 1, d, .cons _ b, e => by
    obtain ⟨v, h1, h2⟩ := Reps.get' (i := i) (v := d) b (by simpa using e)
    exact ⟨v, by simpa using h1, h2⟩
theorem Reps.append {K : PySem.W.Frag} {G : Hp} : ∀ {v w : List V} {d e : List Da}, Reps K G v d → Reps K G w e → Reps K G (v ++ w) (d ++ e)
  | _, _, _, _, .nil, r => r
  | _, _, _, _, .cons a b, r => .cons a (Reps.append b r)
theorem Reps.set {K : PySem.W.Frag} {G : Hp} {v : V} {d : Da} (r : Rep K G v d) : ∀ {vs : List V} {ds : List Da} (i : Nat), Reps K G vs ds → Reps K G (vs.set i v) (ds.set i d)
  | _, _, _, .nil => .nil
  | _, _, 0, .cons _ b => .cons r b
  | _, _, i + 1, .cons a b => .cons a (Reps.set r i b)
theorem Reps.take {K : PySem.W.Frag} {G : Hp} : ∀ {vs : List V} {ds : List Da} (n : Nat), Reps K G vs ds → Reps K G (vs.take n) (ds.take n)
  | _, _, 0, _ => .nil
  | _, _, _ + 1, .nil => .nil
  | _, _, n + 1, .cons a b => .cons a (Reps.take n b)
theorem Reps.drop {K : PySem.W.Frag} {G : Hp} : ∀ {vs : List V} {ds : List Da} (n : Nat), Reps K G vs ds → Reps K G (vs.drop n) (ds.drop n)
  | _, _, 0, r => r
  | _, _, _ + 1, .nil => .nil
  | _, _, n + 1, .cons _ b => Reps.drop n b
theorem Reps.rev {K : PySem.W.Frag} {G : Hp} : ∀ {vs : List V} {ds : List Da}, Reps K G vs ds → Reps K G vs.reverse ds.reverse
  | _, _, .nil => .nil
  | _, _, .cons a b => by rw [List.reverse_cons, List.reverse_cons]; exact (Reps.rev b).append (.cons a .nil)
theorem RepF.look {K : PySem.W.Frag} {G : Hp} {f : Str} : ∀ {vs : List (Str × V)} {ds : List (Str × Da)} {d : Da}, RepF K G vs ds → ds.lookup f = some d → ∃ v, vs.lookup f = some v ∧ Rep K G v d
  | _, _, _, .nil, e => by simp [List.lookup] at e
  | _, _, d, .cons (k := k) a b, e => by
    by_cases h : (f == k) = true
    · simp only [List.lookup, h] at e ⊢
      cases e
      exact ⟨_, rfl, a⟩
    · have h : (f == k) = false := by simpa using h
      simp only [List.lookup, h] at e ⊢
      exact RepF.look b e
theorem RepF.lookN {K : PySem.W.Frag} {G : Hp} {f : Str} : ∀ {vs : List (Str × V)} {ds : List (Str × Da)}, RepF K G vs ds → ds.lookup f = none → vs.lookup f = none
  | _, _, .nil, e => rfl
  | _, _, .cons (k := k) a b, e => by
    by_cases h : (f == k) = true
    · simp only [List.lookup, h] at e; cases e
    · have h : (f == k) = false := by simpa using h
      simp only [List.lookup, h] at e ⊢
      exact RepF.lookN b e
theorem Rep.int_inv {K : PySem.W.Frag} {G : Hp} {v : V} {i : Int} (h : Rep K G v (.int i)) : v = .int i := by cases h; rfl
theorem Rep.bl_inv {K : PySem.W.Frag} {G : Hp} {v : V} {i : Bool} (h : Rep K G v (.bl i)) : v = .bl i := by cases h; rfl
theorem Rep.str_inv {K : PySem.W.Frag} {G : Hp} {v : V} {i : Str} (h : Rep K G v (.str i)) : v = .str i := by cases h; rfl
theorem Rep.non_inv {K : PySem.W.Frag} {G : Hp} {v : V} (h : Rep K G v .non) : v = .non := by cases h; rfl
theorem Rep.ref_inv {K : PySem.W.Frag} {G : Hp} {v : V} {a : Addr} (h : Rep K G v (.ref a)) : v = .ref a := by cases h; rfl
theorem Rep.ty_inv {K : PySem.W.Frag} {G : Hp} {v : V} {a : String} (h : Rep K G v (.ty a)) : v = .ty a := by cases h; rfl

theorem Rep.lst_inv {K : PySem.W.Frag} {G : Hp} {v : V} {ds : List Da} (h : Rep K G v (.lst ds)) : ∃ a vs, v = .ref a ∧ G a = some (.lst vs) ∧ Reps K G vs ds := by cases h with | lst q r => exact ⟨_, _, rfl, q, r⟩
theorem Rep.tup_inv {K : PySem.W.Frag} {G : Hp} {v : V} {ds : List Da} (h : Rep K G v (.tup ds)) : ∃ a vs, v = .ref a ∧ SqT K G a vs ∧ Reps K G vs ds := by cases h with | tup q r => exact ⟨_, _, rfl, q, r⟩
theorem Rep.dct_inv {K : PySem.W.Frag} {G : Hp} {v : V} {ds : List (Key × Da)} (h : Rep K G v (.dct ds)) : ∃ a o vs, v = .ref a ∧ G a = some (.frz o (.dK vs)) ∧ RepK K G vs ds := by cases h with | dct q r => exact ⟨_, _, _, rfl, q, r⟩
theorem Rep.obj_inv {K : PySem.W.Frag} {G : Hp} {v : V} {C : Addr} {fs : List (Str × Da)} (h : Rep K G v (.obj C fs)) : ∃ a dx vs, v = .ref a ∧ G a = some (.ins C dx vs) ∧ RepF K G vs fs := by cases h with | obj q r => exact ⟨_, _, _, rfl, q, r⟩

/-- what a law keeps apart: its drawing state, and how often was drawn -/
structure Mode where
  X : Hp → Addr → Prop
  S : Nat → Hp → Prop
  clo : ∀ m H H', S m H → (∀ b o, X H b → H b = some o → H' b = some o) → S m H' ∧ ∀ b, X H' b → X H b
  there : ∀ m H b, S m H → X H b → ∃ o, H b = some o
def pureM : Mode := ⟨fun _ _ => False, fun _ _ => True, fun _ _ _ _ _ => ⟨trivial, fun _ h => h⟩, fun _ _ _ _ h => h.elim⟩
/-- from the entry (data G0 within H0) to now (data G within H) -/
structure Ok (M : Mode) (G0 H0 G H : Hp) (m : Nat) : Prop where
  sub : Same G H
  inv : M.S m H
  off : ∀ b, M.X H b → G b = none
  le : Same G0 G
  keep : ∀ b o, H0 b = some o → ¬ M.X H0 b → H b = some o ∧ ¬ M.X H b
  new : ∀ b o, H0 b = some o → ¬ M.X H0 b → G0 b = none → G b = none
theorem Ok.refl {M : Mode} {G H : Hp} {m : Nat} (s : Same G H) (i : M.S m H) (o : ∀ b, M.X H b → G b = none) : Ok M G H G H m := ⟨s, i, o, Same.refl _, fun _ _ h n => ⟨h, n⟩, fun _ _ _ _ h => h⟩
theorem Ok.here {M : Mode} {G0 H0 G H : Hp} {m : Nat} (a : Ok M G0 H0 G H m) : Ok M G H G H m := .refl a.sub a.inv a.off
theorem Ok.trans {M : Mode} {G0 H0 G H G' H' : Hp} {m m' : Nat} (a : Ok M G0 H0 G H m) (b : Ok M G H G' H' m') : Ok M G0 H0 G' H' m' :=
  ⟨b.sub, b.inv, b.off, a.le.trans b.le, fun c o h n => b.keep c o (a.keep c o h n).1 (a.keep c o h n).2, fun c o h n g => b.new c o (a.keep c o h n).1 (a.keep c o h n).2 (a.new c o h n g)⟩
/-- the same entry, the data known by now -/
theorem Ok.rebase {M : Mode} {G0 H0 G H : Hp} {m : Nat} (a : Ok M G0 H0 G H m) : Ok M G H0 G H m := ⟨a.sub, a.inv, a.off, Same.refl _, a.keep, fun _ _ _ _ g => g⟩
theorem Ok.unbase {M : Mode} {G0 H0 G H G' H' : Hp} {m m' : Nat} (a : Ok M G0 H0 G H m) (b : Ok M G H0 G' H' m') : Ok M G0 H0 G' H' m' := ⟨b.sub, b.inv, b.off, a.le.trans b.le, b.keep, fun c o h n g => b.new c o h n (a.new c o h n g)⟩
theorem sameUp {H : Hp} {p : Addr} {o : HO} (h : H p = none) : Same H (L2.upd H p o) := fun b u e => by
  rw [upd_ne (ne_of_none e h)]; exact e
/-- a new object that is known from now on -/
theorem Ok.alloc {M : Mode} {G0 H0 G H : Hp} {m : Nat} {p : Addr} {o : HO} (a : Ok M G0 H0 G H m) (h : H p = none) : Ok M G H (L2.upd G p o) (L2.upd H p o) m := by
  have hg : G p = none := by
    cases e : G p with
    | none => rfl
    | some u => rw [a.sub _ _ e] at h; cases h
  have nx : ∀ b, M.X H b → b ≠ p := fun b x q => by
    obtain ⟨u, e⟩ := M.there m H b a.inv x
    subst q; rw [e] at h; cases h
  obtain ⟨c1, c2⟩ := M.clo m H (L2.upd H p o) a.inv fun b u x e => by rw [upd_ne (nx b x)]; exact e
  refine ⟨fun b u e => ?_, c1, fun b x => ?_, sameUp hg, fun b u e n => ⟨sameUp h _ _ e, fun x => n (c2 _ x)⟩, fun b u e _ g => ?_⟩
  · by_cases q : b = p
    · subst q; rw [upd_same] at e ⊢; exact e
    · rw [upd_ne q] at e ⊢; exact a.sub _ _ e
  · rw [upd_ne (nx b (c2 _ x))]; exact a.off _ (c2 _ x)
  · rw [upd_ne (ne_of_none e h)]; exact g
/-- a new object of the run's own -/
theorem Ok.allocM {M : Mode} {G0 H0 G H : Hp} {m : Nat} {p : Addr} {o : HO} (a : Ok M G0 H0 G H m) (h : H p = none) : Ok M G H G (L2.upd H p o) m := by
  have nx : ∀ b, M.X H b → b ≠ p := fun b x q => by
    obtain ⟨u, e⟩ := M.there m H b a.inv x
    subst q; rw [e] at h; cases h
  obtain ⟨c1, c2⟩ := M.clo m H (L2.upd H p o) a.inv fun b u x e => by rw [upd_ne (nx b x)]; exact e
  exact ⟨a.sub.trans (sameUp h), c1, fun b x => a.off _ (c2 _ x), Same.refl _, fun b u e n => ⟨sameUp h _ _ e, fun x => n (c2 _ x)⟩, fun b u e _ g => g⟩
/-- an object of the run's own changes -/
theorem Ok.mut {M : Mode} {G0 H0 G H : Hp} {m : Nat} {p : Addr} {o : HO} (a : Ok M G0 H0 G H m) (hg : G p = none) (nx : ¬ M.X H p) (h0 : H0 p = none ∨ M.X H0 p) : Ok M G0 H0 G (L2.upd H p o) m := by
  obtain ⟨c1, c2⟩ := M.clo m H (L2.upd H p o) a.inv fun b u x e => by rw [upd_ne (fun q => nx (by rw [← q]; exact x))]; exact e
  have ne : ∀ b u, H0 b = some u → ¬ M.X H0 b → b ≠ p := fun b u e n q => by
    subst q
    rcases h0 with h | h
    · rw [h] at e; cases e
    · exact n h
  refine ⟨fun b u e => ?_, c1, fun b x => a.off _ (c2 _ x), a.le, fun b u e n => ⟨?_, fun x => (a.keep b u e n).2 (c2 _ x)⟩, a.new⟩
  · rw [upd_ne (fun q => by rw [q, hg] at e; cases e)]; exact a.sub _ _ e
  · rw [upd_ne (ne b u e n)]; exact (a.keep b u e n).1
/-- .. and is known from now on -/
theorem Ok.pub {M : Mode} {G0 H0 G H : Hp} {m : Nat} {p : Addr} {o : HO} (a : Ok M G0 H0 G H m) (hh : H p = some o) (hg : G p = none) (nx : ¬ M.X H p) (h0 : H0 p = none ∨ M.X H0 p) : Ok M G0 H0 (L2.upd G p o) H m := by
  refine ⟨fun b w e => ?_, a.inv, fun b x => ?_, a.le.trans (sameUp hg), a.keep, fun b w e n g => ?_⟩
  · by_cases q : b = p
    · subst q; rw [upd_same] at e; rw [hh]; exact e
    · rw [upd_ne q] at e; exact a.sub _ _ e
  · rw [upd_ne (fun q => nx (by rw [← q]; exact x))]; exact a.off _ x
  · rw [upd_ne (fun q => by
      subst q
      rcases h0 with h | h
      · rw [h] at e; cases e
      · exact n h)]
    exact a.new b w e n g
/-- a pure step within any mode -/
theorem Ok.lift {M : Mode} {G0 H0 G H G' H' : Hp} {m k : Nat} (a : Ok M G0 H0 G H m) (b : Ok pureM G H G' H' k) : Ok M G H G' H' m := by
  obtain ⟨c1, c2⟩ := M.clo m H H' a.inv fun c u x e => (b.keep c u e (fun h => h)).1
  refine ⟨b.sub, c1, fun c x => ?_, b.le, fun c u e n => ⟨(b.keep c u e fun h => h).1, fun x => n (c2 _ x)⟩, fun c u e n g => b.new c u e (fun h => h) g⟩
  obtain ⟨u, e⟩ := M.there m H c a.inv (c2 _ x)
  exact b.new c u e (fun h => h) (a.off _ (c2 _ x))
theorem Ok.toPure {M : Mode} {G0 H0 G H : Hp} {m : Nat} (a : Ok M G0 H0 G H m) : Ok pureM G H G H 0 := .refl a.sub trivial (fun _ h => h.elim)

/-- a slot: empty or of no interest; data; an object of the run's own -/
inductive Sl where
  | un | v (d : Da) | mm (o : Option Addr) (d : Da)
abbrev Sl.m (d : Da) : Sl := .mm none d
def RepM (K : PySem.W.Frag) (G H : Hp) (a : Addr) : Da → Prop
  | .lst ds => ∃ vs, H a = some (.lst vs) ∧ Reps K G vs ds
  | .dct ks => ∃ kvs, H a = some (.dK kvs) ∧ RepK K G kvs ks
  | .obj C fs => ∃ dx vs, H a = some (.ins C dx vs) ∧ RepF K G vs fs
  | _ => False
def RelSl (K : PySem.W.Frag) (M : Mode) (H0 G H : Hp) (o : Option V) : Sl → Prop
  | .un => True
  | .v d => ∃ v, o = some v ∧ Rep K G v d
  | .mm q d => ∃ a, o = some (.ref a) ∧ (∀ x, q = some x → a = x) ∧ G a = none ∧ (H0 a = none ∨ M.X H0 a) ∧ ¬ M.X H a ∧ RepM K G H a d
def Mt (sl : List Sl) (i : Nat) : Prop := ∃ q d, sl[i]? = some (.mm q d)
structure SOk (K : PySem.W.Frag) (M : Mode) (H0 G H : Hp) (σ : L2.St) (sl : List Sl) : Prop where
  rel : Paired (RelSl K M H0 G H) σ sl
  dis : ∀ i j a, Mt sl i → Mt sl j → σ[i]? = some (some (.ref a)) → σ[j]? = some (some (.ref a)) → i = j
theorem RepM.there {K : PySem.W.Frag} {G H : Hp} {a : Addr} {d : Da} (h : RepM K G H a d) : ∃ o, H a = some o := by
  cases d <;> first | exact h.elim | (obtain ⟨_, h, _⟩ := h; exact ⟨_, h⟩) | (obtain ⟨_, _, h, _⟩ := h; exact ⟨_, h⟩)
theorem RepM.step {K : PySem.W.Frag} {G H G' H' : Hp} {a : Addr} {d : Da} (s : Same G G') (e : H' a = H a) (h : RepM K G H a d) : RepM K G' H' a d := by
  cases d with
  | lst ds => obtain ⟨vs, h, r⟩ := h; exact ⟨vs, e.trans h, r.mono s⟩
  | dct ds => obtain ⟨vs, h, r⟩ := h; exact ⟨vs, e.trans h, r.mono s⟩
  | obj C fs => obtain ⟨dx, vs, h, r⟩ := h; exact ⟨dx, vs, e.trans h, r.mono s⟩
  | _ => exact h
theorem RelSl.step {K : PySem.W.Frag} {M : Mode} {H0 G H G' H' : Hp} {m : Nat} {o : Option V} {s : Sl} (b : Ok M G H G' H' m) (h : RelSl K M H0 G H o s) : RelSl K M H0 G' H' o s := by
  cases s with
  | un => trivial
  | v d => obtain ⟨v, e, r⟩ := h; exact ⟨v, e, r.mono b.le⟩
  | mm q d =>
    obtain ⟨a, e, z, g, h0, n, r⟩ := h
    obtain ⟨u, hu⟩ := r.there
    obtain ⟨k1, k2⟩ := b.keep a u hu n
    exact ⟨a, e, z, b.new a u hu n g, h0, k2, r.step b.le (k1.trans hu.symm)⟩
theorem paired_imp {α β : Type} {F F' : α → β → Prop} (h : ∀ a b, F a b → F' a b) : ∀ {xs : List α} {ys : List β}, Paired F xs ys → Paired F' xs ys
  | _, _, .nil => .nil
  | _, _, .cons a b => .cons (h _ _ a) (paired_imp h b)
theorem SOk.step {K : PySem.W.Frag} {M : Mode} {H0 G H G' H' : Hp} {m : Nat} {σ : L2.St} {sl : List Sl} (b : Ok M G H G' H' m) (h : SOk K M H0 G H σ sl) : SOk K M H0 G' H' σ sl :=
  ⟨paired_imp (fun _ _ r => r.step b) h.rel, h.dis⟩
/-- an object that no slot holds changes -/
theorem SOk.upd {K : PySem.W.Frag} {M : Mode} {H0 G H : Hp} {σ : L2.St} {sl : List Sl} {D : Addr} {o : HO} (h : SOk K M H0 G H σ sl) (nx : ∀ b, M.X (L2.upd H D o) b → M.X H b) (f : ∀ i a, Mt sl i → σ[i]? = some (some (.ref a)) → a ≠ D) : SOk K M H0 G (L2.upd H D o) σ sl := by
  refine ⟨?_, h.dis⟩
  have go : ∀ (σ : L2.St) (sl : List Sl), Paired (RelSl K M H0 G H) σ sl → (∀ i a, Mt sl i → σ[i]? = some (some (.ref a)) → a ≠ D) → Paired (RelSl K M H0 G (L2.upd H D o)) σ sl := by
    intro σ sl r
    induction r with
    | nil => intro _; exact .nil
    | cons x y ih =>
      rename_i c s _ _
      intro f
      refine .cons ?_ (ih fun i a ⟨q, d, hd⟩ e => f (i + 1) a ⟨q, d, by simpa using hd⟩ (by simpa using e))
      cases s with
      | un => trivial
      | v d => exact x
      | mm q d =>
        obtain ⟨a, rfl, z, g, h0, n, r⟩ := x
        have ne := f 0 a ⟨q, d, rfl⟩ rfl
        exact ⟨a, rfl, z, g, h0, fun z => n (nx _ z), r.step (Same.refl _) (upd_ne ne)⟩
  exact go σ sl h.rel f
theorem paired_get {α β : Type} {F : α → β → Prop} : ∀ {xs : List α} {ys : List β} {i : Nat} {y : β}, Paired F xs ys → ys[i]? = some y → ∃ x, xs[i]? = some x ∧ F x y
  | _, _, _, _, .nil, e => by simp at e
  | _, _, 0, _, .cons r _, e => by simp at e; subst e; exact ⟨_, rfl, r⟩
  | _, _, i + 1, y, .cons _ t, e => by
    obtain ⟨u, h1, h2⟩ := paired_get (i := i) (y := y) t (by simpa using e)
    exact ⟨u, by simpa using h1, h2⟩
theorem paired_set {α β : Type} {F : α → β → Prop} {x : α} {y : β} (r : F x y) : ∀ {xs : List α} {ys : List β} (i : Nat), Paired F xs ys → Paired F (xs.set i x) (ys.set i y)
  | _, _, _, .nil => .nil
  | _, _, 0, .cons _ t => .cons r t
  | _, _, i + 1, .cons q t => .cons q (paired_set r i t)
/-- a slot set to data -/
theorem SOk.setV {K : PySem.W.Frag} {M : Mode} {H0 G H : Hp} {σ : L2.St} {sl : List Sl} {v : V} {d : Da} (i : Nat) (h : SOk K M H0 G H σ sl) (r : Rep K G v d) : SOk K M H0 G H (σ.set i (some v)) (sl.set i (.v d)) := by
  refine ⟨paired_set ⟨v, rfl, r⟩ i h.rel, fun j k a mj mk ej ek => ?_⟩
  have w : ∀ j, Mt (sl.set i (.v d)) j → j ≠ i ∧ Mt sl j := fun j ⟨e0, e, hj⟩ => by
    by_cases q : i = j
    · subst q
      by_cases l : i < sl.length
      · rw [List.getElem?_set_self l] at hj; cases hj
      · rw [List.getElem?_eq_none (by simpa using l)] at hj; cases hj
    · rw [List.getElem?_set_ne q] at hj; exact ⟨fun z => q z.symm, e0, e, hj⟩
  obtain ⟨nj, mj⟩ := w j mj
  obtain ⟨nk, mk⟩ := w k mk
  rw [List.getElem?_set_ne nj.symm] at ej
  rw [List.getElem?_set_ne nk.symm] at ek
  exact h.dis j k a mj mk ej ek
theorem SOk.setN {K : PySem.W.Frag} {M : Mode} {H0 G H : Hp} {σ : L2.St} {sl : List Sl} {o : Option V} (i : Nat) (h : SOk K M H0 G H σ sl) : SOk K M H0 G H (σ.set i o) (sl.set i .un) := by
  refine ⟨paired_set trivial i h.rel, fun j k a mj mk ej ek => ?_⟩
  have w : ∀ j, Mt (sl.set i .un) j → j ≠ i ∧ Mt sl j := fun j ⟨e0, e, hj⟩ => by
    by_cases q : i = j
    · subst q
      by_cases l : i < sl.length
      · rw [List.getElem?_set_self l] at hj; cases hj
      · rw [List.getElem?_eq_none (by simpa using l)] at hj; cases hj
    · rw [List.getElem?_set_ne q] at hj; exact ⟨fun z => q z.symm, e0, e, hj⟩
  obtain ⟨nj, mj⟩ := w j mj
  obtain ⟨nk, mk⟩ := w k mk
  rw [List.getElem?_set_ne nj.symm] at ej
  rw [List.getElem?_set_ne nk.symm] at ek
  exact h.dis j k a mj mk ej ek
/-- forget what a slot holds -/
theorem SOk.drop {K : PySem.W.Frag} {M : Mode} {H0 G H : Hp} {σ : L2.St} {sl : List Sl} (i : Nat) (h : SOk K M H0 G H σ sl) : SOk K M H0 G H σ (sl.set i .un) := by
  have e : ∀ (σ : L2.St) (sl : List Sl), Paired (RelSl K M H0 G H) σ sl → ∀ i, Paired (RelSl K M H0 G H) σ (sl.set i .un) := by
    intro σ sl r
    induction r with
    | nil => intro i; exact .nil
    | cons a b ih => intro i; cases i with
      | zero => exact .cons trivial b
      | succ i => exact .cons a (ih i)
  refine ⟨e _ _ h.rel i, fun j k a mj mk ej ek => ?_⟩
  have w : ∀ j, Mt (sl.set i .un) j → Mt sl j := fun j ⟨e0, e, hj⟩ => by
    by_cases q : i = j
    · subst q
      by_cases l : i < sl.length
      · rw [List.getElem?_set_self l] at hj; cases hj
      · rw [List.getElem?_eq_none (by simpa using l)] at hj; cases hj
    · rw [List.getElem?_set_ne q] at hj; exact ⟨e0, e, hj⟩
  exact h.dis j k a (w j mj) (w k mk) ej ek
theorem SOk.held {K : PySem.W.Frag} {M : Mode} {H0 G H : Hp} {σ : L2.St} {sl : List Sl} (h : SOk K M H0 G H σ sl) {i : Nat} {a : Addr} (mt : Mt sl i) (e : σ[i]? = some (some (.ref a))) : ∃ u, H a = some u ∧ ¬ M.X H a := by
  obtain ⟨q, d, hd⟩ := mt
  obtain ⟨o, e1, b, rfl, _, _, _, n, r⟩ := paired_get h.rel hd
  rw [e1] at e
  cases e
  obtain ⟨u, hu⟩ := r.there
  exact ⟨u, hu, n⟩
end OZ

/-! ### runs over data: expressions, arguments, tests -/
namespace OZ
open PySem L2 PySem.Spec PyProof.Rows
theorem sq_l {K : PySem.W.Frag} {H : Hp} {a : Addr} {xs : List V} (h : H a = some (.lst xs)) : SqL K H a xs := .inl (.inl h)
theorem sq_t {K : PySem.W.Frag} {H : Hp} {a : Addr} {xs : List V} (h : H a = some (.tup xs)) : SqT K H a xs := .inl (.inl h)
/-- the text that runs: its program, world, written part, names, ground -/
structure Bd where
  P : Program
  w : World
  K : PySem.W.Frag
  mg : Str → Option Value
  base : Heap
def bdOf (X : Cx) : Bd := ⟨X.prog, X.w, X.K, X.mg, X.base⟩
structure Ctx (X : Cx) (N : List Str) (sc : Scope) (B : Bd) : Prop where
  n : X.N = N
  s : X.env.scope = sc
  nd : X.N.Nodup
  b : bdOf X = B
abbrev GlS (sc : Scope) (x : Str) : Prop := sc.names.lookup x = some .globalImplicit
theorem Ctx.gl {X : Cx} {N : List Str} {sc : Scope} {B : Bd} {x : Str} (c : Ctx X N sc B) (h : GlS sc x) : Gl X x := by
  unfold Gl Env.kindOf
  rw [c.s]
  exact h
theorem Ctx.vis {X : Cx} {N : List Str} {sc : Scope} {B : Bd} {x : Str} (c : Ctx X N sc B) (h : Vis sc x) : Vis X.env.scope x := by
  rw [c.s]
  exact h
theorem Ctx.loc {X : Cx} {N : List Str} {sc : Scope} {B : Bd} {x : Str} (c : Ctx X N sc B) (h : Loc sc x) : Loc X.env.scope x := by
  rw [c.s]
  exact h
theorem Ctx.mg {X : Cx} {N : List Str} {sc : Scope} {B : Bd} {x : Str} {o : Option Value} (c : Ctx X N sc B) (h : B.mg x = o) : X.mg x = o := by
  have := c.b
  subst this
  exact h
abbrev Kx := Addr → List (Str × Da) → Nat → Prop
abbrev K0 : Kx := fun _ _ _ => False
def XRep (K : PySem.W.Frag) (G' H' : Hp) (d : Option Addr) (fs : List (Str × Da)) : Prop := (fs = [] ∧ d = none) ∨ ∃ dd vs, d = some dd ∧ G' dd = some (.xd vs) ∧ RepF K G' vs fs
structure Wis (M : Mode) (X : Cx) (KE : Kx) (G H : Hp) (σ : L2.St) (W : WX) : Prop where
  tk : Takes X W
  ex : ∀ C fs d m' G' H', KE C fs m' → Ok M G H G' H' m' → XRep X.K G' H' d fs → W (.ref C) d σ H'
def Post (M : Mode) (K : PySem.W.Frag) (G H : Hp) (P : Da → Nat → Prop) (Q : VK) : Prop := ∀ v d m' G' H', P d m' → Ok M G H G' H' m' → Rep K G' v d → Q v H'
def PostT (M : Mode) (G H : Hp) (P : Bool → Nat → Prop) (Q : Bool → Hp → Prop) : Prop := ∀ b m' G' H', P b m' → Ok M G H G' H' m' → Q b H'
def PostA (M : Mode) (K : PySem.W.Frag) (G H : Hp) (P : List Da → Nat → Prop) (Q : List V → Hp → Prop) : Prop := ∀ vs ds m' G' H', P ds m' → Ok M G H G' H' m' → Reps K G' vs ds → Q vs H'
theorem Wis.step {M : Mode} {X : Cx} {KE : Kx} {G H G' H' : Hp} {σ : L2.St} {W : WX} {m : Nat} (w : Wis M X KE G H σ W) (b : Ok M G H G' H' m) : Wis M X KE G' H' σ W :=
  ⟨w.tk, fun C fs d m' G2 H2 k o x => w.ex C fs d m' G2 H2 k (b.trans o) x⟩
theorem Post.step {M : Mode} {K : PySem.W.Frag} {G H G' H' : Hp} {P : Da → Nat → Prop} {Q : VK} {m : Nat} (w : Post M K G H P Q) (b : Ok M G H G' H' m) : Post M K G' H' P Q := fun v d m' G2 H2 p o r => w v d m' G2 H2 p (b.trans o) r
theorem PostT.step {M : Mode} {G H G' H' : Hp} {P : Bool → Nat → Prop} {Q : Bool → Hp → Prop} {m : Nat} (w : PostT M G H P Q) (b : Ok M G H G' H' m) : PostT M G' H' P Q := fun v m' G2 H2 p o => w v m' G2 H2 p (b.trans o)
theorem PostA.step {M : Mode} {K : PySem.W.Frag} {G H G' H' : Hp} {P : List Da → Nat → Prop} {Q : List V → Hp → Prop} {m : Nat} (w : PostA M K G H P Q) (b : Ok M G H G' H' m) : PostA M K G' H' P Q := fun v d m' G2 H2 p o r => w v d m' G2 H2 p (b.trans o) r

def wpE (X : Cx) (e : Expr) : TE := fun σ H Q => ∀ pins s, Inv X pins σ H s → wpAny (model X.prog X.w) X.A (eval e X.env) (EP X pins σ Q) X.xe s
def wpT (X : Cx) (e : Expr) : TT := fun σ H Q => ∀ pins s, Inv X pins σ H s → wpAny (model X.prog X.w) X.A (isTrue e X.env (eval e X.env)) (TP X pins σ Q) X.xe s
def wpW (X : Cx) (e : Expr) : TT := fun σ H Q => ∀ (whole : Sem Value) pins s, Inv X pins σ H s → wpAny (model X.prog X.w) X.A (isTrue e X.env whole) (TP X pins σ Q) X.xe s
def wpA (X : Cx) (es : List Expr) : TA := fun σ H Q => ∀ (pos : Pos) pins s, Inv X pins σ H s → wpAny (model X.prog X.w) X.A (spliced (backTo pos (starEach es X.env))) (AP X pins σ Q) X.xe s
theorem pe_wp {X : Cx} {e : Expr} : PE X e (wpE X e) := ⟨fun pins s _ _ _ I h => h pins s I⟩
theorem pt_wp {X : Cx} {e : Expr} : PT X e (wpT X e) := ⟨fun pins s _ _ _ I h => h pins s I⟩
theorem pw_wp {X : Cx} {e : Expr} : PW X e (wpW X e) := ⟨fun w pins s _ _ _ I h => h w pins s I⟩
theorem pa_wp {X : Cx} {es : List Expr} : PA X es (wpA X es) := ⟨fun pos pins s _ _ _ I h => h pos pins s I⟩
theorem wpE.of {X : Cx} {e : Expr} {t : TE} {σ : L2.St} {H : Hp} {Q : VK} (p : PE X e t) (h : t σ H Q) : wpE X e σ H Q := fun pins s I => p.run pins s σ H Q I h
theorem wpT.of {X : Cx} {e : Expr} {t : TT} {σ : L2.St} {H : Hp} {Q : Bool → Hp → Prop} (p : PT X e t) (h : t σ H Q) : wpT X e σ H Q := fun pins s I => p.run pins s σ H Q I h
theorem wpW.of {X : Cx} {e : Expr} {t : TT} {σ : L2.St} {H : Hp} {Q : Bool → Hp → Prop} (p : PW X e t) (h : t σ H Q) : wpW X e σ H Q := fun w pins s I => p.run w pins s σ H Q I h
theorem wpA.of {X : Cx} {e : List Expr} {t : TA} {σ : L2.St} {H : Hp} {Q : List V → Hp → Prop} (p : PA X e t) (h : t σ H Q) : wpA X e σ H Q := fun pos pins s I => p.run pos pins s σ H Q I h

section
variable (M : Mode) (X : Cx) (KE : Kx)
def EvD (e : Expr) (sl : List Sl) (P : Da → Nat → Prop) (m : Nat) : Prop :=
  ∀ (G0 H0 G H : Hp) (σ : L2.St) (W : WX) (Q : VK), Ok M G0 H0 G H m → SOk X.K M H0 G H σ sl → Wis M X KE G H σ W → Post M X.K G H P Q → wpE X e σ H Q
def EvA (es : List Expr) (sl : List Sl) (P : List Da → Nat → Prop) (m : Nat) : Prop :=
  ∀ (G0 H0 G H : Hp) (σ : L2.St) (W : WX) (Q : List V → Hp → Prop), Ok M G0 H0 G H m → SOk X.K M H0 G H σ sl → Wis M X KE G H σ W → PostA M X.K G H P Q → wpA X es σ H Q
def EvT (e : Expr) (sl : List Sl) (P : Bool → Nat → Prop) (m : Nat) : Prop :=
  ∀ (G0 H0 G H : Hp) (σ : L2.St) (W : WX) (Q : Bool → Hp → Prop), Ok M G0 H0 G H m → SOk X.K M H0 G H σ sl → Wis M X KE G H σ W → PostT M G H P Q → wpT X e σ H Q
def EvW (e : Expr) (sl : List Sl) (P : Bool → Nat → Prop) (m : Nat) : Prop :=
  ∀ (G0 H0 G H : Hp) (σ : L2.St) (W : WX) (Q : Bool → Hp → Prop), Ok M G0 H0 G H m → SOk X.K M H0 G H σ sl → Wis M X KE G H σ W → PostT M G H P Q → wpW X e σ H Q
/-- a two-place operation on data, a one-place one -/
def OpD (f : Value → Value → Sem Value) (a b : Da) (P : Da → Nat → Prop) (m : Nat) : Prop :=
  ∀ (G H : Hp) (σ : L2.St) (W : WX) (Q : VK) (x y : V), Ok M G H G H m → Wis M X KE G H σ W → Rep X.K G x a → Rep X.K G y b → Post M X.K G H P Q →
    ∀ pins s v u, Inv X pins σ H s → RelV x v → RelV y u → wpAny (model X.prog X.w) X.A (f v u) (EP X pins σ Q) X.xe s
def UnD (f : Value → Sem Value) (a : Da) (P : Da → Nat → Prop) (m : Nat) : Prop :=
  ∀ (G H : Hp) (σ : L2.St) (W : WX) (Q : VK) (x : V), Ok M G H G H m → Wis M X KE G H σ W → Rep X.K G x a → Post M X.K G H P Q →
    ∀ pins s v, Inv X pins σ H s → RelV x v → wpAny (model X.prog X.w) X.A (f v) (EP X pins σ Q) X.xe s
/-- a[b] -/
def IxD (a b : Da) (P : Da → Nat → Prop) (m : Nat) : Prop :=
  ∀ (G H : Hp) (σ : L2.St) (W : WX) (Q : VK) (x y : V), Ok M G H G H m → Wis M X KE G H σ W → Rep X.K G x a → Rep X.K G y b → Post M X.K G H P Q →
    ∀ (ve se : Expr) pins s v u, Inv X pins σ H s → RelV x v → RelV y u → subscripted se false v u = operate [v, u] (getItem v u) → wpAny (model X.prog X.w) X.A (subscriptTail ve se v u) (EP X pins σ Q) X.xe s
end
section
variable {M : Mode} {X : Cx} {KE : Kx} {a b c e : Expr} {es : List Expr} {sl : List Sl} {P : Da → Nat → Prop} {PT' : Bool → Nat → Prop} {PA' : List Da → Nat → Prop} {m : Nat} {pos : Pos}

theorem OpD.of {f : Value → Value → Sem Value} {r : R2} {x y : Da} (ho : OpR X f r) (h : ∀ G H Q u v, Ok M G H G H m → Rep X.K G u x → Rep X.K G v y → Post M X.K G H P Q → r u v H Q) : OpD M X KE f x y P m :=
  fun G H σ _ Q u v ok _ r1 r2 po pins s v' u' I e1 e2 => ho pins s σ H u v v' u' Q I e1 e2 (h G H Q u v ok r1 r2 po)
theorem UnD.of {f : Value → Sem Value} {r : V → Hp → VK → Prop} {x : Da} (ho : UnR X f r) (h : ∀ G H Q u, Ok M G H G H m → Rep X.K G u x → Post M X.K G H P Q → r u H Q) : UnD M X KE f x P m :=
  fun G H σ _ Q u ok _ r1 po pins s v' I e1 => ho pins s σ H u v' Q I e1 (h G H Q u ok r1 po)
theorem IxD.of {r : R2} {x y : Da} (ho : IxR X r) (h : ∀ G H Q u v, Ok M G H G H m → Rep X.K G u x → Rep X.K G v y → Post M X.K G H P Q → r u v H Q) : IxD M X KE x y P m :=
  fun G H σ _ Q u v ok _ r1 r2 po ve se pins s v' u' I e1 e2 hs => ho ve se pins s σ H u v v' u' Q I e1 e2 (h G H Q u v ok r1 r2 po) hs

theorem evd_imp {P' : Da → Nat → Prop} (h : EvD M X KE e sl P m) (k : ∀ d m', P d m' → P' d m') : EvD M X KE e sl P' m :=
  fun G0 H0 G H σ W Q ok so wi po => h G0 H0 G H σ W Q ok so wi fun v d m' G' H' p o r => po v d m' G' H' (k d m' p) o r
theorem eva_imp {P' : List Da → Nat → Prop} (h : EvA M X KE es sl PA' m) (k : ∀ d m', PA' d m' → P' d m') : EvA M X KE es sl P' m :=
  fun G0 H0 G H σ W Q ok so wi po => h G0 H0 G H σ W Q ok so wi fun v d m' G' H' p o r => po v d m' G' H' (k d m' p) o r
theorem evt_imp {P' : Bool → Nat → Prop} (h : EvT M X KE e sl PT' m) (k : ∀ d m', PT' d m' → P' d m') : EvT M X KE e sl P' m :=
  fun G0 H0 G H σ W Q ok so wi po => h G0 H0 G H σ W Q ok so wi fun d m' G' H' p o => po d m' G' H' (k d m' p) o

/-- the slot of a name -/
inductive EnvAt : List Str → List Sl → Str → Nat → Sl → Prop
  | here {x : Str} {N : List Str} {s : Sl} {sl : List Sl} : EnvAt (x :: N) (s :: sl) x 0 s
  | there {x y : Str} {N : List Str} {s t : Sl} {sl : List Sl} {i : Nat} : EnvAt N sl x i s → EnvAt (y :: N) (t :: sl) x (i + 1) s
theorem EnvAt.name : ∀ {N : List Str} {sl : List Sl} {x : Str} {i : Nat} {s : Sl}, EnvAt N sl x i s → N[i]? = some x
  | _, _, _, _, _, .here => rfl
  | _, _, _, _, _, .there h => by simpa using h.name
theorem EnvAt.slot : ∀ {N : List Str} {sl : List Sl} {x : Str} {i : Nat} {s : Sl}, EnvAt N sl x i s → sl[i]? = some s
  | _, _, _, _, _, .here => rfl
  | _, _, _, _, _, .there h => by simpa using h.slot
/-- the slots behind a store to a name -/
inductive EnvSet : List Str → List Sl → Str → Nat → Sl → List Sl → Prop
  | here {x : Str} {N : List Str} {s t : Sl} {sl : List Sl} : EnvSet (x :: N) (t :: sl) x 0 s (s :: sl)
  | there {x y : Str} {N : List Str} {s t : Sl} {sl sl' : List Sl} {i : Nat} : EnvSet N sl x i s sl' → EnvSet (y :: N) (t :: sl) x (i + 1) s (t :: sl')
theorem EnvSet.name : ∀ {N : List Str} {sl sl' : List Sl} {x : Str} {i : Nat} {s : Sl}, EnvSet N sl x i s sl' → N[i]? = some x
  | _, _, _, _, _, _, .here => rfl
  | _, _, _, _, _, _, .there h => by simpa using h.name
theorem EnvSet.set : ∀ {N : List Str} {sl sl' : List Sl} {x : Str} {i : Nat} {s : Sl}, EnvSet N sl x i s sl' → sl' = sl.set i s
  | _, _, _, _, _, _, .here => rfl
  | _, _, _, _, _, _, .there h => by rw [h.set]; rfl

theorem evd_name {N : List Str} {sc : Scope} {B : Bd} {x : Str} {i : Nat} {d : Da} (cx : Ctx X N sc B) (h : EnvAt N sl x i (.v d)) (k : P d m) (hv : Vis sc x := by with_unfolding_all first | exact Or.inl rfl | exact Or.inr (Or.inl rfl) | exact Or.inr (Or.inr rfl))
    (hd : (x == ("__debug__" : Str)) = false := by with_unfolding_all decide) (hcd : (x == ("__classdict__" : Str)) = false := by with_unfolding_all decide) : EvD M X KE (.Name x pos) sl P m := by
  intro G0 H0 G H σ W Q ok so wi po
  obtain ⟨o, e1, v, rfl, r⟩ := paired_get so.rel h.slot
  exact wpE.of (pe_var (by rw [cx.n]; exact h.name) (cx.vis hv) hd hcd) ⟨v, e1, po v d m G H k ok.here r⟩
theorem evd_int {i : Int} {j : Nat} (k : P (.int i) m) : EvD M X KE (.Constant (.int i) j pos) sl P m := fun _ _ G H _ _ _ ok _ _ po => wpE.of pe_int (po _ _ m G H k ok.here (.int i))
theorem evd_bl {i : Bool} {j : Nat} (k : P (.bl i) m) : EvD M X KE (.Constant (.bool i) j pos) sl P m := fun _ _ G H _ _ _ ok _ _ po => wpE.of pe_bl (po _ _ m G H k ok.here (.bl i))
theorem evd_str {i : Str} {j : Nat} (k : P (.str i) m) : EvD M X KE (.Constant (.str i) j pos) sl P m := fun _ _ G H _ _ _ ok _ _ po => wpE.of pe_str (po _ _ m G H k ok.here (.str i))
theorem evd_non {j : Nat} (k : P .non m) : EvD M X KE (.Constant .none j pos) sl P m := fun _ _ G H _ _ _ ok _ _ po => wpE.of pe_non (po _ _ m G H k ok.here .non)
/-- a class or def of the text, as a value -/
theorem evd_glob {N : List Str} {sc : Scope} {B : Bd} {x : Str} {C : Addr} (cx : Ctx X N sc B) (hm : B.mg x = some (.ref C)) (k : P (.ref C) m) (hg : GlS sc x := by with_unfolding_all rfl) (hd : (x == ("__debug__" : Str)) = false := by with_unfolding_all decide) : EvD M X KE (.Name x pos) sl P m :=
  fun _ _ G H _ _ _ ok _ _ po => wpE.of (pe_glob (v := .ref C) (cx.gl hg) (cx.mg hm) rfl hd) (po _ _ m G H k ok.here (.ref C))
theorem evd_gint {N : List Str} {sc : Scope} {B : Bd} {x : Str} {i : Int} {t : Tok} (cx : Ctx X N sc B) (hm : B.mg x = some (.int i t)) (k : P (.int i) m) (hg : GlS sc x := by with_unfolding_all rfl) (hd : (x == ("__debug__" : Str)) = false := by with_unfolding_all decide) : EvD M X KE (.Name x pos) sl P m :=
  fun _ _ G H _ _ _ ok _ _ po => wpE.of (pe_glob (v := .int i) (cx.gl hg) (cx.mg hm) ⟨t, rfl⟩ hd) (po _ _ m G H k ok.here (.int i))
theorem evd_gstr {N : List Str} {sc : Scope} {B : Bd} {x : Str} {i : Str} {t : Tok} (cx : Ctx X N sc B) (hm : B.mg x = some (.str i t)) (k : P (.str i) m) (hg : GlS sc x := by with_unfolding_all rfl) (hd : (x == ("__debug__" : Str)) = false := by with_unfolding_all decide) : EvD M X KE (.Name x pos) sl P m :=
  fun _ _ G H _ _ _ ok _ _ po => wpE.of (pe_glob (v := .str i) (cx.gl hg) (cx.mg hm) ⟨t, rfl⟩ hd) (po _ _ m G H k ok.here (.str i))
theorem evd_ty {N : List Str} {sc : Scope} {B : Bd} {x : Str} {n : String} (cx : Ctx X N sc B) (hm : B.mg x = none) (k : P (.ty n) m) (hv : bootBuiltins x = some (.type n) := by with_unfolding_all first | rfl | decide +kernel) (hg : GlS sc x := by with_unfolding_all rfl) (hn : x ≠ "__name__" := by with_unfolding_all decide) (hd : (x == ("__debug__" : Str)) = false := by with_unfolding_all decide) : EvD M X KE (.Name x pos) sl P m :=
  fun _ _ G H _ _ _ ok _ _ po => wpE.of (pe_bltn (v := .ty n) (cx.gl hg) (cx.mg hm) hv rfl hn hd) (po _ _ m G H k ok.here (.ty n))

/-- the run, told of what comes -/
theorem EvD.run (h : EvD M X KE e sl P m) {G0 H0 G H : Hp} {σ : L2.St} {W : WX} (ok : Ok M G0 H0 G H m) (so : SOk X.K M H0 G H σ sl) (wi : Wis M X KE G H σ W) {pins : List (Addr × Obj)} {s : Shared} (I : Inv X pins σ H s) {Q : Value → Shared → Prop}
    (k : ∀ u s' v d m' G' H', P d m' → Ok M G0 H0 G' H' m' → Ok M G H G' H' m' → SOk X.K M H0 G' H' σ sl → Wis M X KE G' H' σ W → Rep X.K G' v d → Inv X pins σ H' s' → RelV v u → Q u s') : wpAny (model X.prog X.w) X.A (eval e X.env) Q X.xe s :=
  thn (h G0 H0 G H σ W (fun v H' => ∃ d m' G', P d m' ∧ Ok M G H G' H' m' ∧ Rep X.K G' v d) ok so wi (fun v d m' G' H' p o r => ⟨d, m', G', p, o, r⟩) pins s I)
    fun u s' ⟨v, H', I', rv, d, m', G', p, o, r⟩ => k u s' v d m' G' H' p (ok.trans o) o (so.step o) (wi.step o) r I' rv
theorem EvT.run (h : EvT M X KE e sl PT' m) {G0 H0 G H : Hp} {σ : L2.St} {W : WX} (ok : Ok M G0 H0 G H m) (so : SOk X.K M H0 G H σ sl) (wi : Wis M X KE G H σ W) {pins : List (Addr × Obj)} {s : Shared} (I : Inv X pins σ H s) {Q : Bool → Shared → Prop}
    (k : ∀ b s' m' G' H', PT' b m' → Ok M G0 H0 G' H' m' → Ok M G H G' H' m' → SOk X.K M H0 G' H' σ sl → Wis M X KE G' H' σ W → Inv X pins σ H' s' → Q b s') : wpAny (model X.prog X.w) X.A (isTrue e X.env (eval e X.env)) Q X.xe s :=
  thn (h G0 H0 G H σ W (fun b H' => ∃ m' G', PT' b m' ∧ Ok M G H G' H' m') ok so wi (fun b m' G' H' p o => ⟨m', G', p, o⟩) pins s I)
    fun b s' ⟨H', I', m', G', p, o⟩ => k b s' m' G' H' p (ok.trans o) o (so.step o) (wi.step o) I'
theorem EvA.run (h : EvA M X KE es sl PA' m) {G0 H0 G H : Hp} {σ : L2.St} {W : WX} (ok : Ok M G0 H0 G H m) (so : SOk X.K M H0 G H σ sl) (wi : Wis M X KE G H σ W) {pins : List (Addr × Obj)} {s : Shared} (I : Inv X pins σ H s) {Q : List Value → Shared → Prop}
    (k : ∀ us s' vs ds m' G' H', PA' ds m' → Ok M G0 H0 G' H' m' → Ok M G H G' H' m' → SOk X.K M H0 G' H' σ sl → Wis M X KE G' H' σ W → Reps X.K G' vs ds → Inv X pins σ H' s' → Vals vs us → Q us s') (pos : Pos) : wpAny (model X.prog X.w) X.A (spliced (backTo pos (starEach es X.env))) Q X.xe s :=
  thn (h G0 H0 G H σ W (fun vs H' => ∃ ds m' G', PA' ds m' ∧ Ok M G H G' H' m' ∧ Reps X.K G' vs ds) ok so wi (fun v d m' G' H' p o r => ⟨d, m', G', p, o, r⟩) pos pins s I)
    fun u s' ⟨v, H', I', rv, d, m', G', p, o, r⟩ => k u s' v d m' G' H' p (ok.trans o) o (so.step o) (wi.step o) r I' rv
/-- by the reading of a judgement of the layer -/
theorem wpE.evd {t : TE} (p : PE X e t) {G0 H0 G H : Hp} (h : ∀ σ W Q, Ok M G0 H0 G H m → SOk X.K M H0 G H σ sl → Wis M X KE G H σ W → Post M X.K G H P Q → t σ H Q) : ∀ σ W Q, Ok M G0 H0 G H m → SOk X.K M H0 G H σ sl → Wis M X KE G H σ W → Post M X.K G H P Q → wpE X e σ H Q :=
  fun σ W Q a b c d => wpE.of p (h σ W Q a b c d)

theorem evd_op {op : Operator} (h : EvD M X KE a sl (fun x m1 => EvD M X KE b sl (fun y m2 => OpD M X KE (binaryOp op) x y P m2) m1) m) : EvD M X KE (.BinOp a op b pos) sl P m := by
  intro G0 H0 G H σ W Q ok so wi po pins s I
  refine wpAny_BinOp (h.run ok so wi I fun u s1 v d m1 G1 H1 p1 k1 o1 so1 wi1 r1 I1 rv1 => ?_)
  refine p1.run k1 so1 wi1 I1 fun u2 s2 v2 d2 m2 G2 H2 p2 k2 o2 so2 wi2 r2 I2 rv2 => ?_
  exact p2 G2 H2 σ W Q v v2 k2.here wi2 (r1.mono o2.le) r2 (po.step (o1.trans o2)) pins s2 u u2 I2 rv1 rv2
theorem evd_un {op : UnaryOp} (h : EvD M X KE a sl (fun x m1 => UnD M X KE (unaryOp op) x P m1) m) : EvD M X KE (.UnaryOp op a pos) sl P m := by
  intro G0 H0 G H σ W Q ok so wi po pins s I
  refine UnaryOp_ (h.run ok so wi I fun u s1 v d m1 G1 H1 p1 k1 o1 so1 wi1 r1 I1 rv1 => ?_)
  exact p1 G1 H1 σ W Q v k1.here wi1 r1 (po.step o1) pins s1 u I1 rv1
theorem evd_cmp {op : CmpOp} (h : EvD M X KE a sl (fun x m1 => EvD M X KE b sl (fun y m2 => OpD M X KE (compareOp op) x y P m2) m1) m) (hm : behindInMarks op b = false := by with_unfolding_all first | exact nomark _ | rfl) : EvD M X KE (.Compare a [op] [b] pos) sl P m := by
  intro G0 H0 G H σ W Q ok so wi po pins s I
  refine wpAny_Compare1 (h.run ok so wi I fun u s1 v d m1 G1 H1 p1 k1 o1 so1 wi1 r1 I1 rv1 => ?_) hm
  refine p1.run k1 so1 wi1 I1 fun u2 s2 v2 d2 m2 G2 H2 p2 k2 o2 so2 wi2 r2 I2 rv2 => ?_
  exact p2 G2 H2 σ W Q v v2 k2.here wi2 (r1.mono o2.le) r2 (po.step (o1.trans o2)) pins s2 u u2 I2 rv1 rv2
/-- as tests -/
theorem evt_cmp {op : CmpOp} (h : EvD M X KE a sl (fun x m1 => EvD M X KE b sl (fun y m2 => OpD M X KE (compareOp op) x y (fun z m3 => ∃ k, z = .bl k ∧ PT' k m3) m2) m1) m) (hm : behindInMarks op b = false := by with_unfolding_all first | exact nomark _ | rfl) : EvT M X KE (.Compare a [op] [b] pos) sl PT' m := by
  intro G0 H0 G H σ W Q ok so wi po pins s I
  refine wpAny_isTrue_Compare1 (h.run ok so wi I fun u s1 v d m1 G1 H1 p1 k1 o1 so1 wi1 r1 I1 rv1 => ?_) hm
  refine p1.run k1 so1 wi1 I1 fun u2 s2 v2 d2 m2 G2 H2 p2 k2 o2 so2 wi2 r2 I2 rv2 => ?_
  refine thn (p2 G2 H2 σ W (fun v H' => ∃ k, v = .bl k ∧ Q k H') v v2 k2.here wi2 (r1.mono o2.le) r2 (fun z d3 m3 G3 H3 p3 o3 r3 => ?_) pins s2 u u2 I2 rv1 rv2) fun c s3 ⟨z, H3, I3, r3, k, e, q3⟩ => ?_
  · obtain ⟨k, rfl, p⟩ := p3
    exact ⟨k, r3.bl_inv, po k m3 G3 H3 p ((o1.trans o2).trans o3)⟩
  · subst e
    cases r3
    exact wpAny_truthy_bool ⟨H3, I3, q3⟩
theorem evt_val (h : EvD M X KE e sl (fun z m3 => ∃ k, z = .bl k ∧ PT' k m3) m) (he : ∀ whole, isTrue e X.env whole = (do let v ← whole; standAt e.pos; holding [v] (truthy v)) := by with_unfolding_all (intro _; rfl)) : EvT M X KE e sl PT' m := by
  intro G0 H0 G H σ W Q ok so wi po pins s I
  refine isTrue_plain (h.run ok so wi I fun u s1 v d m1 G1 H1 p1 k1 o1 so1 wi1 r1 I1 rv1 => ?_) (he _)
  obtain ⟨k, rfl, p⟩ := p1
  cases r1.bl_inv
  cases rv1
  exact wpAny_truthy_bool ⟨H1, I1, po k m1 G1 H1 p o1⟩
/-- by truth -/
def DaTru : Da → Bool → Prop
  | .non, k => k = false
  | .bl b, k => k = b
  | .int i, k => k = decide (i ≠ 0)
  | .str y, k => y.length ≤ sizeLine ∧ k = decide (y.length ≠ 0)
  | .lst ds, k => k = !ds.isEmpty
  | .tup ds, k => k = !ds.isEmpty
  | _, _ => False
theorem rep_tru {K : PySem.W.Frag} {G H : Hp} {v : V} {d : Da} {k : Bool} (s : Same G H) (r : Rep K G v d) (h : DaTru d k) : TruV K v H k := by
  cases r with
  | non => exact h
  | bl b => exact h
  | int i => rw [show k = _ from h]; show _ = (i != 0); simp [bne, BEq.beq]
  | str y =>
    refine ⟨h.1, ?_⟩
    rw [h.2]
    by_cases e : y.length = 0
    · simp [e]
    · have e2 : ((y.length : Int) != 0) = true := by simp [bne]; omega
      rw [e2]; simp [e]
  | ty n => exact h.elim
  | ref a => exact h.elim
  | tup q r => exact .inr (.inl ⟨_, sqT_same s q, by rw [show k = _ from h]; cases r <;> rfl⟩)
  | lst q r => exact .inl ⟨_, sq_l (s _ _ q), by rw [show k = _ from h]; cases r <;> rfl⟩
  | dct _ _ => exact h.elim
  | obj _ _ => exact h.elim
  | exc _ _ => exact h.elim
theorem evt_truth (h : EvD M X KE e sl (fun z m3 => ∃ k, DaTru z k ∧ PT' k m3) m) (he : ∀ whole, isTrue e X.env whole = (do let v ← whole; standAt e.pos; holding [v] (truthy v)) := by with_unfolding_all (intro _; rfl)) : EvT M X KE e sl PT' m := by
  intro G0 H0 G H σ W Q ok so wi po
  refine wpT.of (pt_truth (pe_wp) he) ?_
  refine h G0 H0 G H σ W _ ok so wi fun v d m' G' H' p o r => ?_
  obtain ⟨k, t, p⟩ := p
  exact ⟨k, rep_tru o.sub r t, po k m' G' H' p o⟩
theorem evt_not (h : EvT M X KE e sl (fun b m1 => PT' (!b) m1) m) : EvT M X KE (.UnaryOp .Not e pos) sl PT' m := fun G0 H0 G H σ W Q ok so wi po =>
  wpT.of (pt_not pt_wp) (h G0 H0 G H σ W (fun b H' => Q (!b) H') ok so wi fun b m' G' H' p o => po (!b) m' G' H' p o)
theorem evt_w (h : EvW M X KE e sl PT' m) : EvT M X KE e sl PT' m := fun G0 H0 G H σ W Q ok so wi po => wpT.of (PW.pt pw_wp) (h G0 H0 G H σ W Q ok so wi po)
theorem evw_and1 (h : EvT M X KE e sl PT' m) : EvW M X KE (.BoolOp .And [e] pos) sl PT' m := fun G0 H0 G H σ W Q ok so wi po => wpW.of (pw_and1 pt_wp) (h G0 H0 G H σ W Q ok so wi po)
theorem evw_or1 (h : EvT M X KE e sl PT' m) : EvW M X KE (.BoolOp .Or [e] pos) sl PT' m := fun G0 H0 G H σ W Q ok so wi po => wpW.of (pw_or1 pt_wp) (h G0 H0 G H σ W Q ok so wi po)
theorem evw_and (h : EvT M X KE a sl (fun k m1 => if k = true then EvW M X KE (.BoolOp .And (b :: es) pos) sl PT' m1 else PT' false m1) m) : EvW M X KE (.BoolOp .And (a :: b :: es) pos) sl PT' m := fun G0 H0 G H σ W Q ok so wi po =>
  wpW.of (pw_and pt_wp pw_wp) (h G0 H0 G H σ W _ ok so wi fun k m' G' H' p o => by
    cases k with
    | true => exact p G0 H0 G' H' σ W Q (ok.trans o) (so.step o) (wi.step o) (po.step o)
    | false => exact po false m' G' H' p o)
theorem evw_or (h : EvT M X KE a sl (fun k m1 => if k = true then PT' true m1 else EvW M X KE (.BoolOp .Or (b :: es) pos) sl PT' m1) m) : EvW M X KE (.BoolOp .Or (a :: b :: es) pos) sl PT' m := fun G0 H0 G H σ W Q ok so wi po =>
  wpW.of (pw_or pt_wp pw_wp) (h G0 H0 G H σ W _ ok so wi fun k m' G' H' p o => by
    cases k with
    | false => exact p G0 H0 G' H' σ W Q (ok.trans o) (so.step o) (wi.step o) (po.step o)
    | true => exact po true m' G' H' p o)
/-- as values -/
theorem evd_and1 {op : BoolOp} (h : EvD M X KE e sl P m) : EvD M X KE (.BoolOp op [e] pos) sl P m := fun G0 H0 G H σ W Q ok so wi po => wpE.of (pe_one pe_wp) (h G0 H0 G H σ W Q ok so wi po)
theorem evd_and (h : EvD M X KE a sl (fun z m1 => ∃ k, z = .bl k ∧ if k = true then EvD M X KE (.BoolOp .And (b :: es) pos) sl P m1 else P (.bl false) m1) m) : EvD M X KE (.BoolOp .And (a :: b :: es) pos) sl P m := fun G0 H0 G H σ W Q ok so wi po =>
  wpE.of (pe_and pe_wp pe_wp) (h G0 H0 G H σ W _ ok so wi fun v d m' G' H' p o r => by
    obtain ⟨k, rfl, p⟩ := p
    refine ⟨k, r.bl_inv, ?_⟩
    cases k with
    | true => exact p G0 H0 G' H' σ W Q (ok.trans o) (so.step o) (wi.step o) (po.step o)
    | false => exact po _ _ m' G' H' p o (.bl false))
theorem evd_or (h : EvD M X KE a sl (fun z m1 => ∃ k, z = .bl k ∧ if k = true then P (.bl true) m1 else EvD M X KE (.BoolOp .Or (b :: es) pos) sl P m1) m) : EvD M X KE (.BoolOp .Or (a :: b :: es) pos) sl P m := fun G0 H0 G H σ W Q ok so wi po =>
  wpE.of (pe_or pe_wp pe_wp) (h G0 H0 G H σ W _ ok so wi fun v d m' G' H' p o r => by
    obtain ⟨k, rfl, p⟩ := p
    refine ⟨k, r.bl_inv, ?_⟩
    cases k with
    | false => exact p G0 H0 G' H' σ W Q (ok.trans o) (so.step o) (wi.step o) (po.step o)
    | true => exact po _ _ m' G' H' p o (.bl true))
theorem evd_not (h : EvD M X KE a sl (fun z m1 => ∃ k, z = .bl k ∧ P (.bl (!k)) m1) m) : EvD M X KE (.UnaryOp .Not a pos) sl P m := fun G0 H0 G H σ W Q ok so wi po =>
  wpE.of (pe_not pe_wp) (h G0 H0 G H σ W _ ok so wi fun v d m' G' H' p o r => by
    obtain ⟨k, rfl, p⟩ := p
    exact ⟨k, r.bl_inv, po _ _ m' G' H' p o (.bl _)⟩)
theorem evd_notT (h : EvD M X KE a sl (fun z m1 => ∃ k, DaTru z k ∧ P (.bl (!k)) m1) m) : EvD M X KE (.UnaryOp .Not a pos) sl P m := fun G0 H0 G H σ W Q ok so wi po =>
  wpE.of (pe_notT pe_wp) (h G0 H0 G H σ W _ ok so wi fun v d m' G' H' p o r => by
    obtain ⟨k, t, p⟩ := p
    exact ⟨k, rep_tru o.sub r t, po _ _ m' G' H' p o (.bl _)⟩)
theorem evd_if (h : EvT M X KE c sl (fun k m1 => if k = true then EvD M X KE a sl P m1 else EvD M X KE b sl P m1) m) : EvD M X KE (.IfExp c a b pos) sl P m := fun G0 H0 G H σ W Q ok so wi po =>
  wpE.of (pe_ifExp pt_wp pe_wp pe_wp) (h G0 H0 G H σ W _ ok so wi fun k m' G' H' p o => by
    cases k with
    | true => exact p G0 H0 G' H' σ W Q (ok.trans o) (so.step o) (wi.step o) (po.step o)
    | false => exact p G0 H0 G' H' σ W Q (ok.trans o) (so.step o) (wi.step o) (po.step o))
theorem eva_nil (k : PA' [] m) : EvA M X KE [] sl PA' m := fun _ _ G H _ _ _ ok _ _ po => wpA.of pa_nil (po _ _ m G H k ok.here .nil)
theorem eva_cons (h : EvD M X KE e sl (fun d m1 => EvA M X KE es sl (fun ds m2 => PA' (d :: ds) m2) m1) m) (hs : starEach (e :: es) X.env = (false, eval e X.env) :: starEach es X.env := by with_unfolding_all rfl) : EvA M X KE (e :: es) sl PA' m := fun G0 H0 G H σ W Q ok so wi po =>
  wpA.of (pa_cons pe_wp pa_wp hs) (h G0 H0 G H σ W _ ok so wi fun v d m' G' H' p o r => p G0 H0 G' H' σ W _ (ok.trans o) (so.step o) (wi.step o) fun vs ds m2 G2 H2 p2 o2 r2 => po _ _ m2 G2 H2 p2 (o.trans o2) (.cons (r.mono o2.le) r2))
theorem evd_tuple {x1} (h : EvA M X KE es sl (fun ds m1 => ds.length ≤ sizeLine ∧ P (.tup ds) m1) m) : EvD M X KE (.Tuple es x1 pos) sl P m := fun G0 H0 G H σ W Q ok so wi po =>
  wpE.of (pe_tup pa_wp) (h G0 H0 G H σ W _ ok so wi fun vs ds m1 G1 H1 ⟨l, p⟩ o r => ⟨by rw [r.length]; exact l, fun q hq => by
    have al := o.here.alloc (o := .tup vs) hq
    exact po _ _ m1 _ _ p (o.trans al) (.tup (sq_t upd_same) (r.mono al.le))⟩)
theorem evd_list (h : EvA M X KE es sl (fun ds m1 => ds.length ≤ sizeLine ∧ P (.lst ds) m1) m) : EvD M X KE (.List es pos) sl P m := fun G0 H0 G H σ W Q ok so wi po =>
  wpE.of (pe_lst pa_wp) (h G0 H0 G H σ W _ ok so wi fun vs ds m1 G1 H1 ⟨l, p⟩ o r => ⟨by rw [r.length]; exact l, fun q hq => by
    have al := o.here.alloc (o := .lst vs) hq
    exact po _ _ m1 _ _ p (o.trans al) (.lst upd_same (r.mono al.le))⟩)
theorem evd_ix (h : EvD M X KE a sl (fun x m1 => EvD M X KE b sl (fun y m2 => IxD M X KE x y P m2) m1) m) (hs : PlainIx b := by with_unfolding_all (intro _ _; rfl)) : EvD M X KE (.Subscript a b pos) sl P m := by
  intro G0 H0 G H σ W Q ok so wi po pins s I
  refine Subscript_ (h.run ok so wi I fun u s1 v d m1 G1 H1 p1 k1 o1 so1 wi1 r1 I1 rv1 => ?_)
  refine p1.run k1 so1 wi1 I1 fun u2 s2 v2 d2 m2 G2 H2 p2 k2 o2 so2 wi2 r2 I2 rv2 => ?_
  exact p2 G2 H2 σ W Q v v2 k2.here wi2 (r1.mono o2.le) r2 (po.step (o1.trans o2)) a b pins s2 u u2 I2 rv1 rv2 (hs _ _)
end
end OZ

/-! ### operators on data -/
namespace OZ
open PySem L2 PySem.Spec PyProof.Rows
mutual
def toPD : Da → PyData
  | .non => .none | .bl b => .bool b | .int i => .int i | .str s => .str s
  | .tup ds => .tuple (toPDs ds) | .lst ds => .list (toPDs ds)
  | .ty _ => .none | .ref _ => .none | .dct _ => .none | .obj _ _ => .none | .exc _ _ _ => .none
def toPDs : List Da → List PyData
  | [] => [] | d :: ds => toPD d :: toPDs ds
end
mutual
/-- plain data: no objects, all texts within the line of what can be laid -/
def plD : Da → Bool
  | .non => true | .bl _ => true | .int _ => true | .str _ => true
  | .tup ds => plDs ds | .lst ds => plDs ds
  | .ty _ => false | .ref _ => false | .dct _ => false | .obj _ _ => false | .exc _ _ _ => false
def plDs : List Da → Bool
  | [] => true | d :: ds => plD d && plDs ds
end
mutual
def dpt : Da → Nat
  | .tup ds => dpts ds + 1 | .lst ds => dpts ds + 1
  | .non => 0 | .bl _ => 0 | .int _ => 0 | .str _ => 0 | .ty _ => 0 | .ref _ => 0 | .dct _ => 0 | .obj _ _ => 0 | .exc _ _ _ => 0
def dpts : List Da → Nat
  | [] => 0 | d :: ds => max (dpt d) (dpts ds)
end
mutual
/-- == of plain data -/
def deq : Da → Da → Bool
  | .non, .non => true
  | .bl a, .bl b => a == b
  | .bl a, .int j => (if a then 1 else 0) == j
  | .int i, .bl b => i == (if b then 1 else 0)
  | .int i, .int j => decide (i = j)
  | .str x, .str y => decide (x = y)
  | .lst xs, .lst ys => deqs xs ys
  | .tup xs, .tup ys => deqs xs ys
  | _, _ => false
def deqs : List Da → List Da → Bool
  | [], [] => true
  | x :: xs, y :: ys => deq x y && deqs xs ys
  | [], _ :: _ => false
  | _ :: _, [] => false
end
mutual
theorem toPD_lay : ∀ d : Da, plD d = true → (toPD d).plain = true
  | .non, _ => rfl | .bl _, _ => rfl | .int _, _ => rfl
  | .str _, _ => rfl
  | .tup ds, h => toPDs_lay ds h
  | .lst ds, h => toPDs_lay ds h
  | .ty _, h => by cases h | .ref _, h => by cases h | .dct _, h => by cases h | .obj _ _, h => by cases h | .exc _ _ _, h => by cases h
theorem toPDs_lay : ∀ ds : List Da, plDs ds = true → PyData.plainAll (toPDs ds) = true
  | [], _ => rfl
  | d :: ds, h => by
    simp only [plDs, Bool.and_eq_true] at h
    simp only [toPDs, PyData.plainAll, Bool.and_eq_true]
    exact ⟨toPD_lay d h.1, toPDs_lay ds h.2⟩
end
mutual
theorem toPD_dpt : ∀ d : Da, (toPD d).depth = dpt d
  | .non => rfl | .bl _ => rfl | .int _ => rfl | .str s => rfl
  | .tup ds => by simp only [toPD, PyData.depth, dpt, toPDs_dpt ds]
  | .lst ds => by simp only [toPD, PyData.depth, dpt, toPDs_dpt ds]
  | .ty _ => rfl | .ref _ => rfl | .dct _ => rfl | .obj _ _ => rfl | .exc _ _ _ => rfl
theorem toPDs_dpt : ∀ ds : List Da, PyData.depthAll (toPDs ds) = dpts ds
  | [] => rfl
  | d :: ds => by simp only [toPDs, PyData.depthAll, dpts, toPD_dpt d, toPDs_dpt ds]
end
mutual
theorem toPD_eqv : ∀ d e : Da, plD d = true → plD e = true → PyData.eqv (toPD d) (toPD e) = deq d e
  | .non, e, _, h => by cases e <;> first | rfl | (cases h; done)
  | .bl _, e, _, h => by cases e <;> first | rfl | (cases h; done)
  | .int i, e, _, h => by cases e <;> first | rfl | (simp [toPD, PyData.eqv, deq, BEq.beq]; done) | (cases h; done)
  | .str s, e, _, h => by cases e <;> first | rfl | (simp only [toPD, PyData.eqv, deq]; rw [Bool.eq_iff_iff]; simp; done) | (cases h; done)
  | .tup ds, e, h1, h => by
    cases e with
    | tup es => simp only [toPD, PyData.eqv, deq]; exact toPDs_eqv ds es h1 h
    | _ => first | rfl | (cases h; done)
  | .lst ds, e, h1, h => by
    cases e with
    | lst es => simp only [toPD, PyData.eqv, deq]; exact toPDs_eqv ds es h1 h
    | _ => first | rfl | (cases h; done)
  | .ty _, _, h, _ => by cases h
  | .ref _, _, h, _ => by cases h
  | .dct _, _, h, _ => by cases h
  | .obj _ _, _, h, _ => by cases h
  | .exc _ _ _, _, h, _ => by cases h
theorem toPDs_eqv : ∀ d e : List Da, plDs d = true → plDs e = true → PyData.eqvAll (toPDs d) (toPDs e) = deqs d e
  | [], [], _, _ => rfl
  | [], _ :: _, _, _ => rfl
  | _ :: _, [], _, _ => rfl
  | x :: xs, y :: ys, h1, h2 => by
    simp only [plDs, Bool.and_eq_true] at h1 h2
    simp only [toPDs, PyData.eqvAll, deqs, toPD_eqv x y h1.1 h2.1, toPDs_eqv xs ys h1.2 h2.2]
end
mutual
theorem Rep.dp {K : PySem.W.Frag} {G : Hp} : ∀ {v : V} {d : Da}, plD d = true → Rep K G v d → Dp K G v (toPD d)
  | _, _, _, .non => .non
  | _, _, _, .bl b => .bl b
  | _, _, _, .int b => .int b
  | _, _, _, .str b => .str b
  | _, _, h, .tup q r => .tup q (Reps.dp h r)
  | _, _, h, .lst q r => .lst (sq_l q) (Reps.dp h r)
  | _, _, h, .ty _ => by cases h
  | _, _, h, .ref _ => by cases h
  | _, _, h, .dct _ _ => by cases h
  | _, _, h, .obj _ _ => by cases h
  | _, _, h, .exc _ _ => by cases h
theorem Reps.dp {K : PySem.W.Frag} {G : Hp} : ∀ {v : List V} {d : List Da}, plDs d = true → Reps K G v d → DpAll K G v (toPDs d)
  | _, _, _, .nil => .nil
  | _, _, h, .cons a b => by
    simp only [plDs, Bool.and_eq_true] at h
    exact .cons (Rep.dp h.1 a) (Reps.dp h.2 b)
end
/-- ==, != of data without dicts -/
theorem op_eqP {X : Cx} (hu : X.A.units + 64 < cLine) : OpR X (compareOp .Eq) (fun x y H Q => ∃ d e, Dp X.K H x d ∧ Dp X.K H y e ∧ d.plain = true ∧ e.plain = true ∧ d.depth ≤ 64 ∧ Q (.bl (PyData.eqv d e)) H) := fun pins s σ H x y v u Q I rx ry h => by
  obtain ⟨d, e, hd, he, sd, se, l, q⟩ := h
  obtain ⟨as, r1⟩ := Dp.reads I d x v hd rx
  obtain ⟨bs, r2⟩ := Dp.reads I e y u he ry
  exact SeqAt.eq_plain r1 r2 sd se (by omega) ⟨.bl _, H, I, rfl, q⟩
theorem op_neP {X : Cx} (hu : X.A.units + 64 < cLine) : OpR X (compareOp .NotEq) (fun x y H Q => ∃ d e, Dp X.K H x d ∧ Dp X.K H y e ∧ d.plain = true ∧ e.plain = true ∧ d.depth ≤ 64 ∧ Q (.bl (!PyData.eqv d e)) H) := fun pins s σ H x y v u Q I rx ry h => by
  obtain ⟨d, e, hd, he, sd, se, l, q⟩ := h
  obtain ⟨as, r1⟩ := Dp.reads I d x v hd rx
  obtain ⟨bs, r2⟩ := Dp.reads I e y u he ry
  exact SeqAt.ne_plain r1 r2 sd se (by omega) ⟨.bl _, H, I, rfl, q⟩

section
variable {M : Mode} {X : Cx} {KE : Kx} {P : Da → Nat → Prop} {m : Nat} {i j : Int}
theorem opd_add (k : P (.int (i + j)) m) : OpD M X KE (binaryOp .Add) (.int i) (.int j) P m := .of op_add fun G H _ _ _ ok r1 r2 po => ⟨i, j, r1.int_inv, r2.int_inv, po _ _ m G H k ok (.int _)⟩
theorem opd_sub (k : P (.int (i - j)) m) : OpD M X KE (binaryOp .Sub) (.int i) (.int j) P m := .of op_sub fun G H _ _ _ ok r1 r2 po => ⟨i, j, r1.int_inv, r2.int_inv, po _ _ m G H k ok (.int _)⟩
theorem opd_mul (c : CMul i j) (k : P (.int (i * j)) m) : OpD M X KE (binaryOp .Mult) (.int i) (.int j) P m := .of op_mul fun G H _ _ _ ok r1 r2 po => ⟨i, j, r1.int_inv, r2.int_inv, c, po _ _ m G H k ok (.int _)⟩
theorem opd_mulW (c : CMulW i j) (k : P (.int (i * j)) m) : OpD M X KE (binaryOp .Mult) (.int i) (.int j) P m := .of op_mulW fun G H _ _ _ ok r1 r2 po => ⟨i, j, r1.int_inv, r2.int_inv, c, po _ _ m G H k ok (.int _)⟩
theorem opd_mod (c : 0 < j) (k : P (.int (i % j)) m) : OpD M X KE (binaryOp .Mod) (.int i) (.int j) P m := .of op_mod fun G H _ _ _ ok r1 r2 po => ⟨i, j, r1.int_inv, r2.int_inv, c, po _ _ m G H k ok (.int _)⟩
theorem opd_fdiv (c : CDivW i j) (k : P (.int (i / j)) m) : OpD M X KE (binaryOp .FloorDiv) (.int i) (.int j) P m := .of op_fdivW fun G H _ _ _ ok r1 r2 po => ⟨i, j, r1.int_inv, r2.int_inv, c, po _ _ m G H k ok (.int _)⟩
theorem opd_pow (c : CPow i j) (k : P (.int (i ^ j.toNat)) m) : OpD M X KE (binaryOp .Pow) (.int i) (.int j) P m := .of op_pow fun G H _ _ _ ok r1 r2 po => ⟨i, j, r1.int_inv, r2.int_inv, c, po _ _ m G H k ok (.int _)⟩
theorem opd_shl (c : CPow i j) (k : P (.int (i * 2 ^ j.toNat)) m) : OpD M X KE (binaryOp .LShift) (.int i) (.int j) P m := .of op_shl fun G H _ _ _ ok r1 r2 po => ⟨i, j, r1.int_inv, r2.int_inv, c, po _ _ m G H k ok (.int _)⟩
theorem opd_shr (c : 0 ≤ j) (k : P (.int (i / 2 ^ j.toNat)) m) : OpD M X KE (binaryOp .RShift) (.int i) (.int j) P m := .of op_shr fun G H _ _ _ ok r1 r2 po => ⟨i, j, r1.int_inv, r2.int_inv, c, po _ _ m G H k ok (.int _)⟩
theorem opd_and (k : P (.int (Builtin.bitAnd i j)) m) : OpD M X KE (binaryOp .BitAnd) (.int i) (.int j) P m := .of op_and fun G H _ _ _ ok r1 r2 po => ⟨i, j, r1.int_inv, r2.int_inv, po _ _ m G H k ok (.int _)⟩
theorem opd_lt (k : P (.bl (decide (i < j))) m) : OpD M X KE (compareOp .Lt) (.int i) (.int j) P m := .of op_lt fun G H _ _ _ ok r1 r2 po => ⟨i, j, r1.int_inv, r2.int_inv, po _ _ m G H k ok (.bl _)⟩
theorem opd_le (k : P (.bl (decide (i ≤ j))) m) : OpD M X KE (compareOp .LtE) (.int i) (.int j) P m := .of op_le fun G H _ _ _ ok r1 r2 po => ⟨i, j, r1.int_inv, r2.int_inv, po _ _ m G H k ok (.bl _)⟩
theorem opd_gt (k : P (.bl (decide (j < i))) m) : OpD M X KE (compareOp .Gt) (.int i) (.int j) P m := .of op_gt fun G H _ _ _ ok r1 r2 po => ⟨i, j, r1.int_inv, r2.int_inv, po _ _ m G H k ok (.bl _)⟩
theorem opd_ge (k : P (.bl (decide (j ≤ i))) m) : OpD M X KE (compareOp .GtE) (.int i) (.int j) P m := .of op_ge fun G H _ _ _ ok r1 r2 po => ⟨i, j, r1.int_inv, r2.int_inv, po _ _ m G H k ok (.bl _)⟩
theorem und_neg (k : P (.int (-i)) m) : UnD M X KE (unaryOp .USub) (.int i) P m := .of un_neg fun G H _ _ ok r1 po => ⟨i, r1.int_inv, po _ _ m G H k ok (.int _)⟩
/-- ==, != of plain data -/
theorem opd_eq {x y : Da} (hu : X.A.units + 64 < cLine) (h1 : plD x = true) (h2 : plD y = true) (l1 : dpt x ≤ 64) (l2 : dpt y ≤ 64) (k : P (.bl (deq x y)) m) : OpD M X KE (compareOp .Eq) x y P m :=
  .of (op_eqP hu) fun G H _ _ _ ok r1 r2 po => ⟨_, _, (r1.mono ok.sub).dp h1, (r2.mono ok.sub).dp h2, toPD_lay x h1, toPD_lay y h2, by rw [toPD_dpt]; exact l1, by rw [toPD_eqv x y h1 h2]; exact po _ _ m G H k ok (.bl _)⟩
theorem opd_ne {x y : Da} (hu : X.A.units + 64 < cLine) (h1 : plD x = true) (h2 : plD y = true) (l1 : dpt x ≤ 64) (l2 : dpt y ≤ 64) (k : P (.bl (!deq x y)) m) : OpD M X KE (compareOp .NotEq) x y P m :=
  .of (op_neP hu) fun G H _ _ _ ok r1 r2 po => ⟨_, _, (r1.mono ok.sub).dp h1, (r2.mono ok.sub).dp h2, toPD_lay x h1, toPD_lay y h2, by rw [toPD_dpt]; exact l1, by rw [toPD_eqv x y h1 h2]; exact po _ _ m G H k ok (.bl _)⟩
/-- ints, texts: == without a look at depth -/
theorem opd_eqI (k : P (.bl (decide (i = j))) m) : OpD M X KE (compareOp .Eq) (.int i) (.int j) P m := .of op_eq fun G H _ _ _ ok r1 r2 po => by
  cases r1.int_inv; cases r2.int_inv
  exact ⟨rfl, by rw [show decide (V.int i = V.int j) = decide (i = j) by simp]; exact po _ _ m G H k ok (.bl _)⟩
theorem opd_neI (k : P (.bl (!decide (i = j))) m) : OpD M X KE (compareOp .NotEq) (.int i) (.int j) P m := .of op_ne fun G H _ _ _ ok r1 r2 po => by
  cases r1.int_inv; cases r2.int_inv
  exact ⟨rfl, by rw [show decide (V.int i = V.int j) = decide (i = j) by simp]; exact po _ _ m G H k ok (.bl _)⟩
theorem opd_eqS {x y : Str} (k : P (.bl (decide (x = y))) m) : OpD M X KE (compareOp .Eq) (.str x) (.str y) P m := .of op_eq fun G H _ _ _ ok r1 r2 po => by
  cases r1.str_inv; cases r2.str_inv
  exact ⟨rfl, by rw [show decide (V.str x = V.str y) = decide (x = y) by simp]; exact po _ _ m G H k ok (.bl _)⟩
theorem opd_neS {x y : Str} (k : P (.bl (!decide (x = y))) m) : OpD M X KE (compareOp .NotEq) (.str x) (.str y) P m := .of op_ne fun G H _ _ _ ok r1 r2 po => by
  cases r1.str_inv; cases r2.str_inv
  exact ⟨rfl, by rw [show decide (V.str x = V.str y) = decide (x = y) by simp]; exact po _ _ m G H k ok (.bl _)⟩
theorem opd_eqB {x y : Bool} (k : P (.bl (decide (x = y))) m) : OpD M X KE (compareOp .Eq) (.bl x) (.bl y) P m := .of op_eq fun G H _ _ _ ok r1 r2 po => by
  cases r1.bl_inv; cases r2.bl_inv
  exact ⟨rfl, by rw [show decide (V.bl x = V.bl y) = decide (x = y) by simp]; exact po _ _ m G H k ok (.bl _)⟩
theorem opd_neB {x y : Bool} (k : P (.bl (!decide (x = y))) m) : OpD M X KE (compareOp .NotEq) (.bl x) (.bl y) P m := .of op_ne fun G H _ _ _ ok r1 r2 po => by
  cases r1.bl_inv; cases r2.bl_inv
  exact ⟨rfl, by rw [show decide (V.bl x = V.bl y) = decide (x = y) by simp]; exact po _ _ m G H k ok (.bl _)⟩
/-- is None -/
def isNonD : Da → Bool
  | .non => true | _ => false
theorem rep_isNon {K : PySem.W.Frag} {G : Hp} {v : V} {d : Da} (r : Rep K G v d) : decide (v = .non) = isNonD d := by
  cases r <;> simp [isNonD]
theorem opd_is {x : Da} (k : P (.bl (isNonD x)) m) : OpD M X KE (compareOp .Is) x .non P m := .of op_isN fun G H _ _ _ ok r1 r2 po => ⟨r2.non_inv, by rw [rep_isNon r1]; exact po _ _ m G H k ok (.bl _)⟩
theorem opd_isnot {x : Da} (k : P (.bl (!isNonD x)) m) : OpD M X KE (compareOp .IsNot) x .non P m := .of op_notN fun G H _ _ _ ok r1 r2 po => ⟨r2.non_inv, by rw [rep_isNon r1]; exact po _ _ m G H k ok (.bl _)⟩
/-- in a list or tuple of flat data -/
def flD : Da → Bool
  | .non => true | .bl _ => true | .int _ => true | .str _ => true | _ => false
theorem rep_flat {K : PySem.W.Frag} {G : Hp} {v : V} {d : Da} (r : Rep K G v d) (h : flD d = true) : flatV v = true := by
  cases r <;> first | rfl | cases h
theorem reps_flat {K : PySem.W.Frag} {G : Hp} : ∀ {vs : List V} {ds : List Da}, Reps K G vs ds → ds.all flD = true → vs.all flatV = true
  | _, _, .nil, _ => rfl
  | _, _, .cons a b, h => by
    simp only [List.all_cons, Bool.and_eq_true] at h ⊢
    exact ⟨rep_flat a h.1, reps_flat b h.2⟩
theorem rep_eqV {K : PySem.W.Frag} {G : Hp} {v w : V} {d e : Da} (r : Rep K G v d) (q : Rep K G w e) (h : flD d = true) (h2 : flD e = true) : eqV v w = deq d e := by
  cases r <;> first | (cases h; done) | (cases q <;> first | rfl | (simp [eqV, deq, BEq.beq]; done) | (simp only [eqV, deq]; rw [Bool.eq_iff_iff]; simp; done) | (cases h2; done))
def inD (x : Da) (ds : List Da) : Bool := ds.any fun y => deq y x
theorem reps_inV {K : PySem.W.Frag} {G : Hp} {v : V} {d : Da} (r : Rep K G v d) (h : flD d = true) : ∀ {vs : List V} {ds : List Da}, Reps K G vs ds → ds.all flD = true → inV v vs = inD d ds
  | _, _, .nil, _ => rfl
  | _, _, .cons a b, h2 => by
    simp only [List.all_cons, Bool.and_eq_true] at h2
    show (eqV _ v || inV v _) = (deq _ d || inD d _)
    rw [rep_eqV a r h2.1 h, reps_inV r h b h2.2]
theorem opd_inL {x : Da} {ds : List Da} (h : flD x = true) (h2 : ds.all flD = true) (k : P (.bl (inD x ds)) m) : OpD M X KE (compareOp .In) x (.lst ds) P m := .of op_in_seq fun G H _ _ _ ok r1 r2 po => by
  cases r2 with
  | lst q r => exact ⟨_, _, rfl, .inl (sq_l (ok.sub _ _ q)), rep_flat r1 h, reps_flat r h2, by rw [reps_inV r1 h r h2]; exact po _ _ m G H k ok (.bl _)⟩
theorem opd_inT {x : Da} {ds : List Da} (h : flD x = true) (h2 : ds.all flD = true) (k : P (.bl (inD x ds)) m) : OpD M X KE (compareOp .In) x (.tup ds) P m := .of op_in_seq fun G H _ _ _ ok r1 r2 po => by
  cases r2 with
  | tup q r => exact ⟨_, _, rfl, .inr (sqT_same ok.sub q), rep_flat r1 h, reps_flat r h2, by rw [reps_inV r1 h r h2]; exact po _ _ m G H k ok (.bl _)⟩
theorem opd_ninL {x : Da} {ds : List Da} (h : flD x = true) (h2 : ds.all flD = true) (k : P (.bl (!inD x ds)) m) : OpD M X KE (compareOp .NotIn) x (.lst ds) P m := .of op_notIn_seq fun G H _ _ _ ok r1 r2 po => by
  cases r2 with
  | lst q r => exact ⟨_, _, rfl, .inl (sq_l (ok.sub _ _ q)), rep_flat r1 h, reps_flat r h2, by rw [reps_inV r1 h r h2]; exact po _ _ m G H k ok (.bl _)⟩
theorem opd_ninT {x : Da} {ds : List Da} (h : flD x = true) (h2 : ds.all flD = true) (k : P (.bl (!inD x ds)) m) : OpD M X KE (compareOp .NotIn) x (.tup ds) P m := .of op_notIn_seq fun G H _ _ _ ok r1 r2 po => by
  cases r2 with
  | tup q r => exact ⟨_, _, rfl, .inr (sqT_same ok.sub q), rep_flat r1 h, reps_flat r h2, by rw [reps_inV r1 h r h2]; exact po _ _ m G H k ok (.bl _)⟩
/-- dicts -/
def look {α : Type} (k : Key) : List (Key × α) → Option α
  | [] => none
  | (j, v) :: r => if j = k then some v else look k r
theorem repK_look {K : PySem.W.Frag} {G : Hp} {k : Key} : ∀ {kvs : List (Key × V)} {ks : List (Key × Da)}, RepK K G kvs ks → (∀ d, look k ks = some d → ∃ v, valV kvs k = some v ∧ Rep K G v d) ∧ (look k ks = none → valV kvs k = none)
  | _, _, .nil => ⟨fun _ h => (by cases h), fun _ => rfl⟩
  | _, _, .cons (k := j) a b => by
    obtain ⟨i1, i2⟩ := repK_look (k := k) b
    by_cases e : j = k
    · refine ⟨fun d h => ?_, fun h => ?_⟩
      · simp only [look, if_pos e] at h; cases h
        exact ⟨_, valV_pos e, a⟩
      · simp only [look, if_pos e] at h; cases h
    · refine ⟨fun d h => ?_, fun h => ?_⟩
      · simp only [look, if_neg e] at h
        rw [valV_neg e]; exact i1 d h
      · simp only [look, if_neg e] at h
        rw [valV_neg e]; exact i2 h
def keyD : Key → Da
  | .inl i => .int i
  | .inr s => .str s
theorem rep_key {K : PySem.W.Frag} {G : Hp} {v : V} {k : Key} (r : Rep K G v (keyD k)) : v = kV k := by
  cases k with
  | inl i => exact Rep.int_inv r
  | inr s => exact Rep.str_inv r
theorem repK_get {K : PySem.W.Frag} {G : Hp} {kvs : List (Key × V)} {ks : List (Key × Da)} {k : Key} (r : RepK K G kvs ks) : ∃ o : Option V, valV kvs k = o ∧ o.isSome = (look k ks).isSome ∧ ∀ d, look k ks = some d → ∃ v, o = some v ∧ Rep K G v d := by
  obtain ⟨i1, i2⟩ := repK_look (k := k) r
  cases e : look k ks with
  | none => exact ⟨none, i2 e, rfl, fun d h => by cases h⟩
  | some d =>
    obtain ⟨v, h1, h2⟩ := i1 d e
    exact ⟨some v, h1, rfl, fun d' h => by cases h; exact ⟨v, rfl, h2⟩⟩
theorem op_inDct (hu : X.A.units + 1 < cLine) : OpR X (compareOp .In) (fun x y H Q => ∃ a o, y = .ref a ∧ DGet H a x o ∧ Q (.bl o.isSome) H) := fun pins s σ H x y v u Q I rx ry h => by
  obtain ⟨a, o, rfl, g, q⟩ := h
  cases ry
  exact d_in hu I g rx fun s3 I3 => ⟨.bl o.isSome, H, I3, rfl, q⟩
theorem op_ninDct (hu : X.A.units + 1 < cLine) : OpR X (compareOp .NotIn) (fun x y H Q => ∃ a o, y = .ref a ∧ DGet H a x o ∧ Q (.bl (!o.isSome)) H) := fun pins s σ H x y v u Q I rx ry h => by
  obtain ⟨a, o, rfl, g, q⟩ := h
  cases ry
  exact d_notIn hu I g rx fun s3 I3 => ⟨.bl (!o.isSome), H, I3, rfl, q⟩
theorem opd_inK {k : Key} {ks : List (Key × Da)} (hu : X.A.units + 1 < cLine) (h : P (.bl (look k ks).isSome) m) : OpD M X KE (compareOp .In) (keyD k) (.dct ks) P m := .of (op_inDct hu) fun G H _ _ _ ok r1 r2 po => by
  cases r2 with
  | dct q r =>
    obtain ⟨o, e, h1, _⟩ := repK_get (k := k) r
    exact ⟨_, o, rfl, .inl ⟨_, k, .inr ⟨_, ok.sub _ _ q⟩, rep_key r1, e.symm⟩, by rw [h1]; exact po _ _ m G H h ok (.bl _)⟩
theorem opd_ninK {k : Key} {ks : List (Key × Da)} (hu : X.A.units + 1 < cLine) (h : P (.bl (!(look k ks).isSome)) m) : OpD M X KE (compareOp .NotIn) (keyD k) (.dct ks) P m := .of (op_ninDct hu) fun G H _ _ _ ok r1 r2 po => by
  cases r2 with
  | dct q r =>
    obtain ⟨o, e, h1, _⟩ := repK_get (k := k) r
    exact ⟨_, o, rfl, .inl ⟨_, k, .inr ⟨_, ok.sub _ _ q⟩, rep_key r1, e.symm⟩, by rw [h1]; exact po _ _ m G H h ok (.bl _)⟩
/-- texts -/
theorem opd_addS {x y : Str} (h : x.length + y.length ≤ sizeLine) (k : P (.str (x ++ y)) m) : OpD M X KE (binaryOp .Add) (.str x) (.str y) P m := .of op_add_str fun G H _ _ _ ok r1 r2 po => ⟨x, y, r1.str_inv, r2.str_inv, h, po _ _ m G H k ok (.str _)⟩
theorem opd_inS {x y : Str} (k : P (.bl (!(Builtin.Str.occurrences y x 0 y.length 1).isEmpty)) m) : OpD M X KE (compareOp .In) (.str x) (.str y) P m := .of op_in_str fun G H _ _ _ ok r1 r2 po => ⟨x, y, r1.str_inv, r2.str_inv, po _ _ m G H k ok (.bl _)⟩
theorem opd_ltS {x y : Str} (k : P (.bl (decide (x.cps.toList < y.cps.toList))) m) : OpD M X KE (compareOp .Lt) (.str x) (.str y) P m := .of op_lt_str fun G H _ _ _ ok r1 r2 po => ⟨x, y, r1.str_inv, r2.str_inv, po _ _ m G H k ok (.bl _)⟩
/-- lists and tuples put together -/
theorem opd_cat {xs ys : List Da} (h : xs.length + ys.length ≤ sizeLine) (k : P (.lst (xs ++ ys)) m) : OpD M X KE (binaryOp .Add) (.lst xs) (.lst ys) P m := .of op_cat fun G H _ _ _ ok r1 r2 po => by
  obtain ⟨a, us, rfl, q, r⟩ := r1.lst_inv
  obtain ⟨b, ws, rfl, q2, t⟩ := r2.lst_inv
  exact ⟨_, _, _, _, rfl, rfl, ok.sub _ _ q, ok.sub _ _ q2, by rw [r.length, t.length]; exact h, fun p hp => by
    have al := ok.alloc (o := .lst (us ++ ws)) hp
    exact po _ _ m _ _ k al (.lst upd_same ((r.append t).mono al.le))⟩
theorem opd_rep {xs : List Da} (h0 : -(2 ^ 63) ≤ j) (h1 : j < 2 ^ 63) (h : xs.length * j.toNat ≤ sizeLine) (k : P (.lst (List.replicate j.toNat xs).flatten) m) : OpD M X KE (binaryOp .Mult) (.lst xs) (.int j) P m := .of op_rep fun G H _ _ _ ok r1 r2 po => by
  cases r2.int_inv
  obtain ⟨a, us, rfl, q, r⟩ := r1.lst_inv
  have fl : ∀ n : Nat, Reps X.K G (List.replicate n us).flatten (List.replicate n xs).flatten := by
    intro n
    induction n with
    | zero => exact .nil
    | succ n ih => rw [List.replicate_succ, List.replicate_succ, List.flatten_cons, List.flatten_cons]; exact r.append ih
  exact ⟨_, j, _, rfl, rfl, ok.sub _ _ q, h0, h1, by rw [r.length]; exact h, fun p hp => by
    have al := ok.alloc (o := .lst (List.replicate j.toNat us).flatten) hp
    exact po _ _ m _ _ k al (.lst upd_same ((fl j.toNat).mono al.le))⟩
theorem opd_catT {xs ys : List Da} (h : xs.length + ys.length ≤ sizeLine) (k : P (.tup (xs ++ ys)) m) : OpD M X KE (binaryOp .Add) (.tup xs) (.tup ys) P m := .of op_catA fun G H _ _ _ ok r1 r2 po => by
  obtain ⟨a, us, rfl, q, r⟩ := r1.tup_inv
  obtain ⟨b, ws, rfl, q2, t⟩ := r2.tup_inv
  refine ⟨_, _, _, _, rfl, rfl, sqT_same ok.sub q, sqT_same ok.sub q2, by rw [r.length, t.length]; exact h, fun e => ?_, fun _ e => ?_, fun _ _ p hp => ?_⟩
  · subst e
    cases r
    exact po _ _ m _ _ k ok (.tup q2 t)
  · subst e
    cases t
    rw [List.append_nil] at k
    exact po _ _ m _ _ k ok (.tup q r)
  · have al := ok.alloc (o := .tup (us ++ ws)) hp
    exact po _ _ m _ _ k al (.tup (sq_t upd_same) ((r.append t).mono al.le))
/-- items -/
theorem atI_len {α β : Type} {xs : List α} {ys : List β} {z : β} (e : xs.length = ys.length) (h : atI ys i = some z) : ∃ j : Nat, atI xs i = xs[j]? ∧ ys[j]? = some z := by
  unfold atI at h ⊢
  cases q : ixN ys.length i with
  | none => rw [q] at h; cases h
  | some j => rw [q] at h; rw [e, q]; exact ⟨j, rfl, h⟩
theorem ixd_lst {ds : List Da} {d : Da} (h : atI ds i = some d) (k : P d m) : IxD M X KE (.lst ds) (.int i) P m := .of ix_list fun G H _ _ _ ok r1 r2 po => by
  obtain ⟨a, us, rfl, q, r⟩ := r1.lst_inv
  obtain ⟨j, e1, e2⟩ := atI_len r.length h
  obtain ⟨v, e3, rv⟩ := r.get e2
  exact ⟨a, us, i, v, rfl, r2.int_inv, sq_l (ok.sub _ _ q), e1.trans e3, po _ _ m G H k ok rv⟩
theorem ixd_tup {ds : List Da} {d : Da} (h : atI ds i = some d) (k : P d m) : IxD M X KE (.tup ds) (.int i) P m := .of ix_tup fun G H _ _ _ ok r1 r2 po => by
  obtain ⟨a, us, rfl, q, r⟩ := r1.tup_inv
  obtain ⟨j, e1, e2⟩ := atI_len r.length h
  obtain ⟨v, e3, rv⟩ := r.get e2
  exact ⟨a, us, i, v, rfl, r2.int_inv, sqT_same ok.sub q, e1.trans e3, po _ _ m G H k ok rv⟩
theorem ixd_str {z : Str} {c : Nat} (hl : z.length ≤ sizeLine) (h : atI z.cps.toList i = some c) (k : P (.str ⟨#[c]⟩) m) : IxD M X KE (.str z) (.int i) P m := .of ix_str fun G H _ _ _ ok r1 r2 po =>
  ⟨z, i, c, r1.str_inv, r2.int_inv, hl, h, po _ _ m G H k ok (.str _)⟩
theorem ix_dct (hu : X.A.units + 1 < cLine) : IxR X (fun x y H Q => ∃ a v, x = .ref a ∧ DGet H a y (some v) ∧ Q v H) := fun ve se pins s σ H x y v u Q I rx ry h hs => by
  obtain ⟨a, w, rfl, g, q⟩ := h
  cases rx
  exact tail_any (dict_typeIs I g) PySem.F.slot_dict_getitem.lookup (d_getItem hu I g ry fun w' s3 I3 rw' => ⟨w, H, I3, rw', q⟩) hs
theorem ixd_dct {k : Key} {ks : List (Key × Da)} {d : Da} (hu : X.A.units + 1 < cLine) (h : look k ks = some d) (kp : P d m) : IxD M X KE (.dct ks) (keyD k) P m := .of (ix_dct hu) fun G H _ _ _ ok r1 r2 po => by
  cases r1 with
  | dct q r =>
    obtain ⟨o, e, _, h2⟩ := repK_get (k := k) r
    obtain ⟨v, rfl, rv⟩ := h2 d h
    exact ⟨_, v, rfl, .inl ⟨_, k, .inr ⟨_, ok.sub _ _ q⟩, rep_key r2, e.symm⟩, po _ _ m G H kp ok rv⟩
end
end OZ

/-! ### calls -/
namespace OZ
open PySem L2 PySem.Spec PyProof.Rows
def CallD (M : Mode) (X : Cx) (KE : Kx) (f : Value) (ds : List Da) (P : Da → Nat → Prop) (m : Nat) : Prop :=
  ∀ (G H : Hp) (σ : L2.St) (W : WX) (Q : VK) (vs : List V), Ok M G H G H m → Wis M X KE G H σ W → Reps X.K G vs ds → Post M X.K G H P Q →
    ∀ pins s us, Inv X pins σ H s → Vals vs us → wpAny (model X.prog X.w) X.A (call f us) (EP X pins σ Q) X.xe s
section
variable {M : Mode} {X : Cx} {KE : Kx} {a e : Expr} {es : List Expr} {sl : List Sl} {P : Da → Nat → Prop} {m : Nat} {pos p : Pos} {x : Str} {id : String}
theorem CallD.of {f : Value} {r : List V → Hp → VK → Prop} {ds : List Da} (ho : CallR X f r) (h : ∀ G H Q vs, Ok M G H G H m → Reps X.K G vs ds → Post M X.K G H P Q → r vs H Q) : CallD M X KE f ds P m :=
  fun G H σ _ Q vs ok _ r po pins s us I e => ho pins s σ H vs us Q I e (h G H Q vs ok r po)
theorem calld_imp {f : Value} {ds : List Da} {P' : Da → Nat → Prop} (h : CallD M X KE f ds P m) (k : ∀ d m', P d m' → P' d m') : CallD M X KE f ds P' m :=
  fun G H σ W Q vs ok wi r po => h G H σ W Q vs ok wi r fun v d m' G' H' p => po v d m' G' H' (k d m' p)
/-- a built-in by its name -/
theorem evd_callB {N : List Str} {sc : Scope} {B : Bd} (cx : Ctx X N sc B) (hm : B.mg x = none) (h : EvA M X KE (e :: es) sl (fun ds m1 => CallD M X KE (.builtin id) ds P m1) m) (hv : bootBuiltins x = some (.builtin id) := by with_unfolding_all first | rfl | decide +kernel) (hg : GlS sc x := by with_unfolding_all rfl) (hn : x ≠ "__name__" := by with_unfolding_all decide) (hdb : (x == ("__debug__" : Str)) = false := by with_unfolding_all decide)
    (he : starEach (e :: es) X.env = (false, eval e X.env) :: starEach es X.env := by with_unfolding_all rfl) (hpl : (backTo pos (starEach es X.env)).any (·.1) = false := by with_unfolding_all rfl) : EvD M X KE (.Call (.Name x p) (e :: es) [] pos) sl P m := by
  intro G0 H0 G H σ W Q ok so wi po pins s I
  refine wpAny_Call_Name_kw (ld_blt I (cx.gl hg) (cx.mg hm) hv ?_ hn hdb)
  refine PyProof.Rows.callWith_builtin1 (h.run ok so wi I (fun us s1 vs ds m1 G1 H1 p1 k1 o1 so1 wi1 r1 I1 rv1 => ?_) pos) he hpl
  exact p1 G1 H1 σ W Q vs k1.here wi1 r1 (po.step o1) pins s1 us I1 rv1
theorem evd_callTy {N : List Str} {sc : Scope} {B : Bd} (cx : Ctx X N sc B) (hm : B.mg x = none) (h : EvA M X KE (e :: es) sl (fun ds m1 => CallD M X KE (.type id) ds P m1) m) (hv : bootBuiltins x = some (.type id) := by with_unfolding_all first | rfl | decide +kernel) (hg : GlS sc x := by with_unfolding_all rfl) (hn : x ≠ "__name__" := by with_unfolding_all decide) (hdb : (x == ("__debug__" : Str)) = false := by with_unfolding_all decide)
    (he : starEach (e :: es) X.env = (false, eval e X.env) :: starEach es X.env := by with_unfolding_all rfl) (hpl : (backTo pos (starEach es X.env)).any (·.1) = false := by with_unfolding_all rfl) : EvD M X KE (.Call (.Name x p) (e :: es) [] pos) sl P m := by
  intro G0 H0 G H σ W Q ok so wi po pins s I
  refine wpAny_Call_Name_kw (ld_blt I (cx.gl hg) (cx.mg hm) hv ?_ hn hdb)
  refine PyProof.Rows.callWith_type1 (h.run ok so wi I (fun us s1 vs ds m1 G1 H1 p1 k1 o1 so1 wi1 r1 I1 rv1 => ?_) pos) he hpl
  exact p1 G1 H1 σ W Q vs k1.here wi1 r1 (po.step o1) pins s1 us I1 rv1
/-- a built-in function that the text imports -/
theorem evd_callM {N : List Str} {sc : Scope} {B : Bd} (cx : Ctx X N sc B) (hm : B.mg x = some (.builtin id)) (h : EvA M X KE (e :: es) sl (fun ds m1 => CallD M X KE (.builtin id) ds P m1) m) (hg : GlS sc x := by with_unfolding_all rfl) (hdb : (x == ("__debug__" : Str)) = false := by with_unfolding_all decide)
    (he : starEach (e :: es) X.env = (false, eval e X.env) :: starEach es X.env := by with_unfolding_all rfl) (hpl : (backTo pos (starEach es X.env)).any (·.1) = false := by with_unfolding_all rfl) : EvD M X KE (.Call (.Name x p) (e :: es) [] pos) sl P m := by
  intro G0 H0 G H σ W Q ok so wi po pins s I
  refine wpAny_Call_Name_kw (ld_glob I (cx.gl hg) (cx.mg hm) ?_ hdb)
  refine PyProof.Rows.callWith_builtin1 (h.run ok so wi I (fun us s1 vs ds m1 G1 H1 p1 k1 o1 so1 wi1 r1 I1 rv1 => ?_) pos) he hpl
  exact p1 G1 H1 σ W Q vs k1.here wi1 r1 (po.step o1) pins s1 us I1 rv1
/-- a def of the text by its name -/
theorem evd_callF {N : List Str} {sc : Scope} {B : Bd} {f : Addr} (cx : Ctx X N sc B) (hm : B.mg x = some (.ref f)) (hk : PySem.W.keepIn X.K (.ref f) = true) (h : EvA M X KE (e :: es) sl (fun ds m1 => CallD M X KE (.ref f) ds P m1) m) (hg : GlS sc x := by with_unfolding_all rfl) (hdb : (x == ("__debug__" : Str)) = false := by with_unfolding_all decide)
    (he : starEach (e :: es) X.env = (false, eval e X.env) :: starEach es X.env := by with_unfolding_all rfl) (hpl : (backTo pos (starEach es X.env)).any (·.1) = false := by with_unfolding_all rfl) : EvD M X KE (.Call (.Name x p) (e :: es) [] pos) sl P m := by
  intro G0 H0 G H σ W Q ok so wi po pins s I
  refine wpAny_Call_Name_kw (ld_glob I (cx.gl hg) (cx.mg hm) ?_ hdb)
  refine PySem.W.callWith_K (h₀ := X.base) I.ok.mod.kin hk (h.run ok so wi I (fun us s1 vs ds m1 G1 H1 p1 k1 o1 so1 wi1 r1 I1 rv1 => ?_) pos) he hpl
  exact ⟨I1.kIn, p1 G1 H1 σ W Q vs k1.here wi1 r1 (po.step o1) pins s1 us I1 rv1⟩
theorem evd_callF0 {N : List Str} {sc : Scope} {B : Bd} {f : Addr} (cx : Ctx X N sc B) (hm : B.mg x = some (.ref f)) (hk : PySem.W.keepIn X.K (.ref f) = true) (h : CallD M X KE (.ref f) [] P m) (hg : GlS sc x := by with_unfolding_all rfl) (hdb : (x == ("__debug__" : Str)) = false := by with_unfolding_all decide) : EvD M X KE (.Call (.Name x p) [] [] pos) sl P m := by
  intro G0 H0 G H σ W Q ok so wi po pins s I
  refine wpAny_Call_Name_kw (ld_glob I (cx.gl hg) (cx.mg hm) ?_ hdb)
  refine PySem.W.callWith_K0 I.kIn hk ?_
  exact h G H σ W Q [] ok.here wi .nil po pins s [] I .nil
end

/-! ### the promise of a def, over data -/
abbrev FD := List Da → (Da → Nat → Prop) → Kx → Nat → Prop
def spD (M : Mode) (K : PySem.W.Frag) (n : Nat) (F : FD) : Sp := fun vs H Q E => vs.length = n ∧ ∃ G m ds KR KE, Ok M G H G H m ∧ Reps K G vs ds ∧ F ds KR KE m ∧ Post M K G H KR Q ∧
  (∀ C fs d m' G' H', KE C fs m' → Ok M G H G' H' m' → XRep K G' H' d fs → E (.ref C) d H')
structure FnG (M : Mode) (B : Bd) (k : Nat) (f : Addr) (n : Nat) (F : FD) : Prop where
  ex : ∃ (CX : CXT) (fd : FuncData) (ps : List Str), FnOk B.P B.w B.K B.mg B.base CX k f fd ps (spD M B.K n F) ∧ Binds B.K fd ps [] ∧ (CX = CX0 ∨ CX = L2.CX B.P B.w) ∧ n = ps.length
/-- the def that a global name holds -/
structure CallG (M : Mode) (B : Bd) (k : Nat) (x : Str) (n : Nat) (F : FD) : Prop where
  ex : ∃ f : Addr, B.mg x = some (.ref f) ∧ PySem.W.keepIn B.K (.ref f) = true ∧ FnG M B k f n F
theorem passes_any {X : Cx} {W : WX} {CX : CXT} (tk : Takes X W) (h : CX = CX0 ∨ CX = L2.CX X.prog X.w) (σ : L2.St) : PassesAt CX X σ (WE W σ) := by
  rcases h with rfl | rfl
  · exact fun _ _ _ _ _ _ q => q.elim
  · exact passAt tk σ
section
variable {M : Mode} {X : Cx} {KE : Kx} {P : Da → Nat → Prop} {m k n j : Nat} {f : Addr} {F : FD} {ds : List Da} {x : Str} {e : Expr} {es : List Expr} {sl : List Sl} {pos p : Pos}
theorem FnG.call (C : FnG M (bdOf X) k f n F) (hr : Room j X.A) (hl : ds.length = n) (h : F ds P KE m) (hk : k ≤ j := by with_unfolding_all decide) : CallD M X KE (.ref f) ds P m := by
  obtain ⟨CX, fd, ps, Fo, hb, hc, _⟩ := C.ex
  intro G H σ W Q vs ok wi r po pins s us I rv
  exact run_fnS (E := WE W) Fo (hr.mono hk) hb (passes_any wi.tk hc σ) I rv ⟨r.length.trans hl, G, m, ds, P, KE, ok, r, h, po, fun C fs d m' G' H' => wi.ex C fs d m' G' H'⟩
theorem FnG.callP (C : FnG pureM (bdOf X) k f n F) (hr : Room j X.A) (hl : ds.length = n) (h : F ds (fun d _ => P d m) (fun C fs _ => KE C fs m) 0) (hk : k ≤ j := by with_unfolding_all decide) : CallD M X KE (.ref f) ds P m := by
  obtain ⟨CX, fd, ps, Fo, hb, hc, _⟩ := C.ex
  intro G H σ W Q vs ok wi r po pins s us I rv
  exact run_fnS (E := WE W) Fo (hr.mono hk) hb (passes_any wi.tk hc σ) I rv ⟨r.length.trans hl, G, 0, ds, _, _, ok.toPure, r, h, fun v d m' G' H' p o rr => po v d m G' H' p (ok.lift o) rr, fun C fs d m' G' H' p o x => wi.ex C fs d m G' H' p (ok.lift o) x⟩
theorem evd_call {N : List Str} {sc : Scope} {B : Bd} (cx : Ctx X N sc B) (C : CallG M B k x n F) (hr : Room j X.A) (h : EvA M X KE (e :: es) sl (fun ds m1 => ds.length = n ∧ F ds P KE m1) m) (hk : k ≤ j := by with_unfolding_all decide) (hg : GlS sc x := by with_unfolding_all rfl) (hdb : (x == ("__debug__" : Str)) = false := by with_unfolding_all decide)
    (he : starEach (e :: es) X.env = (false, eval e X.env) :: starEach es X.env := by with_unfolding_all rfl) (hpl : (backTo pos (starEach es X.env)).any (·.1) = false := by with_unfolding_all rfl) : EvD M X KE (.Call (.Name x p) (e :: es) [] pos) sl P m := by
  have eb := cx.b
  subst eb
  obtain ⟨f, hm, hkp, c⟩ := C.ex
  exact evd_callF cx hm hkp (eva_imp h fun ds m1 q => c.call hr q.1 q.2 hk) hg hdb he hpl
theorem evd_callP {N : List Str} {sc : Scope} {B : Bd} (cx : Ctx X N sc B) (C : CallG pureM B k x n F) (hr : Room j X.A) (h : EvA M X KE (e :: es) sl (fun ds m1 => ds.length = n ∧ F ds (fun d _ => P d m1) (fun C fs _ => KE C fs m1) 0) m) (hk : k ≤ j := by with_unfolding_all decide) (hg : GlS sc x := by with_unfolding_all rfl) (hdb : (x == ("__debug__" : Str)) = false := by with_unfolding_all decide)
    (he : starEach (e :: es) X.env = (false, eval e X.env) :: starEach es X.env := by with_unfolding_all rfl) (hpl : (backTo pos (starEach es X.env)).any (·.1) = false := by with_unfolding_all rfl) : EvD M X KE (.Call (.Name x p) (e :: es) [] pos) sl P m := by
  have eb := cx.b
  subst eb
  obtain ⟨f, hm, hkp, c⟩ := C.ex
  exact evd_callF cx hm hkp (eva_imp h fun ds m1 q => c.callP hr q.1 q.2 hk) hg hdb he hpl
theorem evd_call0 {N : List Str} {sc : Scope} {B : Bd} (cx : Ctx X N sc B) (C : CallG M B k x 0 F) (hr : Room j X.A) (h : F [] P KE m) (hk : k ≤ j := by with_unfolding_all decide) (hg : GlS sc x := by with_unfolding_all rfl) (hdb : (x == ("__debug__" : Str)) = false := by with_unfolding_all decide) : EvD M X KE (.Call (.Name x p) [] [] pos) sl P m := by
  have eb := cx.b
  subst eb
  obtain ⟨f, hm, hkp, c⟩ := C.ex
  exact evd_callF0 cx hm hkp (c.call hr rfl h hk) hg hdb
theorem evd_callP0 {N : List Str} {sc : Scope} {B : Bd} (cx : Ctx X N sc B) (C : CallG pureM B k x 0 F) (hr : Room j X.A) (h : F [] (fun d _ => P d m) (fun C fs _ => KE C fs m) 0) (hk : k ≤ j := by with_unfolding_all decide) (hg : GlS sc x := by with_unfolding_all rfl) (hdb : (x == ("__debug__" : Str)) = false := by with_unfolding_all decide) : EvD M X KE (.Call (.Name x p) [] [] pos) sl P m := by
  have eb := cx.b
  subst eb
  obtain ⟨f, hm, hkp, c⟩ := C.ex
  exact evd_callF0 cx hm hkp (c.callP hr rfl h hk) hg hdb

/-! ### built-ins on data -/
variable {i : Int}
theorem reps1 {K : PySem.W.Frag} {G : Hp} {vs : List V} {d : Da} (r : Reps K G vs [d]) : ∃ v, vs = [v] ∧ Rep K G v d := by cases r with | cons a b => cases b; exact ⟨_, rfl, a⟩
theorem reps2 {K : PySem.W.Frag} {G : Hp} {vs : List V} {d e : Da} (r : Reps K G vs [d, e]) : ∃ v w, vs = [v, w] ∧ Rep K G v d ∧ Rep K G w e := by
  cases r with | cons a b => obtain ⟨w, rfl, q⟩ := reps1 b; exact ⟨_, _, rfl, a, q⟩
theorem cd_int (k : P (.int i) m) : CallD M X KE (.type "int") [.int i] P m := .of call_int1 fun G H _ vs ok r po => by
  obtain ⟨v, rfl, a⟩ := reps1 r
  cases a.int_inv
  exact .inl ⟨i, rfl, po _ _ m G H k ok (.int _)⟩
theorem cd_intB {b : Bool} (k : P (.int (if b then 1 else 0)) m) : CallD M X KE (.type "int") [.bl b] P m := .of call_int1 fun G H _ vs ok r po => by
  obtain ⟨v, rfl, a⟩ := reps1 r
  cases a.bl_inv
  exact .inr ⟨b, rfl, po _ _ m G H k ok (.int _)⟩
theorem cd_abs (k : P (.int (if i < 0 then -i else i)) m) : CallD M X KE (.builtin "abs") [.int i] P m := .of call_abs fun G H _ vs ok r po => by
  obtain ⟨v, rfl, a⟩ := reps1 r
  cases a.int_inv
  exact ⟨i, rfl, po _ _ m G H k ok (.int _)⟩
theorem cd_max2 {l : Int} (k : P (.int (if l > i then l else i)) m) (hc : X.calm = true := by with_unfolding_all rfl) : CallD M X KE (.builtin "max") [.int i, .int l] P m := .of (call_max2 hc) fun G H _ vs ok r po => by
  obtain ⟨v, w, rfl, a, b⟩ := reps2 r
  cases a.int_inv; cases b.int_inv
  exact ⟨i, l, rfl, po _ _ m G H k ok (.int _)⟩
theorem cd_min2 {l : Int} (k : P (.int (if l < i then l else i)) m) (hc : X.calm = true := by with_unfolding_all rfl) : CallD M X KE (.builtin "min") [.int i, .int l] P m := .of (call_min2 hc) fun G H _ vs ok r po => by
  obtain ⟨v, w, rfl, a, b⟩ := reps2 r
  cases a.int_inv; cases b.int_inv
  exact ⟨i, l, rfl, po _ _ m G H k ok (.int _)⟩
theorem cd_lenL {ls : List Da} (k : P (.int ls.length) m) : CallD M X KE (.builtin "len") [.lst ls] P m := .of call_len_seq fun G H _ vs ok r po => by
  obtain ⟨v, rfl, a⟩ := reps1 r
  obtain ⟨b, us, rfl, q, t⟩ := a.lst_inv
  exact ⟨b, us, rfl, .inl (sq_l (ok.sub _ _ q)), by rw [t.length]; exact po _ _ m G H k ok (.int _)⟩
theorem cd_lenT {ls : List Da} (k : P (.int ls.length) m) : CallD M X KE (.builtin "len") [.tup ls] P m := .of call_len_seq fun G H _ vs ok r po => by
  obtain ⟨v, rfl, a⟩ := reps1 r
  obtain ⟨b, us, rfl, q, t⟩ := a.tup_inv
  exact ⟨b, us, rfl, .inr (sqT_same ok.sub q), by rw [t.length]; exact po _ _ m G H k ok (.int _)⟩
theorem cd_lenS {z : Str} (h : z.length ≤ sizeLine) (k : P (.int z.length) m) : CallD M X KE (.builtin "len") [.str z] P m := .of call_len_str fun G H _ vs ok r po => by
  obtain ⟨v, rfl, a⟩ := reps1 r
  cases a.str_inv
  exact ⟨z, rfl, h, po _ _ m G H k ok (.int _)⟩
theorem cd_tupL {ls : List Da} (k : P (.tup ls) m) : CallD M X KE (.type "tuple") [.lst ls] P m := .of call_tuple_of fun G H _ vs ok r po => by
  obtain ⟨v, rfl, a⟩ := reps1 r
  obtain ⟨b, us, rfl, q, t⟩ := a.lst_inv
  refine ⟨b, us, rfl, .inl ⟨sq_l (ok.sub _ _ q), fun p hp => ?_⟩⟩
  have al := ok.alloc (o := .tup us) hp
  exact po _ _ m _ _ k al (.tup (sq_t upd_same) (t.mono al.le))
theorem cd_tupT {ls : List Da} (k : P (.tup ls) m) : CallD M X KE (.type "tuple") [.tup ls] P m := .of call_tuple_of fun G H _ vs ok r po => by
  obtain ⟨v, rfl, a⟩ := reps1 r
  obtain ⟨b, us, rfl, q, t⟩ := a.tup_inv
  exact ⟨b, us, rfl, .inr ⟨sqT_same ok.sub q, po _ _ m G H k ok (.tup q t)⟩⟩
theorem cd_lstL {ls : List Da} (k : P (.lst ls) m) : CallD M X KE (.type "list") [.lst ls] P m := .of call_list_of fun G H _ vs ok r po => by
  obtain ⟨v, rfl, a⟩ := reps1 r
  obtain ⟨b, us, rfl, q, t⟩ := a.lst_inv
  refine ⟨b, us, rfl, .inl (sq_l (ok.sub _ _ q)), fun p hp => ?_⟩
  have al := ok.alloc (o := .lst us) hp
  exact po _ _ m _ _ k al (.lst upd_same (t.mono al.le))
theorem cd_lstT {ls : List Da} (k : P (.lst ls) m) : CallD M X KE (.type "list") [.tup ls] P m := .of call_list_of fun G H _ vs ok r po => by
  obtain ⟨v, rfl, a⟩ := reps1 r
  obtain ⟨b, us, rfl, q, t⟩ := a.tup_inv
  refine ⟨b, us, rfl, .inr (sqT_same ok.sub q), fun p hp => ?_⟩
  have al := ok.alloc (o := .lst us) hp
  exact po _ _ m _ _ k al (.lst upd_same (t.mono al.le))
theorem reps_ints {K : PySem.W.Frag} {G : Hp} : ∀ {vs : List V} {ns : List Int}, Reps K G vs (ns.map Da.int) → vs = ns.map V.int
  | _, [], r => by cases r; rfl
  | _, n :: ns, r => by
    cases r with
    | cons a b => rw [a.int_inv, reps_ints b]; rfl
theorem reps_intsI {K : PySem.W.Frag} {G : Hp} : ∀ (ns : List Int), Reps K G (ns.map V.int) (ns.map Da.int)
  | [] => .nil
  | n :: ns => .cons (.int n) (reps_intsI ns)
theorem reps_bls {K : PySem.W.Frag} {G : Hp} : ∀ {vs : List V} {ns : List Bool}, Reps K G vs (ns.map Da.bl) → vs = ns.map V.bl
  | _, [], r => by cases r; rfl
  | _, n :: ns, r => by
    cases r with
    | cons a b => rw [a.bl_inv, reps_bls b]; rfl
theorem reps_strs {K : PySem.W.Frag} {G : Hp} : ∀ {vs : List V} {ns : List Str}, Reps K G vs (ns.map Da.str) → vs = ns.map V.str
  | _, [], r => by cases r; rfl
  | _, n :: ns, r => by
    cases r with
    | cons a b => rw [a.str_inv, reps_strs b]; rfl
theorem reps_strsI {K : PySem.W.Frag} {G : Hp} : ∀ (ns : List Str), Reps K G (ns.map V.str) (ns.map Da.str)
  | [] => .nil
  | n :: ns => .cons (.str n) (reps_strsI ns)
theorem cd_sum {ns : List Int} (k : P (.int ns.sum) m) (hc : X.calm = true := by with_unfolding_all rfl) : CallD M X KE (.builtin "sum") [.lst (ns.map Da.int)] P m := .of (cr_sum hc) fun G H _ vs ok r po => by
  obtain ⟨v, rfl, a⟩ := reps1 r
  obtain ⟨b, us, rfl, q, t⟩ := a.lst_inv
  exact ⟨b, ns, rfl, by rw [← reps_ints t]; exact sq_l (ok.sub _ _ q), po _ _ m G H k ok (.int _)⟩
theorem cd_any {bs : List Bool} (k : P (.bl (bs.any id)) m) (hc : X.calm = true := by with_unfolding_all rfl) : CallD M X KE (.builtin "any") [.lst (bs.map Da.bl)] P m := .of (cr_any hc) fun G H _ vs ok r po => by
  obtain ⟨v, rfl, a⟩ := reps1 r
  obtain ⟨b, us, rfl, q, t⟩ := a.lst_inv
  exact ⟨b, bs, rfl, by rw [← reps_bls t]; exact sq_l (ok.sub _ _ q), po _ _ m G H k ok (.bl _)⟩
theorem cd_all {bs : List Bool} (k : P (.bl (bs.all id)) m) (hc : X.calm = true := by with_unfolding_all rfl) : CallD M X KE (.builtin "all") [.lst (bs.map Da.bl)] P m := .of (cr_all hc) fun G H _ vs ok r po => by
  obtain ⟨v, rfl, a⟩ := reps1 r
  obtain ⟨b, us, rfl, q, t⟩ := a.lst_inv
  exact ⟨b, bs, rfl, by rw [← reps_bls t]; exact sq_l (ok.sub _ _ q), po _ _ m G H k ok (.bl _)⟩
theorem cd_maxL {ns : List Int} (h : 0 < ns.length) (k : ∀ z, z ∈ ns → (∀ y, y ∈ ns → y ≤ z) → P (.int z) m) (hc : X.calm = true := by with_unfolding_all rfl) : CallD M X KE (.builtin "max") [.lst (ns.map Da.int)] P m := .of (cr_max hc) fun G H _ vs ok r po => by
  obtain ⟨v, rfl, a⟩ := reps1 r
  obtain ⟨b, us, rfl, q, t⟩ := a.lst_inv
  exact ⟨b, ns, rfl, by rw [← reps_ints t]; exact sq_l (ok.sub _ _ q), h, fun z h1 h2 => po _ _ m G H (k z h1 h2) ok (.int _)⟩
theorem cd_minL {ns : List Int} (h : 0 < ns.length) (k : ∀ z, z ∈ ns → (∀ y, y ∈ ns → z ≤ y) → P (.int z) m) (hc : X.calm = true := by with_unfolding_all rfl) : CallD M X KE (.builtin "min") [.lst (ns.map Da.int)] P m := .of (cr_min hc) fun G H _ vs ok r po => by
  obtain ⟨v, rfl, a⟩ := reps1 r
  obtain ⟨b, us, rfl, q, t⟩ := a.lst_inv
  exact ⟨b, ns, rfl, by rw [← reps_ints t]; exact sq_l (ok.sub _ _ q), h, fun z h1 h2 => po _ _ m G H (k z h1 h2) ok (.int _)⟩
theorem cd_gcd {l : Int} (k : P (.int ((Nat.gcd i.natAbs l.natAbs : Nat) : Int)) m) : CallD M X KE (.builtin "math.gcd") [.int i, .int l] P m := .of cr_gcd fun G H _ vs ok r po => by
  obtain ⟨v, w, rfl, a, b⟩ := reps2 r
  cases a.int_inv; cases b.int_inv
  exact ⟨i, l, rfl, po _ _ m G H k ok (.int _)⟩
end
end OZ

/-! ### statements -/
namespace OZ
open PySem L2 PySem.Spec PyProof.Rows
structure Kn where
  nx : List Sl → Nat → Prop
  rt : Da → Nat → Prop
  bk : List Sl → Nat → Prop := fun _ _ => False
  ct : List Sl → Nat → Prop := fun _ _ => False
  rn : Da → Nat → Prop := fun _ _ => False
abbrev Ks := List Sl → Kx
structure WisS (M : Mode) (X : Cx) (KE : Ks) (G0 H0 : Hp) (W : WX) : Prop where
  tk : Takes X W
  ex : ∀ C fs d σ sl m' G' H', KE sl C fs m' → Ok M G0 H0 G' H' m' → SOk X.K M H0 G' H' σ sl → XRep X.K G' H' d fs → W (.ref C) d σ H'
theorem WisS.at {M : Mode} {X : Cx} {KE : Ks} {G0 H0 G H : Hp} {W : WX} {m : Nat} {σ : L2.St} {sl : List Sl} (w : WisS M X KE G0 H0 W) (ok : Ok M G0 H0 G H m) (so : SOk X.K M H0 G H σ sl) : Wis M X (KE sl) G H σ W :=
  ⟨w.tk, fun C fs d m' G' H' k o x => w.ex C fs d σ sl m' G' H' k (ok.trans o) (so.step o) x⟩
def NxS (M : Mode) (K : PySem.W.Frag) (G0 H0 : Hp) (P : List Sl → Nat → Prop) (Q : L2.St → Hp → Prop) : Prop := ∀ σ sl m G H, P sl m → Ok M G0 H0 G H m → SOk K M H0 G H σ sl → Q σ H
/-- an object that is the run's own, new since the entry -/
structure New (K : PySem.W.Frag) (M : Mode) (H0 G H : Hp) (ad : Addr) (d : Da) : Prop where
  g : G ad = none
  h0 : H0 ad = none ∨ M.X H0 ad
  nx : ¬ M.X H ad
  r : RepM K G H ad d
theorem fresh0 {M : Mode} {G0 H0 G H : Hp} {m : Nat} {ad : Addr} (ok : Ok M G0 H0 G H m) (h : H ad = none ∨ M.X H ad) : H0 ad = none ∨ M.X H0 ad := by
  cases e : H0 ad with
  | none => exact .inl rfl
  | some u =>
    by_cases x : M.X H0 ad
    · exact .inr x
    · obtain ⟨a, b⟩ := ok.keep ad u e x
      rcases h with h | h
      · rw [h] at a; cases a
      · exact absurd h b
theorem New.back {K : PySem.W.Frag} {M : Mode} {G0 H0 G H G' H' : Hp} {m : Nat} {ad : Addr} {d : Da} (n : New K M H G' H' ad d) (ok : Ok M G0 H0 G H m) : New K M H0 G' H' ad d := ⟨n.g, fresh0 ok n.h0, n.nx, n.r⟩
theorem upd_self' {H : Hp} {a : Addr} {o : HO} (h : H a = some o) : L2.upd H a o = H := by
  funext b
  by_cases q : b = a
  · subst q; rw [upd_same, h]
  · rw [upd_ne q]
def notDct : Da → Bool
  | .dct _ => false
  | _ => true
theorem repM_rep {K : PySem.W.Frag} {G H : Hp} {a : Addr} {u : HO} {d : Da} (hu : H a = some u) (ga : G a = none) (rm : RepM K G H a d) (nd : notDct d = true) : Rep K (L2.upd G a u) (.ref a) d := by
  have same : Same G (L2.upd G a u) := sameUp ga
  cases d with
  | lst ds => obtain ⟨vs, e, r⟩ := rm; rw [hu] at e; cases e; exact .lst upd_same (r.mono same)
  | dct ds => simp [notDct] at nd
  | obj C fs => obtain ⟨dx, vs, e, r⟩ := rm; rw [hu] at e; cases e; exact .obj upd_same (r.mono same)
  | _ => exact rm.elim
/-- what an own object becomes when it is known: a dict is locked -/
theorem RepM.pubI {K : PySem.W.Frag} {X : Cx} {pins : List (Addr × Obj)} {σ : L2.St} {s : Shared} {G H : Hp} {a : Addr} {d : Da} (rm : RepM K G H a d) (ga : G a = none) (I : Inv X pins σ H s) : ∃ u, Inv X pins σ (L2.upd H a u) s ∧ Rep K (L2.upd G a u) (.ref a) d := by
  have same : ∀ u, Same G (L2.upd G a u) := fun u => sameUp ga
  cases d with
  | lst ds => obtain ⟨vs, e, r⟩ := rm; exact ⟨_, (upd_self' e).symm ▸ I, .lst upd_same (r.mono (same _))⟩
  | dct ds =>
    obtain ⟨vs, e, r⟩ := rm
    obtain ⟨od, I2⟩ := I.lock e trivial
    exact ⟨_, I2, .dct upd_same (RepK.mono (same _) r)⟩
  | obj C fs => obtain ⟨dx, vs, e, r⟩ := rm; exact ⟨_, (upd_self' e).symm ▸ I, .obj upd_same (RepF.mono (same _) r)⟩
  | _ => exact rm.elim
theorem Ok.mpub {M : Mode} {G0 H0 G H : Hp} {m : Nat} {p : Addr} {o : HO} (a : Ok M G0 H0 G H m) (hg : G p = none) (nx : ¬ M.X H p) (h0 : H0 p = none ∨ M.X H0 p) : Ok M G0 H0 (L2.upd G p o) (L2.upd H p o) m :=
  (a.mut hg nx h0).pub upd_same hg (fun z => nx ((M.clo m H _ a.inv fun b u x e => by rw [upd_ne (fun q => nx (by rw [← q]; exact x))]; exact e).2 _ z)) h0
theorem New.pubI {X : Cx} {pins : List (Addr × Obj)} {σ : L2.St} {s : Shared} {K : PySem.W.Frag} {M : Mode} {G0 H0 G H : Hp} {m : Nat} {ad : Addr} {d : Da} (n : New K M H0 G H ad d) (ok : Ok M G0 H0 G H m) (I : Inv X pins σ H s) : ∃ G' H', Inv X pins σ H' s ∧ Ok M G0 H0 G' H' m ∧ Rep K G' (.ref ad) d := by
  obtain ⟨u, I2, r⟩ := n.r.pubI n.g I
  exact ⟨_, _, I2, ok.mpub n.g n.nx n.h0, r⟩
structure PostS (M : Mode) (K : PySem.W.Frag) (G0 H0 : Hp) (D : Kn) (E : Ends) : Prop where
  nx : NxS M K G0 H0 D.nx E.nx
  rt : ∀ v d m G H, D.rt d m → Ok M G0 H0 G H m → Rep K G v d → E.rt v H
  bk : NxS M K G0 H0 D.bk E.bk
  ct : NxS M K G0 H0 D.ct E.ct
  rn : ∀ ad d m G H, D.rn d m → Ok M G0 H0 G H m → New K M H0 G H ad d → E.rt (.ref ad) H
theorem PostS.at {M : Mode} {K : PySem.W.Frag} {G0 H0 G H : Hp} {D : Kn} {E : Ends} {m : Nat} (p : PostS M K G0 H0 D E) (ok : Ok M G0 H0 G H m) : Post M K G H D.rt E.rt := fun v d m' G' H' q o r => p.rt v d m' G' H' q (ok.trans o) r
def wpS (X : Cx) (st : Stmt) : TS := fun E σ H => ∀ pins s, Inv X pins σ H s → wpAny (model X.prog X.w) X.A (exec st X.env) (SP X pins E) X.xe s
def wpSs (X : Cx) (st : List Stmt) : TS := fun E σ H => ∀ pins s, Inv X pins σ H s → wpAny (model X.prog X.w) X.A (execs st X.env) (SP X pins E) X.xe s
theorem ps_wp {X : Cx} {e : Stmt} : PS X e (wpS X e) := ⟨fun pins s _ _ _ I h => h pins s I⟩
theorem pss_wp {X : Cx} {e : List Stmt} : PSs X e (wpSs X e) := ⟨fun pins s _ _ _ I h => h pins s I⟩
theorem wpS.of {X : Cx} {e : Stmt} {t : TS} {σ : L2.St} {H : Hp} {E : Ends} (p : PS X e t) (h : t E σ H) : wpS X e E σ H := fun pins s I => p.run pins s σ H E I h
theorem wpSs.of {X : Cx} {e : List Stmt} {t : TS} {σ : L2.St} {H : Hp} {E : Ends} (p : PSs X e t) (h : t E σ H) : wpSs X e E σ H := fun pins s I => p.run pins s σ H E I h
def St1 (M : Mode) (X : Cx) (KE : Ks) (st : Stmt) (sl : List Sl) (D : Kn) (m : Nat) : Prop :=
  ∀ (G0 H0 G H : Hp) (σ : L2.St) (W : WX) (E : Ends), Ok M G0 H0 G H m → SOk X.K M H0 G H σ sl → WisS M X KE G0 H0 W → PostS M X.K G0 H0 D E → wpS X st E σ H
def StD (M : Mode) (X : Cx) (KE : Ks) (sts : List Stmt) (sl : List Sl) (D : Kn) (m : Nat) : Prop :=
  ∀ (G0 H0 G H : Hp) (σ : L2.St) (W : WX) (E : Ends), Ok M G0 H0 G H m → SOk X.K M H0 G H σ sl → WisS M X KE G0 H0 W → PostS M X.K G0 H0 D E → wpSs X sts E σ H
section
variable {M : Mode} {X : Cx} {KE : Ks} {a b c e : Expr} {es : List Expr} {sl : List Sl} {D : Kn} {m : Nat} {pos p : Pos} {x : Str} {st : Stmt} {rest sa sb : List Stmt} {N : List Str} {sc : Scope} {B : Bd}
theorem std_nil (h : D.nx sl m) : StD M X KE [] sl D m := fun G0 H0 G H σ W E ok so _ po => wpSs.of pss_nil (po.nx σ sl m G H h ok so)
theorem std_cons (h : St1 M X KE st sl { D with nx := fun sl' m' => StD M X KE rest sl' D m' } m) : StD M X KE (st :: rest) sl D m := fun G0 H0 G H σ W E ok so wi po =>
  wpSs.of (pss_cons ps_wp pss_wp) (h G0 H0 G H σ W { E with nx := wpSs X rest E } ok so wi
    ⟨fun σ' sl' m' G' H' q ok' so' => q G0 H0 G' H' σ' W E ok' so' wi po, po.rt, po.bk, po.ct, po.rn⟩)
/-- a cut: what stands between -/
theorem std_cut (Mid : List Sl → Nat → Prop) (h : St1 M X KE st sl { D with nx := Mid } m) (k : ∀ sl' m', Mid sl' m' → StD M X KE rest sl' D m') : StD M X KE (st :: rest) sl D m := fun G0 H0 G H σ W E ok so wi po =>
  wpSs.of (pss_cons ps_wp pss_wp) (h G0 H0 G H σ W { E with nx := wpSs X rest E } ok so wi
    ⟨fun σ' sl' m' G' H' q ok' so' => k sl' m' q G0 H0 G' H' σ' W E ok' so' wi po, po.rt, po.bk, po.ct, po.rn⟩)
theorem st1_set (cx : Ctx X N sc B) (h : EvD M X (KE sl) e sl (fun d m1 => ∃ i sl', EnvSet N sl x i (.v d) sl' ∧ D.nx sl' m1) m) (hx : Loc sc x := by with_unfolding_all first | exact Or.inl rfl | exact Or.inr rfl)
    (hs : swapsWith e (some (.Name x p)) pos.line X.env = pure false := by with_unfolding_all rfl) (hf : X.fn x = true ∨ X.env.scope.names.lookup x = some .local := by with_unfolding_all first | exact Or.inl rfl | exact Or.inr rfl) : St1 M X KE (.Assign [.Name x p] e pos) sl D m := by
  intro G0 H0 G H σ W E ok so wi po pins s I
  refine wpAny_Assign_Name (h.run ok so (wi.at ok so) I fun u s1 v d m1 G1 H1 p1 k1 o1 so1 wi1 r1 I1 rv1 => ?_) hs
  obtain ⟨i, sl', es, q⟩ := p1
  have hi : X.N[i]? = some x := by rw [cx.n]; exact es.name
  refine store_ok I1 cx.nd hi (cx.loc hx) rv1 (fun s2 I2 => ⟨_, H1, I2, ?_⟩) hf
  refine po.nx _ sl' m1 G1 H1 q k1 ?_
  rw [es.set]
  exact so1.setV i r1
theorem st1_ret (h : EvD M X (KE sl) e sl D.rt m) : St1 M X KE (.Return (some e) pos) sl D m := fun G0 H0 G H σ W E ok so wi po =>
  wpS.of (ps_ret pe_wp) (h G0 H0 G H σ W E.rt ok so (wi.at ok so) (po.at ok))
theorem st1_retN (h : D.rt .non m) : St1 M X KE (.Return none pos) sl D m := fun G0 H0 G H σ W E ok so wi po =>
  wpS.of ps_retN (po.rt _ _ m G H h ok .non)
theorem st1_if (h : EvT M X (KE sl) c sl (fun k m1 => if k = true then StD M X KE sa sl D m1 else StD M X KE sb sl D m1) m) : St1 M X KE (.If c sa sb pos) sl D m := fun G0 H0 G H σ W E ok so wi po =>
  wpS.of (ps_if pt_wp pss_wp pss_wp) (h G0 H0 G H σ W _ ok so (wi.at ok so) fun k m' G' H' q o => by
    cases k with
    | true => exact q G0 H0 G' H' σ W E (ok.trans o) (so.step o) wi po
    | false => exact q G0 H0 G' H' σ W E (ok.trans o) (so.step o) wi po)
theorem st1_expr (h : EvD M X (KE sl) e sl (fun _ m1 => D.nx sl m1) m) (hs : swapsWith e none pos.line X.env = pure false := by with_unfolding_all rfl) : St1 M X KE (.Expr e pos) sl D m := fun G0 H0 G H σ W E ok so wi po =>
  wpS.of (ps_expr pe_wp hs) (h G0 H0 G H σ W _ ok so (wi.at ok so) fun v d m' G' H' q o r => po.nx σ sl m' G' H' q (ok.trans o) (so.step o))
/-- return of an object of the run's own -/
theorem st1_retM {i : Nat} {d : Da} (cx : Ctx X N sc B) (hx : EnvAt N sl x i (.m d)) (h : D.rn d m) (hv : Vis sc x := by with_unfolding_all first | exact Or.inl rfl | exact Or.inr (Or.inl rfl) | exact Or.inr (Or.inr rfl)) (hd : (x == ("__debug__" : Str)) = false := by with_unfolding_all decide) (hcd : (x == ("__classdict__" : Str)) = false := by with_unfolding_all decide) : St1 M X KE (.Return (some (.Name x p)) pos) sl D m := by
  intro G0 H0 G H σ W E ok so wi po
  obtain ⟨o, e1, ad, rfl, zz, g, h0, n, r⟩ := paired_get so.rel hx.slot
  exact wpS.of (ps_ret (pe_var (by rw [cx.n]; exact hx.name) (cx.vis hv) hd hcd)) ⟨_, e1, po.rn ad d m G H h ok ⟨g, h0, n, r⟩⟩
theorem st1_pass (h : D.nx sl m) : St1 M X KE (.Pass pos) sl D m := fun G0 H0 G H σ W E ok so wi po => wpS.of ps_pass (po.nx σ sl m G H h ok so)
theorem st1_break (h : D.bk sl m) : St1 M X KE (.Break pos) sl D m := fun G0 H0 G H σ W E ok so wi po => wpS.of ps_break (po.bk σ sl m G H h ok so)
theorem st1_cont (h : D.ct sl m) : St1 M X KE (.Continue pos) sl D m := fun G0 H0 G H σ W E ok so wi po => wpS.of ps_continue (po.ct σ sl m G H h ok so)
theorem std_imp {D' : Kn} (h : StD M X KE rest sl D m) (h1 : ∀ s n, D.nx s n → D'.nx s n) (h2 : ∀ s n, D.rt s n → D'.rt s n) (h3 : ∀ s n, D.bk s n → D'.bk s n) (h4 : ∀ s n, D.ct s n → D'.ct s n) (h5 : ∀ s n, D.rn s n → D'.rn s n) : StD M X KE rest sl D' m := fun G0 H0 G H σ W E ok so wi po =>
  h G0 H0 G H σ W E ok so wi ⟨fun σ' sl' m' G' H' q => po.nx σ' sl' m' G' H' (h1 _ _ q), fun v d m' G' H' q => po.rt v d m' G' H' (h2 _ _ q), fun σ' sl' m' G' H' q => po.bk σ' sl' m' G' H' (h3 _ _ q), fun σ' sl' m' G' H' q => po.ct σ' sl' m' G' H' (h4 _ _ q), fun a d m' G' H' q => po.rn a d m' G' H' (h5 _ _ q)⟩
/-- an object of the run's own is known from now on -/
theorem sok_pub' {K : PySem.W.Frag} {M : Mode} {H0 G H : Hp} {σ : L2.St} {sl : List Sl} {i : Nat} {q : Option Addr} {d : Da} (so : SOk K M H0 G H σ sl) (hi : sl[i]? = some (.mm q d)) :
    ∃ a, σ[i]? = some (some (.ref a)) ∧ G a = none ∧ ¬ M.X H a ∧ (H0 a = none ∨ M.X H0 a) ∧ RepM K G H a d ∧
      ∀ u, Rep K (L2.upd G a u) (.ref a) d → (∀ b, M.X (L2.upd H a u) b → M.X H b) → SOk K M H0 (L2.upd G a u) (L2.upd H a u) σ (sl.set i (.v d)) := by
  obtain ⟨o, e1, r⟩ := paired_get so.rel hi
  obtain ⟨a, rfl, zz, ga, h0, nx, rm⟩ := r
  refine ⟨a, e1, ga, nx, h0, rm, fun u rep xk => ?_⟩
  have same : Same G (L2.upd G a u) := sameUp ga
  have hσ : σ.set i (some (.ref a)) = σ := by
    apply List.ext_getElem?
    intro j
    by_cases q : i = j
    · subst q
      have : i < σ.length := (List.getElem?_eq_some_iff.mp e1).1
      rw [List.getElem?_set_self this, e1]
    · rw [List.getElem?_set_ne q]
  have base : SOk K M H0 (L2.upd G a u) (L2.upd H a u) σ (sl.set i .un) := by
    have dr := so.drop i
    refine ⟨?_, dr.dis⟩
    have key : ∀ (j : Nat) s, (sl.set i .un)[j]? = some s → ∀ o, σ[j]? = some o → RelSl K M H0 G H o s → RelSl K M H0 (L2.upd G a u) (L2.upd H a u) o s := by
      intro j s hj o ho r
      cases s with
      | un => trivial
      | v d' => obtain ⟨v, e, r⟩ := r; exact ⟨v, e, r.mono same⟩
      | mm q' d' =>
        obtain ⟨a', e, z', g', h0', n', r'⟩ := r
        have nij : i ≠ j := fun q => by
          subst q
          have l : i < sl.length := (List.getElem?_eq_some_iff.mp hi).1
          rw [List.getElem?_set_self l] at hj; cases hj
        have ne : a' ≠ a := fun q => by
          subst q
          rw [List.getElem?_set_ne nij] at hj
          rw [e] at ho
          exact nij (so.dis i j a' ⟨q, d, hi⟩ ⟨q', d', hj⟩ e1 ho)
        exact ⟨a', e, z', by rw [upd_ne ne]; exact g', h0', fun z => n' (xk _ z), r'.step same (upd_ne ne)⟩
    have go : ∀ (σ : L2.St) (sl : List Sl), Paired (RelSl K M H0 G H) σ sl → (∀ (j : Nat) s, sl[j]? = some s → ∀ o, σ[j]? = some o → RelSl K M H0 G H o s → RelSl K M H0 (L2.upd G a u) (L2.upd H a u) o s) → Paired (RelSl K M H0 (L2.upd G a u) (L2.upd H a u)) σ sl := by
      intro σ sl r
      induction r with
      | nil => intro _; exact .nil
      | cons x y ih => intro f; exact .cons (f 0 _ rfl _ rfl x) (ih fun j s hs o ho => f (j + 1) s (by simpa using hs) o (by simpa using ho))
    exact go _ _ dr.rel key
  have := base.setV i rep
  rw [hσ, List.set_set] at this
  exact this
theorem Ok.xk {M : Mode} {G0 H0 G H : Hp} {m : Nat} {a : Addr} {o : HO} (ok : Ok M G0 H0 G H m) (n : ¬ M.X H a) : ∀ b, M.X (L2.upd H a o) b → M.X H b := (M.clo m H _ ok.inv fun b u x e => by rw [upd_ne (fun q => n (by rw [← q]; exact x))]; exact e).2
theorem std_pub {i : Nat} {q : Option Addr} {d : Da} (hi : sl[i]? = some (.mm q d)) (h : StD M X KE rest (sl.set i (.v d)) D m) : StD M X KE rest sl D m := by
  intro G0 H0 G H σ W E ok so wi po pins s I
  obtain ⟨a, e1, ga, nx, h0, rm, f⟩ := sok_pub' so hi
  obtain ⟨u, I2, rep⟩ := rm.pubI ga I
  exact h G0 H0 _ _ σ W E (ok.mpub ga nx h0) (f u rep (ok.xk nx)) wi po pins s I2
/-- forget a slot -/
theorem std_drop (i : Nat) (h : StD M X KE rest (sl.set i .un) D m) : StD M X KE rest sl D m := fun G0 H0 G H σ W E ok so wi po => h G0 H0 G H σ W E ok (so.drop i) wi po
end
/-! ### a def of the text -/
def startD (N : List Str) (ds : List Da) : List Sl := ds.map Sl.v ++ List.replicate (N.length - ds.length) .un
theorem sok_start {K : PySem.W.Frag} {M : Mode} {G H : Hp} {N : List Str} {vs : List V} {ds : List Da} (r : Reps K G vs ds) : SOk K M H G H (L2.start N vs) (startD N ds) := by
  have e : ∀ n : Nat, Paired (RelSl K M H G H) (List.replicate n none) (List.replicate n .un) := fun n => by
    induction n with
    | zero => exact .nil
    | succ n ih => rw [List.replicate_succ, List.replicate_succ]; exact .cons trivial ih
  have f : ∀ {vs : List V} {ds : List Da} {xs : L2.St} {ys : List Sl}, Reps K G vs ds → Paired (RelSl K M H G H) xs ys → Paired (RelSl K M H G H) (vs.map some ++ xs) (ds.map Sl.v ++ ys) := by
    intro vs ds xs ys r q
    induction vs generalizing ds with
    | nil => cases r; exact q
    | cons v vs ih => cases r with | cons a b => exact .cons ⟨v, rfl, a⟩ (ih b)
  refine ⟨by unfold L2.start startD; rw [← r.length]; exact f r (e _), fun i j a ⟨q, d, hd⟩ => ?_⟩
  have hm : Sl.mm q d ∈ startD N ds := List.mem_of_getElem? hd
  unfold startD at hm
  rcases List.mem_append.mp hm with h | h
  · obtain ⟨_, _, h⟩ := List.mem_map.mp h; cases h
  · cases (List.mem_replicate.mp h).2
section
variable {B : Bd} {M : Mode} {x qual : Str} {st : Stmt} {f : Addr} {fd : FuncData} {N ps : List Str} {k n : Nat} {F : FD}
theorem fnG_ok (Fn : Fun B.K x qual st f fd) (S : FnScope N ps (defScope st)) (hn : n = ps.length) (hb : Binds B.K fd ps [])
    (h : ∀ (X : Cx) (ds : List Da) (KR : Da → Nat → Prop) (KE : Kx) (m : Nat), (∃ cdv A outer s H E, X = (cxOf CX0 B.P B.w B.K B.mg B.base N qual (defScope st) f cdv A outer s H E).nox) → Ctx X N (defScope st) B → Room k X.A → ds.length = n → F ds KR KE m →
      StD M X (fun _ => K0) (defBody st) (startD N ds) { nx := fun _ m' => KR .non m', rt := KR } m) : FnG M B (k + 1) f n F := by
  refine ⟨CX0, fd, ps, Fn.ok S (fun vs H Q E q => q.1.trans hn) (fun cdv A outer s H vs Q E hr q => ?_), hb, .inl rfl, hn⟩
  obtain ⟨hl, G, m, ds, KR, KE, ok, r, hF, po, _⟩ := q
  refine ⟨_, pss_wp, ?_⟩
  refine h (cxOf CX0 B.P B.w B.K B.mg B.base N qual (defScope st) f cdv A outer s H E).nox ds KR KE m ⟨cdv, A, outer, s, H, E, rfl⟩ ⟨rfl, rfl, S.nd, rfl⟩ hr (r.length.symm.trans hl) hF G H G H (L2.start N vs) (fun _ _ _ _ => False) _ ok (sok_start r) ⟨takes0, fun _ _ _ _ _ _ _ _ z => z.elim⟩ ⟨?_, ?_, ?_, ?_, ?_⟩
  · exact fun σ sl m' G' H' q o _ => po .non .non m' G' H' q o .non
  · exact fun v d m' G' H' q o rr => po v d m' G' H' q o rr
  · exact fun _ _ _ _ _ z => z.elim
  · exact fun _ _ _ _ _ z => z.elim
  · exact fun _ _ _ _ _ z => z.elim
/-- one that may raise -/
theorem fnG_okX (Fn : Fun B.K x qual st f fd) (S : FnScope N ps (defScope st)) (hn : n = ps.length) (hb : Binds B.K fd ps [])
    (h : ∀ (X : Cx) (ds : List Da) (KR : Da → Nat → Prop) (KE : Kx) (m : Nat), (∃ cdv A outer s H E, X = cxOf (L2.CX B.P B.w) B.P B.w B.K B.mg B.base N qual (defScope st) f cdv A outer s H E) → Ctx X N (defScope st) B → Room k X.A → ds.length = n → F ds KR KE m →
      StD M X (fun _ => KE) (defBody st) (startD N ds) { nx := fun _ m' => KR .non m', rt := KR } m) : FnG M B (k + 1) f n F := by
  refine ⟨L2.CX B.P B.w, fd, ps, Fn.okX S (fun vs H Q E q => q.1.trans hn) (fun cdv A outer s H vs Q E hr q => ?_), hb, .inr rfl, hn⟩
  obtain ⟨hl, G, m, ds, KR, KE, ok, r, hF, po, px⟩ := q
  refine ⟨_, pss_wp, ?_⟩
  refine h (cxOf (L2.CX B.P B.w) B.P B.w B.K B.mg B.base N qual (defScope st) f cdv A outer s H E) ds KR KE m ⟨cdv, A, outer, s, H, E, rfl⟩ ⟨rfl, rfl, S.nd, rfl⟩ hr (r.length.symm.trans hl) hF G H G H (L2.start N vs) (fun cls d _ H => E cls d H) _ ok (sok_start r) ⟨takes_of rfl rfl rfl rfl, fun C fs d σ sl m' G' H' q o _ x => px C fs d m' G' H' q o x⟩ ⟨?_, ?_, ?_, ?_, ?_⟩
  · exact fun σ sl m' G' H' q o _ => po .non .non m' G' H' q o .non
  · exact fun v d m' G' H' q o rr => po v d m' G' H' q o rr
  · exact fun _ _ _ _ _ z => z.elim
  · exact fun _ _ _ _ _ z => z.elim
  · exact fun _ _ _ _ _ z => z.elim
end
end OZ

/-! ### truth, ifs, chains, slices -/
namespace OZ
open PySem L2 PySem.Spec PyProof.Rows
def Tru (P : Bool → Nat → Prop) : Da → Nat → Prop
  | .non, m => P false m
  | .bl b, m => P b m
  | .int i, m => P (decide (i ≠ 0)) m
  | .str y, m => y.length ≤ sizeLine ∧ P (decide (y.length ≠ 0)) m
  | .lst ds, m => P (!ds.isEmpty) m
  | .tup ds, m => P (!ds.isEmpty) m
  | _, _ => False
section
variable {M : Mode} {X : Cx} {KE : Kx} {a b c e : Expr} {es : List Expr} {sl : List Sl} {P : Da → Nat → Prop} {PT' : Bool → Nat → Prop} {m : Nat} {pos : Pos}
theorem tru_da {z : Da} (h : Tru PT' z m) : ∃ k, DaTru z k ∧ PT' k m := by
  cases z with
  | str y => exact ⟨_, ⟨h.1, rfl⟩, h.2⟩
  | ty _ => exact h.elim
  | ref _ => exact h.elim
  | dct _ => exact h.elim
  | obj _ _ => exact h.elim
  | exc _ _ _ => exact h.elim
  | _ => exact ⟨_, rfl, h⟩
theorem evt_tru (h : EvD M X KE e sl (Tru PT') m) (he : ∀ whole, isTrue e X.env whole = (do let v ← whole; standAt e.pos; holding [v] (truthy v)) := by with_unfolding_all (intro _; rfl)) : EvT M X KE e sl PT' m := evt_truth (evd_imp h fun _ _ q => tru_da q) he
theorem evd_notV (h : EvD M X KE a sl (Tru fun k m1 => P (.bl (!k)) m1) m) : EvD M X KE (.UnaryOp .Not a pos) sl P m := evd_notT (evd_imp h fun _ _ q => tru_da q)
/-- ints in a chain -/
theorem evt_chain {op op' : CmpOp} {g g' : Int → Int → Bool} (ho : OpR X (compareOp op) (rI0 fun i j => .bl (g i j))) (ho' : OpR X (compareOp op') (rI0 fun i j => .bl (g' i j)))
    (h : EvD M X KE a sl (fun x m1 => ∃ i, x = .int i ∧ EvD M X KE b sl (fun y m2 => ∃ j, y = .int j ∧ if g i j = true then EvD M X KE c sl (fun z m3 => ∃ l, z = .int l ∧ PT' (g' j l) m3) m2 else PT' false m2) m1) m)
    (hm : lastMarks [op, op'] [b, c] = false := by with_unfolding_all rfl) : EvT M X KE (.Compare a [op, op'] [b, c] pos) sl PT' m := fun G0 H0 G H σ W Q ok so wi po =>
  wpT.of (pt_chain ho ho' pe_wp pe_wp pe_wp hm) (h G0 H0 G H σ W _ ok so wi fun v d m1 G1 H1 p1 o1 r1 => by
    obtain ⟨i, rfl, p1⟩ := p1
    refine p1 G0 H0 G1 H1 σ W _ (ok.trans o1) (so.step o1) (wi.step o1) fun v2 d2 m2 G2 H2 p2 o2 r2 => ?_
    obtain ⟨j, rfl, p2⟩ := p2
    refine ⟨i, j, r1.int_inv, r2.int_inv, g i j, rfl, ?_⟩
    by_cases k : g i j = true
    · rw [if_pos k] at p2 ⊢
      refine p2 G0 H0 G2 H2 σ W _ ((ok.trans o1).trans o2) ((so.step o1).step o2) ((wi.step o1).step o2) fun v3 d3 m3 G3 H3 p3 o3 r3 => ?_
      obtain ⟨l, rfl, p3⟩ := p3
      exact ⟨j, l, r2.int_inv, r3.int_inv, _, rfl, po _ m3 G3 H3 p3 ((o1.trans o2).trans o3)⟩
    · rw [if_neg k] at p2 ⊢
      exact ⟨false, rfl, po _ m2 G2 H2 p2 (o1.trans o2)⟩)
end
section
variable {M : Mode} {X : Cx} {KE : Kx} {P : Da → Nat → Prop} {m : Nat} {i : Int} {ds : List Da}
theorem atI_pos {α : Type} {xs : List α} {i : Int} {v : α} (h0 : 0 ≤ i) (h : xs[i.toNat]? = some v) : atI xs i = some v := by
  have := atI_nat h
  rwa [Int.toNat_of_nonneg h0] at this
/-- an item at an open place -/
theorem ixd_lstA (h0 : 0 ≤ i) (h1 : i < (ds.length : Int)) (k : ∀ d, ds[i.toNat]? = some d → P d m) : IxD M X KE (.lst ds) (.int i) P m := by
  have h : i.toNat < ds.length := by omega
  exact ixd_lst (atI_pos h0 (List.getElem?_eq_getElem h)) (k _ (List.getElem?_eq_getElem h))
theorem ixd_tupA (h0 : 0 ≤ i) (h1 : i < (ds.length : Int)) (k : ∀ d, ds[i.toNat]? = some d → P d m) : IxD M X KE (.tup ds) (.int i) P m := by
  have h : i.toNat < ds.length := by omega
  exact ixd_tup (atI_pos h0 (List.getElem?_eq_getElem h)) (k _ (List.getElem?_eq_getElem h))
theorem ixd_lstM {Pr : Da → Prop} (h0 : 0 ≤ i) (h1 : i < (ds.length : Int)) (hp : ∀ d ∈ ds, Pr d) (k : ∀ d, Pr d → P d m) : IxD M X KE (.lst ds) (.int i) P m :=
  ixd_lstA h0 h1 fun d e => k d (hp d (List.mem_of_getElem? e))
end
theorem zif {p A B : Prop} [Decidable p] (h1 : p → A) (h2 : ¬p → B) : if decide p = true then A else B := by
  by_cases h : p
  · rw [decide_eq_true h]; exact h1 h
  · rw [decide_eq_false h]; exact h2 h
theorem zifn {p A B : Prop} [Decidable p] (h1 : ¬p → A) (h2 : p → B) : if (!decide p) = true then A else B := by
  by_cases h : p
  · rw [decide_eq_true h]; exact h2 h
  · rw [decide_eq_false h]; exact h1 h
theorem zifT {p A B : Prop} [Decidable p] (h : p) (h1 : A) : if decide p = true then A else B := by rw [decide_eq_true h]; exact h1
theorem zifF {p A B : Prop} [Decidable p] (h : ¬p) (h1 : B) : if decide p = true then A else B := by rw [decide_eq_false h]; exact h1
theorem zifnT {p A B : Prop} [Decidable p] (h : p) (h1 : B) : if (!decide p) = true then A else B := by rw [decide_eq_true h]; exact h1
theorem zifnF {p A B : Prop} [Decidable p] (h : ¬p) (h1 : A) : if (!decide p) = true then A else B := by rw [decide_eq_false h]; exact h1
theorem zifb {b : Bool} {A B : Prop} (h1 : b = true → A) (h2 : b = false → B) : if b = true then A else B := by cases b; exact h2 rfl; exact h1 rfl
theorem zife {b b' : Bool} {A B : Prop} (e : b = b') (h : if b' = true then A else B) : if b = true then A else B := by rw [e]; exact h
theorem zt {A B : Prop} (h : A) : if true = true then A else B := h
theorem zf {A B : Prop} (h : B) : if false = true then A else B := h
theorem zntt {A B : Prop} (h : B) : if (!true) = true then A else B := h
theorem znff {A B : Prop} (h : A) : if (!false) = true then A else B := h
/-- a product whose one factor is small; a divisor; a power -/
theorem cmul_l {i j : Int} (h0 : -18446744073709551616 < i) (h1 : i < 18446744073709551616) : CMul i j := .inl ⟨h0, h1⟩
theorem cmul_r {i j : Int} (h0 : -18446744073709551616 < j) (h1 : j < 18446744073709551616) : CMul i j := .inr ⟨h0, h1⟩
theorem cdiv_s {i j : Int} (h0 : 0 < j) (h1 : j < 18446744073709551616) : CDivW i j := wide_div (b := 64) h0 (by omega) (by decide) (by decide)
theorem cpow_s {i j : Int} (h0 : 0 ≤ j) (h1 : j ≤ 1000000) (h2 : -18446744073709551616 < i) (h3 : i < 18446744073709551616) : CPow i j := ⟨h0, h1, by omega⟩
/-- the built-in names -/
structure Bn (B : Bd) : Prop where
  len : B.mg "len" = none
  int : B.mg "int" = none
  abs : B.mg "abs" = none
  max : B.mg "max" = none
  min : B.mg "min" = none
  sum : B.mg "sum" = none
  any : B.mg "any" = none
  all : B.mg "all" = none
  tuple : B.mg "tuple" = none
  list : B.mg "list" = none
  dict : B.mg "dict" = none
  set : B.mg "set" = none
  str : B.mg "str" = none
  bool : B.mg "bool" = none
  range : B.mg "range" = none
  enumerate : B.mg "enumerate" = none
  zip : B.mg "zip" = none
  sorted : B.mg "sorted" = none
  isinstance : B.mg "isinstance" = none
  divmod : B.mg "divmod" = none
end OZ

/-! ### targets, walks, loops, comprehensions -/
namespace OZ
open PySem L2 PySem.Spec PyProof.Rows
/-- what a store to a target makes of the slots; the slots that it touches -/
inductive Tg (X : Cx) (N : List Str) (sc : Scope) : Expr → Da → List Sl → List Sl → List Nat → Prop
  | name {x : Str} {p : Pos} {d : Da} {sl sl' : List Sl} {i : Nat} : EnvSet N sl x i (.v d) sl' → Loc sc x → (X.fn x = true ∨ X.env.scope.names.lookup x = some .local) → Tg X N sc (.Name x p) d sl sl' [i]
  | two {e f : Expr} {k : Nat} {p : Pos} {d1 d2 : Da} {sl sl1 sl2 : List Sl} {i1 i2 : List Nat} : Tg X N sc e d1 sl sl1 i1 → Tg X N sc f d2 sl1 sl2 i2 → Tg X N sc (.Tuple [e, f] k p) (.tup [d1, d2]) sl sl2 (i1 ++ i2)
  | three {e f g : Expr} {k : Nat} {p : Pos} {d1 d2 d3 : Da} {sl sl1 sl2 sl3 : List Sl} {i1 i2 i3 : List Nat} : Tg X N sc e d1 sl sl1 i1 → Tg X N sc f d2 sl1 sl2 i2 → Tg X N sc g d3 sl2 sl3 i3 → Tg X N sc (.Tuple [e, f, g] k p) (.tup [d1, d2, d3]) sl sl3 (i1 ++ (i2 ++ i3))
theorem Tg.plain {X : Cx} {N : List Str} {sc : Scope} {tg : Expr} {d : Da} {sl sl' : List Sl} {is : List Nat} (h : Tg X N sc tg d sl sl' is) (es : List Expr) (env : Env) : assignEach (tg :: es) env = (false, assign tg env) :: assignEach es env := by cases h <;> rfl
theorem wipe_set {vs : List Nat} {i : Nat} {o : Option V} (h : i ∈ vs) (σ : L2.St) : wipe (σ.set i o) vs = wipe σ vs := by
  induction vs with
  | nil => cases h
  | cons v vs ih =>
    unfold wipe
    by_cases q : v = i
    · subst q
      by_cases r : v ∈ vs
      · rw [ih r]
      · have : ∀ (σ : L2.St) (ws : List Nat), v ∉ ws → wipe (σ.set v o) ws = (wipe σ ws).set v o := by
          intro σ ws
          induction ws with
          | nil => intro _; rfl
          | cons w ws ih2 =>
            intro hn
            unfold wipe
            rw [ih2 (fun z => hn (List.mem_cons_of_mem _ z)), List.set_comm _ _ (fun z => hn (by rw [z]; exact List.mem_cons_self ..))]
        rw [this σ vs r, List.set_set]
    · rw [ih (by cases h with | head => exact absurd rfl q | tail _ h => exact h)]
section
variable {M : Mode} {X : Cx} {N : List Str} {sc : Scope} {B : Bd}
/-- a store: the reading by the data -/
def gTg (X : Cx) (tg : Expr) : TG := fun v σ H Q => ∀ pins s u, Inv X pins σ H s → RelV v u → wpAny (model X.prog X.w) X.A (assign tg X.env u) (fun _ s' => ∃ σ' H', Inv X pins σ' H' s' ∧ Q σ' H') X.xe s
theorem pg_wp {tg : Expr} : PG X tg (gTg X tg) := ⟨fun pins s _ _ _ _ _ I r h => h pins s _ I r⟩
theorem gTg.of {tg : Expr} {g : TG} {v : V} {σ : L2.St} {H : Hp} {Q : L2.St → Hp → Prop} (p : PG X tg g) (h : g v σ H Q) : gTg X tg v σ H Q := fun pins s u I r => p.run pins s σ H v u Q I r h
theorem Tg.run (cx : Ctx X N sc B) (hc : X.calm = true) : ∀ {tg : Expr} {d : Da} {sl sl' : List Sl} {is : List Nat}, Tg X N sc tg d sl sl' is → ∀ {G0 H0 G H : Hp} {m : Nat} {σ : L2.St} {v : V} {Q : L2.St → Hp → Prop}, Ok M G0 H0 G H m → SOk X.K M H0 G H σ sl → Rep X.K G v d →
    (∀ σ', SOk X.K M H0 G H σ' sl' → (∀ vs, (∀ i ∈ is, i ∈ vs) → wipe σ' vs = wipe σ vs) → Q σ' H) → gTg X tg v σ H Q
  | _, _, _, _, _, .name es hx hf, _, _, _, _, _, σ, v, Q, ok, so, r, k => by
    refine gTg.of (pg_name cx.nd (by rw [cx.n]; exact es.name) (cx.loc hx) hf) (k _ ?_ fun vs h => wipe_set (h _ (List.mem_singleton.mpr rfl)) σ)
    rw [es.set]
    exact so.setV _ r
  | _, _, _, _, _, .two t1 t2, _, _, _, _, _, σ, v, Q, ok, so, r, k => by
    obtain ⟨a, us, rfl, q, t⟩ := r.tup_inv
    obtain ⟨v1, v2, rfl, r1, r2⟩ := reps2 t
    refine gTg.of (pg_tup hc (pgs_cons pg_wp (pgs_cons pg_wp pgs_nil (by rw [t2.plain]; rfl)) (by rw [t1.plain]; rfl)) (n := 2) (by rw [t1.plain, t2.plain]; rfl) (by rw [t1.plain, t2.plain]; rfl)) ⟨a, _, rfl, sqT_same ok.sub q, rfl, v1, [v2], rfl, ?_⟩
    refine t1.run cx hc ok so r1 fun σ1 so1 w1 => ⟨v2, [], rfl, ?_⟩
    exact t2.run cx hc ok so1 r2 fun σ2 so2 w2 => ⟨rfl, k σ2 so2 fun vs h => (w2 vs fun i hi => h i (List.mem_append_right _ hi)).trans (w1 vs fun i hi => h i (List.mem_append_left _ hi))⟩
  | _, _, _, _, _, .three t1 t2 t3, _, _, _, _, _, σ, v, Q, ok, so, r, k => by
    obtain ⟨a, us, rfl, q, t⟩ := r.tup_inv
    cases t with
    | cons r1 t =>
      obtain ⟨v2, v3, rfl, r2, r3⟩ := reps2 t
      refine gTg.of (pg_tup hc (pgs_cons pg_wp (pgs_cons pg_wp (pgs_cons pg_wp pgs_nil (by rw [t3.plain]; rfl)) (by rw [t2.plain]; rfl)) (by rw [t1.plain]; rfl)) (n := 3) (by rw [t1.plain, t2.plain, t3.plain]; rfl) (by rw [t1.plain, t2.plain, t3.plain]; rfl)) ⟨a, _, rfl, sqT_same ok.sub q, rfl, _, [v2, v3], rfl, ?_⟩
      refine t1.run cx hc ok so r1 fun σ1 so1 w1 => ⟨v2, [v3], rfl, ?_⟩
      refine t2.run cx hc ok so1 r2 fun σ2 so2 w2 => ⟨v3, [], rfl, ?_⟩
      exact t3.run cx hc ok so2 r3 fun σ3 so3 w3 => ⟨rfl, k σ3 so3 fun vs h => ((w3 vs fun i hi => h i (List.mem_append_right _ (List.mem_append_right _ hi))).trans (w2 vs fun i hi => h i (List.mem_append_right _ (List.mem_append_left _ hi)))).trans (w1 vs fun i hi => h i (List.mem_append_left _ hi))⟩
end
/-- what a for walks, as data -/
def WalkD (M : Mode) (K : PySem.W.Frag) (J : It) (ds : List Da) (G1 : Hp) : Prop := ∃ (Gd : Hp → Prop) (Y : Nat → Hp → V → Hp → Prop), Walk J ds.length Gd Y ∧ (∀ G H m, Same G1 G → Ok M G H G H m → Gd H) ∧
  ∀ i H x H' G m, i < ds.length → Y i H x H' → Same G1 G → Ok M G H G H m → ∃ G' d, Ok M G H G' H' m ∧ ds[i]? = some d ∧ Rep K G' x d
def wpI (X : Cx) (tg iter : Expr) : TI := fun σ H R => ∀ pins s, Inv X pins σ H s → wpAny (model X.prog X.w) X.A (eval iter X.env) (fun v s1 => wpAny (model X.prog X.w) X.A (pyIter v) (PIE X pins σ tg R) X.xe s1) X.xe s
theorem pi_wp {X : Cx} {tg iter : Expr} : PI X tg iter (wpI X tg iter) := ⟨fun pins s _ _ _ I h => h pins s I⟩
theorem wpI.of {X : Cx} {tg iter : Expr} {wi : TI} {σ : L2.St} {H : Hp} {R : It → Hp → Prop} (p : PI X tg iter wi) (h : wi σ H R) : wpI X tg iter σ H R := fun pins s I => p.run pins s σ H R I h
def IterD (M : Mode) (X : Cx) (KE : Kx) (tg iter : Expr) (sl : List Sl) (KI : List Da → Nat → Prop) (m : Nat) : Prop :=
  ∀ (G0 H0 G H : Hp) (σ : L2.St) (W : WX) (R : It → Hp → Prop), Ok M G0 H0 G H m → SOk X.K M H0 G H σ sl → Wis M X KE G H σ W →
    (∀ J ds m' G' H', KI ds m' → Ok M G H G' H' m' → WalkD M X.K J ds G' → R J H') → wpI X tg iter σ H R
section
variable {M : Mode} {X : Cx} {KE : Kx} {tg e : Expr} {es : List Expr} {sl : List Sl} {KI : List Da → Nat → Prop} {m : Nat} {pos p : Pos} {N : List Str} {sc : Scope} {B : Bd}
theorem walkd_list {K : PySem.W.Frag} {G1 : Hp} {a : Addr} {vs : List V} {ds : List Da} (q : G1 a = some (.lst vs)) (r : Reps K G1 vs ds) : WalkD M K (Itl K a) ds G1 := by
  refine ⟨_, _, by rw [← r.length]; exact walk_list (K := K) (a := a) (xs := vs), fun G H m le ok => sq_l (ok.sub _ _ (le _ _ q)), fun i H x H' G m hi y le ok => ?_⟩
  obtain ⟨rfl, hx⟩ := y
  obtain ⟨d, hd, rd⟩ := r.get' hx
  exact ⟨G, d, ok, hd, rd.mono le⟩
theorem walkd_tup {K : PySem.W.Frag} {G1 : Hp} {a : Addr} {vs : List V} {ds : List Da} (q : SqT K G1 a vs) (r : Reps K G1 vs ds) : WalkD M K (Itt K a) ds G1 := by
  refine ⟨_, _, by rw [← r.length]; exact walk_tup (K := K) (a := a) (xs := vs), fun G H m le ok => sqT_same ok.sub (sqT_same le q), fun i H x H' G m hi y le ok => ?_⟩
  obtain ⟨rfl, hx⟩ := y
  obtain ⟨d, hd, rd⟩ := r.get' hx
  exact ⟨G, d, ok, hd, rd.mono le⟩
/-- a list or a tuple -/
def Seqs (P : List Da → Nat → Prop) : Da → Nat → Prop
  | .lst ds, m => P ds m
  | .tup ds, m => P ds m
  | _, _ => False
theorem iter_lst (h : EvD M X KE e sl (fun d m1 => ∃ ds, d = .lst ds ∧ KI ds m1) m) : IterD M X KE tg e sl KI m := fun G0 H0 G H σ W R ok so wi k =>
  wpI.of (pi_list pe_wp) (h G0 H0 G H σ W _ ok so wi fun v d m' G' H' p o r => by
    obtain ⟨ds, rfl, p⟩ := p
    obtain ⟨a, us, rfl, q, t⟩ := r.lst_inv
    exact ⟨a, rfl, ⟨us, sq_l (o.sub _ _ q)⟩, k _ ds m' G' H' p o (walkd_list q t)⟩)
theorem iter_tup (h : EvD M X KE e sl (fun d m1 => ∃ ds, d = .tup ds ∧ KI ds m1) m) : IterD M X KE tg e sl KI m := fun G0 H0 G H σ W R ok so wi k =>
  wpI.of (pi_tup pe_wp) (h G0 H0 G H σ W _ ok so wi fun v d m' G' H' p o r => by
    obtain ⟨ds, rfl, p⟩ := p
    obtain ⟨a, us, rfl, q, t⟩ := r.tup_inv
    exact ⟨a, rfl, ⟨us, sqT_same o.sub q⟩, k _ ds m' G' H' p o (walkd_tup q t)⟩)
/-- lo, lo + 1, .. -/
def intsD (lo : Int) (n : Nat) : List Da := (List.range n).map fun (k : Nat) => Da.int (lo + ((k : Nat) : Int))
theorem intsD_len (lo : Int) (n : Nat) : (intsD lo n).length = n := by simp [intsD]
theorem intsD_at {lo : Int} {n i : Nat} (h : i < n) : (intsD lo n)[i]? = some (.int (lo + (i : Int))) := by
  unfold intsD
  rw [List.getElem?_map, List.getElem?_range h]
  rfl
theorem walkd_range {K : PySem.W.Frag} {G1 : Hp} {lo : Int} {n : Nat} : WalkD M K (Itr lo n) (intsD lo n) G1 := by
  refine ⟨_, _, by rw [intsD_len]; exact walk_range, fun _ _ _ _ _ => trivial, fun i H x H' G m hi y le ok => ?_⟩
  obtain ⟨rfl, rfl⟩ := y
  rw [intsD_len] at hi
  exact ⟨G, _, ok, intsD_at hi, .int _⟩
theorem iter_range (cx : Ctx X N sc B) (hm : B.mg "range" = none) (h : EvD M X KE e sl (fun d m1 => ∃ j : Int, d = .int j ∧ (-(2 ^ 62) ≤ j ∧ j < 2 ^ 62) ∧ KI (intsD 0 j.toNat) m1) m) (hg : GlS sc "range" := by with_unfolding_all rfl)
    (he : starEach [e] X.env = (false, eval e X.env) :: starEach [] X.env := by with_unfolding_all rfl) : IterD M X KE tg (.Call (.Name "range" p) [e] [] pos) sl KI m := fun G0 H0 G H σ W R ok so wi k =>
  wpI.of (pi_range1 (cx.gl hg) (cx.mg hm) (pa_cons pe_wp pa_nil he) (hs := by rw [he]; rfl)) (h G0 H0 G H σ W _ ok so wi fun v d m' G' H' p o r => by
    obtain ⟨j, rfl, ⟨h0, h1⟩, p⟩ := p
    exact ⟨j, by rw [r.int_inv], h0, h1, k _ _ m' G' H' p o walkd_range⟩)
theorem iter_range2 {f : Expr} (cx : Ctx X N sc B) (hm : B.mg "range" = none) (h : EvD M X KE e sl (fun d m1 => ∃ i : Int, d = .int i ∧ EvD M X KE f sl (fun d m2 => ∃ j : Int, d = .int j ∧ (-(2 ^ 62) ≤ i ∧ i < 2 ^ 62 ∧ -(2 ^ 62) ≤ j ∧ j < 2 ^ 62) ∧ KI (intsD i (j - i).toNat) m2) m1) m) (hg : GlS sc "range" := by with_unfolding_all rfl)
    (he : starEach [e, f] X.env = (false, eval e X.env) :: starEach [f] X.env := by with_unfolding_all rfl) (hf : starEach [f] X.env = (false, eval f X.env) :: starEach [] X.env := by with_unfolding_all rfl) : IterD M X KE tg (.Call (.Name "range" p) [e, f] [] pos) sl KI m := fun G0 H0 G H σ W R ok so wi k =>
  wpI.of (pi_range2 (cx.gl hg) (cx.mg hm) (pa_cons pe_wp (pa_cons pe_wp pa_nil hf) he) (hs := by rw [he, hf]; rfl) (hs2 := by rw [hf]; rfl)) (h G0 H0 G H σ W _ ok so wi fun v d m' G' H' p o r => by
    obtain ⟨i, rfl, p⟩ := p
    refine p G0 H0 G' H' σ W _ (ok.trans o) (so.step o) (wi.step o) fun v2 d2 m2 G2 H2 p2 o2 r2 => ?_
    obtain ⟨j, rfl, h0, p2⟩ := p2
    exact ⟨i, j, by rw [r.int_inv, r2.int_inv], h0, k _ _ m2 G2 H2 p2 (o.trans o2) walkd_range⟩)
/-- pairs of a number and an item -/
def enums : Nat → List Da → List Da
  | _, [] => []
  | i, d :: ds => .tup [.int (i : Int), d] :: enums (i + 1) ds
theorem enums_len : ∀ (i : Nat) (ds : List Da), (enums i ds).length = ds.length
  | _, [] => rfl
  | i, _ :: ds => by simp [enums, enums_len (i + 1) ds]
theorem enums_at : ∀ (k : Nat) (ds : List Da) (i : Nat), (enums k ds)[i]? = ds[i]?.map fun d => .tup [.int ((k + i : Nat) : Int), d]
  | _, [], i => by simp [enums]
  | k, d :: ds, 0 => by simp [enums]
  | k, d :: ds, i + 1 => by
    simp only [enums, List.getElem?_cons_succ, enums_at (k + 1) ds i]
    rw [show k + 1 + i = k + (i + 1) by omega]
theorem walkd_enum {K : PySem.W.Frag} {G1 : Hp} {a : Addr} {vs : List V} {ds : List Da} (q : G1 a = some (.lst vs)) (r : Reps K G1 vs ds) : WalkD M K (Ite K a) (enums 0 ds) G1 := by
  refine ⟨_, _, by rw [enums_len, ← r.length]; exact walk_enum (K := K) (a := a) (xs := vs), fun G H m le ok => sq_l (ok.sub _ _ (le _ _ q)), fun i H x H' G m hi y le ok => ?_⟩
  obtain ⟨T, x1, y1, rfl, hT, rfl, e1, e2⟩ := y
  obtain ⟨d, hd, rd⟩ := r.get' e2
  cases e1
  have al := ok.alloc (o := .tup [V.int (i : Nat), y1]) hT
  refine ⟨_, .tup [.int (i : Int), d], al, ?_, .tup (sq_t upd_same) (.cons (.int _) (.cons ((rd.mono le).mono al.le) .nil))⟩
  rw [enums_at, hd]
  simp
theorem iter_enum {elts : List Expr} {kk : Nat} {tpos : Pos} (cx : Ctx X N sc B) (hm : B.mg "enumerate" = none) (h : EvD M X KE e sl (fun d m1 => ∃ ds, d = .lst ds ∧ KI (enums 0 ds) m1) m) (hg : GlS sc "enumerate" := by with_unfolding_all rfl)
    (he : starEach [e] X.env = (false, eval e X.env) :: starEach [] X.env := by with_unfolding_all rfl) : IterD M X KE (.Tuple elts kk tpos) (.Call (.Name "enumerate" p) [e] [] pos) sl KI m := fun G0 H0 G H σ W R ok so wi k =>
  wpI.of (pi_enum (cx.gl hg) (cx.mg hm) (pa_cons pe_wp pa_nil he) (hs := by rw [he]; rfl)) (h G0 H0 G H σ W _ ok so wi fun v d m' G' H' p o r => by
    obtain ⟨ds, rfl, p⟩ := p
    obtain ⟨a, us, rfl, q, t⟩ := r.lst_inv
    exact ⟨a, us, rfl, sq_l (o.sub _ _ q), k _ _ m' G' H' p o (walkd_enum q t)⟩)

/-- a loop over data, turn by turn -/
def ForD (body : Da → List Sl → Kn → Nat → Prop) (D : Kn) : List Da → List Sl → Nat → Prop
  | [], sl, m => D.nx sl m
  | d :: ds, sl, m => body d sl { D with nx := ForD body D ds, ct := ForD body D ds, bk := D.nx } m
theorem st1_for {KE : Ks} {body : List Stmt} {D : Kn} (cx : Ctx X N sc B) (h : IterD M X (KE sl) tg e sl (fun ds m1 => ForD (fun d sl D m => ∃ sl' is, Tg X N sc tg d sl sl' is ∧ StD M X KE body sl' D m) D ds sl m1) m) (hc : X.calm = true := by with_unfolding_all rfl)
    (hp : PassesOwn (model X.prog X.w) X.A X.env X.xe := by first | exact PassesOwn.never | exact passes_of rfl) (hs : ∀ x, foldedSetIterable e X.env x = pure x := by with_unfolding_all (intro _; rfl)) : St1 M X KE (.For tg e body [] pos) sl D m := fun G0 H0 G H σ W E ok so wi po =>
  wpS.of (ps_for hp hc pi_wp pg_wp pss_wp hs) (h G0 H0 G H σ W _ ok so (wi.at ok so) fun J ds m1 G1 H1 q o1 wk => by
    obtain ⟨Gd, Y, wlk, hG, hY⟩ := wk
    have okA := ok.trans o1
    have back : ∀ {G' H' m'}, Ok M G1 H0 G' H' m' → Ok M G0 H0 G' H' m' := fun k => okA.unbase k
    refine for_it wlk (fun i σ' H' => ∃ sl' G' m', Ok M G1 H0 G' H' m' ∧ SOk X.K M H0 G' H' σ' sl' ∧ ForD (fun d sl D m => ∃ sl' is, Tg X N sc tg d sl sl' is ∧ StD M X KE body sl' D m) D (ds.drop i) sl' m') ⟨sl, G1, m1, okA.rebase, so.step o1, q⟩ (fun i σ' H' _ ⟨_, G', m', k, _⟩ => hG G' H' m' k.le k.here) ?_ ?_
    · rintro i x σ' H' H2 hi ⟨sl', G', m', k1, so', fd⟩ y
      obtain ⟨G2, d, k2, hd, rd⟩ := hY i H' x H2 G' m' hi y k1.le k1.here
      have hdr : ds.drop i = d :: ds.drop (i + 1) := by
        obtain ⟨hl, e⟩ := List.getElem?_eq_some_iff.mp hd
        rw [List.drop_eq_getElem_cons hl, e]
      rw [hdr] at fd
      obtain ⟨sl2, is, tg2, sd⟩ := fd
      have ok2 := k1.trans k2
      refine tg2.run cx hc ok2 (so'.step k2) rd fun σ3 so3 _ => ?_
      refine sd G1 H0 G2 H2 σ3 W _ ok2 so3 ⟨wi.tk, fun C fs d σ sl m' G' H' q o s x => wi.ex C fs d σ sl m' G' H' q (back o) s x⟩ ⟨?_, fun v d m' G' H' q o r => po.rt v d m' G' H' q (back o) r, fun σ sl m' G' H' q o s => po.nx σ sl m' G' H' q (back o) s, ?_, fun a d m' G' H' q o r => po.rn a d m' G' H' q (back o) r⟩
      · exact fun σ4 sl4 m4 G4 H4 f o4 so4 => ⟨sl4, G4, m4, o4, so4, f⟩
      · exact fun σ4 sl4 m4 G4 H4 f o4 so4 => ⟨sl4, G4, m4, o4, so4, f⟩
    · rintro σ' H' ⟨sl', G', m', k1, so', fd⟩
      rw [List.drop_length] at fd
      exact po.nx σ' sl' m' G' H' fd (back k1) so')
end
end OZ

/-! ### comprehensions -/
namespace OZ
open PySem L2 PySem.Spec PyProof.Rows
def relabelS (scope sc : Scope) : Scope :=
  { scope with names := scope.names.map fun (n, k) => if (k == NameKind.free && sc.kind == .function && sc.names.lookup n == some .cell) then (n, NameKind.cell) else (n, k) }
theorem relabelS_eq (scope : Scope) (env : Env) : relabel scope env = relabelS scope env.scope := rfl
theorem wipe_idem (σ : L2.St) : ∀ vs : List Nat, wipe (wipe σ vs) vs = wipe σ vs := by
  have mem : ∀ (vs ws : List Nat), (∀ v ∈ vs, v ∈ ws) → ∀ τ : L2.St, wipe (wipe τ vs) ws = wipe τ ws := by
    intro vs
    induction vs with
    | nil => intro _ _ _; rfl
    | cons v vs ih =>
      intro ws h τ
      show wipe ((wipe τ vs).set v none) ws = _
      rw [wipe_set (h v (List.mem_cons_self ..)), ih ws (fun x hx => h x (List.mem_cons_of_mem _ hx))]
  exact fun vs => mem vs vs (fun _ h => h) σ
/-- said of every block of a comprehension -/
def AllX (X : Cx) (scope : Scope) (N : List Str) (sc : Scope) (B : Bd) (j : Nat) (Φ : Cx → Prop) : Prop :=
  ∀ s H C cl fp, Ctx (X.blk s H scope (compEnvC scope cl C X.env) fp) N (relabelS scope sc) B → Room j (X.blk s H scope (compEnvC scope cl C X.env) fp).A → Φ (X.blk s H scope (compEnvC scope cl C X.env) fp)
inductive IdxAt : List Str → Str → Nat → Prop
  | here {x : Str} {N : List Str} : IdxAt (x :: N) x 0
  | there {x y : Str} {N : List Str} {i : Nat} : IdxAt N x i → IdxAt (y :: N) x (i + 1)
inductive OwnT (N : List Str) : Expr → List (Str × Nat) → Prop
  | name {x : Str} {p : Pos} {i : Nat} : IdxAt N x i → OwnT N (.Name x p) [(x, i)]
  | two {e f : Expr} {k : Nat} {p : Pos} {o1 o2 : List (Str × Nat)} : OwnT N e o1 → OwnT N f o2 → OwnT N (.Tuple [e, f] k p) (o1 ++ o2)
  | three {e f g : Expr} {k : Nat} {p : Pos} {o1 o2 o3 : List (Str × Nat)} : OwnT N e o1 → OwnT N f o2 → OwnT N g o3 → OwnT N (.Tuple [e, f, g] k p) (o1 ++ (o2 ++ o3))
inductive WipeS (N : List Str) : List (Str × Nat) → List Sl → List Sl → Prop
  | nil {sl : List Sl} : WipeS N [] sl sl
  | cons {x : Str} {i : Nat} {own : List (Str × Nat)} {sl sl1 sl2 : List Sl} : WipeS N own sl sl1 → EnvSet N sl1 x i .un sl2 → WipeS N ((x, i) :: own) sl sl2
theorem WipeS.ok {K : PySem.W.Frag} {M : Mode} {H0 G H : Hp} {N : List Str} {σ : L2.St} : ∀ {own : List (Str × Nat)} {sl sl' : List Sl}, WipeS N own sl sl' → SOk K M H0 G H σ sl → SOk K M H0 G H (wipe σ (own.map (·.2))) sl'
  | _, _, _, .nil, so => so
  | _, _, _, .cons w e, so => by
    rw [e.set]
    exact (w.ok so).setN _
def CompD (step : Da → (Option Da → Nat → Prop) → Nat → Prop) : List Da → (List Da → Nat → Prop) → Nat → Prop
  | [], K, m => K [] m
  | d :: ds, K, m => step d (fun o m1 => CompD step ds (fun r m2 => K (o.toList ++ r) m2) m1) m
def lcIf (M : Mode) (X : Cx) (scope : Scope) (N : List Str) (sc : Scope) (B : Bd) (j : Nat) (ifs : List Expr) (sl : List Sl) (k : Bool → Nat → Prop) (m : Nat) : Prop :=
  match ifs with
  | [] => k true m
  | [c] => AllX X scope N sc B j fun X' => EvT M X' K0 c sl k m
  | _ => False
def lcStep (M : Mode) (X : Cx) (scope : Scope) (N : List Str) (sc : Scope) (B : Bd) (j : Nat) (vs : List Nat) (tg : Expr) (ifs : List Expr) (elt : Expr) (sl : List Sl) : Da → (Option Da → Nat → Prop) → Nat → Prop := fun d k m =>
  ∃ sl' is, (AllX X scope N sc B j fun X' => Tg X' N (relabelS scope sc) tg d sl sl' is) ∧ (∀ i ∈ is, i ∈ vs) ∧
    lcIf M X scope N sc B j ifs sl' (fun b m1 => if b = true then AllX X scope N sc B j fun X' => EvD M X' K0 elt sl' (fun y m2 => k (some y) m2) m1 else k none m1) m
def gBlk (X : Cx) (scope : Scope) (tg : Expr) : TG := fun v σ H Q => ∀ s Hb C cl fp, gTg (X.blk s Hb scope (compEnvC scope cl C X.env) fp) tg v σ H Q
def tBlk (X : Cx) (scope : Scope) (ifs : List Expr) : TT := fun σ H Q => match ifs with
  | [] => Q true H
  | [c] => ∀ s Hb C cl fp, wpT (X.blk s Hb scope (compEnvC scope cl C X.env) fp) c σ H Q
  | _ => False
def eBlk (X : Cx) (scope : Scope) (elt : Expr) : TE := fun σ H Q => ∀ s Hb C cl fp, wpE (X.blk s Hb scope (compEnvC scope cl C X.env) fp) elt σ H Q
section
variable {M : Mode} {X : Cx} {KE : Kx} {tg iter elt : Expr} {ifs : List Expr} {scope : Scope} {sl sw : List Sl} {P : Da → Nat → Prop} {m j : Nat} {pos : Pos} {N : List Str} {sc : Scope} {B : Bd} {own : List (Str × Nat)}
theorem blk_ctx (cx : Ctx X N sc B) (s : Shared) (H : Hp) (C : Addr) (cl : List (Str × Addr)) (fp : List Addr) : Ctx (X.blk s H scope (compEnvC scope cl C X.env) fp) N (relabelS scope sc) B :=
  ⟨cx.n, by show relabel scope X.env = _; rw [relabelS_eq, cx.s], cx.nd, cx.b⟩
theorem AllX.get {Φ : Cx → Prop} (h : AllX X scope N sc B j Φ) (cx : Ctx X N sc B) (hr : Room j X.A) (s : Shared) (H : Hp) (C : Addr) (cl : List (Str × Addr)) (fp : List Addr) : Φ (X.blk s H scope (compEnvC scope cl C X.env) fp) := h s H C cl fp (blk_ctx cx s H C cl fp) hr
theorem wis0 {X : Cx} {G H : Hp} {σ : L2.St} : Wis M X K0 G H σ (fun _ _ _ _ => False) := ⟨takes0, fun _ _ _ _ _ _ z => z.elim⟩
/-- the reading of a comprehension, over data -/
theorem lc_run (cx : Ctx X N sc B) (hr : Room j X.A) (hc : X.calm = true) (wp : WipeS N own sl sw) {G0 H0 G H G1 H1 : Hp} {σ : L2.St} {m1 : Nat} {J : It} {ds : List Da} {Q : VK} (ok : Ok M G0 H0 G H m) (so : SOk X.K M H0 G H σ sl) (o1 : Ok M G H G1 H1 m1) (wk : WalkD M X.K J ds G1) (hl : ds.length < sizeLine)
    (q : CompD (lcStep M X scope N sc B j (own.map (·.2)) tg ifs elt sw) ds (fun r m2 => P (.lst r) m2) m1) (D : Addr) (hD : H1 D = none)
    (fin : ∀ out m' G' H', P (.lst out) m' → Ok M G H G' H' m' → G' D = none → (H D = none ∨ M.X H D) → ¬ M.X H' D → RepM X.K G' H' D (.lst out) → Q (.ref D) H') :
    ∃ W : Nat → Nat → Hp → Prop, (∃ m, W 0 m (L2.upd H1 D (.lst []))) ∧ ∀ i m H, W i m H → (J.stop i H ∧ Q (.ref D) H) ∨ (J.go i H ∧ ∃ Nx : Hp → Prop, (∀ H', Nx H' → ∃ m', m' < m ∧ W (i + 1) m' H') ∧ ∀ x H', J.yld i H x H' →
      gBlk X scope tg x (wipe σ (own.map (·.2))) H' fun σ2 H2 => wipe σ2 (own.map (·.2)) = wipe σ (own.map (·.2)) ∧
        tBlk X scope ifs σ2 H2 fun b H3 =>
          if b = true then eBlk X scope elt σ2 H3 fun y H4 => ∃ acc, H4 D = some (.lst acc) ∧ acc.length < sizeLine ∧ Nx (L2.upd H4 D (.lst (acc ++ [y]))) else Nx H3) := by
  obtain ⟨Gd, Y, wlk, hG, hY⟩ := wk
  have nx1 : ¬ M.X H1 D := fun x => by obtain ⟨u, e⟩ := M.there _ _ _ o1.inv x; rw [hD] at e; cases e
  have gD : G1 D = none := by
    cases e : G1 D with
    | none => rfl
    | some u => rw [o1.sub _ _ e] at hD; cases hD
  have hD0 : H D = none ∨ M.X H D := by
    cases e : H D with
    | none => exact .inl rfl
    | some u =>
      by_cases x : M.X H D
      · exact .inr x
      · rw [(o1.keep D u e x).1] at hD; cases hD
  have fr : ∀ i a, Mt sw i → (wipe σ (own.map (·.2)))[i]? = some (some (.ref a)) → a ≠ D := fun i a mt e z => by
    obtain ⟨u, h1, h2⟩ := (wp.ok so).held mt e
    subst z
    rcases hD0 with h | h
    · rw [h] at h1; cases h1
    · exact h2 h
  have al : Ok M G1 H1 G1 (L2.upd H1 D (.lst [])) m1 := o1.here.allocM hD
  let Pv : Nat → Hp → Prop := fun i H' => ∃ G' m' acc out, Ok M G H G' H' m' ∧ Same G1 G' ∧ SOk X.K M H0 G' H' (wipe σ (own.map (·.2))) sw ∧ H' D = some (.lst acc) ∧ Reps X.K G' acc out ∧ out.length ≤ i ∧ G' D = none ∧ ¬ M.X H' D ∧
    CompD (lcStep M X scope N sc B j (own.map (·.2)) tg ifs elt sw) (ds.drop i) (fun r m2 => P (.lst (out ++ r)) m2) m'
  have adv : ∀ {i G' H' m' acc out} {y : V} {d : Da}, Ok M G H G' H' m' → Same G1 G' → SOk X.K M H0 G' H' (wipe σ (own.map (·.2))) sw → H' D = some (.lst acc) → Reps X.K G' acc out → out.length ≤ i → G' D = none → ¬ M.X H' D → Rep X.K G' y d →
      CompD (lcStep M X scope N sc B j (own.map (·.2)) tg ifs elt sw) (ds.drop (i + 1)) (fun r m2 => P (.lst (out ++ ((some d).toList ++ r))) m2) m' → Pv (i + 1) (L2.upd H' D (.lst (acc ++ [y]))) := by
    intro i G' H' m' acc out y d k1 k2 k3 k4 k5 k6 k7 k8 k9 k10
    have mo : Ok M G H G' (L2.upd H' D (.lst (acc ++ [y]))) m' := k1.mut k7 k8 hD0
    have nx : ∀ b, M.X (L2.upd H' D (.lst (acc ++ [y]))) b → M.X H' b := (M.clo m' H' _ k1.inv fun b u x e => by rw [upd_ne (fun q => k8 (by rw [← q]; exact x))]; exact e).2
    refine ⟨G', m', acc ++ [y], out ++ [d], mo, k2, k3.upd nx fr, upd_same, k5.append (.cons k9 .nil), by simp; omega, k7, fun x => k8 (nx _ x), ?_⟩
    simpa [List.append_assoc] using k10
  refine lc_it (g := gBlk X scope tg) (tt := tBlk X scope ifs) (te := eBlk X scope elt) (vs := own.map (·.2)) (σ := σ) (D := D) (Qd := fun H => Q (.ref D) H) wlk Pv ?_ ?_ ?_ ?_
  · refine ⟨G1, m1, [], [], o1.trans al, Same.refl _, (wp.ok ((so.step o1).step al)), upd_same, .nil, Nat.le_refl _, gD, ?_, ?_⟩
    · exact fun x => nx1 ((M.clo m1 H1 _ o1.inv fun b u x e => by rw [upd_ne (fun q => nx1 (by rw [← q]; exact x))]; exact e).2 _ x)
    · simpa using q
  · rintro i H' _ ⟨G', m', acc, out, k1, k2, _⟩
    exact hG G' H' m' k2 k1.here
  · rintro i x H' H2 hi ⟨G', m', acc, out, k1, k2, k3, k4, k5, k6, k7, k8, k9⟩ y
    obtain ⟨G2, d, e1, hd, rd⟩ := hY i H' x H2 G' m' hi y k2 k1.here
    have hdr : ds.drop i = d :: ds.drop (i + 1) := by
      obtain ⟨hl, e⟩ := List.getElem?_eq_some_iff.mp hd
      rw [List.drop_eq_getElem_cons hl, e]
    rw [hdr] at k9
    obtain ⟨sl', is, tgA, hin, hif⟩ := k9
    have ok2 : Ok M G H G2 H2 m' := k1.trans e1
    have so2 := k3.step e1
    obtain ⟨f1, f2⟩ := e1.keep D _ k4 k8
    have f3 := e1.new D _ k4 k8 k7
    intro s Hb C cl fp
    refine (tgA.get cx hr s Hb C cl fp).run (blk_ctx cx s Hb C cl fp) hc (ok.trans ok2) so2 rd fun σ' so3 w3 => ⟨(w3 _ hin).trans (wipe_idem σ _), ?_⟩
    -- behind the tests
    have rest : ∀ b m3 G3 H3, Ok M G2 H2 G3 H3 m3 → (if b = true then AllX X scope N sc B j fun X' => EvD M X' K0 elt sl' (fun y m2 => CompD (lcStep M X scope N sc B j (own.map (·.2)) tg ifs elt sw) (ds.drop (i + 1)) (fun r m2 => P (.lst (out ++ ((some y).toList ++ r))) m2) m2) m3
        else CompD (lcStep M X scope N sc B j (own.map (·.2)) tg ifs elt sw) (ds.drop (i + 1)) (fun r m2 => P (.lst (out ++ ((none : Option Da).toList ++ r))) m2) m3) →
        if b = true then (∀ s Hb C cl fp, wpE (X.blk s Hb scope (compEnvC scope cl C X.env) fp) elt σ' H3 fun y H4 => ∃ acc, H4 D = some (.lst acc) ∧ acc.length < sizeLine ∧ Pv (i + 1) (L2.upd H4 D (.lst (acc ++ [y])))) else Pv (i + 1) H3 := by
      intro b m3 G3 H3 e2 hb
      obtain ⟨g1, g2⟩ := e2.keep D _ f1 f2
      have g3 := e2.new D _ f1 f2 f3
      cases b with
      | true =>
        rw [if_pos rfl] at hb ⊢
        intro s Hb C cl fp
        refine (AllX.get hb cx hr s Hb C cl fp) G0 H0 G3 H3 σ' (fun _ _ _ _ => False) _ ((ok.trans ok2).trans e2) (so3.step e2) wis0 fun y dy m4 G4 H4 pc e3 ry => ?_
        obtain ⟨h1, h2⟩ := e3.keep D _ g1 g2
        have h3 := e3.new D _ g1 g2 g3
        refine ⟨acc, h1, by rw [k5.length]; omega, ?_⟩
        exact adv ((ok2.trans e2).trans e3) (((k2.trans e1.le).trans e2.le).trans e3.le) (((so2.step e2).step e3)) h1 ((((k5.mono e1.le).mono e2.le).mono e3.le)) k6 h3 h2 ry pc
      | false =>
        rw [if_neg Bool.false_ne_true] at hb ⊢
        exact ⟨G3, m3, acc, out, ok2.trans e2, ((k2.trans e1.le).trans e2.le), so2.step e2, g1, (k5.mono e1.le).mono e2.le, by omega, g3, g2, by simpa using hb⟩
    match ifs, hif, rest with
    | [], hif, rest => exact rest true m' G2 H2 ok2.here hif
    | [c], hif, rest =>
      intro s Hb C cl fp
      unfold lcIf at hif
      exact (AllX.get hif cx hr s Hb C cl fp) G0 H0 G2 H2 σ' (fun _ _ _ _ => False) _ (ok.trans ok2) so3 wis0 fun b m3 G3 H3 pb e2 => rest b m3 G3 H3 e2 pb
    | _ :: _ :: _, hif, _ => exact hif.elim
  · rintro H' ⟨G', m', acc, out, k1, k2, k3, k4, k5, k6, k7, k8, k9⟩
    rw [List.drop_length] at k9
    exact fin out m' G' H' (by simpa [CompD] using k9) k1 k7 hD0 k8 ⟨acc, k4, k5⟩
theorem evd_lc (cx : Ctx X N sc B) (hr : Room j X.A) (ot : OwnT N tg own) (wp : WipeS N own sl sw) (h : IterD M X KE tg iter sl (fun ds m1 => ds.length < sizeLine ∧ CompD (lcStep M X scope N sc B j (own.map (·.2)) tg ifs elt sw) ds (fun r m2 => P (.lst r) m2) m1) m)
    (hb : blkC N sc scope own = true := by with_unfolding_all decide +kernel) (hc : X.calm = true := by with_unfolding_all rfl) (hs : ∀ x, foldedSetIterable iter X.env x = pure x := by with_unfolding_all (intro _; rfl)) : EvD M X KE (.ListComp elt [⟨tg, iter, ifs, 0⟩] scope pos) sl P m := by
  intro G0 H0 G H σ W Q ok so wi po
  refine wpE.of (pe_lc (own := own) (wi := wpI X tg iter) (g := gBlk X scope tg) (tt := tBlk X scope ifs) (te := eBlk X scope elt) hc cx.nd pi_wp ?_ ?_ ?_ ?_ hs) ?_
  · rw [cx.n, cx.s]; exact blkOk_by hb
  · exact fun s Hb C cl fp => ⟨fun pins s' σ H v u Q I r q => q s Hb C cl fp pins s' u I r⟩
  · intro s Hb C cl fp
    match ifs with
    | [] => exact pts_nil
    | [c] => exact pts_one ⟨fun pins s' σ H Q I q => q s Hb C cl fp pins s' I⟩
    | _ :: _ :: _ => exact ⟨fun pins s' σ H Q I q => q.elim⟩
  · exact fun s Hb C cl fp => ⟨fun pins s' σ H Q I q => q s Hb C cl fp pins s' I⟩
  · refine h G0 H0 G H σ W _ ok so wi fun J ds m1 G1 H1 q o1 wk => fun D hD => ?_
    refine lc_run cx hr hc wp ok so o1 wk q.1 q.2 D hD fun out m' G' H' p k g h0 nx ⟨acc, e, r⟩ => ?_
    exact po _ (.lst out) m' _ H' p (k.pub e g nx h0) (.lst upd_same (r.mono (sameUp g)))
/-- name = [..] -/
theorem st1_setLc {KE : Ks} {D : Kn} {y : Str} {py spos : Pos} (cx : Ctx X N sc B) (hr : Room j X.A) (ot : OwnT N tg own) (wp : WipeS N own sl sw) (h : IterD M X (KE sl) tg iter sl (fun ds m1 => ds.length < sizeLine ∧ CompD (lcStep M X scope N sc B j (own.map (·.2)) tg ifs elt sw) ds (fun r m2 => ∃ i sl', EnvSet N sl y i (.v (.lst r)) sl' ∧ D.nx sl' m2) m1) m)
    (hsw : swapsWith (.ListComp elt [⟨tg, iter, ifs, 0⟩] scope pos) (some (.Name y py)) spos.line X.env = pure true := by with_unfolding_all exact sw_true rfl rfl rfl (by decide +kernel)) (hN : ∃ i : Nat, N[i]? = some y) (hyl : sc.names.lookup y = some .local := by with_unfolding_all rfl)
    (hb : blkC N sc scope own = true := by with_unfolding_all decide +kernel) (hc : X.calm = true := by with_unfolding_all rfl) (hs : ∀ x, foldedSetIterable iter X.env x = pure x := by with_unfolding_all (intro _; rfl)) : St1 M X KE (.Assign [.Name y py] (.ListComp elt [⟨tg, iter, ifs, 0⟩] scope pos) spos) sl D m := by
  intro G0 H0 G H σ W E ok so wi po
  obtain ⟨i, hi⟩ := hN
  refine wpS.of (ps_setLc (own := own) (i := i) (wi := wpI X tg iter) (g := gBlk X scope tg) (tt := tBlk X scope ifs) (te := eBlk X scope elt) hc cx.nd (by rw [cx.n]; exact hi) (by rw [cx.s]; exact hyl) hsw pi_wp ?_ ?_ ?_ ?_ hs) ?_
  · rw [cx.n, cx.s]; exact blkOk_by hb
  · exact fun s Hb C cl fp => ⟨fun pins s' σ H v u Q I r q => q s Hb C cl fp pins s' u I r⟩
  · intro s Hb C cl fp
    match ifs with
    | [] => exact pts_nil
    | [c] => exact pts_one ⟨fun pins s' σ H Q I q => q s Hb C cl fp pins s' I⟩
    | _ :: _ :: _ => exact ⟨fun pins s' σ H Q I q => q.elim⟩
  · exact fun s Hb C cl fp => ⟨fun pins s' σ H Q I q => q s Hb C cl fp pins s' I⟩
  · refine h G0 H0 G H σ W _ ok so (wi.at ok so) fun J ds m1 G1 H1 q o1 wk => fun D2 hD => ?_
    refine lc_run (P := fun d m2 => ∃ i sl', EnvSet N sl y i (.v d) sl' ∧ D.nx sl' m2) cx hr hc wp ok so o1 wk q.1 q.2 (Q := fun v H' => gName i v σ H' E.nx) D2 hD fun out m' G1 H' p k g h0 nx ⟨acc, e, r0⟩ => ?_
    have o := k.pub e g nx h0
    have r : Rep X.K _ (.ref D2) (.lst out) := .lst upd_same (r0.mono (sameUp g))
    obtain ⟨i', sl', es, p⟩ := p
    have hii : i' = i := nd_ix (cx.n ▸ cx.nd) es.name hi
    subst hii
    refine po.nx _ sl' m' _ H' p (ok.trans o) ?_
    rw [es.set]
    exact (so.step o).setV _ r
end
end OZ

/-! ### while, lists of the run's own, raise -/
namespace OZ
open PySem L2 PySem.Spec PyProof.Rows
section
variable {M : Mode} {X : Cx} {KE : Ks} {a b c e : Expr} {es : List Expr} {sl : List Sl} {D : Kn} {P : Da → Nat → Prop} {m j : Nat} {pos p p2 spos : Pos} {x : Str} {st : Stmt} {rest body : List Stmt} {N : List Str} {sc : Scope} {B : Bd}
/-- a while, by a word with a number that falls -/
theorem st1_while (Inv : Nat → List Sl → Nat → Prop) (h0 : ∃ k, Inv k sl m) (h : ∀ k sl m, Inv k sl m → EvT M X (KE sl) c sl (fun b m1 => if b = true then StD M X KE body sl { D with nx := fun sl' m' => ∃ k', k' < k ∧ Inv k' sl' m', ct := fun sl' m' => ∃ k', k' < k ∧ Inv k' sl' m', bk := D.nx } m1 else D.nx sl m1) m)
    (hp : PassesOwn (model X.prog X.w) X.A X.env X.xe := by first | exact PassesOwn.never | exact passes_of rfl) : St1 M X KE (.While c body [] pos) sl D m := by
  intro G0 H0 G H σ W E ok so wi po
  refine wpS.of (ps_while hp pt_wp pss_wp) ?_
  refine ⟨fun k σ' H' => ∃ sl' G' m', Ok M G0 H0 G' H' m' ∧ SOk X.K M H0 G' H' σ' sl' ∧ Inv k sl' m', ?_, ?_⟩
  · obtain ⟨k, hk⟩ := h0
    exact ⟨k, sl, G, m, ok, so, hk⟩
  · rintro k σ' H' ⟨sl', G', m', ok', so', hk⟩
    refine h k sl' m' hk G0 H0 G' H' σ' W _ ok' so' (wi.at ok' so') fun b m1 G1 H1 p1 o1 => ?_
    cases b with
    | false =>
      rw [if_neg Bool.false_ne_true] at p1 ⊢
      exact po.nx σ' sl' m1 G1 H1 p1 (ok'.trans o1) (so'.step o1)
    | true =>
      rw [if_pos rfl] at p1 ⊢
      refine ⟨fun σ2 H2 => ∃ k', k' < k ∧ ∃ sl2 G2 m2, Ok M G0 H0 G2 H2 m2 ∧ SOk X.K M H0 G2 H2 σ2 sl2 ∧ Inv k' sl2 m2, fun σ2 H2 ⟨k', l, q⟩ => ⟨k', l, q⟩, ?_⟩
      refine p1 G0 H0 G1 H1 σ' W _ (ok'.trans o1) (so'.step o1) wi ⟨?_, po.rt, po.nx, ?_, po.rn⟩
      · exact fun σ2 sl2 m2 G2 H2 ⟨k', l, q⟩ o2 so2 => ⟨k', l, sl2, G2, m2, o2, so2, q⟩
      · exact fun σ2 sl2 m2 G2 H2 ⟨k', l, q⟩ o2 so2 => ⟨k', l, sl2, G2, m2, o2, so2, q⟩

/-- the object of a slot changes -/
theorem SOk.setM {K : PySem.W.Frag} {H0 G H : Hp} {σ : L2.St} {i : Nat} {ad : Addr} {o : HO} {q0 : Option Addr} {d0 d1 : Da} (h : SOk K M H0 G H σ sl) (hi : sl[i]? = some (.mm q0 d0)) (hs : σ[i]? = some (some (.ref ad))) (nx : ∀ b, M.X (L2.upd H ad o) b → M.X H b) (r : RepM K G (L2.upd H ad o) ad d1) : SOk K M H0 G (L2.upd H ad o) σ (sl.set i (.mm q0 d1)) := by
  obtain ⟨o', e1, ad', rfl, zz, g, h0, n, _⟩ := paired_get h.rel hi
  rw [hs] at e1
  cases e1
  have dr := h.drop i
  have fr : ∀ j b, Mt (sl.set i .un) j → σ[j]? = some (some (.ref b)) → b ≠ ad := fun j b ⟨q2, d, hd⟩ e q => by
    subst q
    have nij : i ≠ j := fun z => by
      subst z
      rw [List.getElem?_set_self (List.getElem?_eq_some_iff.mp hi).1] at hd; cases hd
    rw [List.getElem?_set_ne nij] at hd
    exact nij (h.dis i j b ⟨q0, d0, hi⟩ ⟨q2, d, hd⟩ hs e)
  have up := dr.upd (o := o) nx fr
  refine ⟨?_, fun j k b mj mk ej ek => ?_⟩
  · have := paired_set (F := RelSl K M H0 G (L2.upd H ad o)) (x := some (.ref ad)) (y := .mm q0 d1) ⟨ad, rfl, zz, g, h0, fun z => n (nx _ z), r⟩ i up.rel
    rw [List.set_set] at this
    have hσ : σ.set i (some (.ref ad)) = σ := by
      apply List.ext_getElem?
      intro j
      by_cases q : i = j
      · subst q
        rw [List.getElem?_set_self (List.getElem?_eq_some_iff.mp hs).1, hs]
      · rw [List.getElem?_set_ne q]
    rw [hσ] at this
    exact this
  · have w : ∀ j, Mt (sl.set i (.mm q0 d1)) j → Mt sl j := fun j ⟨e0, e, hj⟩ => by
      by_cases q : i = j
      · subst q; exact ⟨q0, d0, hi⟩
      · rw [List.getElem?_set_ne q] at hj; exact ⟨e0, e, hj⟩
    exact h.dis j k b (w j mj) (w k mk) ej ek
theorem X_keep {G0 H0 G H : Hp} {ad : Addr} {o : HO} (ok : Ok M G0 H0 G H m) (n : ¬ M.X H ad) : ∀ b, M.X (L2.upd H ad o) b → M.X H b := (M.clo m H _ ok.inv fun b u x e => by rw [upd_ne (fun q => n (by rw [← q]; exact x))]; exact e).2
theorem SOk.newM {K : PySem.W.Frag} {H0 G H : Hp} {σ : L2.St} {ad : Addr} {d : Da} (i : Nat) (h : SOk K M H0 G H σ sl) (n : New K M H0 G H ad d) (fr : ∀ j a, Mt sl j → σ[j]? = some (some (.ref a)) → a ≠ ad) : SOk K M H0 G H (σ.set i (some (.ref ad))) (sl.set i (.m d)) := by
  refine ⟨paired_set ⟨ad, rfl, (fun _ z => nomatch z), n.g, n.h0, n.nx, n.r⟩ i h.rel, fun j k a mj mk ej ek => ?_⟩
  have w : ∀ j, Mt (sl.set i (.m d)) j → (σ.set i (some (.ref ad)))[j]? = some (some (.ref a)) → (j = i ∧ a = ad) ∨ (j ≠ i ∧ Mt sl j ∧ σ[j]? = some (some (.ref a)) ∧ a ≠ ad) := fun j ⟨e0, e, hj⟩ ej => by
    by_cases q : i = j
    · subst q
      left
      have l : i < sl.length := by
        have := (List.getElem?_eq_some_iff.mp hj).1
        simpa using this
      have l2 : i < σ.length := by
        have := (List.getElem?_eq_some_iff.mp ej).1
        simpa using this
      rw [List.getElem?_set_self l2] at ej
      simp only [Option.some.injEq, V.ref.injEq] at ej
      exact ⟨rfl, ej.symm⟩
    · rw [List.getElem?_set_ne q] at hj ej
      exact .inr ⟨fun z => q z.symm, ⟨e0, e, hj⟩, ej, fr j a ⟨e0, e, hj⟩ ej⟩
  rcases w j mj ej with ⟨a1, a2⟩ | ⟨b1, b2, b3, b4⟩ <;> rcases w k mk ek with ⟨c1, c2⟩ | ⟨d1, d2, d3, d4⟩
  · exact a1.trans c1.symm
  · exact absurd a2 d4
  · exact absurd c2 b4
  · exact h.dis j k a b2 d2 b3 d3
theorem held_ne {K : PySem.W.Frag} {G0 H0 G H : Hp} {σ : L2.St} {ad : Addr} (so : SOk K M H0 G H σ sl) (h : H ad = none ∨ M.X H ad) : ∀ j a, Mt sl j → σ[j]? = some (some (.ref a)) → a ≠ ad := fun j a mt e q => by
  subst q
  obtain ⟨u, h1, h2⟩ := so.held mt e
  rcases h with h | h
  · rw [h] at h1; cases h1
  · exact h2 h
/-- an expression that makes an object of the run's own -/
def EvN (M : Mode) (X : Cx) (KE : Kx) (e : Expr) (sl : List Sl) (P : Da → Nat → Prop) (m : Nat) : Prop :=
  ∀ (G0 H0 G H : Hp) (σ : L2.St) (W : WX) (Q : VK), Ok M G0 H0 G H m → SOk X.K M H0 G H σ sl → Wis M X KE G H σ W → (∀ ad d m' G' H', P d m' → Ok M G H G' H' m' → New X.K M H G' H' ad d → Q (.ref ad) H') → wpE X e σ H Q
theorem _root_.OZ.IdxAt.at : ∀ {N : List Str} {x : Str} {i : Nat}, IdxAt N x i → N[i]? = some x
  | _, _, _, .here => rfl
  | _, _, _, .there h => by simpa using h.at
theorem envset_at {i i' : Nat} {s : Sl} {sl' : List Sl} (nd : N.Nodup) (hi : IdxAt N x i) (es : EnvSet N sl x i' s sl') : sl' = sl.set i s := by
  have : i' = i := nd_ix nd es.name hi.at
  subst this
  exact es.set
theorem envset_eq {i i' : Nat} {s : Sl} {sl' : List Sl} (nd : N.Nodup) (hi : N[i]? = some x) (es : EnvSet N sl x i' s sl') : sl' = sl.set i s := by
  have : i' = i := nd_ix nd es.name hi
  subst this
  exact es.set
theorem evn_d {KX : Kx} {P : Da → Nat → Prop} (h : EvN M X KX e sl P m) : EvD M X KX e sl P m := fun G0 H0 G H σ W Q ok so wi po pins s I =>
  thn (h G0 H0 G H σ W (fun v H' => ∃ ad d m' G', v = .ref ad ∧ P d m' ∧ Ok M G H G' H' m' ∧ New X.K M H G' H' ad d) ok so wi (fun ad d m' G' H' p o n => ⟨ad, d, m', G', rfl, p, o, n⟩) pins s I) fun v s1 ⟨x, H1, I1, r1, ad, d, m', G', e, p, o, n⟩ => by
    obtain ⟨G2, H2, I2, o2, rep⟩ := n.pubI o I1
    subst e
    exact ⟨_, H2, I2, r1, po _ d m' G2 H2 p o2 rep⟩
theorem st1_retN' (h : EvN M X (KE sl) e sl D.rn m) : St1 M X KE (.Return (some e) pos) sl D m := fun G0 H0 G H σ W E ok so wi po =>
  wpS.of (ps_ret pe_wp) (h G0 H0 G H σ W E.rt ok so (wi.at ok so) fun ad d m' G' H' p o n => po.rn ad d m' G' H' p (ok.trans o) (n.back ok))
theorem st1_setNew {i0 : Nat} (cx : Ctx X N sc B) (h : EvN M X (KE sl) e sl (fun d m1 => ∃ i sl', EnvSet N sl x i (.m d) sl' ∧ D.nx sl' m1) m) (hi : IdxAt N x i0) (hx : Loc sc x := by with_unfolding_all first | exact Or.inl rfl | exact Or.inr rfl)
    (hs : swapsWith e (some (.Name x p)) pos.line X.env = pure false := by with_unfolding_all rfl) (hf : X.fn x = true ∨ X.env.scope.names.lookup x = some .local := by with_unfolding_all first | exact Or.inl rfl | exact Or.inr rfl) : St1 M X KE (.Assign [.Name x p] e pos) sl D m := by
  intro G0 H0 G H σ W E ok so wi po
  have hi' := hi.at
  refine wpS.of (ps_set (i := i0) cx.nd (by rw [cx.n]; exact hi') (cx.loc hx) pe_wp hs hf) ?_
  refine h G0 H0 G H σ W _ ok so (wi.at ok so) fun ad d m1 G1 H1 ⟨i, sl', es, q⟩ o1 n => ?_
  have hii : i = i0 := nd_ix (cx.n ▸ cx.nd) es.name hi'
  subst hii
  refine po.nx _ sl' m1 G1 H1 q (ok.trans o1) ?_
  rw [es.set]
  exact (so.step o1).newM i (n.back ok) (held_ne (G0 := G0) so n.h0)
theorem evn_list {KX : Kx} (h : EvA M X KX es sl (fun ds m1 => ds.length ≤ sizeLine ∧ P (.lst ds) m1) m) : EvN M X KX (.List es pos) sl P m := fun G0 H0 G H σ W Q ok so wi po =>
  wpE.of (pe_lst pa_wp) (h G0 H0 G H σ W _ ok so wi fun vs ds m1 G1 H1 ⟨l, q⟩ o r => ⟨by rw [r.length]; exact l, fun ad had => by
    have al := o.here.allocM (o := .lst vs) had
    have gA : G1 ad = none := by
      cases e : G1 ad with
      | none => rfl
      | some u => rw [o.sub _ _ e] at had; cases had
    have nx : ¬ M.X H1 ad := fun z => by obtain ⟨u, e⟩ := M.there _ _ _ o.inv z; rw [had] at e; cases e
    exact po ad _ m1 _ _ q (o.trans al) ⟨gA, fresh0 o (.inl had), fun z => nx (X_keep o nx _ z), ⟨vs, upd_same, r⟩⟩⟩)

/-! methods of an object of the run's own -/
structure OwnC (X : Cx) (T : String) (name : Str) (id : String) (r : V → List V → Hp → VK → Prop) : Prop where
  pa : PlainAttrs T
  slot : Slot T name id
  hty : typeOf (.builtin id) = pure (.type "method_descriptor")
  hm : MtR X id r
def TyM (T : String) (d : Da) : Prop := ∀ (K : PySem.W.Frag) (G H : Hp) (ad : Addr), RepM K G H ad d → tyV K T (.ref ad) H
theorem tym_lst {ds : List Da} : TyM "list" (.lst ds) := fun _ _ _ _ ⟨vs, h, _⟩ => .inl ⟨rfl, vs, sq_l h⟩
theorem tym_dct {ds : List (Key × Da)} : TyM "dict" (.dct ds) := fun _ _ _ _ ⟨vs, h, _⟩ => .inr (.inr (.inl ⟨rfl, .inl ⟨vs, h⟩⟩))
def OwnR (X : Cx) (r : V → List V → Hp → VK → Prop) (d0 : Da) (ds : List Da) (res d1 : Da) : Prop :=
  ∀ (G H : Hp) (ad : Addr) (vs : List V) (Q : VK), Same G H → RepM X.K G H ad d0 → Reps X.K G vs ds → (∀ o v, RepM X.K G (L2.upd H ad o) ad d1 → Rep X.K G v res → Q v (L2.upd H ad o)) → r (.ref ad) vs H Q
section
variable {T id : String} {name : Str} {r : V → List V → Hp → VK → Prop} {d0 : Da} {i : Nat}
theorem own_step {K : PySem.W.Frag} {G0 H0 G H : Hp} {σ : L2.St} {ad : Addr} {o : HO} {q0 : Option Addr} {d1 : Da} (ok : Ok M G0 H0 G H m) (so : SOk K M H0 G H σ sl) (hx : sl[i]? = some (.mm q0 d0)) (hs : σ[i]? = some (some (.ref ad))) (rm : RepM K G (L2.upd H ad o) ad d1) :
    Ok M G0 H0 G (L2.upd H ad o) m ∧ SOk K M H0 G (L2.upd H ad o) σ (sl.set i (.mm q0 d1)) := by
  obtain ⟨o', e1, ad', rfl, zz, g, h0, n, _⟩ := paired_get so.rel hx
  rw [hs] at e1
  cases e1
  exact ⟨ok.mut g n h0, so.setM hx hs (X_keep ok n) rm⟩
theorem own_e {R : Da → Da → Nat → Prop} (cx : Ctx X N sc B) (hx : EnvAt N sl x i (.m d0)) (C : OwnC X T name id r) (ty : TyM T d0) (h : EvA M X (KE sl) (e :: es) sl (fun ds m1 => ∃ res d1, OwnR X r d0 ds res d1 ∧ R res d1 m1) m)
    (hv : Vis sc x) (hd : (x == ("__debug__" : Str)) = false) (hcd : (x == ("__classdict__" : Str)) = false)
    (hbase : attributeBase (.Name x p) name X.env (eval (.Name x p) X.env) = eval (.Name x p) X.env)
    (hfew : ((backTo pos (starEach (e :: es) X.env)).all (fun x => !x.1) && (backToKw pos (keywordEach [] X.env)).all (fun x => x.1.isSome)
      && decide ((e :: es).length + ([] : List Keyword).length + (if ([] : List Keyword).isEmpty then 0 else 1) < 30)) = true)
    (hline : (p2.endLine == pos.line) = true) (hst : starEach (e :: es) X.env = (false, eval e X.env) :: starEach es X.env) (hplain : (backTo pos (starEach es X.env)).any (·.1) = false)
    {G0 H0 G H : Hp} {σ : L2.St} {W : WX} {Q : VK} (ok : Ok M G0 H0 G H m) (so : SOk X.K M H0 G H σ sl) (wi : Wis M X (KE sl) G H σ W)
    (po : ∀ v res d1 m1 G' H', R res d1 m1 → Ok M G0 H0 G' H' m1 → SOk X.K M H0 G' H' σ (sl.set i (.m d1)) → Rep X.K G' v res → Q v H') : wpE X (.Call (.Attribute (.Name x p) name p2) (e :: es) [] pos) σ H Q := by
  refine wpE.of (pe_bm C.pa C.slot C.hty C.hm (pe_var (by rw [cx.n]; exact hx.name) (cx.vis hv) hd hcd) pa_wp hbase hfew hline hst hplain) ?_
  obtain ⟨o, e1, ad, rfl, zz, g, h0, n, rm⟩ := paired_get so.rel hx.slot
  refine ⟨_, e1, ty _ _ _ _ rm, ?_⟩
  refine h G0 H0 G H σ W _ ok so wi fun vs ds m1 G1 H1 ⟨res, d1, own, q⟩ o1 rv => ?_
  have so1 := so.step o1
  obtain ⟨o', e2, ad', hh, zz', g', h0', n', rm'⟩ := paired_get so1.rel hx.slot
  rw [e1] at e2
  cases e2
  cases hh
  refine own G1 H1 ad vs Q o1.sub rm' rv fun w v r1 r2 => ?_
  obtain ⟨k1, k2⟩ := own_step (ok.trans o1) so1 hx.slot e1 r1
  exact po v res d1 m1 G1 _ q k1 k2 r2
theorem own_e0 {R : Da → Da → Nat → Prop} (cx : Ctx X N sc B) (hx : EnvAt N sl x i (.m d0)) (C : OwnC X T name id r) (ty : TyM T d0) (h : ∃ res d1, OwnR X r d0 [] res d1 ∧ R res d1 m)
    (hv : Vis sc x) (hd : (x == ("__debug__" : Str)) = false) (hcd : (x == ("__classdict__" : Str)) = false)
    (hbase : attributeBase (.Name x p) name X.env (eval (.Name x p) X.env) = eval (.Name x p) X.env)
    (hline : (p2.endLine == pos.line) = true)
    {G0 H0 G H : Hp} {σ : L2.St} {Q : VK} (ok : Ok M G0 H0 G H m) (so : SOk X.K M H0 G H σ sl)
    (po : ∀ v res d1 m1 G' H', R res d1 m1 → Ok M G0 H0 G' H' m1 → SOk X.K M H0 G' H' σ (sl.set i (.m d1)) → Rep X.K G' v res → Q v H') : wpE X (.Call (.Attribute (.Name x p) name p2) [] [] pos) σ H Q := by
  refine wpE.of (pe_bm0 C.pa C.slot C.hty C.hm (pe_var (by rw [cx.n]; exact hx.name) (cx.vis hv) hd hcd) hbase hline) ?_
  obtain ⟨o, e1, ad, rfl, zz, g, h0, n, rm⟩ := paired_get so.rel hx.slot
  refine ⟨_, e1, ty _ _ _ _ rm, ?_⟩
  obtain ⟨res, d1, own, q⟩ := h
  refine own G H ad [] Q ok.sub rm .nil fun w v r1 r2 => ?_
  obtain ⟨k1, k2⟩ := own_step ok so hx.slot e1 r1
  exact po v res d1 m G _ q k1 k2 r2
section
/-- x.name(..) as a statement -/
theorem st1_own (cx : Ctx X N sc B) (hx : EnvAt N sl x i (.m d0)) (C : OwnC X T name id r) (ty : TyM T d0) (h : EvA M X (KE sl) (e :: es) sl (fun ds m1 => ∃ res d1, OwnR X r d0 ds res d1 ∧ ∃ i' sl', EnvSet N sl x i' (.m d1) sl' ∧ D.nx sl' m1) m)
    (hv : Vis sc x := by with_unfolding_all first | exact Or.inl rfl | exact Or.inr (Or.inl rfl) | exact Or.inr (Or.inr rfl)) (hd : (x == ("__debug__" : Str)) = false := by with_unfolding_all decide) (hcd : (x == ("__classdict__" : Str)) = false := by with_unfolding_all decide)
    (hbase : attributeBase (.Name x p) name X.env (eval (.Name x p) X.env) = eval (.Name x p) X.env := by with_unfolding_all rfl)
    (hfew : ((backTo pos (starEach (e :: es) X.env)).all (fun x => !x.1) && (backToKw pos (keywordEach [] X.env)).all (fun x => x.1.isSome)
      && decide ((e :: es).length + ([] : List Keyword).length + (if ([] : List Keyword).isEmpty then 0 else 1) < 30)) = true := by with_unfolding_all rfl)
    (hline : (p2.endLine == pos.line) = true := by with_unfolding_all rfl) (hst : starEach (e :: es) X.env = (false, eval e X.env) :: starEach es X.env := by with_unfolding_all rfl) (hplain : (backTo pos (starEach es X.env)).any (·.1) = false := by with_unfolding_all rfl)
    (hs : swapsWith (.Call (.Attribute (.Name x p) name p2) (e :: es) [] pos) none spos.line X.env = pure false := by with_unfolding_all rfl) : St1 M X KE (.Expr (.Call (.Attribute (.Name x p) name p2) (e :: es) [] pos) spos) sl D m := fun G0 H0 G H σ W E ok so wi po =>
  wpS.of (ps_expr pe_wp hs) (own_e (R := fun _ d1 m1 => ∃ i' sl', EnvSet N sl x i' (.m d1) sl' ∧ D.nx sl' m1) cx hx C ty h hv hd hcd hbase hfew hline hst hplain ok so (wi.at ok so) fun v res d1 m1 G' H' ⟨i', sl', es, q⟩ ok' so' _ => po.nx σ _ m1 G' H' q ok' (envset_eq (cx.n ▸ cx.nd) hx.name es ▸ so'))
theorem st1_own0 (cx : Ctx X N sc B) (hx : EnvAt N sl x i (.m d0)) (C : OwnC X T name id r) (ty : TyM T d0) (h : ∃ res d1, OwnR X r d0 [] res d1 ∧ ∃ i' sl', EnvSet N sl x i' (.m d1) sl' ∧ D.nx sl' m)
    (hv : Vis sc x := by with_unfolding_all first | exact Or.inl rfl | exact Or.inr (Or.inl rfl) | exact Or.inr (Or.inr rfl)) (hd : (x == ("__debug__" : Str)) = false := by with_unfolding_all decide) (hcd : (x == ("__classdict__" : Str)) = false := by with_unfolding_all decide)
    (hbase : attributeBase (.Name x p) name X.env (eval (.Name x p) X.env) = eval (.Name x p) X.env := by with_unfolding_all rfl)
    (hline : (p2.endLine == pos.line) = true := by with_unfolding_all rfl)
    (hs : swapsWith (.Call (.Attribute (.Name x p) name p2) [] [] pos) none spos.line X.env = pure false := by with_unfolding_all rfl) : St1 M X KE (.Expr (.Call (.Attribute (.Name x p) name p2) [] [] pos) spos) sl D m := fun G0 H0 G H σ W E ok so wi po =>
  wpS.of (ps_expr pe_wp hs) (own_e0 (R := fun _ d1 m1 => ∃ i' sl', EnvSet N sl x i' (.m d1) sl' ∧ D.nx sl' m1) cx hx C ty h hv hd hcd hbase hline ok so fun v res d1 m1 G' H' ⟨i', sl', es, q⟩ ok' so' _ => po.nx σ _ m1 G' H' q ok' (envset_eq (cx.n ▸ cx.nd) hx.name es ▸ so'))
/-- y = x.name(..) -/
theorem st1_setOwn {y : Str} {py : Pos} {k : Nat} (cx : Ctx X N sc B) (hx : EnvAt N sl x i (.m d0)) (C : OwnC X T name id r) (ty : TyM T d0) (hk : IdxAt N y k) (h : EvA M X (KE sl) (e :: es) sl (fun ds m1 => ∃ res d1, OwnR X r d0 ds res d1 ∧ ∃ i' sl', EnvSet N sl x i' (.m d1) sl' ∧ ∃ k' sl2, EnvSet N sl' y k' (.v res) sl2 ∧ D.nx sl2 m1) m)
    (hy : Loc sc y := by with_unfolding_all first | exact Or.inl rfl | exact Or.inr rfl)
    (hv : Vis sc x := by with_unfolding_all first | exact Or.inl rfl | exact Or.inr (Or.inl rfl) | exact Or.inr (Or.inr rfl)) (hd : (x == ("__debug__" : Str)) = false := by with_unfolding_all decide) (hcd : (x == ("__classdict__" : Str)) = false := by with_unfolding_all decide)
    (hbase : attributeBase (.Name x p) name X.env (eval (.Name x p) X.env) = eval (.Name x p) X.env := by with_unfolding_all rfl)
    (hfew : ((backTo pos (starEach (e :: es) X.env)).all (fun x => !x.1) && (backToKw pos (keywordEach [] X.env)).all (fun x => x.1.isSome)
      && decide ((e :: es).length + ([] : List Keyword).length + (if ([] : List Keyword).isEmpty then 0 else 1) < 30)) = true := by with_unfolding_all rfl)
    (hline : (p2.endLine == pos.line) = true := by with_unfolding_all rfl) (hst : starEach (e :: es) X.env = (false, eval e X.env) :: starEach es X.env := by with_unfolding_all rfl) (hplain : (backTo pos (starEach es X.env)).any (·.1) = false := by with_unfolding_all rfl)
    (hs : swapsWith (.Call (.Attribute (.Name x p) name p2) (e :: es) [] pos) (some (.Name y py)) spos.line X.env = pure false := by with_unfolding_all rfl) (hf : X.fn y = true ∨ X.env.scope.names.lookup y = some .local := by with_unfolding_all first | exact Or.inl rfl | exact Or.inr rfl) : St1 M X KE (.Assign [.Name y py] (.Call (.Attribute (.Name x p) name p2) (e :: es) [] pos) spos) sl D m := fun G0 H0 G H σ W E ok so wi po =>
  wpS.of (ps_set (i := k) cx.nd (by rw [cx.n]; exact hk.at) (cx.loc hy) pe_wp hs hf) (own_e (R := fun res d1 m1 => ∃ i' sl', EnvSet N sl x i' (.m d1) sl' ∧ ∃ k' sl2, EnvSet N sl' y k' (.v res) sl2 ∧ D.nx sl2 m1) cx hx C ty h hv hd hcd hbase hfew hline hst hplain ok so (wi.at ok so) fun v res d1 m1 G' H' ⟨i', sl', es, k', sl2, es2, q⟩ ok' so' rr => po.nx _ _ m1 G' H' q ok' (by
    rw [envset_at (cx.n ▸ cx.nd) hk es2, envset_eq (cx.n ▸ cx.nd) hx.name es]
    exact so'.setV k rr))
theorem st1_setOwn0 {y : Str} {py : Pos} {k : Nat} (cx : Ctx X N sc B) (hx : EnvAt N sl x i (.m d0)) (C : OwnC X T name id r) (ty : TyM T d0) (hk : IdxAt N y k) (h : ∃ res d1, OwnR X r d0 [] res d1 ∧ ∃ i' sl', EnvSet N sl x i' (.m d1) sl' ∧ ∃ k' sl2, EnvSet N sl' y k' (.v res) sl2 ∧ D.nx sl2 m)
    (hy : Loc sc y := by with_unfolding_all first | exact Or.inl rfl | exact Or.inr rfl)
    (hv : Vis sc x := by with_unfolding_all first | exact Or.inl rfl | exact Or.inr (Or.inl rfl) | exact Or.inr (Or.inr rfl)) (hd : (x == ("__debug__" : Str)) = false := by with_unfolding_all decide) (hcd : (x == ("__classdict__" : Str)) = false := by with_unfolding_all decide)
    (hbase : attributeBase (.Name x p) name X.env (eval (.Name x p) X.env) = eval (.Name x p) X.env := by with_unfolding_all rfl)
    (hline : (p2.endLine == pos.line) = true := by with_unfolding_all rfl)
    (hs : swapsWith (.Call (.Attribute (.Name x p) name p2) [] [] pos) (some (.Name y py)) spos.line X.env = pure false := by with_unfolding_all rfl) (hf : X.fn y = true ∨ X.env.scope.names.lookup y = some .local := by with_unfolding_all first | exact Or.inl rfl | exact Or.inr rfl) : St1 M X KE (.Assign [.Name y py] (.Call (.Attribute (.Name x p) name p2) [] [] pos) spos) sl D m := fun G0 H0 G H σ W E ok so wi po =>
  wpS.of (ps_set (i := k) cx.nd (by rw [cx.n]; exact hk.at) (cx.loc hy) pe_wp hs hf) (own_e0 (R := fun res d1 m1 => ∃ i' sl', EnvSet N sl x i' (.m d1) sl' ∧ ∃ k' sl2, EnvSet N sl' y k' (.v res) sl2 ∧ D.nx sl2 m1) cx hx C ty h hv hd hcd hbase hline ok so fun v res d1 m1 G' H' ⟨i', sl', es, k', sl2, es2, q⟩ ok' so' rr => po.nx _ _ m1 G' H' q ok' (by
    rw [envset_at (cx.n ▸ cx.nd) hk es2, envset_eq (cx.n ▸ cx.nd) hx.name es]
    exact so'.setV k rr))
end
/-- the methods -/
theorem oc_append : OwnC X "list" "append" "list.append" rAppend := ⟨PySem.F.plainAttrs_list, PySem.F.slot_list_append, PySem.F.type_list_append, mt_append⟩
theorem oc_insert : OwnC X "list" "insert" "list.insert" (fun x vs H Q => ∃ (l : Addr) (xs : List V) (i : Int) (y : V), x = .ref l ∧ vs = [.int i, y] ∧ H l = some (.lst xs) ∧ xs.length < sizeLine ∧ 0 ≤ i ∧ i < 2 ^ 63 ∧
    Q .non (L2.upd H l (.lst (xs.take i.toNat ++ [y] ++ xs.drop i.toNat)))) := ⟨PySem.F.plainAttrs_list, PySem.F.slot_list_insert, PySem.F.type_list_insert, mt_insert⟩
theorem oc_extend : OwnC X "list" "extend" "list.extend" rExtend := ⟨PySem.F.plainAttrs_list, PySem.F.slot_list_extend, PySem.F.type_list_extend, mt_extend⟩
theorem oc_pop : OwnC X "list" "pop" "list.pop" rPop := ⟨PySem.F.plainAttrs_list, PySem.F.slot_list_pop, PySem.F.type_list_pop, mt_pop⟩
theorem oc_popAt : OwnC X "list" "pop" "list.pop" rPopAt := ⟨PySem.F.plainAttrs_list, PySem.F.slot_list_pop, PySem.F.type_list_pop, mt_popAt⟩
theorem oc_clear : OwnC X "list" "clear" "list.clear" rClear := ⟨PySem.F.plainAttrs_list, PySem.F.slot_list_clear, PySem.F.type_list_clear, mt_clear⟩
theorem own_append {ds : List Da} {d : Da} (h : ds.length < sizeLine) : OwnR X rAppend (.lst ds) [d] .non (.lst (ds ++ [d])) := fun G H ad vs Q s rm r k => by
  obtain ⟨us, e, ru⟩ := rm
  obtain ⟨v, rfl, rv⟩ := reps1 r
  exact ⟨ad, us, v, rfl, rfl, e, by rw [ru.length]; exact h, k _ _ ⟨_, upd_same, ru.append (.cons rv .nil)⟩ .non⟩
theorem own_insert {ds : List Da} {d : Da} {i : Int} (h : ds.length < sizeLine) (h0 : 0 ≤ i) (h1 : i < 9223372036854775808) : OwnR X (fun x vs H Q => ∃ (l : Addr) (xs : List V) (i : Int) (y : V), x = .ref l ∧ vs = [.int i, y] ∧ H l = some (.lst xs) ∧ xs.length < sizeLine ∧ 0 ≤ i ∧ i < 2 ^ 63 ∧
    Q .non (L2.upd H l (.lst (xs.take i.toNat ++ [y] ++ xs.drop i.toNat)))) (.lst ds) [.int i, d] .non (.lst (ds.take i.toNat ++ [d] ++ ds.drop i.toNat)) := fun G H ad vs Q s rm r k => by
  obtain ⟨us, e, ru⟩ := rm
  obtain ⟨v, w, rfl, rv, rw'⟩ := reps2 r
  cases rv.int_inv
  exact ⟨ad, us, i, w, rfl, rfl, e, by rw [ru.length]; exact h, h0, h1, k _ _ ⟨_, upd_same, ((ru.take _).append (.cons rw' .nil)).append (ru.drop _)⟩ .non⟩
theorem own_extend {ds es : List Da} (h : ds.length + es.length ≤ sizeLine) : OwnR X rExtend (.lst ds) [.lst es] .non (.lst (ds ++ es)) := fun G H ad vs Q s rm r k => by
  obtain ⟨us, e, ru⟩ := rm
  obtain ⟨v, rfl, rv⟩ := reps1 r
  obtain ⟨b, ws, rfl, q, rw'⟩ := rv.lst_inv
  exact ⟨ad, b, us, ws, rfl, rfl, e, s _ _ q, by rw [ru.length, rw'.length]; exact h, k _ _ ⟨_, upd_same, ru.append rw'⟩ .non⟩
theorem reps_eraseIdx {K : PySem.W.Frag} {G : Hp} : ∀ {vs : List V} {ds : List Da} (i : Nat), Reps K G vs ds → Reps K G (vs.eraseIdx i) (ds.eraseIdx i)
  | _, _, _, .nil => .nil
  | _, _, 0, .cons _ b => b
  | _, _, i + 1, .cons a b => .cons a (reps_eraseIdx i b)
theorem reps_dropLast {K : PySem.W.Frag} {G : Hp} : ∀ {vs : List V} {ds : List Da}, Reps K G vs ds → Reps K G vs.dropLast ds.dropLast
  | _, _, .nil => .nil
  | _, _, .cons a .nil => .nil
  | _, _, .cons a (.cons b c) => .cons a (reps_dropLast (.cons b c))
theorem own_popAt {ds : List Da} {d : Da} {i : Int} (h0 : 0 ≤ i) (h1 : i < 9223372036854775808) (hd : ds[i.toNat]? = some d) : OwnR X rPopAt (.lst ds) [.int i] d (.lst (ds.eraseIdx i.toNat)) := fun G H ad vs Q s rm r k => by
  obtain ⟨us, e, ru⟩ := rm
  obtain ⟨v, rfl, rv⟩ := reps1 r
  cases rv.int_inv
  obtain ⟨w, hw, rw'⟩ := ru.get hd
  have hl := (List.getElem?_eq_some_iff.mp hw).1
  exact ⟨ad, us, i, i.toNat, w, rfl, rfl, e, by omega, h1, seqIndex_of h0 (by omega), hw, k _ _ ⟨_, upd_same, reps_eraseIdx _ ru⟩ rw'⟩
theorem own_pop {ds : List Da} {d : Da} (hd : ds[ds.length - 1]? = some d) : OwnR X rPop (.lst ds) [] d (.lst ds.dropLast) := fun G H ad vs Q s rm r k => by
  obtain ⟨us, e, ru⟩ := rm
  cases r
  obtain ⟨w, hw, rw'⟩ := ru.get hd
  exact ⟨ad, us, w, rfl, rfl, e, by rw [ru.length]; exact hw, k _ _ ⟨_, upd_same, reps_dropLast ru⟩ rw'⟩
theorem own_clear {ds : List Da} : OwnR X rClear (.lst ds) [] .non (.lst []) := fun G H ad vs Q s rm r k => by
  obtain ⟨us, e, ru⟩ := rm
  cases r
  exact ⟨ad, us, rfl, rfl, e, k _ _ ⟨_, upd_same, .nil⟩ .non⟩
end
end
end OZ

/-! ### calls with keywords, of methods, of classes -/
namespace OZ
open PySem L2 PySem.Spec PyProof.Rows
def wpK (X : Cx) (kws : List Keyword) : TA := fun σ H Q => ∀ (pos : Pos) pins s, Inv X pins σ H s → wpAny (model X.prog X.w) X.A (evalAll ((backToKw pos (keywordEach kws X.env)).map (·.2))) (AP X pins σ Q) X.xe s
theorem pk_wp {X : Cx} {kws : List Keyword} : PK X kws (wpK X kws) := ⟨fun pos pins s _ _ _ I h => h pos pins s I⟩
theorem wpK.of {X : Cx} {kws : List Keyword} {t : TA} {σ : L2.St} {H : Hp} {Q : List V → Hp → Prop} (p : PK X kws t) (h : t σ H Q) : wpK X kws σ H Q := fun pos pins s I => p.run pos pins s σ H Q I h
def EvK (M : Mode) (X : Cx) (KE : Kx) (kws : List Keyword) (sl : List Sl) (P : List Da → Nat → Prop) (m : Nat) : Prop :=
  ∀ (G0 H0 G H : Hp) (σ : L2.St) (W : WX) (Q : List V → Hp → Prop), Ok M G0 H0 G H m → SOk X.K M H0 G H σ sl → Wis M X KE G H σ W → PostA M X.K G H P Q → wpK X kws σ H Q
section
variable {M : Mode} {X : Cx} {KE : Kx} {a e o : Expr} {es : List Expr} {kws : List Keyword} {sl : List Sl} {P : Da → Nat → Prop} {PA' : List Da → Nat → Prop} {m : Nat} {pos p apos kpos : Pos} {x nm : Str} {nm' : Option Str}
theorem evk_nil (k : PA' [] m) : EvK M X KE [] sl PA' m := fun _ _ G H _ _ _ ok _ _ po => wpK.of pk_nil (po _ _ m G H k ok.here .nil)
theorem evk_cons (h : EvD M X KE e sl (fun d m1 => EvK M X KE kws sl (fun ds m2 => PA' (d :: ds) m2) m1) m) : EvK M X KE (⟨nm', e, kpos⟩ :: kws) sl PA' m := fun G0 H0 G H σ W Q ok so wi po =>
  wpK.of (pk_cons pe_wp pk_wp) (h G0 H0 G H σ W _ ok so wi fun v d m' G' H' p o r => p G0 H0 G' H' σ W _ (ok.trans o) (so.step o) (wi.step o) fun vs ds m2 G2 H2 p2 o2 r2 => po _ _ m2 G2 H2 p2 (o.trans o2) (.cons (r.mono o2.le) r2))
theorem EvK.run (h : EvK M X KE kws sl PA' m) {G0 H0 G H : Hp} {σ : L2.St} {W : WX} (ok : Ok M G0 H0 G H m) (so : SOk X.K M H0 G H σ sl) (wi : Wis M X KE G H σ W) {pins : List (Addr × Obj)} {s : Shared} (I : Inv X pins σ H s) {Q : List Value → Shared → Prop}
    (k : ∀ us s' vs ds m' G' H', PA' ds m' → Ok M G0 H0 G' H' m' → Ok M G H G' H' m' → SOk X.K M H0 G' H' σ sl → Wis M X KE G' H' σ W → Reps X.K G' vs ds → Inv X pins σ H' s' → Vals vs us → Q us s') (pos : Pos) : wpAny (model X.prog X.w) X.A (evalAll ((backToKw pos (keywordEach kws X.env)).map (·.2))) Q X.xe s :=
  thn (h G0 H0 G H σ W (fun vs H' => ∃ ds m' G', PA' ds m' ∧ Ok M G H G' H' m' ∧ Reps X.K G' vs ds) ok so wi (fun v d m' G' H' p o r => ⟨d, m', G', p, o, r⟩) pos pins s I)
    fun u s' ⟨v, H', I', rv, d, m', G', p, o, r⟩ => k u s' v d m' G' H' p (ok.trans o) o (so.step o) (wi.step o) r I' rv

/-- the code of a def, told of data -/
def CodeD (M : Mode) (X : Cx) (KE : Kx) (f : Addr) (ks : List Str) (ds es : List Da) (P : Da → Nat → Prop) (m : Nat) : Prop :=
  ∀ (G H : Hp) (σ : L2.St) (W : WX) (Q : VK) (vs zs : List V), Ok M G H G H m → Wis M X KE G H σ W → Reps X.K G vs ds → Reps X.K G zs es → Post M X.K G H P Q →
    ∀ pins s us ws, Inv X pins σ H s → Vals vs us → Vals zs ws → codeAny (model X.prog X.w) X.A (.call (.ref f) ⟨us, ks.zip ws⟩) (fun r s' => match r with | .ok (.ret v) => EP X pins σ Q v s' | .ok _ => False | .error e => X.xe e s') s
/-- .. of a value that is called -/
def CallK (M : Mode) (X : Cx) (KE : Kx) (f : Value) (ks : List Str) (ds es : List Da) (P : Da → Nat → Prop) (m : Nat) : Prop :=
  ∀ (G H : Hp) (σ : L2.St) (W : WX) (Q : VK) (vs zs : List V), Ok M G H G H m → Wis M X KE G H σ W → Reps X.K G vs ds → Reps X.K G zs es → Post M X.K G H P Q →
    ∀ pins s us ws, Inv X pins σ H s → Vals vs us → Vals zs ws → wpAny (model X.prog X.w) X.A (call f us (ks.zip ws)) (EP X pins σ Q) X.xe s
theorem CodeD.k {f : Addr} {ks : List Str} {ds es : List Da} (c : CodeD M X KE f ks ds es P m) : CallK M X KE (.ref f) ks ds es P m := fun G H σ W Q vs zs ok wi r1 r2 po pins s us ws I e1 e2 => wpAny_call (c G H σ W Q vs zs ok wi r1 r2 po pins s us ws I e1 e2)
theorem CallD.k {f : Value} {ds : List Da} (c : CallD M X KE f ds P m) : CallK M X KE f [] ds [] P m := fun G H σ W Q vs zs ok wi r1 r2 po pins s us ws I e1 e2 => c G H σ W Q vs ok wi r1 po pins s us I e1
theorem CallK.d {f : Value} {ds : List Da} (c : CallK M X KE f [] ds [] P m) : CallD M X KE f ds P m := fun G H σ W Q vs ok wi r1 po pins s us I e1 => c G H σ W Q vs [] ok wi r1 .nil po pins s us [] I e1 .nil
/-- a def, n values and keywords named ks -/
structure FnK (M : Mode) (B : Bd) (k : Nat) (f : Addr) (n : Nat) (ks : List Str) (gD : List Da → List Da → List Da) (F : FD) : Prop where
  ex : ∃ (CX : CXT) (fd : FuncData) (ps : List Str) (g : List Value → List Value → List Value) (gV : List V → List V → List V), FnOk B.P B.w B.K B.mg B.base CX k f fd ps (spD M B.K ps.length F) ∧ KBn B.K fd ps n ks g gV ∧
    (∀ (G : Hp) (vs zs : List V) (ds es : List Da), Reps B.K G vs ds → Reps B.K G zs es → ds.length = n → es.length = ks.length → Reps B.K G (gV vs zs) (gD ds es) ∧ (gD ds es).length = ps.length) ∧ (CX = CX0 ∨ CX = L2.CX B.P B.w)
theorem FnG.k {B : Bd} {k n : Nat} {f : Addr} {F : FD} (c : FnG M B k f n F) : FnK M B k f n [] (fun ds _ => ds) F := by
  obtain ⟨CX, fd, ps, Fo, hb, hc, hn⟩ := c.ex
  subst hn
  refine ⟨CX, fd, ps, fun us _ => us, fun vs _ => vs, Fo, ⟨fun s us ws Kin l1 l2 => ?_, fun a _ => a⟩, fun G vs zs ds es r1 r2 h1 _ => ⟨r1, h1⟩, hc⟩
  have := hb s us Kin (by rw [List.append_nil]; exact l1)
  rw [List.append_nil] at this
  exact this
/-- a pure def within any mode -/
theorem spD_pure {K : PySem.W.Frag} {n : Nat} {F : FD} {vs : List V} {H : Hp} {Q : VK} {E : XK} (h : spD M K n (fun ds KR KE m => F ds (fun d _ => KR d m) (fun C fs _ => KE C fs m) 0) vs H Q E) : spD pureM K n F vs H Q E := by
  obtain ⟨hl, G, m, ds, KR, KE, ok, r, hF, po, px⟩ := h
  exact ⟨hl, G, 0, ds, _, _, ok.toPure, r, hF, fun v d m' G' H' p o rr => po v d m G' H' p (ok.lift o) rr, fun C fs d m' G' H' p o x => px C fs d m G' H' p (ok.lift o) x⟩
def FP (F : FD) : FD := fun ds KR KE m => F ds (fun d _ => KR d m) (fun C fs _ => KE C fs m) 0
theorem FnG.lift {B : Bd} {k n : Nat} {f : Addr} {F : FD} (c : FnG pureM B k f n F) : FnG M B k f n (FP F) := by
  obtain ⟨CX, fd, ps, Fo, hb, hc, hn⟩ := c.ex
  exact ⟨CX, fd, ps, Fo.imp fun _ _ _ _ q => spD_pure q, hb, hc, hn⟩
theorem FnK.lift {B : Bd} {k n : Nat} {f : Addr} {ks : List Str} {gD : List Da → List Da → List Da} {F : FD} (c : FnK pureM B k f n ks gD F) : FnK M B k f n ks gD (FP F) := by
  obtain ⟨CX, fd, ps, g, gV, Fo, hb, hr, hc⟩ := c.ex
  exact ⟨CX, fd, ps, g, gV, Fo.imp fun _ _ _ _ q => spD_pure q, hb, hr, hc⟩
theorem FnK.code {k j n : Nat} {f : Addr} {ks : List Str} {gD : List Da → List Da → List Da} {F : FD} {ds es : List Da} (C : FnK M (bdOf X) k f n ks gD F) (hr : Room j X.A) (h1 : ds.length = n) (h2 : es.length = ks.length) (h : F (gD ds es) P KE m) (hk : k ≤ j) : CodeD M X KE f ks ds es P m := by
  obtain ⟨CX, fd, ps, g, gV, Fo, hb, hrep, hc⟩ := C.ex
  intro G H σ W Q vs zs ok wi r1 r2 po pins s us ws I e1 e2
  obtain ⟨rr, rl⟩ := hrep G vs zs ds es r1 r2 h1 h2
  have l1 : us.length = n := by rw [← e1.length, r1.length, h1]
  have l2 : ws.length = ks.length := by rw [← e2.length, r2.length, h2]
  have sp : spD M X.K ps.length F (gV vs zs) H Q (WE W σ) := ⟨rr.length.trans rl, G, m, _, P, KE, ok, rr, h, po, fun C fs d m' G' H' => wi.ex C fs d m' G' H'⟩
  refine codeAny_mono (Fo.run X.A X.stack s H ⟨us, ks.zip ws⟩ (g us ws) (gV vs zs) Q (WE W σ) (hr.mono hk) I.env0 (hb.to s us ws I.kIn l1 l2) (hb.rel e1 e2) sp) fun r s' hq => ?_
  cases r with
  | error e => exact passes_any wi.tk hc σ pins H s e s' I hq
  | ok fl =>
    cases fl with
    | ret u => exact I.after hq
    | next => exact False.elim hq
    | brk => exact False.elim hq
    | cont => exact False.elim hq
/-- x(e, .., k = v, ..), x a def or class of the text -/
theorem evd_callX {N : List Str} {sc : Scope} {B : Bd} {f : Addr} {ks : List Str} (cx : Ctx X N sc B) (hm : B.mg x = some (.ref f)) (hk : PySem.W.keepIn X.K (.ref f) = true) (h : EvA M X KE (e :: es) sl (fun ds m1 => EvK M X KE kws sl (fun zs m2 => zs.length = ks.length ∧ CallK M X KE (.ref f) ks ds zs P m2) m1) m) (hg : GlS sc x := by with_unfolding_all rfl) (hdb : (x == ("__debug__" : Str)) = false := by with_unfolding_all decide)
    (hall : (backToKw pos (keywordEach kws X.env)).all (·.1.isSome) = true := by with_unfolding_all rfl) (hks : (backToKw pos (keywordEach kws X.env)).filterMap (·.1) = ks := by with_unfolding_all rfl)
    (he : starEach (e :: es) X.env = (false, eval e X.env) :: starEach es X.env := by with_unfolding_all rfl) (hpl : ((backTo pos (starEach (e :: es) X.env)).any (·.1) || (backToKw pos (keywordEach kws X.env)).any (·.1.isNone)) = false := by with_unfolding_all rfl) : EvD M X KE (.Call (.Name x p) (e :: es) kws pos) sl P m := by
  intro G0 H0 G H σ W Q ok so wi po pins s I
  refine wpAny_Call_Name_kw (ld_glob I (cx.gl hg) (cx.mg hm) ?_ hdb)
  refine PySem.W.callWith_KW (h₀ := X.base) I.ok.mod.kin hk hall (h.run ok so wi I (fun us s1 vs ds m1 G1 H1 p1 k1 o1 so1 wi1 r1 I1 rv1 => ?_) pos) hpl he
  refine p1.run k1 so1 wi1 I1 (fun ws s2 zs es' m2 G2 H2 p2 k2 o2 so2 wi2 r2 I2 rv2 => ?_) pos
  rw [hks]
  exact ⟨I2.kIn, p2.2 G2 H2 σ W Q vs zs k2.here wi2 (r1.mono o2.le) r2 (po.step (o1.trans o2)) pins s2 us ws I2 rv1 rv2⟩
theorem evd_callX0 {N : List Str} {sc : Scope} {B : Bd} {f : Addr} {ks : List Str} (cx : Ctx X N sc B) (hm : B.mg x = some (.ref f)) (hk : PySem.W.keepIn X.K (.ref f) = true) (h : EvK M X KE kws sl (fun zs m2 => zs.length = ks.length ∧ CallK M X KE (.ref f) ks [] zs P m2) m) (hg : GlS sc x := by with_unfolding_all rfl) (hdb : (x == ("__debug__" : Str)) = false := by with_unfolding_all decide)
    (hall : (backToKw pos (keywordEach kws X.env)).all (·.1.isSome) = true := by with_unfolding_all rfl) (hks : (backToKw pos (keywordEach kws X.env)).filterMap (·.1) = ks := by with_unfolding_all rfl)
    (hpl : ((backTo pos (starEach [] X.env)).any (·.1) || (backToKw pos (keywordEach kws X.env)).any (·.1.isNone)) = false := by with_unfolding_all rfl) : EvD M X KE (.Call (.Name x p) [] kws pos) sl P m := by
  intro G0 H0 G H σ W Q ok so wi po pins s I
  refine wpAny_Call_Name_kw (ld_glob I (cx.gl hg) (cx.mg hm) ?_ hdb)
  refine PySem.W.callWith_KW0 (h₀ := X.base) I.ok.mod.kin hk hall ?_ hpl
  refine h.run ok so wi I (fun ws s2 zs es' m2 G2 H2 p2 k2 o2 so2 wi2 r2 I2 rv2 => ?_) pos
  rw [hks]
  exact ⟨I2.kIn, p2.2 G2 H2 σ W Q [] zs k2.here wi2 .nil r2 (po.step o2) pins s2 [] ws I2 .nil rv2⟩
/-- a def of the text by its name, with keywords or without -/
structure CallGK (M : Mode) (B : Bd) (k : Nat) (x : Str) (n : Nat) (ks : List Str) (gD : List Da → List Da → List Da) (F : FD) : Prop where
  ex : ∃ f : Addr, B.mg x = some (.ref f) ∧ PySem.W.keepIn B.K (.ref f) = true ∧ FnK M B k f n ks gD F
theorem CallG.k {B : Bd} {k n : Nat} {F : FD} (c : CallG M B k x n F) : CallGK M B k x n [] (fun ds _ => ds) F := by
  obtain ⟨f, h1, h2, c⟩ := c.ex
  exact ⟨f, h1, h2, c.k⟩
theorem CallG.lift {B : Bd} {k n : Nat} {F : FD} (c : CallG pureM B k x n F) : CallG M B k x n (FP F) := by
  obtain ⟨f, h1, h2, c⟩ := c.ex
  exact ⟨f, h1, h2, c.lift⟩
theorem CallGK.lift {B : Bd} {k n : Nat} {ks : List Str} {gD : List Da → List Da → List Da} {F : FD} (c : CallGK pureM B k x n ks gD F) : CallGK M B k x n ks gD (FP F) := by
  obtain ⟨f, h1, h2, c⟩ := c.ex
  exact ⟨f, h1, h2, c.lift⟩
theorem evk_imp {P' : List Da → Nat → Prop} (h : EvK M X KE kws sl PA' m) (k : ∀ d m', PA' d m' → P' d m') : EvK M X KE kws sl P' m :=
  fun G0 H0 G H σ W Q ok so wi po => h G0 H0 G H σ W Q ok so wi fun v d m' G' H' p o r => po v d m' G' H' (k d m' p) o r
theorem evd_callK {N : List Str} {sc : Scope} {B : Bd} {k j n : Nat} {ks : List Str} {gD : List Da → List Da → List Da} {F : FD} (cx : Ctx X N sc B) (C : CallGK M B k x n ks gD F) (hr : Room j X.A) (h : EvA M X KE (e :: es) sl (fun ds m1 => EvK M X KE kws sl (fun zs m2 => zs.length = ks.length ∧ ds.length = n ∧ F (gD ds zs) P KE m2) m1) m) (hk : k ≤ j := by with_unfolding_all decide) (hg : GlS sc x := by with_unfolding_all rfl) (hdb : (x == ("__debug__" : Str)) = false := by with_unfolding_all decide)
    (hall : (backToKw pos (keywordEach kws X.env)).all (·.1.isSome) = true := by with_unfolding_all rfl) (hks : (backToKw pos (keywordEach kws X.env)).filterMap (·.1) = ks := by with_unfolding_all rfl)
    (he : starEach (e :: es) X.env = (false, eval e X.env) :: starEach es X.env := by with_unfolding_all rfl) (hpl : ((backTo pos (starEach (e :: es) X.env)).any (·.1) || (backToKw pos (keywordEach kws X.env)).any (·.1.isNone)) = false := by with_unfolding_all rfl) : EvD M X KE (.Call (.Name x p) (e :: es) kws pos) sl P m := by
  have eb := cx.b
  subst eb
  obtain ⟨f, hm, hkp, c⟩ := C.ex
  exact evd_callX (ks := ks) cx hm hkp (eva_imp h fun ds m1 q => evk_imp q fun zs m2 z => ⟨z.1, (c.code hr z.2.1 z.1 z.2.2 hk).k⟩) hg hdb hall hks he hpl
theorem evd_callK0 {N : List Str} {sc : Scope} {B : Bd} {k j : Nat} {ks : List Str} {gD : List Da → List Da → List Da} {F : FD} (cx : Ctx X N sc B) (C : CallGK M B k x 0 ks gD F) (hr : Room j X.A) (h : EvK M X KE kws sl (fun zs m2 => zs.length = ks.length ∧ F (gD [] zs) P KE m2) m) (hk : k ≤ j := by with_unfolding_all decide) (hg : GlS sc x := by with_unfolding_all rfl) (hdb : (x == ("__debug__" : Str)) = false := by with_unfolding_all decide)
    (hall : (backToKw pos (keywordEach kws X.env)).all (·.1.isSome) = true := by with_unfolding_all rfl) (hks : (backToKw pos (keywordEach kws X.env)).filterMap (·.1) = ks := by with_unfolding_all rfl)
    (hpl : ((backTo pos (starEach [] X.env)).any (·.1) || (backToKw pos (keywordEach kws X.env)).any (·.1.isNone)) = false := by with_unfolding_all rfl) : EvD M X KE (.Call (.Name x p) [] kws pos) sl P m := by
  have eb := cx.b
  subst eb
  obtain ⟨f, hm, hkp, c⟩ := C.ex
  exact evd_callX0 (ks := ks) cx hm hkp (evk_imp h fun zs m2 z => ⟨z.1, (c.code hr rfl z.1 z.2 hk).k⟩) hg hdb hall hks hpl
end
end OZ

/-! ### own classes: fields, methods, properties, making -/
namespace OZ
open PySem L2 PySem.Spec PyProof.Rows
def putDa (f : Str) (v : Da) : List (Str × Da) → List (Str × Da)
  | [] => [(f, v)]
  | (g, x) :: r => if g = f then (g, v) :: r else (g, x) :: putDa f v r
theorem RepF.put {K : PySem.W.Frag} {G : Hp} {f : Str} {v : V} {d : Da} (r : Rep K G v d) : ∀ {vs : List (Str × V)} {fs : List (Str × Da)}, RepF K G vs fs → RepF K G (putF f v vs) (putDa f d fs)
  | _, _, .nil => .cons r .nil
  | _, _, .cons (k := k) a b => by
    unfold putF putDa
    by_cases h : k = f
    · rw [if_pos h, if_pos h]; exact .cons r b
    · rw [if_neg h, if_neg h]; exact .cons a (RepF.put r b)
theorem RepF.length {K : PySem.W.Frag} {G : Hp} : ∀ {vs : List (Str × V)} {fs : List (Str × Da)}, RepF K G vs fs → vs.length = fs.length
  | _, _, .nil => rfl
  | _, _, .cons _ b => by simp [RepF.length b]
section
variable {M : Mode} {X : Cx} {KE : Kx} {a e o : Expr} {es : List Expr} {kws : List Keyword} {sl : List Sl} {P : Da → Nat → Prop} {m j k n : Nat} {pos p apos : Pos} {f mt : Str} {C : Addr} {ks : List Str} {gD : List Da → List Da → List Da} {F : FD} {N : List Str} {sc : Scope} {B : Bd}
/-- o.f -/
theorem evd_fld (h : EvD M X KE e sl (fun d m1 => ∃ C fs v, d = .obj C fs ∧ Cls X.K C ∧ NoAttr X.K C f ∧ fs.lookup f = some v ∧ P v m1) m) (hb : attributeBase e f X.env (eval e X.env) = eval e X.env := by with_unfolding_all rfl) : EvD M X KE (.Attribute e f pos) sl P m := fun G0 H0 G H σ W Q ok so wi po =>
  wpE.of (pe_fld pe_wp hb) (h G0 H0 G H σ W _ ok so wi fun v d m' G' H' q o r => by
    obtain ⟨C, fs, w, rfl, c, na, l, q⟩ := q
    obtain ⟨ad, dx, vs, rfl, ea, rf⟩ := r.obj_inv
    obtain ⟨u, hu, ru⟩ := rf.look l
    exact ⟨ad, C, dx, vs, u, rfl, o.sub _ _ ea, c, na, hu, po u w m' G' H' q o ru⟩)
/-- .. of a property -/
structure PropG (M : Mode) (B : Bd) (k : Nat) (C : Addr) (f : Str) (F : FD) : Prop where
  ex : ∃ (p g : Addr) (fd : FuncData) (ps : List Str), Cls B.K C ∧ PropOf B.K C f p g ∧ FnOk B.P B.w B.K B.mg B.base CX0 k g fd ps (spD M B.K 1 F) ∧ Binds B.K fd ps []
theorem evd_prop (cx : Ctx X N sc B) (c : PropG M B k C f F) (hr : Room j X.A) (h : EvD M X KE e sl (fun d m1 => ∃ fs, d = .obj C fs ∧ F [.obj C fs] P K0 m1) m) (hk : k + 1 ≤ j := by with_unfolding_all decide) (hb : attributeBase e f X.env (eval e X.env) = eval e X.env := by with_unfolding_all rfl) : EvD M X KE (.Attribute e f pos) sl P m := by
  have eb := cx.b
  subst eb
  obtain ⟨p, g, fd, ps, cl, po', Fo, bn⟩ := c.ex
  exact fun G0 H0 G H σ W Q ok so wi po =>
    wpE.of (pe_prop (E := fun _ _ _ => False) pe_wp cl po' Fo (hr.mono hk) bn .nil pass0 hb) (h G0 H0 G H σ W _ ok so wi fun v d m' G' H' q o r => by
      obtain ⟨fs, rfl, q⟩ := q
      have r0 := r
      obtain ⟨ad, dx, vs, rfl, ea, rf⟩ := r.obj_inv
      exact ⟨ad, dx, vs, rfl, o.sub _ _ ea, rfl, G', m', _, P, K0, o.here, .cons r0 .nil, q, po.step o, fun _ _ _ _ _ _ z => z.elim⟩)
/-- o.m(e, ..) -/
structure MethG (M : Mode) (B : Bd) (k : Nat) (C : Addr) (mt : Str) (n : Nat) (ks : List Str) (gD : List Da → List Da → List Da) (F : FD) : Prop where
  ex : ∃ g : Addr, Cls B.K C ∧ Meth B.K C mt g ∧ FnK M B k g (n + 1) ks gD F
theorem MethG.lift (c : MethG pureM B k C mt n ks gD F) : MethG M B k C mt n ks gD (FP F) := by
  obtain ⟨g, c1, c2, c3⟩ := c.ex
  exact ⟨g, c1, c2, c3.lift⟩
theorem evd_meth {pl : Sem Bool} (cx : Ctx X N sc B) (c : MethG M B k C mt n ks gD F) (hr : Room j X.A) (h : EvD M X KE o sl (fun d m0 => ∃ fs, d = .obj C fs ∧ fs.lookup mt = none ∧ EvA M X KE (e :: es) sl (fun ds m1 => EvK M X KE kws sl (fun zs m2 => zs.length = ks.length ∧ ds.length = n ∧ F (gD (.obj C fs :: ds) zs) P KE m2) m1) m0) m) (hk : k ≤ j := by with_unfolding_all decide)
    (hall : (backToKw pos (keywordEach kws X.env)).all (·.1.isSome) = true := by with_unfolding_all rfl) (hks : (backToKw pos (keywordEach kws X.env)).filterMap (·.1) = ks := by with_unfolding_all rfl)
    (he : starEach (e :: es) X.env = (false, eval e X.env) :: starEach es X.env := by with_unfolding_all rfl) (hpl : ((backTo pos (starEach (e :: es) X.env)).any (·.1) || (backToKw pos (keywordEach kws X.env)).any (·.1.isNone)) = false := by with_unfolding_all rfl)
    (ht : eval (.Call (.Attribute o mt apos) (e :: es) kws pos) X.env = (do
      let ov ← eval o X.env
      standAt apos.atName
      let (f, first) ← holding [ov] (getMethod ov mt pl)
      callWith pos f first (backTo pos (starEach (e :: es) X.env)) (backToKw pos (keywordEach kws X.env))) := by with_unfolding_all rfl) : EvD M X KE (.Call (.Attribute o mt apos) (e :: es) kws pos) sl P m := by
  have eb := cx.b
  subst eb
  obtain ⟨g, cl, me, fk⟩ := c.ex
  intro G0 H0 G H σ W Q ok so wi po pins s I
  refine PySem.W.methodCall_KW (pl := pl) (h.run ok so wi I fun u s1 v d m1 G1 H1 p1 k1 o1 so1 wi1 r1 I1 rv1 => ?_) ht
  obtain ⟨fs, rfl, l, p1⟩ := p1
  have r0 := r1
  obtain ⟨ad, dx, vs0, rfl, ea, rf⟩ := r1.obj_inv
  cases rv1
  refine getmeth_ok I1 (k1.sub _ _ ea) cl me (rf.lookN l) ?_
  refine PySem.W.callWith_KW (first := [.ref ad]) (h₀ := X.base) I.ok.mod.kin me.kp hall (p1.run k1 so1 wi1 I1 (fun us s2 vs ds m2 G2 H2 p2 k2 o2 so2 wi2 r2 I2 rv2 => ?_) pos) hpl he
  refine p2.run k2 so2 wi2 I2 (fun ws s3 zs es' m3 G3 H3 p3 k3 o3 so3 wi3 r3 I3 rv3 => ?_) pos
  rw [hks]
  refine ⟨I3.kIn, ?_⟩
  exact (fk.code hr (by simp [p3.2.1]) p3.1 p3.2.2 hk).k G3 H3 σ W Q (.ref ad :: vs) zs k3.here wi3 (.cons ((r0.mono o2.le).mono o3.le) (r2.mono o3.le)) r3 (po.step ((o1.trans o2).trans o3)) pins s3 (.ref ad :: us) ws I3 (.cons rfl rv2) rv3
theorem evd_meth0 {pl : Sem Bool} (cx : Ctx X N sc B) (c : MethG M B k C mt 0 ks gD F) (hr : Room j X.A) (h : EvD M X KE o sl (fun d m0 => ∃ fs, d = .obj C fs ∧ fs.lookup mt = none ∧ EvK M X KE kws sl (fun zs m2 => zs.length = ks.length ∧ F (gD [.obj C fs] zs) P KE m2) m0) m) (hk : k ≤ j := by with_unfolding_all decide)
    (hall : (backToKw pos (keywordEach kws X.env)).all (·.1.isSome) = true := by with_unfolding_all rfl) (hks : (backToKw pos (keywordEach kws X.env)).filterMap (·.1) = ks := by with_unfolding_all rfl)
    (hpl : ((backTo pos (starEach [] X.env)).any (·.1) || (backToKw pos (keywordEach kws X.env)).any (·.1.isNone)) = false := by with_unfolding_all rfl)
    (ht : eval (.Call (.Attribute o mt apos) [] kws pos) X.env = (do
      let ov ← eval o X.env
      standAt apos.atName
      let (f, first) ← holding [ov] (getMethod ov mt pl)
      callWith pos f first (backTo pos (starEach [] X.env)) (backToKw pos (keywordEach kws X.env))) := by with_unfolding_all rfl) : EvD M X KE (.Call (.Attribute o mt apos) [] kws pos) sl P m := by
  have eb := cx.b
  subst eb
  obtain ⟨g, cl, me, fk⟩ := c.ex
  intro G0 H0 G H σ W Q ok so wi po pins s I
  refine PySem.W.methodCall_KW (pl := pl) (h.run ok so wi I fun u s1 v d m1 G1 H1 p1 k1 o1 so1 wi1 r1 I1 rv1 => ?_) ht
  obtain ⟨fs, rfl, l, p1⟩ := p1
  have r0 := r1
  obtain ⟨ad, dx, vs0, rfl, ea, rf⟩ := r1.obj_inv
  cases rv1
  refine getmeth_ok I1 (k1.sub _ _ ea) cl me (rf.lookN l) ?_
  refine PySem.W.callWith_KW0 (first := [.ref ad]) (h₀ := X.base) I.ok.mod.kin me.kp hall ?_ hpl
  refine p1.run k1 so1 wi1 I1 (fun ws s3 zs es' m3 G3 H3 p3 k3 o3 so3 wi3 r3 I3 rv3 => ?_) pos
  rw [hks]
  refine ⟨I3.kIn, ?_⟩
  exact (fk.code hr rfl p3.1 p3.2 hk).k G3 H3 σ W Q [.ref ad] zs k3.here wi3 (.cons (r0.mono o3.le) .nil) r3 (po.step (o1.trans o3)) pins s3 [.ref ad] ws I3 (.cons rfl .nil) rv3
/-- C.m(e, ..), m a classmethod -/
structure ClsG (M : Mode) (B : Bd) (k : Nat) (C : Addr) (mt : Str) (n : Nat) (ks : List Str) (gD : List Da → List Da → List Da) (F : FD) : Prop where
  ex : ∃ (p g : Addr) (mc : Value), ClX.CRead B.K C mc ∧ ClX.CMet B.K C mc mt p g ∧ FnK M B k g (n + 1) ks gD F
theorem ClsG.lift (c : ClsG pureM B k C mt n ks gD F) : ClsG M B k C mt n ks gD (FP F) := by
  obtain ⟨p, g, mc, c1, c2, c3⟩ := c.ex
  exact ⟨p, g, mc, c1, c2, c3.lift⟩
theorem evd_cmeth {pl : Sem Bool} (cx : Ctx X N sc B) (c : ClsG M B k C mt n ks gD F) (hr : Room j X.A) (h : EvD M X KE o sl (fun d m0 => d = .ref C ∧ EvA M X KE (e :: es) sl (fun ds m1 => EvK M X KE kws sl (fun zs m2 => zs.length = ks.length ∧ ds.length = n ∧ F (gD (.ref C :: ds) zs) P KE m2) m1) m0) m) (hk : k ≤ j := by with_unfolding_all decide)
    (hall : (backToKw pos (keywordEach kws X.env)).all (·.1.isSome) = true := by with_unfolding_all rfl) (hks : (backToKw pos (keywordEach kws X.env)).filterMap (·.1) = ks := by with_unfolding_all rfl)
    (he : starEach (e :: es) X.env = (false, eval e X.env) :: starEach es X.env := by with_unfolding_all rfl) (hpl : ((backTo pos (starEach (e :: es) X.env)).any (·.1) || (backToKw pos (keywordEach kws X.env)).any (·.1.isNone)) = false := by with_unfolding_all rfl)
    (ht : eval (.Call (.Attribute o mt apos) (e :: es) kws pos) X.env = (do
      let ov ← eval o X.env
      standAt apos.atName
      let (f, first) ← holding [ov] (getMethod ov mt pl)
      callWith pos f first (backTo pos (starEach (e :: es) X.env)) (backToKw pos (keywordEach kws X.env))) := by with_unfolding_all rfl) : EvD M X KE (.Call (.Attribute o mt apos) (e :: es) kws pos) sl P m := by
  have eb := cx.b
  subst eb
  obtain ⟨pp, g, mc, cr, cm, fk⟩ := c.ex
  intro G0 H0 G H σ W Q ok so wi po pins s I
  refine PySem.W.methodCall_KW (pl := pl) (h.run ok so wi I fun u s1 v d m1 G1 H1 p1 k1 o1 so1 wi1 r1 I1 rv1 => ?_) ht
  obtain ⟨rfl, p1⟩ := p1
  cases r1.ref_inv
  cases rv1
  refine ClX.getmethcm_ok I1 cr cm fun s2 I2 => ?_
  refine PySem.W.callWith_of hpl (PySem.W.keeps_M (K := X.K) (self := .ref C) cm.fi) (evalArgs_kw2 hall (p1.run k1 so1 wi1 I2 (fun us s3 vs ds m2 G2 H2 p2 k2 o2 so2 wi2 r2 I3 rv2 => ?_) pos) he)
  refine p2.run k2 so2 wi2 I3 (fun ws s4 zs es' m3 G3 H3 p3 k3 o3 so3 wi3 r3 I4 rv3 => ?_) pos
  rw [hks]
  refine ⟨⟨ClX.pin_at I4, I4.kIn⟩, ?_⟩
  refine wpAny_call (PySem.W.method_call (ClX.pin_at I4) ?_)
  refine codeAny_mono ((fk.code hr (by simp [p3.2.1]) p3.1 p3.2.2 hk) G3 H3 σ W Q (.ref C :: vs) zs k3.here wi3 (.cons (.ref C) (r2.mono o3.le)) r3 (po.step ((o1.trans o2).trans o3)) _ s4 (.ref C :: us) ws I4 (.cons rfl rv2) rv3) fun r s5 z => ?_
  match r, z with
  | .ok (.ret u), z => exact ClX.unpinE z
  | .ok .next, z => exact z.elim
  | .ok .brk, z => exact z.elim
  | .ok .cont, z => exact z.elim
  | .error _, z => exact z
theorem evd_cmeth0 {pl : Sem Bool} (cx : Ctx X N sc B) (c : ClsG M B k C mt 0 ks gD F) (hr : Room j X.A) (h : EvD M X KE o sl (fun d m0 => d = .ref C ∧ EvK M X KE kws sl (fun zs m2 => zs.length = ks.length ∧ F (gD [.ref C] zs) P KE m2) m0) m) (hk : k ≤ j := by with_unfolding_all decide)
    (hall : (backToKw pos (keywordEach kws X.env)).all (·.1.isSome) = true := by with_unfolding_all rfl) (hks : (backToKw pos (keywordEach kws X.env)).filterMap (·.1) = ks := by with_unfolding_all rfl)
    (hpl : ((backTo pos (starEach [] X.env)).any (·.1) || (backToKw pos (keywordEach kws X.env)).any (·.1.isNone)) = false := by with_unfolding_all rfl)
    (ht : eval (.Call (.Attribute o mt apos) [] kws pos) X.env = (do
      let ov ← eval o X.env
      standAt apos.atName
      let (f, first) ← holding [ov] (getMethod ov mt pl)
      callWith pos f first (backTo pos (starEach [] X.env)) (backToKw pos (keywordEach kws X.env))) := by with_unfolding_all rfl) : EvD M X KE (.Call (.Attribute o mt apos) [] kws pos) sl P m := by
  have eb := cx.b
  subst eb
  obtain ⟨pp, g, mc, cr, cm, fk⟩ := c.ex
  intro G0 H0 G H σ W Q ok so wi po pins s I
  refine PySem.W.methodCall_KW (pl := pl) (h.run ok so wi I fun u s1 v d m1 G1 H1 p1 k1 o1 so1 wi1 r1 I1 rv1 => ?_) ht
  obtain ⟨rfl, p1⟩ := p1
  cases r1.ref_inv
  cases rv1
  refine ClX.getmethcm_ok I1 cr cm fun s2 I2 => ?_
  refine PySem.W.callWith_of hpl (PySem.W.keeps_M (K := X.K) (self := .ref C) cm.fi) (evalArgs_kw2_nil hall ?_)
  refine p1.run k1 so1 wi1 I2 (fun ws s4 zs es' m3 G3 H3 p3 k3 o3 so3 wi3 r3 I4 rv3 => ?_) pos
  rw [hks]
  refine ⟨⟨ClX.pin_at I4, I4.kIn⟩, ?_⟩
  refine wpAny_call (PySem.W.method_call (ClX.pin_at I4) ?_)
  refine codeAny_mono ((fk.code hr rfl p3.1 p3.2 hk) G3 H3 σ W Q [.ref C] zs k3.here wi3 (.cons (.ref C) .nil) r3 (po.step (o1.trans o3)) _ s4 [.ref C] ws I4 (.cons rfl .nil) rv3) fun r s5 z => ?_
  match r, z with
  | .ok (.ret u), z => exact ClX.unpinE z
  | .ok .next, z => exact z.elim
  | .ok .brk, z => exact z.elim
  | .ok .cont, z => exact z.elim
  | .error _, z => exact z
/-- f(e, ..), f an instance -/
structure InstG (M : Mode) (B : Bd) (k : Nat) (C : Addr) (n : Nat) (F : FD) : Prop where
  ex : ∃ g : Addr, StX.CallO B.K C g ∧ FnK M B k g (n + 1) [] (fun ds _ => ds) F
theorem InstG.lift (c : InstG pureM B k C n F) : InstG M B k C n (FP F) := by
  obtain ⟨g, c1, c2⟩ := c.ex
  exact ⟨g, c1, c2.lift⟩
theorem evd_inst (cx : Ctx X N sc B) (c : InstG M B k C n F) (hr : Room j X.A) (h : EvD M X KE o sl (fun d m0 => ∃ fs, d = .obj C fs ∧ EvA M X KE (e :: es) sl (fun ds m1 => ds.length = n ∧ F (.obj C fs :: ds) P KE m1) m0) m) (hk : k ≤ j := by with_unfolding_all decide)
    (ht : eval (.Call o (e :: es) [] pos) X.env = (do callWith pos (← eval o X.env) [] (backTo pos (starEach (e :: es) X.env)) (backToKw pos (keywordEach [] X.env))) := by with_unfolding_all rfl)
    (he : starEach (e :: es) X.env = (false, eval e X.env) :: starEach es X.env := by with_unfolding_all rfl) (hpl : (backTo pos (starEach es X.env)).any (·.1) = false := by with_unfolding_all rfl) : EvD M X KE (.Call o (e :: es) [] pos) sl P m := by
  have eb := cx.b
  subst eb
  obtain ⟨g, co, fk⟩ := c.ex
  intro G0 H0 G H σ W Q ok so wi po pins s I
  refine Call_ (h.run ok so wi I fun u s1 v d m1 G1 H1 p1 k1 o1 so1 wi1 r1 I1 rv1 => ?_) ht
  obtain ⟨fs, rfl, p1⟩ := p1
  have r0 := r1
  obtain ⟨ad, dx, vs0, rfl, ea, rf⟩ := r1.obj_inv
  cases rv1
  refine StX.callO_with (p1.run k1 so1 wi1 I1 (fun us s2 vs ds m2 G2 H2 p2 k2 o2 so2 wi2 r2 I2 rv2 => ?_) pos) he hpl
  obtain ⟨ox, od, J, hd⟩ := StX.insC_at (C := C) I2 (.inr ⟨dx, vs0, k2.sub _ _ (o2.le _ _ ea)⟩)
  refine ⟨⟨C, ox, od, J, hd⟩, wpAny_call (PySem.W.kco_code I2.kIn J hd co.at_ co.fn co.fi ?_)⟩
  exact (fk.code (ks := []) (es := []) hr (by simp [p2.1]) rfl p2.2 hk) G2 H2 σ W Q (.ref ad :: vs) [] k2.here wi2 (.cons (r0.mono o2.le) r2) .nil (po.step (o1.trans o2)) pins s2 (.ref ad :: us) [] I2 (.cons rfl rv2) .nil
/-- x(e, ..), x a local that holds a class -/
theorem evd_callL {x : Str} {i : Nat} (cx : Ctx X N sc B) (hx : EnvAt N sl x i (.v (.ref C))) (hk : PySem.W.keepIn X.K (.ref C) = true) (h : EvA M X KE (e :: es) sl (fun ds m1 => CallD M X KE (.ref C) ds P m1) m)
    (hv : Vis sc x := by with_unfolding_all first | exact Or.inl rfl | exact Or.inr (Or.inl rfl) | exact Or.inr (Or.inr rfl)) (hd : (x == ("__debug__" : Str)) = false := by with_unfolding_all decide) (hcd : (x == ("__classdict__" : Str)) = false := by with_unfolding_all decide)
    (ht : eval (.Call (.Name x p) (e :: es) [] pos) X.env = (do callWith pos (← eval (.Name x p) X.env) [] (backTo pos (starEach (e :: es) X.env)) (backToKw pos (keywordEach [] X.env))) := by with_unfolding_all rfl)
    (he : starEach (e :: es) X.env = (false, eval e X.env) :: starEach es X.env := by with_unfolding_all rfl) (hpl : (backTo pos (starEach es X.env)).any (·.1) = false := by with_unfolding_all rfl) : EvD M X KE (.Call (.Name x p) (e :: es) [] pos) sl P m := by
  intro G0 H0 G H σ W Q ok so wi po pins s I
  have hn : EvD M X KE (.Name x p) sl (fun d m0 => d = .ref C ∧ m0 = m) m := evd_name cx hx ⟨rfl, rfl⟩ hv hd hcd
  refine Call_ (hn.run ok so wi I fun u s1 v d m1 G1 H1 p1 k1 o1 so1 wi1 r1 I1 rv1 => ?_) ht
  obtain ⟨rfl, rfl⟩ := p1
  cases r1.ref_inv
  cases rv1
  refine PySem.W.callWith_K (h₀ := X.base) I.ok.mod.kin hk (h.run k1 so1 wi1 I1 (fun us s1 vs ds m2 G2 H2 p2 k2 o2 so2 wi2 r2 I2 rv2 => ?_) pos) he hpl
  exact ⟨I2.kIn, p2 G2 H2 σ W Q vs k2.here wi2 r2 (po.step (o1.trans o2)) pins s1 us I2 rv2⟩
end
end OZ

/-! ### making an instance; errors; try -/
namespace OZ
open PySem L2 PySem.Spec PyProof.Rows
theorem sok_startB {K : PySem.W.Frag} {M : Mode} {Hb G H : Hp} {N : List Str} {vs : List V} {ds : List Da} (r : Reps K G vs ds) : SOk K M Hb G H (L2.start N vs) (startD N ds) := by
  have e : ∀ n : Nat, Paired (RelSl K M Hb G H) (List.replicate n none) (List.replicate n .un) := fun n => by
    induction n with
    | zero => exact .nil
    | succ n ih => rw [List.replicate_succ, List.replicate_succ]; exact .cons trivial ih
  have f : ∀ {vs : List V} {ds : List Da} {xs : L2.St} {ys : List Sl}, Reps K G vs ds → Paired (RelSl K M Hb G H) xs ys → Paired (RelSl K M Hb G H) (vs.map some ++ xs) (ds.map Sl.v ++ ys) := by
    intro vs ds xs ys r q
    induction vs generalizing ds with
    | nil => cases r; exact q
    | cons v vs ih => cases r with | cons a b => exact .cons ⟨v, rfl, a⟩ (ih b)
  refine ⟨by unfold L2.start startD; rw [← r.length]; exact f r (e _), fun i j a ⟨q, d, hd⟩ => ?_⟩
  have hm : Sl.mm q d ∈ startD N ds := List.mem_of_getElem? hd
  unfold startD at hm
  rcases List.mem_append.mp hm with h | h
  · obtain ⟨_, _, h⟩ := List.mem_map.mp h; cases h
  · cases (List.mem_replicate.mp h).2
theorem start_noM {N : List Str} {ds : List Da} {j : Nat} : ¬ Mt (startD N ds) j := fun ⟨q, d, hd⟩ => by
  have hm : Sl.mm q d ∈ startD N ds := List.mem_of_getElem? hd
  unfold startD at hm
  rcases List.mem_append.mp hm with h | h
  · obtain ⟨_, _, h⟩ := List.mem_map.mp h; cases h
  · cases (List.mem_replicate.mp h).2
abbrev FI := List Da → (List (Str × Da) → Nat → Prop) → Kx → Nat → Prop
def spI (M : Mode) (K : PySem.W.Frag) (C : Addr) (n : Nat) (F : FI) : Sp := fun vs H Q E => vs.length = n + 1 ∧ ∃ (x dx : Addr) (rest : List V) (H0 G : Hp) (m : Nat) (ds : List Da) (KR : List (Str × Da) → Nat → Prop) (KE : Kx),
  vs = .ref x :: rest ∧ H0 x = none ∧ H0 dx = none ∧ dx ≠ x ∧ H = L2.upd (L2.upd H0 dx (.own x)) x (.ins C dx []) ∧ Ok M G H0 G H0 m ∧ Reps K G rest ds ∧ F ds KR KE m ∧
  (∀ fs m' G' H', KR fs m' → Ok M G H0 G' H' m' → New K M H0 G' H' x (.obj C fs) → Q .non H') ∧
  (∀ C' fs d m' G' H', KE C' fs m' → Ok M G H0 G' H' m' → XRep K G' H' d fs → E (.ref C') d H')
/-- a class of the text that is called -/
structure MakeG (M : Mode) (B : Bd) (k : Nat) (C : Addr) (n : Nat) (ks : List Str) (gD : List Da → List Da → List Da) (F : FI) : Prop where
  ex : ∃ (f : Addr) (CX : CXT) (fd : FuncData) (ps : List Str) (g : List Value → List Value → List Value) (gV : List V → List V → List V) (r : Nat), Mk B.K C f ∧ FnOk B.P B.w B.K B.mg B.base CX k f fd ps (spI M B.K C r F) ∧ KBn B.K fd ps (n + 1) ks g gV ∧
    (∀ (G : Hp) (x : Addr) (vs zs : List V) (ds es : List Da), Reps B.K G vs ds → Reps B.K G zs es → ds.length = n → es.length = ks.length → ∃ rest, gV (.ref x :: vs) zs = .ref x :: rest ∧ Reps B.K G rest (gD ds es) ∧ (gD ds es).length = r) ∧ (CX = CX0 ∨ CX = L2.CX B.P B.w)
section
variable {M : Mode} {X : Cx} {KE : Kx} {KS : Ks} {a e o : Expr} {es : List Expr} {kws : List Keyword} {sl : List Sl} {D : Kn} {P : Da → Nat → Prop} {m j k n : Nat} {pos p p2 apos spos : Pos} {f mt x : Str} {C : Addr} {ks : List Str} {gD : List Da → List Da → List Da} {N : List Str} {sc : Scope} {B : Bd}
def CallKN (M : Mode) (X : Cx) (KE : Kx) (f : Value) (ks : List Str) (ds es : List Da) (P : Da → Nat → Prop) (m : Nat) : Prop :=
  ∀ (G H : Hp) (σ : L2.St) (W : WX) (Q : VK) (vs zs : List V), Ok M G H G H m → Wis M X KE G H σ W → Reps X.K G vs ds → Reps X.K G zs es → (∀ ad d m' G' H', P d m' → Ok M G H G' H' m' → New X.K M H G' H' ad d → Q (.ref ad) H') →
    ∀ pins s us ws, Inv X pins σ H s → Vals vs us → Vals zs ws → wpAny (model X.prog X.w) X.A (call f us (ks.zip ws)) (EP X pins σ Q) X.xe s
theorem CallKN.toK {f : Value} {ds es : List Da} (c : CallKN M X KE f ks ds es P m) : CallK M X KE f ks ds es P m := fun G H σ W Q vs zs ok wi r1 r2 po pins s us ws I e1 e2 =>
  thn (c G H σ W (fun v H' => ∃ ad d m' G', v = .ref ad ∧ P d m' ∧ Ok M G H G' H' m' ∧ New X.K M H G' H' ad d) vs zs ok wi r1 r2 (fun ad d m' G' H' q o n => ⟨ad, d, m', G', rfl, q, o, n⟩) pins s us ws I e1 e2) fun v s1 ⟨x, H1, I1, rv, ad, d, m', G', e, p, o, n⟩ => by
    obtain ⟨G2, H2, I2, o2, rep⟩ := n.pubI o I1
    subst e
    exact ⟨_, H2, I2, rv, po _ d m' G2 H2 p o2 rep⟩
theorem MakeG.call {F : FI} {ds es : List Da} (c : MakeG M (bdOf X) k C n ks gD F) (hr : Room j X.A) (h1 : ds.length = n) (h2 : es.length = ks.length) (h : F (gD ds es) (fun fs m1 => P (.obj C fs) m1) KE m) (hk : k + 1 ≤ j) : CallKN M X KE (.ref C) ks ds es P m := by
  obtain ⟨f, CX, fd, ps, g, gV, r, Mk', Fo, hb, hrep, hc⟩ := c.ex
  intro G H σ W Q vs zs ok wi r1 r2 po pins s us ws I e1 e2
  have l2 : ws.length = ks.length := by rw [← e2.length, r2.length, h2]
  have l1 : us.length = n := by rw [← e1.length, r1.length, h1]
  have n1 : (Value.ref (s.heap.objs.size + 1) :: us).length = n + 1 := by rw [List.length_cons, l1]
  have hx : H (s.heap.objs.size + 1) = none := I.hok.fresh (Nat.le_succ _)
  have hdx : H s.heap.objs.size = none := I.hok.fresh (Nat.le_refl _)
  have ne : s.heap.objs.size ≠ s.heap.objs.size + 1 := Nat.ne_of_lt (Nat.lt_succ_self _)
  have I2 := Inv.made (C := C) I
  have rr : Vals (V.ref (s.heap.objs.size + 1) :: vs) (Value.ref (s.heap.objs.size + 1) :: us) := .cons rfl e1
  obtain ⟨rest, ge, gr, gl⟩ := hrep G (s.heap.objs.size + 1) vs zs ds es r1 r2 h1 h2
  have rv := hb.rel rr e2
  have sp : spI M X.K C r F (gV (.ref (s.heap.objs.size + 1) :: vs) zs) (L2.upd (L2.upd H s.heap.objs.size (.own (s.heap.objs.size + 1))) (s.heap.objs.size + 1) (.ins C s.heap.objs.size [])) (fun v H2 => v = .non ∧ Q (.ref (s.heap.objs.size + 1)) H2) (WE W σ) := by
    refine ⟨by rw [ge, List.length_cons, gr.length, gl], _, _, rest, H, G, m, _, _, KE, ge, hx, hdx, ne, rfl, ok, gr, h, fun fs m' G' H' q o nw => ⟨rfl, po _ _ m' G' H' q o nw⟩, fun C' fs d m' G' H' => wi.ex C' fs d m' G' H'⟩
  refine wpAny_call (make_map (f := f) I.kIn Mk'.makes Mk'.init (beq_iff_eq.mp Mk'.fn) (codeAny_mono (Fo.run _ X.stack _ _ ⟨Value.ref (s.heap.objs.size + 1) :: us, ks.zip ws⟩ (g (Value.ref (s.heap.objs.size + 1) :: us) ws) _ _ (WE W σ) ((hr.mono hk).make C us (ks.zip ws))
    (I2.env0.make C us (ks.zip ws)) (hb.to _ (Value.ref (s.heap.objs.size + 1) :: us) ws I2.kIn n1 l2) rv sp) fun r s' hq' => ?_))
  cases r with
  | error e => exact passes_any wi.tk hc σ pins _ _ e s' I2 hq'
  | ok fl =>
    cases fl with
    | ret u =>
      obtain ⟨v, H', I3, rv, ev, q3⟩ := I2.after hq'
      subst ev
      exact ⟨rv, ⟨V.ref (s.heap.objs.size + 1), H', I3, rfl, q3⟩⟩
    | next => exact False.elim hq'
    | brk => exact False.elim hq'
    | cont => exact False.elim hq'
/-- self.f = e -/
theorem st1_setF {i : Nat} {q : Option Addr} {fs : List (Str × Da)} {p' : Pos} (cx : Ctx X N sc B) (hx : EnvAt N sl x i (.mm q (.obj C fs))) (cl : Cls X.K C) (na : NoAttr X.K C f) (h : EvD M X (KS sl) e sl (fun d m1 => fs.length < 1000 ∧ ∃ i' sl', EnvSet N sl x i' (.mm q (.obj C (putDa f d fs))) sl' ∧ D.nx sl' m1) m)
    (hv : Vis sc x := by with_unfolding_all first | exact Or.inl rfl | exact Or.inr (Or.inl rfl) | exact Or.inr (Or.inr rfl)) (hd : (x == ("__debug__" : Str)) = false := by with_unfolding_all decide) (hcd : (x == ("__classdict__" : Str)) = false := by with_unfolding_all decide)
    (hs : swapsWith e (some (.Attribute (.Name x p) f p')) pos.line X.env = pure false := by with_unfolding_all rfl) : St1 M X KS (.Assign [.Attribute (.Name x p) f p'] e pos) sl D m := fun G0 H0 G H σ W E ok so wi po => by
  refine wpS.of (ps_fld (pe_var (by rw [cx.n]; exact hx.name) (cx.vis hv) hd hcd) pe_wp hs) ?_
  refine h G0 H0 G H σ W _ ok so (wi.at ok so) fun v d m1 G1 H1 ⟨l, i', sl', es, nx⟩ o1 r => ?_
  have ok1 := ok.trans o1
  have so1 := so.step o1
  obtain ⟨o', e1, ad, rfl, zz, g, h0, nxx, dx, vs, eh, rf⟩ := paired_get so1.rel hx.slot
  refine ⟨.ref ad, e1, ad, C, dx, vs, rfl, eh, cl, na, by rw [rf.length]; exact l, ?_⟩
  obtain ⟨k1, k2⟩ := own_step (o := .ins C dx (putF f v vs)) ok1 so1 hx.slot e1 (d1 := .obj C (putDa f d fs)) ⟨dx, _, upd_same, rf.put r⟩
  exact po.nx σ _ m1 G1 _ nx k1 (envset_eq (cx.n ▸ cx.nd) hx.name es ▸ k2)
end
section
variable {B : Bd} {M : Mode} {x qual : Str} {st : Stmt} {f C : Addr} {fd : FuncData} {N ps : List Str} {k n : Nat} {F : FI} {ks : List Str} {gD : List Da → List Da → List Da}
theorem fnI_ok (Fn : Fun B.K x qual st f fd) (S : FnScope N ps (defScope st)) (hn : n + 1 = ps.length)
    (h : ∀ (X : Cx) (ds : List Da) (KR : List (Str × Da) → Nat → Prop) (KE : Kx) (m : Nat) (a : Addr), (∃ cdv A outer s H E, X = cxOf (L2.CX B.P B.w) B.P B.w B.K B.mg B.base N qual (defScope st) f cdv A outer s H E) → Ctx X N (defScope st) B → Room k X.A → ds.length = n → F ds KR KE m →
      StD M X (fun _ => KE) (defBody st) ((startD N (.ref a :: ds)).set 0 (.mm (some a) (.obj C []))) { nx := fun sl' m' => ∃ fs, sl'[0]? = some (.mm (some a) (.obj C fs)) ∧ KR fs m', rt := fun _ _ => False } m) : FnOk B.P B.w B.K B.mg B.base (L2.CX B.P B.w) (k + 1) f fd ps (spI M B.K C n F) := by
  refine Fn.okX S (fun vs H Q E q => q.1.trans hn) (fun cdv A outer s H vs Q E hr q => ?_)
  obtain ⟨hl, a, dx, rest, H0, G, m, ds, KR, KE, rfl, hx, hdx, ne, rfl, ok, r, hF, po, px⟩ := q
  refine ⟨_, pss_wp, ?_⟩
  have ok1 : Ok M G H0 G (L2.upd H0 dx (.own a)) m := ok.allocM hdx
  have hx1 : (L2.upd H0 dx (.own a)) a = none := by rw [upd_ne (Ne.symm ne)]; exact hx
  have ok2 := ok1.trans (ok1.allocM (o := .ins C dx []) hx1)
  have nX0 : ¬ M.X H0 a := fun z => by obtain ⟨u, e⟩ := M.there _ _ _ ok.inv z; rw [hx] at e; cases e
  have nX1 : ¬ M.X (L2.upd H0 dx (.own a)) a := fun z => by obtain ⟨u, e⟩ := M.there _ _ _ ok1.inv z; rw [hx1] at e; cases e
  have gA : G a = none := by
    cases e : G a with
    | none => rfl
    | some u => rw [ok.sub _ _ e] at hx; cases hx
  have nw : New B.K M H0 G (L2.upd (L2.upd H0 dx (.own a)) a (.ins C dx [])) a (.obj C []) := ⟨gA, .inl hx, fun z => nX1 (X_keep ok1 nX1 _ z), dx, [], upd_same, .nil⟩
  have so0 : SOk B.K M H0 G (L2.upd (L2.upd H0 dx (.own a)) a (.ins C dx [])) (L2.start N (.ref a :: rest)) (startD N (.ref a :: ds)) := sok_startB (.cons (.ref a) r)
  have so1 : SOk B.K M H0 G (L2.upd (L2.upd H0 dx (.own a)) a (.ins C dx [])) (L2.start N (.ref a :: rest)) ((startD N (.ref a :: ds)).set 0 (.mm (some a) (.obj C []))) := by
    have hs0 : (L2.start N (.ref a :: rest)).set 0 (some (.ref a)) = L2.start N (.ref a :: rest) := rfl
    refine ⟨?_, fun i j b mi mj ei ej => ?_⟩
    · have := paired_set (F := RelSl B.K M H0 G (L2.upd (L2.upd H0 dx (.own a)) a (.ins C dx []))) (x := some (.ref a)) (y := .mm (some a) (.obj C [])) ⟨a, rfl, fun y e => Option.some.inj e, nw.g, nw.h0, nw.nx, nw.r⟩ 0 so0.rel
      rw [hs0] at this
      exact this
    · have w : ∀ i, Mt ((startD N (.ref a :: ds)).set 0 (.mm (some a) (.obj C []))) i → i = 0 := fun i ⟨q, d, hd⟩ => by
        by_cases z : 0 = i
        · exact z.symm
        · rw [List.getElem?_set_ne z] at hd; exact absurd ⟨q, d, hd⟩ start_noM
      rw [w i mi, w j mj]
  refine h (cxOf (L2.CX B.P B.w) B.P B.w B.K B.mg B.base N qual (defScope st) f cdv A outer s _ E) ds KR KE m a ⟨cdv, A, outer, s, _, E, rfl⟩ ⟨rfl, rfl, S.nd, rfl⟩ hr (by have := r.length; simp at hl; omega) hF G H0 G _ (L2.start N (.ref a :: rest)) (fun cls d _ H => E cls d H) _ ok2 so1 ⟨takes_of rfl rfl rfl rfl, fun C' fs d σ sl m' G' H' q o _ x => px C' fs d m' G' H' q o x⟩ ⟨?_, ?_, ?_, ?_, ?_⟩
  · rintro σ sl m' G' H' ⟨fs, e, q⟩ o so
    obtain ⟨u, e1, b, rfl, zz, g, h0, nx, rm⟩ := paired_get so.rel e
    cases zz a rfl
    exact po fs m' G' H' q o ⟨g, h0, nx, rm⟩
  · exact fun _ _ _ _ _ z => z.elim
  · exact fun _ _ _ _ _ z => z.elim
  · exact fun _ _ _ _ _ z => z.elim
  · exact fun _ _ _ _ _ z => z.elim
end
end OZ

namespace OS
open PySem L2
/-! ### an own error with one field -/
/-- what the head knows of the class of an error at C, its __init__ at fI -/
structure ErrC (K : PySem.W.Frag) (mg : Str → Option Value) (x : Str) (C fI : Addr) (fld : Str) : Prop where
  mg : mg x = some (.ref C)
  ox : OexC K C
  iC : PySem.W.findIn K (.ref C) "__init__" = some (some (.ref fI))
  tI : PySem.W.typeIn K (.ref fI) = some (.type "function")
  no : PySem.W.findIn K (.ref C) fld = some none
  xf : XfC K C
  te : PySem.W.exmOne K (.ref C) (.ref C) = some true
/-- its __init__(self, y) -/
def spE (K : PySem.W.Frag) (C : Addr) (fld : Str) : Sp := fun vs H Q _ => ∃ (a : Addr) (y : V), vs = [.ref a, y] ∧ H a = some (exo a C none) ∧
  ∀ dx, H dx = none → dx ≠ a → Q .non (L2.upd (L2.upd H dx (exd dx [(fld, y)])) a (exo a C (some dx)))
/-- a made error's end: the heap has got its dict and nothing else -/
theorem made_heap {H : Hp} {a d : Addr} {fs : List (Str × V)} {o1 o2 : HO} (na : H a = none) (hd : d ≠ a) : ∀ b, (L2.upd (L2.del (L2.upd (L2.upd (L2.upd H a o1) d (exd d fs)) a o2) a) d (.xd fs)) b = (L2.upd H d (.xd fs)) b := by
  intro b
  by_cases h1 : b = d
  · rw [h1, upd_same, upd_same]
  · rw [upd_ne h1, upd_ne h1]
    by_cases h2 : b = a
    · rw [h2, del_same, na]
    · rw [del_ne h2, upd_ne h2, upd_ne h1, upd_ne h2]
end OS

/-! ### own errors, try -/
namespace OZ
open PySem L2 PySem.Spec PyProof.Rows
/-- an own error of one field -/
structure ErrG (B : Bd) (k : Nat) (x : Str) (C : Addr) (fld : Str) : Prop where
  ex : ∃ (fI : Addr) (fd : FuncData) (ps : List Str), OS.ErrC B.K B.mg x C fI fld ∧ FnOk B.P B.w B.K B.mg B.base CX0 k fI fd ps (OS.spE B.K C fld) ∧ Binds B.K fd ps []
theorem errInit {P : Program} {w : World} {K : PySem.W.Frag} {mg : Str → Option Value} {base : Heap} {x fld qual : Str} {st : Stmt} {f fI C : Addr} {fd : FuncData} {p1 p2 p3 p4 : Pos} (F : Fun K "__init__" qual st f fd) (S : FnScope ["self", fld] ["self", fld] (defScope st))
    (hb : defBody st = [.Assign [.Attribute (.Name "self" p1) fld p2] (.Name fld p3) p4]) (hd : (fld == ("__debug__" : Str)) = false) (hcd : (fld == ("__classdict__" : Str)) = false) (T : OS.ErrC K mg x C fI fld) : FnOk P w K mg base CX0 1 f fd ["self", fld] (OS.spE K C fld) := by
  refine F.ok S (fun vs H Q E h => ?_) (fun cdv A outer s H vs Q E hr h => ?_)
  · obtain ⟨a, y, rfl, _⟩ := h
    rfl
  · obtain ⟨a, y, rfl, ha, k⟩ := h
    rw [hb]
    refine ⟨_, pss_one (ps_ost (pe_var (i := 0) rfl ((S.par "self" (List.Mem.head _)).elim (fun z => .inl z) (fun z => .inr (.inl z)))) (pe_var (i := 1) rfl ((S.par fld (List.Mem.tail _ (List.Mem.head _))).elim (fun z => .inl z) (fun z => .inr (.inl z))) hd hcd)), ?_⟩
    exact ⟨_, rfl, _, rfl, a, C, rfl, T.ox, T.no, .inl ⟨ha, fun dx n ne => k dx n ne⟩⟩
/-- the suite that handles the error at a -/
structure SuX (X : Cx) (C a dd : Addr) : Prop where
  ex : ∃ (X0 : Cx) (oe : Obj) (pn : List (Addr × Obj)), X = X0.suite a ((a, oe) :: pn) ∧ Zc (.ref C) (some dd) oe ∧ ∃ vs, oe.data = .fields vs
section
variable {M : Mode} {X : Cx} {KE : Kx} {KS : Ks} {a e o : Expr} {es : List Expr} {sl : List Sl} {D : Kn} {P : Da → Nat → Prop} {m j k n : Nat} {pos p p2 apos spos : Pos} {fld x : Str} {C : Addr} {N : List Str} {sc : Scope} {B : Bd}
/-- raise x(e) -/
theorem st1_raise {rpos : Pos} (cx : Ctx X N sc B) (c : ErrG B k x C fld) (hr : Room j X.A) (h : EvD M X (KS sl) e sl (fun d m1 => KS sl C [(fld, d)] m1) m) (hk : k + 1 ≤ j := by with_unfolding_all decide) (hg : GlS sc x := by with_unfolding_all rfl) (hc : X.calm = true := by with_unfolding_all rfl)
    (he : starEach (e :: []) X.env = (false, eval e X.env) :: starEach [] X.env := by with_unfolding_all rfl) (hdb : (x == ("__debug__" : Str)) = false := by with_unfolding_all decide) (hpl : (backTo pos (starEach [] X.env)).any (·.1) = false := by with_unfolding_all rfl) : St1 M X KS (.Raise (some (.Call (.Name x p) [e] [] pos)) none rpos) sl D m := by
  have eb := cx.b
  subst eb
  obtain ⟨fI, fd, ps, U, Fo, hb⟩ := c.ex
  intro G0 H0 G H σ W E ok so wi po
  refine wpS.of (ps_raise hc (wi.at ok so).tk (pmk_oex U.ox U.iC U.tI Fo (hr.mono hk) hb .nil pass0 (cx.gl hg) U.mg (pa_cons pe_wp pa_nil he) hdb he hpl)) ?_
  refine h G0 H0 G H σ W _ ok so (wi.at ok so) fun v d m1 G1 H1 q o1 r => ⟨by show 1 ≤ 1000; decide, fun ad na => ⟨ad, v, rfl, upd_same, fun dx ndx ne => ⟨rfl, dx, [(fld, v)], ?_, ?_, ?_, ?_⟩⟩⟩
  · rw [upd_same]
  · rw [upd_ne ne, upd_same]
  · rw [upd_ne ne] at ndx; exact ndx
  · have hdx : H1 dx = none := by rw [upd_ne ne] at ndx; exact ndx
    have e : (L2.upd (L2.del (L2.upd (L2.upd (L2.upd H1 ad (exo ad C none)) dx (exd dx [(fld, v)])) ad (exo ad C (some dx))) ad) dx (.xd [(fld, v)])) = L2.upd H1 dx (.xd [(fld, v)]) := funext (OS.made_heap na ne)
    rw [e]
    have al := o1.here.alloc (o := .xd [(fld, v)]) hdx
    exact (wi.at ok so).ex C [(fld, d)] (some dx) m1 _ _ q (o1.trans al) (.inr ⟨dx, [(fld, v)], rfl, upd_same, .cons (r.mono al.le) .nil⟩)
/-- e.f of the error that is handled -/
theorem evd_xf {a dd : Addr} {n : Str} (su : SuX X C a dd) (T : XfC X.K C) (hno : PySem.W.findIn X.K (.ref C) n = some none) (h : EvD M X KE e sl (fun d m1 => ∃ fs v, d = .exc a dd fs ∧ fs.lookup n = some v ∧ P v m1) m) (hb : attributeBase e n X.env (eval e X.env) = eval e X.env := by with_unfolding_all rfl) : EvD M X KE (.Attribute e n pos) sl P m := by
  obtain ⟨X0, oe, pn, rfl, hz, hf⟩ := su.ex
  exact fun G0 H0 G H σ W Q ok so wi po => wpE.of (pe_xf (X := X0) T hno hz hf pe_wp hb) (h G0 H0 G H σ W _ ok so wi fun v d m' G' H' q o r => by
    obtain ⟨fs, w, rfl, l, q⟩ := q
    cases r with
    | exc g rf =>
      obtain ⟨u, hu, ru⟩ := rf.look l
      exact ⟨rfl, rfl, dd, _, u, rfl, o.sub _ _ g, hu, po u w m' G' H' q o ru⟩)
/-- the wish of a try for what its body raises -/
def TryK (M : Mode) (X : Cx) (KS : Ks) (C : Addr) (i : Nat) (suite : List Stmt) (D : Kn) : Ks := fun sl C' fs m' =>
  ∃ b, PySem.W.exmOne X.K (.ref C') (.ref C) = some b ∧
    (b = true → (∀ a oe dd pn, SuX (X.suite a ((a, oe) :: pn)) C' a dd → StD M (X.suite a ((a, oe) :: pn)) (fun _ => K0) suite (sl.set i (.v (.exc a dd fs))) { D with nx := fun sl' m' => D.nx (sl'.set i .un) m', bk := fun sl' m' => D.bk (sl'.set i .un) m', ct := fun sl' m' => D.ct (sl'.set i .un) m' } m') ∧
      (fs = [] → ∀ a oe pn, StD M (X.suite a ((a, oe) :: pn)) (fun _ => K0) suite (sl.set i .un) { D with nx := fun sl' m' => D.nx (sl'.set i .un) m', bk := fun sl' m' => D.bk (sl'.set i .un) m', ct := fun sl' m' => D.ct (sl'.set i .un) m' } m')) ∧
    (b = false → KS sl C' fs m')
theorem ctx_suite (cx : Ctx X N sc B) (a : Addr) (pn : List (Addr × Obj)) : Ctx (X.suite a pn) N sc B := ⟨cx.n, cx.s, cx.nd, cx.b⟩
theorem ctx_tr (cx : Ctx X N sc B) (pn : List (Addr × Obj)) (xe : Value → Shared → Prop) : Ctx (X.tr pn xe) N sc B := ⟨cx.n, cx.s, cx.nd, cx.b⟩
/-- try: .. except x as n: .. -/
theorem st1_try {i : Nat} {nm : Str} {np hpos : Pos} {body suite : List Stmt} {b₀ : Stmt} (cx : Ctx X N sc B) (hm : B.mg x = some (.ref C)) (hi : IdxAt N nm i)
    (h : ∀ pn xe, PassesOwn (model X.prog X.w) X.A X.env xe → StD M (X.tr pn xe) (TryK M X KS C i (b₀ :: suite) D) body sl D m) (hl : sc.names.lookup nm = some .local := by with_unfolding_all rfl)
    (hs : X.stack = X.env :: X.outer := by with_unfolding_all rfl) (hf : X.env.frame = some X.env.locals := by with_unfolding_all rfl) (hg : GlS sc x := by with_unfolding_all rfl) (hdb : (x == ("__debug__" : Str)) = false := by with_unfolding_all decide) :
    St1 M X KS (.Try body [.ExceptHandler (some (.Name x np)) (some nm) (b₀ :: suite) hpos] [] [] pos) sl D m := by
  intro G0 H0 G H σ W E ok so wi po
  have hln : X.env.kindOf nm = some .local := by unfold Env.kindOf; rw [cx.s]; exact hl
  refine wpS.of (ps_try_as (i := i) (Wout := W) (tb := fun W' E σ H => ∀ pn xe, Takes (X.tr pn xe) W' → PassesOwn (model X.prog X.w) X.A X.env xe → wpSs (X.tr pn xe) body E σ H)
    (ts := fun a cls d E σ H => ∀ oe pn, Zc cls d oe → (∃ vs, oe.data = .fields vs) → wpSs (X.suite a ((a, oe) :: pn)) (b₀ :: suite) E σ H)
    hs hf cx.nd (by rw [cx.n]; exact hi.at) hln ⟨cx.gl hg, hdb, .inl (cx.mg hm)⟩ wi.tk (fun W' pn xe tk ps => ⟨fun pins s σ H E I q => q pn xe tk ps pins s I⟩) (fun a oe cls d pn hz hf => ⟨fun pins s σ H E I q => q oe pn hz hf pins s I⟩)) ?_
  intro pn xe tk ps
  refine h pn xe ps G0 H0 G H σ _ E ok so ⟨tk, ?_⟩ po
  rintro C' fs d σ' sl' m' G' H' ⟨b, hb, h1, h2⟩ ok' so' xr
  refine ⟨b, hb, fun hb1 a ha => ?_, fun hb2 => wi.ex C' fs d σ' sl' m' G' H' (h2 hb2) ok' so' xr⟩
  obtain ⟨hA, hB⟩ := h1 hb1
  have post : PostS M X.K G0 H0 { D with nx := fun sl' m' => D.nx (sl'.set i .un) m', bk := fun sl' m' => D.bk (sl'.set i .un) m', ct := fun sl' m' => D.ct (sl'.set i .un) m' } { nx := fun σ' H' => E.nx (σ'.set i none) H', rt := E.rt, bk := fun σ' H' => E.bk (σ'.set i none) H', ct := fun σ' H' => E.ct (σ'.set i none) H' } :=
    ⟨fun σ sl m G H q ok so => po.nx _ _ m G H q ok (so.setN i), po.rt, fun σ sl m G H q ok so => po.bk _ _ m G H q ok (so.setN i), fun σ sl m G H q ok so => po.ct _ _ m G H q ok (so.setN i), po.rn⟩
  intro oe pn2 hz hfl
  rcases xr with ⟨e1, e2⟩ | ⟨dd, vs, e1, g, rf⟩
  · exact hB e1 a oe pn2 G0 H0 G' H' _ (fun _ _ _ _ => False) _ ok' (so'.setN i) ⟨takes0, fun _ _ _ _ _ _ _ _ z => z.elim⟩ post
  · subst e1
    exact hA a oe dd pn2 ⟨X, oe, pn2, rfl, hz, hfl⟩ G0 H0 G' H' _ (fun _ _ _ _ => False) _ ok' (so'.setV i (.exc g rf)) ⟨takes0, fun _ _ _ _ _ _ _ _ z => z.elim⟩ post
end
end OZ

/-! ### star targets -/
namespace OZ
open PySem L2 PySem.Spec PyProof.Rows
section
variable {prog : Program} {w : World} {A : Around} {E : Value → Shared → Prop} {s : Shared}
theorem unp_star {l : Addr} {items : Array Value} {i : Nat} {Q : List Value → Shared → Prop} (hl : IsTup s.heap l items ∨ s.heap.IsList l items) (hh : A.handled = none) (hi : i ≤ items.size) (hz : items.size ≤ sizeLine)
    (h : ∀ (h' : Heap) (tk : Nat), (∀ b o, s.heap.get? b = some o → h'.get? b = some o) → Q (items.toList.take i ++ [.ref h'.objs.size]) { s with heap := h'.push { cls := .type "list", data := .seq (items.toList.drop i).toArray }, toks := tk }) : wpAny (model prog w) A (unpackItems (.ref l) (i + 1) (some i)) Q E s := by
  have hlt : l ≠ s.heap.objs.size := by
    rcases hl with hl | hl <;> (obtain ⟨o, ho, _⟩ := hl; exact Nat.ne_of_lt (Heap.lt_size ho))
  have fin : ∀ h₁ : Heap, Heap.ExtBut s.heap.objs.size s.heap h₁ → wpAny (model prog w) A (collect (.ref s.heap.objs.size)) (fun rest s2 => rest = items.toList.drop i ∧ ∃ h₂ tk, (∀ b o, s.heap.get? b = some o → h₂.get? b = some o) ∧ s2 = { s with heap := h₂, toks := tk }) E { s with heap := h₁ } →
      wpAny (model prog w) A ((do
        let first := items.toList.take i
        if first.length < i then
          rule "unpack.star.too-few-before"
          raiseError "ValueError" s!"not enough values to unpack (expected at least {i + 1 - 1}, got {first.length})"
        let rest ← holding first (collect (.ref s.heap.objs.size))
        let after := i + 1 - 1 - i
        if rest.length < after then
          rule "unpack.star.too-few"
          raiseError "ValueError" s!"not enough values to unpack (expected at least {i + 1 - 1}, got {i + rest.length})"
        let mid := rest.length - after
        return first ++ [← newList (rest.take mid)] ++ rest.drop mid) : Sem (List Value)) Q E { s with heap := h₁ } := by
    intro h₁ hx hc
    have hfl : (items.toList.take i).length = i := by rw [List.length_take, Array.length_toList]; omega
    dsimp only
    rw [if_neg (show ¬ ((items.toList.take i).length < i) by omega)]
    refine wpAny_bind (wpAny_holding (wpAny_mono hc (fun rest s2 hr => ?_) fun _ _ z => z))
    obtain ⟨rfl, h₂, tk, hk, rfl⟩ := hr
    have ha : i + 1 - 1 - i = 0 := by omega
    rw [ha, if_neg (Nat.not_lt_zero _), Nat.sub_zero, List.take_length, List.drop_length]
    refine wpAny_bind (wpAny_newList ?_ (by rw [List.length_drop, Array.length_toList]; omega))
    refine wpAny_pure ?_
    rw [List.append_nil]
    exact h h₂ tk hk
  unfold unpackItems
  refine wpAny_bind ?_
  unfold notIterableAtAll
  rcases hl with hl | hl
  · refine wpAny_bind (wpAny_specialOf hl.typeIs slot_tuple_iter.lookup (wpAny_pure ?_))
    simp only [Bool.false_eq_true, if_false]
    refine wpAny_bind (wpAny_holding (iter_tuple hl ?_))
    refine wpAny_bind (wpAny_holding (draw_tuple hlt i 0 _ _ ⟨_, Heap.get?_push_size _ rfl, rfl, rfl⟩ (hl.push _) (by omega) fun h₁ hit₁ hs₁ => ?_))
    rw [Nat.zero_add] at hit₁
    rw [List.drop_zero]
    have hl₁ : IsTup h₁ l items := (hl.push _).extBut hs₁.extBut hlt
    have hit₁' := hit₁
    obtain ⟨oi, hoi, _⟩ := hit₁'
    have hl₁' := hl₁
    obtain ⟨ol, hol, _⟩ := hl₁'
    refine fin h₁ (fun b o hb e => hs₁.extBut b o hb (Heap.get?_push_of_some _ e)) ?_
    exact PySem.W.kun_collect (s := { s with heap := h₁ }) (T := "tuple_iterator") (.inr (.inr (.inr rfl))) (Walks.tuple (A := A.in1) hh s.heap.objs.size l hlt items) (fun j u st => st.1.typeIs) (k := i) hi ⟨hit₁, hl₁⟩ (Heap.lt_size hoi) (Heap.lt_size hol)
      (fun h₂ tk hk => ⟨rfl, h₂, tk, fun b o e => hk b o (Nat.ne_of_lt (Heap.lt_size e)) (hs₁.extBut b o (Nat.ne_of_lt (Heap.lt_size e)) (Heap.get?_push_of_some _ e)), rfl⟩) hz
  · refine wpAny_bind (wpAny_specialOf hl.typeIs slot_list_iter.lookup (wpAny_pure ?_))
    simp only [Bool.false_eq_true, if_false]
    refine wpAny_bind (wpAny_holding (wpAny_pyIter_list hl ?_))
    refine wpAny_bind (wpAny_holding (PySem.W.kun_draw hlt i 0 _ _ ⟨_, Heap.get?_push_size _ rfl, rfl, rfl⟩ (hl.push _) (by omega) fun h₁ hit₁ hs₁ => ?_))
    rw [Nat.zero_add] at hit₁
    rw [List.drop_zero]
    have hl₁ : h₁.IsList l items := (hl.push _).extBut hs₁.extBut hlt
    have hit₁' := hit₁
    obtain ⟨oi, hoi, _⟩ := hit₁'
    have hl₁' := hl₁
    obtain ⟨ol, hol, _⟩ := hl₁'
    refine fin h₁ (fun b o hb e => hs₁.extBut b o hb (Heap.get?_push_of_some _ e)) ?_
    exact PySem.W.kun_collect (s := { s with heap := h₁ }) (T := "list_iterator") (.inr (.inr (.inl rfl))) (Walks.list (A := A.in1) hh s.heap.objs.size l hlt items) (fun j u st => st.1.typeIs) (k := i) hi ⟨hit₁, hl₁⟩ (Heap.lt_size hoi) (Heap.lt_size hol)
      (fun h₂ tk hk => ⟨rfl, h₂, tk, fun b o e => hk b o (Nat.ne_of_lt (Heap.lt_size e)) (hs₁.extBut b o (Nat.ne_of_lt (Heap.lt_size e)) (Heap.get?_push_of_some _ e)), rfl⟩) hz
end
section
variable {X : Cx} {pos p : Pos}
theorem pgs_star {e : Expr} {g : TG} (h1 : PG X e g) : PGs X [.Starred e p] (gCons g gNil) := by
  refine ⟨fun pins s σ H vs us Q I r h => ?_⟩
  obtain ⟨v, vr, rfl, h⟩ := h
  cases r with
  | cons r rr =>
    show wpAny _ _ (assignInOrder [assign e X.env] _) _ _ _
    refine assignInOrder_cons (thn (h1.run pins s σ H _ _ _ I r h) fun _ s1 ⟨σ1, H1, I1, q1⟩ => ?_)
    obtain ⟨rfl, q1⟩ := q1
    cases rr
    exact assignInOrder_nil ⟨σ1, H1, I1, q1⟩
/-- (a, .., *z) = a tuple or a list -/
def gStar (K : PySem.W.Frag) (n : Nat) (t : TGs) : TG := fun v σ H Q => ∃ a xs, v = .ref a ∧ (SqT K H a xs ∨ SqL K H a xs) ∧ n ≤ xs.length ∧ ∀ q, H q = none → t (xs.take n ++ [.ref q]) σ (L2.upd H q (.lst (xs.drop n))) Q
theorem pg_star {es : List Expr} {k n : Nat} {t : TGs} (hc : X.calm = true) (h : PGs X es t) (hn : (assignEach es X.env).length = n + 1 := by with_unfolding_all rfl) (hst : (assignEach es X.env).findIdx? (·.1) = some n := by with_unfolding_all rfl) : PG X (.Tuple es k pos) (gStar X.K n t) := by
  refine ⟨fun pins s σ H v u Q I r hw => ?_⟩
  obtain ⟨a, xs, rfl, hq, hl, hw⟩ := hw
  cases r
  obtain ⟨its, rv, ht, hz⟩ : ∃ its, Vals xs its ∧ (IsTup s.heap a its.toArray ∨ s.heap.IsList a its.toArray) ∧ xs.length ≤ sizeLine := by
    rcases hq with hq | hq
    · obtain ⟨its, rv, ht, hz⟩ := I.tuple hq; exact ⟨its, rv, .inl ht, hz⟩
    · obtain ⟨its, rv, ht, hz⟩ := I.list hq; exact ⟨its, rv, .inr ht.isList, hz⟩
  have hlen := rv.length
  rw [assign_Tuple]
  refine wpAny_bind (wpAny_standAt ?_)
  unfold unpack
  rw [hn, hst]
  refine wpAny_bind (wpAny_holding (unp_star ht (I.ok.hd hc) (by simp; omega) (by simp; omega) fun h' tk hk => ?_))
  have I1 : Inv X pins σ H { s with heap := h', toks := tk } := I.kept (t' := tk) hk
  have hf : H h'.objs.size = none := I1.hok.fresh (Nat.le_refl _)
  have I2 : Inv X pins σ (L2.upd H h'.objs.size (.lst (xs.drop n))) { s with heap := h'.push { cls := .type "list", data := .seq (its.drop n).toArray }, toks := tk } := by
    refine I1.laid (t' := tk) (fun b u e => Heap.get?_push_of_some _ e) (Nat.le_refl _) ?_
    exact ⟨by rw [List.length_drop]; omega, its.drop n, 0, rv.drop n, Heap.get?_push_size _ rfl⟩
  refine h.run pins _ σ _ (xs.take n ++ [.ref h'.objs.size]) _ Q I2 ?_ (hw _ hf)
  have : its.toArray.toList = its := by simp
  rw [this]
  exact (rv.take n).append (.cons rfl .nil)
end
section
variable {M : Mode} {X : Cx} {KS : Ks} {e : Expr} {sl : List Sl} {D : Kn} {m : Nat} {x y z : Str} {N : List Str} {sc : Scope} {B : Bd} {kk : Nat} {p1 p2 p3 p4 tpos pos : Pos}
/-- x, *z = e -/
theorem st1_star1 {i1 i2 : Nat} (cx : Ctx X N sc B) (hx : IdxAt N x i1) (hz : IdxAt N z i2)
    (h : EvD M X (KS sl) e sl (fun d m1 => ∃ d1 ds, (d = .tup (d1 :: ds) ∨ d = .lst (d1 :: ds)) ∧ ∃ j1 sl1, EnvSet N sl x j1 (.v d1) sl1 ∧ ∃ j2 sl2, EnvSet N sl1 z j2 (.v (.lst ds)) sl2 ∧ D.nx sl2 m1) m)
    (lx : sc.names.lookup x = some .local := by with_unfolding_all rfl) (lz : sc.names.lookup z = some .local := by with_unfolding_all rfl) (hc : X.calm = true := by with_unfolding_all rfl)
    (hs : swapsWithSole [.Tuple [.Name x p1, .Starred (.Name z p2) p3] kk tpos] e pos.line X.env = pure false := by with_unfolding_all rfl) (hw : swappedStores [.Tuple [.Name x p1, .Starred (.Name z p2) p3] kk tpos] e X.env = pure none := by with_unfolding_all rfl) :
    St1 M X KS (.Assign [.Tuple [.Name x p1, .Starred (.Name z p2) p3] kk tpos] e pos) sl D m := by
  intro G0 H0 G H σ W E ok so wi po
  refine wpS.of (ps_asg pe_wp (pg_star (n := 1) hc (pgs_cons (pg_name cx.nd (by rw [cx.n]; exact hx.at) (.inl (by rw [cx.s]; exact lx)) (.inr (by rw [cx.s]; exact lx))) (pgs_star (pg_name cx.nd (by rw [cx.n]; exact hz.at) (.inl (by rw [cx.s]; exact lz)) (.inr (by rw [cx.s]; exact lz)))))) hs hw) ?_
  refine h G0 H0 G H σ W _ ok so (wi.at ok so) fun v d m1 G1 H1 ⟨d1, ds, hd, j1, sl1, e1, j2, sl2, e2, nx⟩ o1 r => ?_
  have ok1 := ok.trans o1
  obtain ⟨a, vs, rfl, sq, rs⟩ : ∃ a vs, v = .ref a ∧ (SqT X.K H1 a vs ∨ SqL X.K H1 a vs) ∧ Reps X.K G1 vs (d1 :: ds) := by
    rcases hd with rfl | rfl
    · obtain ⟨a, vs, rfl, q, t⟩ := r.tup_inv; exact ⟨a, vs, rfl, .inl (sqT_same o1.sub q), t⟩
    · obtain ⟨a, vs, rfl, q, t⟩ := r.lst_inv; exact ⟨a, vs, rfl, .inr (sq_l (o1.sub _ _ q)), t⟩
  cases rs with
  | @cons v1 _ vs1 _ r1 rt =>
    refine ⟨a, _, rfl, sq, by simp, fun q hq => ⟨_, _, rfl, _, _, rfl, rfl, ?_⟩⟩
    have al := ok1.here.alloc (o := .lst vs1) hq
    refine po.nx _ _ m1 _ _ nx (ok1.trans al) ?_
    rw [envset_at (cx.n ▸ cx.nd) hz e2, envset_at (cx.n ▸ cx.nd) hx e1]
    exact (((so.step o1).step al).setV i1 (r1.mono al.le)).setV i2 (.lst upd_same (rt.mono al.le))
/-- x, y, *z = e -/
theorem st1_star2 {i1 i2 i3 : Nat} (cx : Ctx X N sc B) (hx : IdxAt N x i1) (hy : IdxAt N y i2) (hz : IdxAt N z i3)
    (h : EvD M X (KS sl) e sl (fun d m1 => ∃ d1 d2 ds, (d = .tup (d1 :: d2 :: ds) ∨ d = .lst (d1 :: d2 :: ds)) ∧ ∃ j1 sl1, EnvSet N sl x j1 (.v d1) sl1 ∧ ∃ j2 sl2, EnvSet N sl1 y j2 (.v d2) sl2 ∧ ∃ j3 sl3, EnvSet N sl2 z j3 (.v (.lst ds)) sl3 ∧ D.nx sl3 m1) m)
    (lx : sc.names.lookup x = some .local := by with_unfolding_all rfl) (ly : sc.names.lookup y = some .local := by with_unfolding_all rfl) (lz : sc.names.lookup z = some .local := by with_unfolding_all rfl) (hc : X.calm = true := by with_unfolding_all rfl)
    (hs : swapsWithSole [.Tuple [.Name x p1, .Name y p4, .Starred (.Name z p2) p3] kk tpos] e pos.line X.env = pure false := by with_unfolding_all rfl) (hw : swappedStores [.Tuple [.Name x p1, .Name y p4, .Starred (.Name z p2) p3] kk tpos] e X.env = pure none := by with_unfolding_all rfl) :
    St1 M X KS (.Assign [.Tuple [.Name x p1, .Name y p4, .Starred (.Name z p2) p3] kk tpos] e pos) sl D m := by
  intro G0 H0 G H σ W E ok so wi po
  refine wpS.of (ps_asg pe_wp (pg_star (n := 2) hc (pgs_cons (pg_name cx.nd (by rw [cx.n]; exact hx.at) (.inl (by rw [cx.s]; exact lx)) (.inr (by rw [cx.s]; exact lx))) (pgs_cons (pg_name cx.nd (by rw [cx.n]; exact hy.at) (.inl (by rw [cx.s]; exact ly)) (.inr (by rw [cx.s]; exact ly))) (pgs_star (pg_name cx.nd (by rw [cx.n]; exact hz.at) (.inl (by rw [cx.s]; exact lz)) (.inr (by rw [cx.s]; exact lz))))))) hs hw) ?_
  refine h G0 H0 G H σ W _ ok so (wi.at ok so) fun v d m1 G1 H1 ⟨d1, d2, ds, hd, j1, sl1, e1, j2, sl2, e2, j3, sl3, e3, nx⟩ o1 r => ?_
  have ok1 := ok.trans o1
  obtain ⟨a, vs, rfl, sq, rs⟩ : ∃ a vs, v = .ref a ∧ (SqT X.K H1 a vs ∨ SqL X.K H1 a vs) ∧ Reps X.K G1 vs (d1 :: d2 :: ds) := by
    rcases hd with rfl | rfl
    · obtain ⟨a, vs, rfl, q, t⟩ := r.tup_inv; exact ⟨a, vs, rfl, .inl (sqT_same o1.sub q), t⟩
    · obtain ⟨a, vs, rfl, q, t⟩ := r.lst_inv; exact ⟨a, vs, rfl, .inr (sq_l (o1.sub _ _ q)), t⟩
  cases rs with
  | cons r1 rt =>
    cases rt with
    | @cons v2 _ vs2 _ r2 rt =>
      refine ⟨a, _, rfl, sq, by simp, fun q hq => ⟨_, _, rfl, _, _, rfl, _, _, rfl, rfl, ?_⟩⟩
      have al := ok1.here.alloc (o := .lst vs2) hq
      refine po.nx _ _ m1 _ _ nx (ok1.trans al) ?_
      rw [envset_at (cx.n ▸ cx.nd) hz e3, envset_at (cx.n ▸ cx.nd) hy e2, envset_at (cx.n ▸ cx.nd) hx e1]
      exact ((((so.step o1).step al).setV i1 (r1.mono al.le)).setV i2 (r2.mono al.le)).setV i3 (.lst upd_same (rt.mono al.le))
/-- a, b = e -/
theorem st1_tgt {tg : Expr} (cx : Ctx X N sc B) (h : EvD M X (KS sl) e sl (fun d m1 => ∃ sl' is, Tg X N sc tg d sl sl' is ∧ D.nx sl' m1) m) (hc : X.calm = true := by with_unfolding_all rfl)
    (hs : swapsWithSole [tg] e pos.line X.env = pure false := by with_unfolding_all rfl) (hw : swappedStores [tg] e X.env = pure none := by with_unfolding_all rfl) (h1 : (assignEach [tg] X.env).map (·.2) = [assign tg X.env] := by with_unfolding_all rfl) : St1 M X KS (.Assign [tg] e pos) sl D m := by
  intro G0 H0 G H σ W E ok so wi po
  refine wpS.of (ps_asg pe_wp (pg_wp (tg := tg)) hs hw h1) ?_
  refine h G0 H0 G H σ W _ ok so (wi.at ok so) fun v d m1 G1 H1 ⟨sl', is, tg', nx⟩ o1 r => ?_
  exact tg'.run cx hc (ok.trans o1) (so.step o1) r fun σ' so' _ => po.nx σ' sl' m1 G1 H1 nx (ok.trans o1) so'
end
end OZ

namespace OS
open PySem L2 PySem.Spec PyProof.Rows
section
variable {X : Cx} {CX : CXT} {n : Nat} {f C : Addr} {fd : FuncData} {ps : List Str} {sp : Sp} {E : XK}
/-- a def run by the machine itself (an operator of an own class), somewhere below the running body -/
theorem run_at {A : Around} (F : FnOk X.prog X.w X.K X.mg X.base CX n f fd ps sp) (sb : Sub X n A) (hb : Binds X.K fd ps []) (hx : Passes CX X E) {pins : List (Addr × Obj)} {σ : L2.St} {H : Hp} {s : Shared} {vs : List V} {us : List Value} {Q : VK} {R : Value → Shared → Prop}
    (I : Inv X pins σ H s) (r : Vals vs us) (h : sp vs H Q E) (k : ∀ v u H' s', Inv X pins σ H' s' → RelV v u → Q v H' → R u s') : wpAny (model X.prog X.w) A (call (.ref f) us) R X.xe s := by
  have e0 : Env0 X.prog X.w X.K X.mg X.base A X.stack s H := by
    have e := I.env0
    exact ⟨by rw [sb.fr]; exact e.frames, e.mod, e.bs, e.bsz, e.funs, e.frf, e.hok, e.bare⟩
  have hl := F.len _ _ _ _ h
  refine wpAny_call (codeAny_mono (F.run A X.stack s H ⟨us, []⟩ us vs _ E sb.room e0 (by
    have := hb s us I.kIn (by rw [List.append_nil, ← r.length]; exact hl)
    simpa using this) r h) fun r' s' hq => ?_)
  cases r' with
  | error e => exact hx pins σ H s e s' I hq
  | ok fl =>
    cases fl with
    | ret u =>
      obtain ⟨v, H', I', rv, q⟩ := I.after hq
      exact k v u H' s' I' rv q
    | next => exact False.elim hq
    | brk => exact False.elim hq
    | cont => exact False.elim hq
theorem v1 {a : Addr} : Vals [V.ref a] [Value.ref a] := .cons rfl .nil
theorem v2 {a b : Addr} : Vals [V.ref a, V.ref b] [Value.ref a, Value.ref b] := .cons rfl (.cons rfl .nil)
theorem v2i {a : Addr} {i : Int} {t : Tok} : Vals [V.ref a, V.int i] [Value.ref a, Value.int i t] := .cons rfl (.cons ⟨t, rfl⟩ .nil)
theorem notImpl {v : V} {u : Value} {Q : Value → Shared → Prop} {s : Shared} (r : RelV v u) (q : Q u s) : PySem.W.CmpBack Q u s := by
  cases v with
  | non => cases r; exact q
  | bl b => cases r; exact q
  | int i => obtain ⟨t, rfl⟩ := r; exact q
  | str i => obtain ⟨t, rfl⟩ := r; exact q
  | byt i => obtain ⟨t, rfl⟩ := r; exact q
  | flt i => obtain ⟨t, rfl⟩ := r; exact q
  | ref i => cases r; exact q
  | ty i => cases r; exact q
/-- an own method found by name, as the machine asks it -/
structure Own (K : PySem.W.Frag) (C : Addr) (m : Str) (f : Addr) : Prop where
  at_ : PySem.W.findIn K (.ref C) m = some (some (.ref f))
  fn : PySem.W.isFn K (.ref f) = true
/-- one operand, an instance of the class at C -/
def rU1 (C : Addr) (sp : Sp) (E : XK) : V → Hp → VK → Prop := fun x H Q => ∃ a dx fs, x = .ref a ∧ H a = some (.ins C dx fs) ∧ sp [x] H Q E
/-- -x by the own __neg__ -/
theorem un_negO (F : FnOk X.prog X.w X.K X.mg X.base CX n f fd ps sp) (o : Own X.K C "__neg__" f) (hr : Room n X.A) (hb : Binds X.K fd ps []) (hx : Passes CX X E) : UnR X (unaryOp .USub) (rU1 C sp E) := by
  intro pins s σ H x v Q I rx h
  obtain ⟨a, dx, fs, rfl, ha, q⟩ := h
  cases rx
  obtain ⟨mA, J, _⟩ := ins_get I.hok ha
  obtain ⟨od, J, _⟩ := J.look
  obtain ⟨m, hF⟩ := I.fr
  exact PySem.W.ksp_neg hF I.ok.mod.kin J o.at_ o.fn (run_at F ⟨hr, rfl⟩ hb hx I v1 q fun v u H' s' I' rv qv => ⟨v, H', I', rv, qv⟩)
/-- an instance of the class at C on the left, an int on the right -/
def rB1 (C : Addr) (sp : Sp) (E : XK) : R2 := fun x y H Q => ∃ a dx fs i, x = .ref a ∧ y = .int i ∧ H a = some (.ins C dx fs) ∧ sp [x, y] H Q E
theorem op_ownI {op : Operator} {fo ro rc : Option Value} (F : FnOk X.prog X.w X.K X.mg X.base CX n f fd ps sp) (o : Own X.K C (PySem.dunder op.info.2) f) (hc : PySem.W.selfFirst X.K C = true)
    (hrr : PySem.W.findIn X.K (.ref C) (dunderR op.info.2) = some rc) (hp : rc = none ∨ ∃ g : Addr, rc = some (.ref g)) (h1 : PySem.W.findIn X.K (.type "int") (PySem.dunder op.info.2) = some fo) (h2 : PySem.W.findIn X.K (.type "int") (dunderR op.info.2) = some ro)
    (hsub : PySem.W.subIn X.K (.type "int") (.ref C) = some false) (hr : Room n X.A) (hb : Binds X.K fd ps []) (hx : Passes CX X E) : OpR X (binaryOp op) (rB1 C sp E) := by
  intro pins s σ H x y v u Q I rx ry h
  obtain ⟨a, dx, fs, i, rfl, rfl, ha, q⟩ := h
  cases rx
  obtain ⟨t, rfl⟩ := ry
  obtain ⟨mA, J, _⟩ := ins_get I.hok ha
  obtain ⟨od, J, _⟩ := J.look
  obtain ⟨m, hF⟩ := I.fr
  exact PySem.W.ksp_binT (T := "int") hF I.ok.mod.kin J rfl hc o.at_ o.fn hrr hp h1 h2 hsub (run_at F ⟨hr, rfl⟩ hb hx I v2i q fun v u H' s' I' rv qv => notImpl rv ⟨v, H', I', rv, qv⟩)
/-- two instances of the class at C -/
def rB2 (C : Addr) (sp : Sp) (E : XK) : R2 := fun x y H Q => ∃ a dx fs b dy gs, x = .ref a ∧ y = .ref b ∧ H a = some (.ins C dx fs) ∧ H b = some (.ins C dy gs) ∧ sp [x, y] H Q E
theorem op_own2 {op : Operator} (F : FnOk X.prog X.w X.K X.mg X.base CX n f fd ps sp) (o : Own X.K C (PySem.dunder op.info.2) f) (hc : PySem.W.selfFirst X.K C = true)
    (hr : Room n X.A) (hb : Binds X.K fd ps []) (hx : Passes CX X E) : OpR X (binaryOp op) (rB2 C sp E) := by
  intro pins s σ H x y v u Q I rx ry h
  obtain ⟨a, dx, fs, b, dy, gs, rfl, rfl, ha, hb', q⟩ := h
  cases rx
  cases ry
  obtain ⟨mA, J, _⟩ := ins_get I.hok ha
  obtain ⟨mB, J', _⟩ := ins_get I.hok hb'
  obtain ⟨od, J, _⟩ := J.look
  obtain ⟨od', J', _⟩ := J'.look
  obtain ⟨m, hF⟩ := I.fr
  exact PySem.W.binop_K hF I.ok.mod.kin J J'.type hc o.at_ o.fn (run_at F ⟨hr, rfl⟩ hb hx I v2 q fun v u H' s' I' rv qv => notImpl rv ⟨v, H', I', rv, qv⟩)
/-- str(x) by the own __str__ -/
def rStrO (C : Addr) (sp : Sp) (E : XK) : List V → Hp → VK → Prop := fun xs H Q => ∃ a dx fs, xs = [.ref a] ∧ H a = some (.ins C dx fs) ∧ sp xs H (fun v H' => (∃ z, v = .str z) ∧ Q v H') E
theorem call_strO (F : FnOk X.prog X.w X.K X.mg X.base CX n f fd ps sp) (o : Own X.K C "__str__" f) (hr : Room (n + 2) X.A) (hb : Binds X.K fd ps []) (hx : Passes CX X E) : CallR X (.type "str") (rStrO C sp E) := by
  intro pins s σ H xs us Q I r h
  obtain ⟨a, dx, fs, rfl, ha, q⟩ := h
  obtain ⟨u, rfl, ru⟩ := vals1 r
  cases ru
  obtain ⟨mA, J, _⟩ := ins_get I.hok ha
  obtain ⟨od, J, _⟩ := J.look
  have sb : Sub X n X.A.in1.in1 := (Sub.in1 (n := n) (Sub.in1 (n := n + 1) ⟨hr, rfl⟩))
  refine PySem.W.kso_call (by have := sb.room.units0; exact this) I.kIn J o.at_ o.fn (run_at F sb hb hx I v1 q fun v u H' s' I' rv qv => ?_)
  obtain ⟨⟨z, rfl⟩, qv⟩ := qv
  obtain ⟨t, rfl⟩ := id rv
  exact ⟨_, H', I', rv, qv⟩
end
end OS

namespace OS
open PySem L2 PySem.Spec PyProof.Rows
section
variable {X : Cx} {CX : CXT} {n : Nat} {f C : Addr} {fd : FuncData} {ps : List Str} {sp : Sp} {E : XK} {a b : Expr} {ta tb : TE} {pos : Pos}
/-- an instance asked by [..], in, len -/
def rG (C : Addr) (sp : Sp) (E : XK) : R2 := fun x y H Q => ∃ p dx fs, x = .ref p ∧ H p = some (.ins C dx fs) ∧ sp [x, y] H Q E
/-- o[i] by the own __getitem__ -/
theorem pe_getO (F : FnOk X.prog X.w X.K X.mg X.base CX n f fd ps sp) (o : Own X.K C "__getitem__" f) (fi : PySem.W.fnIn X.K f = true) (hr : Room (n + 1) X.A) (hb : Binds X.K fd ps []) (hx : Passes CX X E) (ha : PE X a ta) (hc : PE X b tb)
    (hs : ∀ x i, subscripted b true (.ref x) i = runValue (.builtin "lifetime.subscript" ⟨[.ref x, i], []⟩) := by intro _ _; rfl) : PE X (.Subscript a b pos) (tOp (rG C sp E) ta tb) := by
  refine ⟨fun pins s σ H Q I h => ?_⟩
  refine Subscript_ (binT ha hc I h fun v u s2 x y H2 I2 rx ry q => ?_)
  obtain ⟨p, dx, fs, rfl, hp, q⟩ := q
  cases rx
  obtain ⟨mA, J, _⟩ := ins_get I2.hok hp
  obtain ⟨od, J, _⟩ := J.look
  obtain ⟨m, hF⟩ := I2.fr
  have rv : Vals [V.ref p, y] [Value.ref p, u] := .cons rfl (.cons ry .nil)
  exact PySem.W.sub_K hF I2.ok.mod.kin J o.at_ fi o.fn (run_at F (Sub.in1 (n := n) ⟨hr, rfl⟩) hb hx I2 rv q fun v u H' s' I' rv qv => ⟨v, H', I', rv, qv⟩) (hs _ _)
/-- k in o, k not in o by the own __contains__ -/
def rInO (C : Addr) (sp : Sp) (E : XK) (g : Bool → Bool) : R2 := fun x y H Q => ∃ p dx fs, y = .ref p ∧ H p = some (.ins C dx fs) ∧ sp [y, x] H (fun v H' => ∃ k, v = .bl k ∧ Q (.bl (g k)) H') E
theorem op_inO (F : FnOk X.prog X.w X.K X.mg X.base CX n f fd ps sp) (o : Own X.K C "__contains__" f) (hr : Room n X.A) (hb : Binds X.K fd ps []) (hx : Passes CX X E) : OpR X (compareOp .In) (rInO C sp E id) := by
  intro pins s σ H x y v u Q I rx ry h
  obtain ⟨p, dx, fs, rfl, hp, q⟩ := h
  cases ry
  obtain ⟨mA, J, _⟩ := ins_get I.hok hp
  obtain ⟨od, J, _⟩ := J.look
  obtain ⟨m, hF⟩ := I.fr
  have rv : Vals [V.ref p, x] [Value.ref p, v] := .cons rfl (.cons rx .nil)
  refine PySem.W.in_K hF I.ok.mod.kin J o.at_ o.fn (run_at F ⟨hr, rfl⟩ hb hx I rv q fun v u H' s' I' rv qv => ?_)
  obtain ⟨k, rfl, qv⟩ := qv
  cases rv
  exact wpAny_truthy_bool ⟨.bl (id k), H', I', rfl, qv⟩
/-- len(o) by the own __len__ -/
def rLenO (C : Addr) (sp : Sp) (E : XK) : List V → Hp → VK → Prop := fun xs H Q => ∃ p dx fs, xs = [.ref p] ∧ H p = some (.ins C dx fs) ∧ sp xs H (fun v H' => (∃ i : Int, v = .int i ∧ 0 ≤ i ∧ i < 2 ^ 63) ∧ Q v H') E
theorem call_lenO (F : FnOk X.prog X.w X.K X.mg X.base CX n f fd ps sp) (o : Own X.K C "__len__" f) (hr : Room (n + 1) X.A) (hb : Binds X.K fd ps []) (hx : Passes CX X E) : CallR X (.builtin "len") (rLenO C sp E) := by
  intro pins s σ H xs us Q I r h
  obtain ⟨p, dx, fs, rfl, hp, q⟩ := h
  obtain ⟨u, rfl, ru⟩ := vals1 r
  cases ru
  obtain ⟨mA, J, _⟩ := ins_get I.hok hp
  obtain ⟨od, J, _⟩ := J.look
  obtain ⟨m, hF⟩ := I.fr
  refine PySem.W.len_K hF I.ok.mod.kin J o.at_ o.fn (run_at F (Sub.in1 (n := n) ⟨hr, rfl⟩) hb hx I v1 q fun v u H' s' I' rv qv => ?_)
  obtain ⟨⟨i, rfl, h0, h1⟩, qv⟩ := qv
  obtain ⟨t, rfl⟩ := rv
  exact ⟨⟨h0, h1⟩, .int i, H', I'.tok _, ⟨_, rfl⟩, qv⟩
end
/-! ### a new instance where what is raised is wished for at the caller's slots -/
section
variable {X : Cx} {CX : CXT} {k n : Nat} {f C : Addr} {fd : FuncData} {ps ks : List Str} {sp : Sp} {E : L2.St → XK} {x : Str} {p pos : Pos} {e : Expr} {es : List Expr} {kws : List Keyword} {t tk : TA} {g : List Value → List Value → List Value} {gV : List V → List V → List V} {ds : List Value} {dvs : List V}
theorem run_makeKS {pins : List (Addr × Obj)} {σ : L2.St} {H : Hp} {s : Shared} {Q : VK} {us ws : List Value} {vs zs : List V} (M : Mk X.K C f) (F : FnOk X.prog X.w X.K X.mg X.base CX k f fd ps sp) (hr : Room (k + 1) X.A) (hb : KBn X.K fd ps (n + 1) ks g gV) (hx : PassesAt CX X σ (E σ))
    (I : Inv X pins σ H s) (r : Vals vs us) (rz : Vals zs ws) (l1 : vs.length = n) (l2 : zs.length = ks.length)
    (h : ∀ x dx, H x = none → H dx = none → dx ≠ x → sp (gV (.ref x :: vs) zs) (upd (upd H dx (.own x)) x (.ins C dx [])) (fun v H2 => v = .non ∧ Q (.ref x) H2) (E σ)) :
    wpAny (model X.prog X.w) X.A (call (.ref C) us (ks.zip ws)) (EP X pins σ Q) X.xe s := by
  have hq := h (s.heap.objs.size + 1) s.heap.objs.size (I.hok.fresh (Nat.le_succ _)) (I.hok.fresh (Nat.le_refl _)) (Nat.ne_of_lt (Nat.lt_succ_self _))
  have I2 := Inv.made (C := C) I
  have r1 : Vals (V.ref (s.heap.objs.size + 1) :: vs) (Value.ref (s.heap.objs.size + 1) :: us) := .cons rfl r
  have r2 := hb.rel r1 rz
  have n1 : (Value.ref (s.heap.objs.size + 1) :: us).length = n + 1 := by
    rw [List.length_cons, ← r.length, l1]
  refine wpAny_call (make_map (f := f) I.kIn M.makes M.init (beq_iff_eq.mp M.fn) (codeAny_mono (F.run _ X.stack _ _ ⟨Value.ref (s.heap.objs.size + 1) :: us, ks.zip ws⟩ (g (Value.ref (s.heap.objs.size + 1) :: us) ws) _ _ (E σ) (hr.make C us (ks.zip ws))
    (I2.env0.make C us (ks.zip ws)) (hb.to _ (Value.ref (s.heap.objs.size + 1) :: us) ws I2.kIn n1 (rz.length.symm.trans l2)) r2 hq) fun r s' hq' => ?_))
  cases r with
  | error e => exact hx pins _ _ e s' I2 hq'
  | ok fl =>
    cases fl with
    | ret u =>
      obtain ⟨v, H', I3, rv, ev, q3⟩ := I2.after hq'
      subst ev
      exact ⟨rv, ⟨V.ref (s.heap.objs.size + 1), H', I3, rfl, q3⟩⟩
    | next => exact False.elim hq'
    | brk => exact False.elim hq'
    | cont => exact False.elim hq'
/-- C(e, .., k = v, ..), whatever of them is there -/
def tMakeKS (C : Addr) (n m : Nat) (sp : Sp) (gV : List V → List V → List V) (E : L2.St → XK) (t tk : TA) : TE := fun σ H Q => t σ H fun vs H1 => tk σ H1 fun zs H2 => vs.length = n ∧ zs.length = m ∧ ∀ x dx, H2 x = none → H2 dx = none → dx ≠ x →
  sp (gV (.ref x :: vs) zs) (upd (upd H2 dx (.own x)) x (.ins C dx [])) (fun v H3 => v = .non ∧ Q (.ref x) H3) (E σ)
theorem pe_makeKS0 (M : Mk X.K C f) (F : FnOk X.prog X.w X.K X.mg X.base CX k f fd ps sp) (hr : Room (k + 1) X.A) (hg : Gl X x) (hm : X.mg x = some (.ref C)) (hb : KBn X.K fd ps 1 ks g gV) (hx : ∀ σ, PassesAt CX X σ (E σ)) (hkw : PK X kws tk)
    (hall : (backToKw pos (keywordEach kws X.env)).all (·.1.isSome) = true := by rfl) (hks : (backToKw pos (keywordEach kws X.env)).filterMap (·.1) = ks := by rfl) (hdb : (x == ("__debug__" : Str)) = false := by decide)
    (hpl : ((backTo pos (starEach [] X.env)).any (·.1) || (backToKw pos (keywordEach kws X.env)).any (·.1.isNone)) = false := by rfl) :
    PE X (.Call (.Name x p) [] kws pos) (tMakeKS C 0 ks.length sp gV E tNil tk) := by
  refine ⟨fun pins s σ H Q I h => ?_⟩
  refine wpAny_Call_Name_kw (ld_glob I hg hm ?_ hdb)
  refine PySem.W.callWith_KW0 (h₀ := X.base) I.ok.mod.kin M.kp hall ?_ hpl
  refine thn (hkw.run pos pins s σ H _ I h) fun ws s2 ⟨zs, H2, I2, rz, l1, l2, q2⟩ => ⟨I2.kIn, ?_⟩
  rw [hks]
  exact run_makeKS (us := []) (vs := []) M F hr hb (hx σ) I2 .nil rz rfl l2 q2
theorem pe_makeKS (M : Mk X.K C f) (F : FnOk X.prog X.w X.K X.mg X.base CX k f fd ps sp) (hr : Room (k + 1) X.A) (hg : Gl X x) (hm : X.mg x = some (.ref C)) (hb : KBn X.K fd ps (n + 1) ks g gV) (hx : ∀ σ, PassesAt CX X σ (E σ)) (ha : PA X (e :: es) t) (hkw : PK X kws tk)
    (hall : (backToKw pos (keywordEach kws X.env)).all (·.1.isSome) = true := by rfl) (hks : (backToKw pos (keywordEach kws X.env)).filterMap (·.1) = ks := by rfl) (hdb : (x == ("__debug__" : Str)) = false := by decide)
    (he : starEach (e :: es) X.env = (false, eval e X.env) :: starEach es X.env := by rfl) (hpl : ((backTo pos (starEach (e :: es) X.env)).any (·.1) || (backToKw pos (keywordEach kws X.env)).any (·.1.isNone)) = false := by rfl) :
    PE X (.Call (.Name x p) (e :: es) kws pos) (tMakeKS C n ks.length sp gV E t tk) := by
  refine ⟨fun pins s σ H Q I h => ?_⟩
  refine wpAny_Call_Name_kw (ld_glob I hg hm ?_ hdb)
  refine PySem.W.callWith_KW (h₀ := X.base) I.ok.mod.kin M.kp hall (thn (ha.run pos pins s σ H _ I h) fun us s1 ⟨vs, H1, I1, r, q⟩ => ?_) hpl he
  refine thn (hkw.run pos pins s1 σ H1 _ I1 q) fun ws s2 ⟨zs, H2, I2, rz, l1, l2, q2⟩ => ⟨I2.kIn, ?_⟩
  rw [hks]
  exact run_makeKS M F hr hb (hx σ) I2 r rz l1 l2 q2
end
end OS

namespace OS
open PySem PySem.Spec PySem.W PySem.Calls PyProof.Rows
section
variable {prog : Program} {w : World} {A : Around} {E : Value → Shared → Prop} {s : Shared} {K : Frag} {x C L f g : Addr} {h₀ : Heap} {m : Str → Option Value} {ox : Obj} {od : Option Obj}
theorem int_add_ni {i : Int} {t : Tok} {Q : Value → Shared → Prop} (hx : s.heap.get? x = some ox) (hd : ox.data = .plain) (h : Q .notImplemented s) : wpAny (model prog w) A (call (.builtin "int.__add__") [.int i t, .ref x]) Q E s := by
  refine wpAny_call_entry PySem.F.slot_int_add (typeIs_int s i t) PySem.F.entry_int_add ?_ (PySem.F.args_int_add_2 _ _)
  show wpAny _ _ ((load x >>= fun o => match o.data with | .prim (.int i _) => pure (some i) | _ => pure none) >>= fun r => _) _ _ s
  refine wpAny_bind (wpAny_bind (wpAny_load hx ?_))
  rw [hd]
  exact wpAny_pure (wpAny_bind (wpAny_rule (wpAny_pure ⟨_, rfl, h⟩)))
theorem int_sub_ni {i : Int} {t : Tok} {Q : Value → Shared → Prop} (hx : s.heap.get? x = some ox) (hd : ox.data = .plain) (h : Q .notImplemented s) : wpAny (model prog w) A (call (.builtin "int.__sub__") [.int i t, .ref x]) Q E s := by
  refine wpAny_call_entry PySem.F.slot_int_sub (typeIs_int s i t) PySem.F.entry_int_sub ?_ (PySem.F.args_int_sub_2 _ _)
  show wpAny _ _ ((load x >>= fun o => match o.data with | .prim (.int i _) => pure (some i) | _ => pure none) >>= fun r => _) _ _ s
  refine wpAny_bind (wpAny_bind (wpAny_load hx ?_))
  rw [hd]
  exact wpAny_pure (wpAny_bind (wpAny_rule (wpAny_pure ⟨_, rfl, h⟩)))
theorem int_mul_ni {i : Int} {t : Tok} {Q : Value → Shared → Prop} (hx : s.heap.get? x = some ox) (hd : ox.data = .plain) (h : Q .notImplemented s) : wpAny (model prog w) A (call (.builtin "int.__mul__") [.int i t, .ref x]) Q E s := by
  refine wpAny_call_entry PySem.F.slot_int_mul (typeIs_int s i t) PySem.F.entry_int_mul ?_ (PySem.F.args_int_mul_2 _ _)
  show wpAny _ _ ((load x >>= fun o => match o.data with | .prim (.int i _) => pure (some i) | _ => pure none) >>= fun r => _) _ _ s
  refine wpAny_bind (wpAny_bind (wpAny_load hx ?_))
  rw [hd]
  exact wpAny_pure (wpAny_bind (wpAny_rule (wpAny_pure ⟨_, rfl, h⟩)))
/-- what an int's own operator says of an instance -/
def Decl (prog : Program) (w : World) (nm id : String) : Prop := Slot "int" (PySem.dunder nm) id ∧ ∀ (A : Around) (E : Value → Shared → Prop) (s : Shared) (x : Addr) (ox : Obj) (i : Int) (t : Tok) (Q : Value → Shared → Prop), s.heap.get? x = some ox → ox.data = .plain → Q .notImplemented s → wpAny (model prog w) A (call (.builtin id) [.int i t, .ref x]) Q E s
theorem decl_add : Decl prog w "add" "int.__add__" := ⟨PySem.F.slot_int_add, fun _ _ _ _ _ _ _ _ => int_add_ni⟩
theorem decl_sub : Decl prog w "sub" "int.__sub__" := ⟨PySem.F.slot_int_sub, fun _ _ _ _ _ _ _ _ => int_sub_ni⟩
theorem decl_mul : Decl prog w "mul" "int.__mul__" := ⟨PySem.F.slot_int_mul, fun _ _ _ _ _ _ _ _ => int_mul_ni⟩
theorem int_op_own {op : Operator} {i : Int} {t : Tok} {id : String} {fo ro : Option Value} {Q : Value → Shared → Prop} (F : Fr h₀ L s.heap m) (X₀ : K.In h₀) (I : InstAt s.heap x ox C od) (hx : s.heap.get? x = some ox) (hd : ox.data = .plain) (hc : selfFirst K C = true)
    (hs : findIn K (.ref C) (PySem.dunder op.info.2) = some (some (.ref f))) (hr : findIn K (.ref C) (dunderR op.info.2) = some (some (.ref g))) (hg : isFn K (.ref g) = true)
    (h1 : findIn K (.type "int") (PySem.dunder op.info.2) = some fo) (h2 : findIn K (.type "int") (dunderR op.info.2) = some ro) (hsub : subIn K (.ref C) (.type "int") = some false) (dc : Decl prog w op.info.2 id)
    (h : wpAny (model prog w) A (call (.ref g) [.ref x, .int i t]) (PySem.W.CmpBack Q) E s) : wpAny (model prog w) A (binaryOp op (.int i t) (.ref x)) Q E s := by
  have X := X₀.keeps F.keep
  obtain ⟨cd, rest, hcd, hm⟩ := ksp_first hc
  rcases hi : op.info with ⟨sym, nm'⟩
  rw [hi] at hs hr h1 h2 dc
  dsimp only at hs hr h1 h2 dc
  have one := ksp_try X I hr hg h
  have zero : wpAny (model prog w) A (tryMethod (.int i t) (PySem.dunder nm') (.ref x)) (fun r s' => r = none ∧ s' = s) E s := by
    unfold tryMethod
    refine wpAny_bind (wpAny_callSpecial?_slot (typeIs_int s i t) dc.1 (dc.2 _ _ _ _ _ _ _ _ hx hd ?_))
    exact wpAny_pure ⟨rfl, rfl⟩
  obtain ⟨hh, g', d, tt, os⟩ := s
  have L1 : Looks (model prog w) hh (typeOf (.ref x)) (.ref C) := I.type
  have L2 : Looks (model prog w) hh (typeOf (.int i t)) (.type "int") := Looks.of_pure rfl
  have L3 : Looks (model prog w) hh (fillsNumberSlot (.ref C) nm') true := fills_K X hcd hm hs
  have L4 : Looks (model prog w) hh (fillsNumberSlot (.type "int") nm') ((fo.isSome && !isSeqSlot fo) || (ro.isSome && !isSeqSlot ro)) := ksp_fillsT X h1 h2
  have L5 : Looks (model prog w) hh (isSubtype (.ref C) (.type "int")) false := looks_subIn X hsub
  have L7 : Looks (model prog w) hh (numberSlotInPython (.type "int") nm') false := Looks.of_pure rfl
  generalize ((fo.isSome && !isSeqSlot fo) || (ro.isSome && !isSeqSlot ro)) = left at L4
  have hne : (Value.type "int" == Value.ref C) = false := Bool.eq_false_iff.mpr fun q => by cases beq_iff_eq.mp q
  simp only [binaryOp, hi]
  refine wpAny_holding (wpAny_bind ?_)
  unfold binaryOp1
  refine wpAny_bind (L2.at (wpAny_bind (L1.at (wpAny_bind (L4.at ?_)))))
  simp only [hne, Bool.false_eq_true, if_false]
  cases left with
  | false =>
    ksp_lk
    refine wpAny_mono one (fun r s' hr' => ?_) fun _ _ e => e
    obtain ⟨v, rfl, hq⟩ := hr'
    ksp_lk
    exact hq
  | true =>
    ksp_lk
    refine wpAny_mono zero (fun r s' hr' => ?_) fun _ _ e => e
    obtain ⟨rfl, rfl⟩ := hr'
    ksp_lk
    refine wpAny_mono one (fun r s' hr' => ?_) fun _ _ e => e
    obtain ⟨v, rfl, hq⟩ := hr'
    ksp_lk
    exact hq
end
end OS

namespace OS
open PySem PySem.Spec PySem.W PySem.Calls PyProof.Rows
section
variable {prog : Program} {w : World} {A : Around} {E : Value → Shared → Prop} {s : Shared} {K : Frag} {x C L f : Addr} {h₀ : Heap} {m : Str → Option Value} {ox : Obj} {od : Option Obj} {b tb : Value}
theorem ne_own {Q : Value → Shared → Prop} (hu : A.units + 1 < cLine) (F : Fr h₀ L s.heap m) (X₀ : K.In h₀) (I : InstAt s.heap x ox C od) (hb : Looks (model prog w) s.heap (typeOf b) tb) (hn : notFirst K C tb = true)
    (hne : findIn K (.ref C) "__ne__" = some (some (.builtin "object.__ne__"))) (hs : findIn K (.ref C) "__eq__" = some (some (.ref f))) (hf : isFn K (.ref f) = true) (hob : subIn K (.ref C) (.type "object") = some true)
    (h : wpAny (model prog w) A.in1 (call (.ref f) [.ref x, b]) (fun v s' => ∃ r, v = .bool r ∧ Q (.bool (!r)) s') E s) : wpAny (model prog w) A (richCompare .NotEq (.ref x) b) Q E s := by
  have X := X₀.keeps F.keep
  have L0 : Looks (model prog w) s.heap (typeOf (.ref x)) (.ref C) := I.type
  have sub : Looks (model prog w) s.heap (isInstance (.ref x) (.type "object")) true := L0.andThen (looks_subIn X hob)
  have body : wpAny (model prog w) A (call (.builtin "object.__ne__") [.ref x, b]) (fun v s' => ∃ r, v = .bool r ∧ Q (.bool r) s') E s := by
    refine wpAny_call (codeAny_call_builtin PySem.F.cmp_object.ne.plain PySem.F.cmpEntry_ne ?_)
    refine @check_slot (model prog w) _ _ s "object.__ne__" "object" "__ne__" (.ref x) [b] [] _ PySem.F.cmpKind_ne PySem.F.cmpSplit_ne sub (PySem.F.cmpArgs_ne _ _) ?_
    unfold Builtin.«object.__ne__»
    refine wpAny_bind (wpAny_of_eq (a := ((Value.ref x : Value), [b])) (by first | rfl | (simp only [slotArgs]; rfl)) ?_)
    refine wpAny_bind (wpAny_cRoomFor hu ?_)
    refine wpAny_bind (ifBound_K X I hs hf (wpAny_mono h (fun v s' hv => ?_) fun _ _ e => e))
    obtain ⟨r, rfl, q⟩ := hv
    refine wpAny_bind (wpAny_truthy_bool (wpAny_pure ?_))
    exact ⟨_, rfl, q⟩
  have one : wpAny (model prog w) A (tryCompare (.ref x) "__ne__" b) (fun r s' => ∃ v, r = some v ∧ Q v s') E s := by
    unfold tryCompare
    refine wpAny_bind ?_
    simp only [callSpecialIfBound?, bindSpecialIfBound?]
    refine wpAny_holding (wpAny_bind (wpAny_bind (wpAny_bind (I.type.here ((looks_findIn X hne).here ?_)))))
    refine wpAny_bind (wpAny_askSetting (wpAny_ite ?_))
    have bnd : Looks (model prog w) s.heap (bindSpecial (.builtin "object.__ne__") (.ref x)) (.builtin "object.__ne__", [.ref x]) := Looks.of_pure (PySem.F.cmp_object.ne.bind _)
    have fin : wpAny (model prog w) A (call (.builtin "object.__ne__") ([.ref x] ++ [b]) >>= fun v => pure (some v)) (fun r s' => wpAny (model prog w) A (match r with | some .notImplemented | none => pure none | some v => pure (some v)) (fun r s' => ∃ v, r = some v ∧ Q v s') E s') E s :=
      wpAny_bind (wpAny_mono body (fun v s' h' => by
        obtain ⟨r, rfl, q⟩ := h'
        exact wpAny_pure (wpAny_pure ⟨_, rfl, q⟩)) fun _ _ h' => h')
    split
    · exact wpAny_bind (bnd.here (wpAny_pure (by exact fin)))
    · exact wpAny_tryCatch (wpAny_bind (bnd.here (wpAny_pure (by exact fin))))
  unfold richCompare
  simp only [oneThing_ref]
  refine wpAny_holding (wpAny_bind (wpAny_cRoomFor (Nat.lt_of_succ_lt hu) ?_))
  refine wpAny_bind (I.type.here (wpAny_bind (hb.here ?_)))
  split
  · rename_i q
    have e : subIn K tb (.ref C) = some false := by
      rcases Bool.or_eq_true_iff.mp hn with e | e
      · rw [beq_iff_eq.mp e] at q; simp at q
      · exact beq_iff_eq.mp e
    refine wpAny_bind ((looks_subIn X e).here ?_)
    simp only [Bool.false_eq_true, if_false]
    refine wpAny_bind (wpAny_mono one (fun r s' z => ?_) fun _ _ e => e)
    obtain ⟨v, rfl, hq⟩ := z
    exact wpAny_pure hq
  · refine wpAny_bind (wpAny_pure ?_)
    simp only [Bool.false_eq_true, if_false]
    refine wpAny_bind (wpAny_mono one (fun r s' z => ?_) fun _ _ e => e)
    obtain ⟨v, rfl, hq⟩ := z
    exact wpAny_pure hq
end
end OS

namespace OS
open PySem PySem.Spec PySem.W PySem.Calls PyProof.Rows
section
variable {prog : Program} {w : World} {A : Around} {E : Value → Shared → Prop} {s : Shared} {K : Frag} {x C L f : Addr} {h₀ : Heap} {m : Str → Option Value} {ox : Obj} {od : Option Obj} {cd : ClassData}
/-- a plain class: itself and object -/
structure Mro2 (K : Frag) (C : Addr) : Prop where
  ex : ∃ cd, clsIn K C = some cd ∧ cd.mro = [.ref C, .type "object"]
theorem no_inplace {M : Model} {h : Heap} {nm : String} {add : Bool} (X : K.In h) (m2 : Mro2 K C) (h1 : findIn K (.ref C) (dunderI nm) = some none) (h2 : findIn K (.type "object") (dunderI nm) = some none) : Looks M h (fillsInplaceSlot (.ref C) nm add) false := by
  intro A Q E s k q
  obtain ⟨cd, hc, hm⟩ := m2.ex
  have Lm : Looks M h (mroOf (.ref C)) cd.mro := (looks_clsIn X hc).andThen (f := fun cd => pure cd.mro) .now
  have Lm' := Lm.keeps k
  obtain ⟨hh, g, d, tt, os⟩ := s
  have X' : K.In hh := X.keeps k
  have L1 : Looks M hh (typeLookup (.ref C) (dunderI nm)) none := looks_findIn X' h1
  have L2 : Looks M hh (typeLookup (.type "object") (dunderI nm)) none := looks_findIn X' h2
  unfold fillsInplaceSlot
  refine wpAny_bind (Lm'.at ?_)
  rw [hm]
  simp only [List.anyM_cons, List.anyM_nil]
  repeat lk
  exact q
theorem bin1_same {nm : String} {b : Value} {Q : Value → Shared → Prop} (X : K.In s.heap) (I : InstAt s.heap x ox C od) (hb : Looks (model prog w) s.heap (typeOf b) (.ref C)) (hc : selfFirst K C = true)
    (hs : findIn K (.ref C) (PySem.dunder nm) = some (some (.ref f))) (hf : isFn K (.ref f) = true)
    (h : wpAny (model prog w) A (call (.ref f) [.ref x, b]) (PySem.W.CmpBack Q) E s) : wpAny (model prog w) A (binaryOp1 nm (.ref x) b) (fun r s' => ∃ v, r = some v ∧ Q v s') E s := by
  obtain ⟨cd, rest, hcd, hm⟩ := ksp_first hc
  unfold binaryOp1
  refine wpAny_bind (I.type.here (wpAny_bind (hb.here (wpAny_bind ((fills_K X hcd hm hs).here ?_)))))
  simp only [beq_self_eq_true, if_true]
  refine wpAny_bind (wpAny_pure ?_)
  simp only [Bool.and_false, Bool.false_eq_true, if_false, Bool.false_and]
  refine wpAny_bind (wpAny_pure ?_)
  simp only [Bool.false_eq_true, if_false]
  refine wpAny_bind (m := tryMethod (.ref x) _ b) ?_
  unfold tryMethod
  refine wpAny_bind (special_fn X I hs (beq_iff_eq.mp hf) (wpAny_mono h (fun v s' hv => ?_) fun _ _ e => e))
  cases v <;> first | exact hv.elim | exact wpAny_pure (wpAny_pure ⟨_, rfl, hv⟩)
theorem bin1_T {nm T : String} {b : Value} {fo ro rc : Option Value} {Q : Value → Shared → Prop} (X : K.In s.heap) (I : InstAt s.heap x ox C od) (hb : typeOf b = pure (.type T)) (hc : selfFirst K C = true)
    (hs : findIn K (.ref C) (PySem.dunder nm) = some (some (.ref f))) (hf : isFn K (.ref f) = true) (hr : findIn K (.ref C) (dunderR nm) = some rc) (hp : rc = none ∨ ∃ g : Addr, rc = some (.ref g))
    (h1 : findIn K (.type T) (PySem.dunder nm) = some fo) (h2 : findIn K (.type T) (dunderR nm) = some ro) (hsub : subIn K (.type T) (.ref C) = some false)
    (h : wpAny (model prog w) A (call (.ref f) [.ref x, b]) (PySem.W.CmpBack Q) E s) : wpAny (model prog w) A (binaryOp1 nm (.ref x) b) (fun r s' => ∃ v, r = some v ∧ Q v s') E s := by
  obtain ⟨cd, rest, hcd, hm⟩ := ksp_first hc
  have one := ksp_try X I hs hf h
  obtain ⟨hh, g, d, tt, os⟩ := s
  have L1 : Looks (model prog w) hh (typeOf (.ref x)) (.ref C) := I.type
  have L2 : Looks (model prog w) hh (typeOf b) (.type T) := Looks.of_pure hb
  have L3 : Looks (model prog w) hh (fillsNumberSlot (.ref C) nm) true := fills_K X hcd hm hs
  have L4 : Looks (model prog w) hh (fillsNumberSlot (.type T) nm) ((fo.isSome && !isSeqSlot fo) || (ro.isSome && !isSeqSlot ro)) := ksp_fillsT X h1 h2
  have L5 : Looks (model prog w) hh (isSubtype (.type T) (.ref C)) false := looks_subIn X hsub
  have L6 : Looks (model prog w) hh (numberSlotInPython (.ref C) nm) true := ksp_inPy X hs hr hp
  have L7 : Looks (model prog w) hh (numberSlotInPython (.type T) nm) false := Looks.of_pure rfl
  have L8 : Looks (model prog w) hh (typeLookup (.type T) (dunderR nm)) ro := looks_findIn X h2
  generalize ((fo.isSome && !isSeqSlot fo) || (ro.isSome && !isSeqSlot ro)) = right at L4
  have hne : (Value.ref C == Value.type T) = false := Bool.eq_false_iff.mpr fun q => by cases beq_iff_eq.mp q
  unfold binaryOp1
  refine wpAny_bind (L1.at (wpAny_bind (L2.at (wpAny_bind (L3.at ?_)))))
  simp only [hne, Bool.false_eq_true, if_false]
  cases right with
  | false =>
    ksp_lk
    refine wpAny_mono one (fun r s' hr' => ?_) fun _ _ e => e
    obtain ⟨v, rfl, hq⟩ := hr'
    ksp_lk
    exact ⟨_, rfl, hq⟩
  | true =>
    ksp_lk
    refine wpAny_mono one (fun r s' hr' => ?_) fun _ _ e => e
    obtain ⟨v, rfl, hq⟩ := hr'
    ksp_lk
    exact ⟨_, rfl, hq⟩
theorem inplace_own {op : Operator} {b : Value} {Q : Value → Shared → Prop} (X : K.In s.heap) (I : InstAt s.heap x ox C od) (m2 : Mro2 K C) (h1 : findIn K (.ref C) (dunderI op.info.2) = some none) (h2 : findIn K (.type "object") (dunderI op.info.2) = some none)
    (h : wpAny (model prog w) A (binaryOp1 op.info.2 (.ref x) b) (fun r s' => ∃ v, r = some v ∧ Q v s') E s) : wpAny (model prog w) A (inplaceOp op (.ref x) b) Q E s := by
  have L2 : Looks (model prog w) s.heap (fillsInplaceSlot (.ref C) op.info.2 (op == .Add)) false := no_inplace X m2 h1 h2
  unfold inplaceOp
  refine wpAny_holding (wpAny_bind (I.type.here ?_))
  refine wpAny_bind (L2.here ?_)
  simp only [Bool.false_eq_true, if_false]
  refine wpAny_bind (wpAny_mono h (fun r s' hr' => ?_) fun _ _ e => e)
  obtain ⟨v, rfl, hq⟩ := hr'
  exact wpAny_pure hq
end
end OS
namespace OS
open PySem L2 PySem.Spec PyProof.Rows
section
variable {X : Cx} {CX : CXT} {n : Nat} {f C : Addr} {fd : FuncData} {ps : List Str} {sp : Sp} {E : XK}
theorem plain_at {pins : List (Addr × Obj)} {σ : L2.St} {H : Hp} {s : Shared} {a dx : Addr} {fs : List (Str × V)} (I : Inv X pins σ H s) (h : H a = some (.ins C dx fs)) : ∃ ox od, PySem.W.InstAt s.heap a ox C od ∧ ox.data = .plain := StX.insC_at I (.inr ⟨dx, fs, h⟩)
/-- int op instance, by the instance's reflected method -/
def rR1 (C : Addr) (sp : Sp) (E : XK) : R2 := fun x y H Q => ∃ a dx fs i, x = .int i ∧ y = .ref a ∧ H a = some (.ins C dx fs) ∧ sp [y, x] H Q E
theorem op_refl {op : Operator} {id : String} {g : Addr} {fo ro : Option Value} (F : FnOk X.prog X.w X.K X.mg X.base CX n f fd ps sp) (o : Own X.K C (dunderR op.info.2) f) (hc : PySem.W.selfFirst X.K C = true)
    (hs : PySem.W.findIn X.K (.ref C) (PySem.dunder op.info.2) = some (some (.ref g))) (h1 : PySem.W.findIn X.K (.type "int") (PySem.dunder op.info.2) = some fo) (h2 : PySem.W.findIn X.K (.type "int") (dunderR op.info.2) = some ro)
    (hsub : PySem.W.subIn X.K (.ref C) (.type "int") = some false) (dc : Decl X.prog X.w op.info.2 id) (hr : Room n X.A) (hb : Binds X.K fd ps []) (hx : Passes CX X E) : OpR X (binaryOp op) (rR1 C sp E) := by
  intro pins s σ H x y v u Q I rx ry h
  obtain ⟨a, dx, fs, i, rfl, rfl, ha, q⟩ := h
  cases ry
  obtain ⟨t, rfl⟩ := rx
  obtain ⟨ox, od, J, hd⟩ := plain_at I ha
  obtain ⟨m, hF⟩ := I.fr
  exact int_op_own hF I.ok.mod.kin J J.1 hd hc hs o.at_ o.fn h1 h2 hsub dc (run_at F ⟨hr, rfl⟩ hb hx I v2i q fun v u H' s' I' rv qv => notImpl rv ⟨v, H', I', rv, qv⟩)
/-- == and != by the own __eq__ -/
def rEqO (C : Addr) (sp : Sp) (E : XK) (g : Bool → Bool) : R2 := fun x y H Q => ∃ p dx fs, x = .ref p ∧ H p = some (.ins C dx fs) ∧ ((∃ i, y = .int i) ∨ ∃ b dy gs, y = .ref b ∧ H b = some (.ins C dy gs)) ∧ sp [x, y] H (fun v H' => ∃ k, v = .bl k ∧ Q (.bl (g k)) H') E
structure EqF (K : PySem.W.Frag) (C f : Addr) : Prop where
  own : Own K C "__eq__" f
  sub : PySem.W.subIn K (.type "int") (.ref C) = some false
  ne : PySem.W.findIn K (.ref C) "__ne__" = some (some (.builtin "object.__ne__"))
  ob : PySem.W.subIn K (.ref C) (.type "object") = some true
theorem eq_pre {pins : List (Addr × Obj)} {σ : L2.St} {H : Hp} {s : Shared} {y : V} {u : Value} (O : EqF X.K C f) (I : Inv X pins σ H s) (ry : RelV y u) (h : (∃ i, y = .int i) ∨ ∃ b dy gs, y = .ref b ∧ H b = some (.ins C dy gs)) :
    ∃ tb, PySem.W.Looks (model X.prog X.w) s.heap (typeOf u) tb ∧ PySem.W.notFirst X.K C tb = true := by
  rcases h with ⟨i, rfl⟩ | ⟨b, dy, gs, rfl, hb⟩
  · obtain ⟨t, rfl⟩ := ry
    exact ⟨.type "int", PySem.W.Looks.of_pure rfl, by unfold PySem.W.notFirst; rw [O.sub]; rfl⟩
  · cases ry
    obtain ⟨ox, od, J, hd⟩ := plain_at I hb
    exact ⟨.ref C, J.type, by unfold PySem.W.notFirst; simp⟩
theorem op_eqO (F : FnOk X.prog X.w X.K X.mg X.base CX n f fd ps sp) (O : EqF X.K C f) (hu : X.A.units < cLine) (hr : Room n X.A) (hb : Binds X.K fd ps []) (hx : Passes CX X E) : OpR X (compareOp .Eq) (rEqO C sp E id) := by
  intro pins s σ H x y v u Q I rx ry h
  obtain ⟨p, dx, fs, rfl, hp, hy, q⟩ := h
  cases rx
  obtain ⟨ox, od, J, hd⟩ := plain_at I hp
  obtain ⟨tb, hl, hn⟩ := eq_pre O I ry hy
  obtain ⟨m, hF⟩ := I.fr
  have rv : Vals [V.ref p, y] [Value.ref p, u] := .cons rfl (.cons ry .nil)
  show wpAny _ _ (richCompare .Eq (.ref p) u) _ _ _
  refine PySem.W.cmp_K hu hF I.ok.mod.kin J hl hn O.own.at_ O.own.fn (run_at F ⟨hr, rfl⟩ hb hx I rv q fun v u H' s' I' rv qv => ?_)
  obtain ⟨k, rfl, qv⟩ := qv
  cases rv
  exact ⟨.bl (id k), H', I', rfl, qv⟩
theorem op_neO (F : FnOk X.prog X.w X.K X.mg X.base CX n f fd ps sp) (O : EqF X.K C f) (hu : X.A.units + 1 < cLine) (hr : Room (n + 1) X.A) (hb : Binds X.K fd ps []) (hx : Passes CX X E) : OpR X (compareOp .NotEq) (rEqO C sp E not) := by
  intro pins s σ H x y v u Q I rx ry h
  obtain ⟨p, dx, fs, rfl, hp, hy, q⟩ := h
  cases rx
  obtain ⟨ox, od, J, hd⟩ := plain_at I hp
  obtain ⟨tb, hl, hn⟩ := eq_pre O I ry hy
  obtain ⟨m, hF⟩ := I.fr
  have rv : Vals [V.ref p, y] [Value.ref p, u] := .cons rfl (.cons ry .nil)
  show wpAny _ _ (richCompare .NotEq (.ref p) u) _ _ _
  refine ne_own hu hF I.ok.mod.kin J hl hn O.ne O.own.at_ O.own.fn O.ob (run_at F (Sub.in1 (n := n) ⟨hr, rfl⟩) hb hx I rv q fun v u H' s' I' rv qv => ?_)
  obtain ⟨k, rfl, qv⟩ := qv
  cases rv
  exact ⟨k, rfl, .bl (!k), H', I', rfl, qv⟩
/-- x op= y, x an instance without the in-place method -/
structure IpF (K : PySem.W.Frag) (C : Addr) (m : Str) : Prop where
  m2 : Mro2 K C
  h1 : PySem.W.findIn K (.ref C) m = some none
  h2 : PySem.W.findIn K (.type "object") m = some none
theorem ip_own2 {op : Operator} (F : FnOk X.prog X.w X.K X.mg X.base CX n f fd ps sp) (o : Own X.K C (PySem.dunder op.info.2) f) (hc : PySem.W.selfFirst X.K C = true) (ip : IpF X.K C (dunderI op.info.2))
    (hr : Room n X.A) (hb : Binds X.K fd ps []) (hx : Passes CX X E) : PIp X op (rB2 C sp E) := by
  intro pins s σ H x y v u Q I rx ry h
  obtain ⟨a, dx, fs, b, dy, gs, rfl, rfl, ha, hb', q⟩ := h
  cases rx
  cases ry
  obtain ⟨ox, od, J, _⟩ := plain_at I ha
  obtain ⟨oy, oe, J', _⟩ := plain_at I hb'
  exact inplace_own I.kIn J ip.m2 ip.h1 ip.h2 (bin1_same I.kIn J J'.type hc o.at_ o.fn (run_at F ⟨hr, rfl⟩ hb hx I v2 q fun v u H' s' I' rv qv => notImpl rv ⟨v, H', I', rv, qv⟩))
theorem ip_ownI {op : Operator} {fo ro rc : Option Value} (F : FnOk X.prog X.w X.K X.mg X.base CX n f fd ps sp) (o : Own X.K C (PySem.dunder op.info.2) f) (hc : PySem.W.selfFirst X.K C = true) (ip : IpF X.K C (dunderI op.info.2))
    (hrr : PySem.W.findIn X.K (.ref C) (dunderR op.info.2) = some rc) (hp : rc = none ∨ ∃ g : Addr, rc = some (.ref g)) (h1 : PySem.W.findIn X.K (.type "int") (PySem.dunder op.info.2) = some fo) (h2 : PySem.W.findIn X.K (.type "int") (dunderR op.info.2) = some ro)
    (hsub : PySem.W.subIn X.K (.type "int") (.ref C) = some false) (hr : Room n X.A) (hb : Binds X.K fd ps []) (hx : Passes CX X E) : PIp X op (rB1 C sp E) := by
  intro pins s σ H x y v u Q I rx ry h
  obtain ⟨a, dx, fs, i, rfl, rfl, ha, q⟩ := h
  cases rx
  obtain ⟨t, rfl⟩ := ry
  obtain ⟨ox, od, J, _⟩ := plain_at I ha
  exact inplace_own I.kIn J ip.m2 ip.h1 ip.h2 (bin1_T (T := "int") I.kIn J rfl hc o.at_ o.fn hrr hp h1 h2 hsub (run_at F ⟨hr, rfl⟩ hb hx I v2i q fun v u H' s' I' rv qv => notImpl rv ⟨v, H', I', rv, qv⟩))
end
end OS

namespace OS
open PySem L2 PySem.Spec PyProof.Rows
/-! ### == and != of objects of own classes, the other's class no class above or below -/
section
variable {X : Cx} {CX : CXT} {n : Nat} {f C : Addr} {fd : FuncData} {ps : List Str} {sp : Sp} {E : XK}
/-- an object of the class itself, or of one that is none of its kind -/
def rEqX (K : PySem.W.Frag) (C : Addr) (sp : Sp) (E : XK) (g : Bool → Bool) : R2 := fun x y H Q => ∃ p dx fs b D dy gs, x = .ref p ∧ H p = some (.ins C dx fs) ∧ y = .ref b ∧ H b = some (.ins D dy gs) ∧ (D = C ∨ PySem.W.subIn K (.ref D) (.ref C) = some false) ∧ sp [x, y] H (fun v H' => ∃ k, v = .bl k ∧ Q (.bl (g k)) H') E
theorem eqx_pre {pins : List (Addr × Obj)} {σ : L2.St} {H : Hp} {s : Shared} {b D dy : Addr} {gs : List (Str × V)} (I : Inv X pins σ H s) (hb : H b = some (.ins D dy gs)) (h : D = C ∨ PySem.W.subIn X.K (.ref D) (.ref C) = some false) :
    ∃ tb, PySem.W.Looks (model X.prog X.w) s.heap (typeOf (.ref b)) tb ∧ PySem.W.notFirst X.K C tb = true := by
  obtain ⟨ox, od, J, hd⟩ := plain_at I hb
  refine ⟨.ref D, J.type, ?_⟩
  rcases h with rfl | h
  · unfold PySem.W.notFirst; simp
  · unfold PySem.W.notFirst; rw [h]; simp
theorem op_eqX (F : FnOk X.prog X.w X.K X.mg X.base CX n f fd ps sp) (O : EqF X.K C f) (hu : X.A.units < cLine) (hr : Room n X.A) (hb : Binds X.K fd ps []) (hx : Passes CX X E) : OpR X (compareOp .Eq) (rEqX X.K C sp E id) := by
  intro pins s σ H x y v u Q I rx ry h
  obtain ⟨p, dx, fs, b, D, dy, gs, rfl, hp, rfl, hB, hD, q⟩ := h
  cases rx
  cases ry
  obtain ⟨ox, od, J, hd⟩ := plain_at I hp
  obtain ⟨tb, hl, hn⟩ := eqx_pre I hB hD
  obtain ⟨m, hF⟩ := I.fr
  have rv : Vals [V.ref p, V.ref b] [Value.ref p, Value.ref b] := .cons rfl (.cons rfl .nil)
  show wpAny _ _ (richCompare .Eq (.ref p) (.ref b)) _ _ _
  refine PySem.W.cmp_K hu hF I.ok.mod.kin J hl hn O.own.at_ O.own.fn (run_at F ⟨hr, rfl⟩ hb hx I rv q fun v u H' s' I' rv qv => ?_)
  obtain ⟨k, rfl, qv⟩ := qv
  cases rv
  exact ⟨.bl (id k), H', I', rfl, qv⟩
theorem op_neX (F : FnOk X.prog X.w X.K X.mg X.base CX n f fd ps sp) (O : EqF X.K C f) (hu : X.A.units + 1 < cLine) (hr : Room (n + 1) X.A) (hb : Binds X.K fd ps []) (hx : Passes CX X E) : OpR X (compareOp .NotEq) (rEqX X.K C sp E not) := by
  intro pins s σ H x y v u Q I rx ry h
  obtain ⟨p, dx, fs, b, D, dy, gs, rfl, hp, rfl, hB, hD, q⟩ := h
  cases rx
  cases ry
  obtain ⟨ox, od, J, hd⟩ := plain_at I hp
  obtain ⟨tb, hl, hn⟩ := eqx_pre I hB hD
  obtain ⟨m, hF⟩ := I.fr
  have rv : Vals [V.ref p, V.ref b] [Value.ref p, Value.ref b] := .cons rfl (.cons rfl .nil)
  show wpAny _ _ (richCompare .NotEq (.ref p) (.ref b)) _ _ _
  refine ne_own hu hF I.ok.mod.kin J hl hn O.ne O.own.at_ O.own.fn O.ob (run_at F (Sub.in1 (n := n) ⟨hr, rfl⟩) hb hx I rv q fun v u H' s' I' rv qv => ?_)
  obtain ⟨k, rfl, qv⟩ := qv
  cases rv
  exact ⟨k, rfl, .bl (!k), H', I', rfl, qv⟩
end
end OS

/-! ### operators of own classes, over data -/
namespace OZ
open PySem L2 PySem.Spec PyProof.Rows
structure SpecG (M : Mode) (B : Bd) (k : Nat) (C : Addr) (mt : Str) (n : Nat) (F : FD) : Prop where
  ex : ∃ g : Addr, OS.Own B.K C mt g ∧ FnG M B k g n F
theorem SpecG.lift {M : Mode} {B : Bd} {k n : Nat} {C : Addr} {mt : Str} {F : FD} (c : SpecG pureM B k C mt n F) : SpecG M B k C mt n (FP F) := by
  obtain ⟨g, h1, h2⟩ := c.ex
  exact ⟨g, h1, h2.lift⟩
section
variable {M : Mode} {X : Cx} {KE : Kx} {P : Da → Nat → Prop} {m k j n : Nat} {C D f : Addr} {F : FD} {mt : Str} {fs gs : List (Str × Da)} {ds : List Da} {B : Bd} {N : List Str} {sc : Scope}
theorem run_atD {A : Around} (c : FnG M (bdOf X) k f n F) (sb : Sub X j A) (hk : k ≤ j) (hl : ds.length = n) {P' : Da → Nat → Prop} (hF : F ds P' KE m) {G H : Hp} {σ : L2.St} {W : WX} {pins : List (Addr × Obj)} {s : Shared} {vs : List V} {us : List Value} {R : Value → Shared → Prop} (ok : Ok M G H G H m) (wi : Wis M X KE G H σ W)
    (r : Reps X.K G vs ds) (I : Inv X pins σ H s) (rv : Vals vs us) (kk : ∀ v d m' G' H' u s', P' d m' → Ok M G H G' H' m' → Rep X.K G' v d → Inv X pins σ H' s' → RelV v u → R u s') : wpAny (model X.prog X.w) A (call (.ref f) us) R X.xe s := by
  obtain ⟨CX, fd, ps, Fo, hb, hc, hn⟩ := c.ex
  have e0 : Env0 X.prog X.w X.K X.mg X.base A X.stack s H := by
    have e := I.env0
    exact ⟨by rw [sb.fr]; exact e.frames, e.mod, e.bs, e.bsz, e.funs, e.frf, e.hok, e.bare⟩
  have sp : spD M X.K n F vs H (fun v H' => ∃ d m' G', P' d m' ∧ Ok M G H G' H' m' ∧ Rep X.K G' v d) (WE W σ) := ⟨r.length.trans hl, G, m, ds, P', KE, ok, r, hF, fun v d m' G' H' p o rr => ⟨d, m', G', p, o, rr⟩, fun C fs d m' G' H' => wi.ex C fs d m' G' H'⟩
  refine wpAny_call (codeAny_mono (Fo.run A X.stack s H ⟨us, []⟩ us vs _ (WE W σ) (sb.room.mono hk) e0 (by
    have := hb s us I.kIn (by rw [List.append_nil, ← rv.length, r.length, hl]; exact hn)
    simpa using this) rv sp) fun r' s' hq => ?_)
  cases r' with
  | error e => exact passes_any wi.tk hc σ pins H s e s' I hq
  | ok fl =>
    cases fl with
    | ret u =>
      obtain ⟨v, H', I', rv, d, m', G', p, o, rr⟩ := I.after hq
      exact kk v d m' G' H' u s' p o rr I' rv
    | next => exact False.elim hq
    | brk => exact False.elim hq
    | cont => exact False.elim hq
/-- x op y, both of the class -/
theorem opd_own2 {op : Operator} (cx : Ctx X N sc B) (c : SpecG M B k C (PySem.dunder op.info.2) 2 F) (hc : PySem.W.selfFirst X.K C = true) (hr : Room j X.A) (h : F [.obj C fs, .obj C gs] P KE m) (hk : k ≤ j := by with_unfolding_all decide) : OpD M X KE (binaryOp op) (.obj C fs) (.obj C gs) P m := by
  have eb := cx.b
  subst eb
  obtain ⟨g, o, fg⟩ := c.ex
  intro G H σ W Q x y ok wi r1 r2 po pins s v u I rx ry
  have r10 := r1; have r20 := r2
  obtain ⟨a, dx, vs, rfl, ea, _⟩ := r1.obj_inv
  obtain ⟨b, dy, ws, rfl, eb, _⟩ := r2.obj_inv
  cases rx; cases ry
  obtain ⟨mA, J, _⟩ := ins_get I.hok (ok.sub _ _ ea)
  obtain ⟨mB, J', _⟩ := ins_get I.hok (ok.sub _ _ eb)
  obtain ⟨od, J, _⟩ := J.look
  obtain ⟨od', J', _⟩ := J'.look
  obtain ⟨mm, hF⟩ := I.fr
  exact PySem.W.binop_K hF I.ok.mod.kin J J'.type hc o.at_ o.fn (run_atD fg ⟨hr, rfl⟩ hk rfl h ok wi (.cons r10 (.cons r20 .nil)) I OS.v2 fun v d m' G' H' u s' p o2 rr I' rv => OS.notImpl rv ⟨v, H', I', rv, po v d m' G' H' p o2 rr⟩)
/-- len(o) -/
theorem cd_lenO (cx : Ctx X N sc B) (c : SpecG M B k C "__len__" 1 F) (hr : Room j X.A) (h : F [.obj C fs] (fun d m1 => ∃ i : Int, d = .int i ∧ (0 ≤ i ∧ i < 2 ^ 63) ∧ P (.int i) m1) KE m) (hk : k + 1 ≤ j := by with_unfolding_all decide) : CallD M X KE (.builtin "len") [.obj C fs] P m := by
  have eb := cx.b
  subst eb
  obtain ⟨g, o, fg⟩ := c.ex
  intro G H σ W Q vs ok wi r po pins s us I rv
  obtain ⟨x, rfl, r1⟩ := reps1 r
  have r10 := r1
  obtain ⟨a, dx, ws, rfl, ea, _⟩ := r1.obj_inv
  obtain ⟨u, rfl, ru⟩ := vals1 rv
  cases ru
  obtain ⟨mA, J, _⟩ := ins_get I.hok (ok.sub _ _ ea)
  obtain ⟨od, J, _⟩ := J.look
  obtain ⟨mm, hF⟩ := I.fr
  refine PySem.W.len_K hF I.ok.mod.kin J o.at_ o.fn (run_atD fg (Sub.in1 (n := k) ⟨hr.mono hk, rfl⟩) (Nat.le_refl _) rfl h ok wi (.cons r10 .nil) I OS.v1 fun v d m' G' H' u s' p o2 rr I' rv => ?_)
  obtain ⟨i, rfl, hi, p⟩ := p
  cases rr.int_inv
  obtain ⟨t, rfl⟩ := rv
  exact ⟨hi, .int i, H', I'.tok _, ⟨_, rfl⟩, po _ _ m' G' H' p o2 (.int i)⟩
/-- k in o -/
theorem opd_inO {x : Da} (cx : Ctx X N sc B) (c : SpecG M B k C "__contains__" 2 F) (hr : Room j X.A) (h : F [.obj C fs, x] (fun d m1 => ∃ b, d = .bl b ∧ P (.bl b) m1) KE m) (hk : k ≤ j := by with_unfolding_all decide) : OpD M X KE (compareOp .In) x (.obj C fs) P m := by
  have eb := cx.b
  subst eb
  obtain ⟨g, o, fg⟩ := c.ex
  intro G H σ W Q y z ok wi r1 r2 po pins s v u I rx ry
  have r20 := r2
  obtain ⟨a, dx, ws, rfl, ea, _⟩ := r2.obj_inv
  cases ry
  obtain ⟨mA, J, _⟩ := ins_get I.hok (ok.sub _ _ ea)
  obtain ⟨od, J, _⟩ := J.look
  obtain ⟨mm, hF⟩ := I.fr
  refine PySem.W.in_K hF I.ok.mod.kin J o.at_ o.fn (run_atD fg ⟨hr, rfl⟩ hk rfl h ok wi (.cons r20 (.cons r1 .nil)) I (.cons rfl (.cons rx .nil)) fun v d m' G' H' u s' p o2 rr I' rv => ?_)
  obtain ⟨b, rfl, p⟩ := p
  cases rr.bl_inv
  cases rv
  exact wpAny_truthy_bool ⟨.bl b, H', I', rfl, po _ _ m' G' H' p o2 (.bl b)⟩
/-- o == p, o != p -/
theorem opd_eqO (cx : Ctx X N sc B) (c : FnG M B k f 2 F) (O : OS.EqF X.K C f) (hD : D = C ∨ PySem.W.subIn X.K (.ref D) (.ref C) = some false) (hr : Room j X.A) (hu : X.A.units < cLine) (h : F [.obj C fs, .obj D gs] (fun d m1 => ∃ b, d = .bl b ∧ P (.bl b) m1) KE m) (hk : k ≤ j := by with_unfolding_all decide) : OpD M X KE (compareOp .Eq) (.obj C fs) (.obj D gs) P m := by
  have eb := cx.b
  subst eb
  intro G H σ W Q x y ok wi r1 r2 po pins s v u I rx ry
  have r10 := r1; have r20 := r2
  obtain ⟨a, dx, vs, rfl, ea, _⟩ := r1.obj_inv
  obtain ⟨b, dy, ws, rfl, eb, _⟩ := r2.obj_inv
  cases rx; cases ry
  obtain ⟨ox, od, J, hd⟩ := OS.plain_at I (ok.sub _ _ ea)
  obtain ⟨tb, hl, hn⟩ := OS.eqx_pre I (ok.sub _ _ eb) hD
  obtain ⟨mm, hF⟩ := I.fr
  show wpAny _ _ (richCompare .Eq (.ref a) (.ref b)) _ _ _
  refine PySem.W.cmp_K hu hF I.ok.mod.kin J hl hn O.own.at_ O.own.fn (run_atD c ⟨hr, rfl⟩ hk rfl h ok wi (.cons r10 (.cons r20 .nil)) I OS.v2 fun v d m' G' H' u s' p o2 rr I' rv => ?_)
  obtain ⟨b, rfl, p⟩ := p
  cases rr.bl_inv
  cases rv
  exact ⟨.bl b, H', I', rfl, po _ _ m' G' H' p o2 (.bl b)⟩
theorem opd_neO (cx : Ctx X N sc B) (c : FnG M B k f 2 F) (O : OS.EqF X.K C f) (hD : D = C ∨ PySem.W.subIn X.K (.ref D) (.ref C) = some false) (hr : Room j X.A) (hu : X.A.units + 1 < cLine) (h : F [.obj C fs, .obj D gs] (fun d m1 => ∃ b, d = .bl b ∧ P (.bl (!b)) m1) KE m) (hk : k + 1 ≤ j := by with_unfolding_all decide) : OpD M X KE (compareOp .NotEq) (.obj C fs) (.obj D gs) P m := by
  have eb := cx.b
  subst eb
  intro G H σ W Q x y ok wi r1 r2 po pins s v u I rx ry
  have r10 := r1; have r20 := r2
  obtain ⟨a, dx, vs, rfl, ea, _⟩ := r1.obj_inv
  obtain ⟨b, dy, ws, rfl, eb, _⟩ := r2.obj_inv
  cases rx; cases ry
  obtain ⟨ox, od, J, hd⟩ := OS.plain_at I (ok.sub _ _ ea)
  obtain ⟨tb, hl, hn⟩ := OS.eqx_pre I (ok.sub _ _ eb) hD
  obtain ⟨mm, hF⟩ := I.fr
  show wpAny _ _ (richCompare .NotEq (.ref a) (.ref b)) _ _ _
  refine OS.ne_own hu hF I.ok.mod.kin J hl hn O.ne O.own.at_ O.own.fn O.ob (run_atD c (Sub.in1 (n := k) ⟨hr.mono hk, rfl⟩) (Nat.le_refl _) rfl h ok wi (.cons r10 (.cons r20 .nil)) I OS.v2 fun v d m' G' H' u s' p o2 rr I' rv => ?_)
  obtain ⟨b, rfl, p⟩ := p
  cases rr.bl_inv
  cases rv
  exact ⟨b, rfl, .bl (!b), H', I', rfl, po _ _ m' G' H' p o2 (.bl (!b))⟩
/-- i.bit_length() -/
theorem evd_bits {o : Expr} {sl : List Sl} {apos pos : Pos} (h : EvD M X KE o sl (fun d m1 => ∃ i : Int, d = .int i ∧ P (.int ((Builtin.Int.intBits i : Nat) : Int)) m1) m) (hbase : attributeBase o "bit_length" X.env (eval o X.env) = eval o X.env := by with_unfolding_all rfl) (hline : (apos.endLine == pos.line) = true := by with_unfolding_all rfl) : EvD M X KE (.Call (.Attribute o "bit_length" apos) [] [] pos) sl P m := fun G0 H0 G H σ W Q ok so wi po =>
  wpE.of (pe_bits pe_wp hbase hline) (h G0 H0 G H σ W _ ok so wi fun v d m' G' H' q o r => by
    obtain ⟨i, rfl, q⟩ := q
    exact ⟨i, r.int_inv, po _ _ m' G' H' q o (.int _)⟩)
end
end OZ

/-! ### defs with defaults; the law -/
namespace OZ
open PySem L2 PySem.Spec PyProof.Rows
section
variable {B : Bd} {M : Mode} {x qual : Str} {st : Stmt} {f : Addr} {fd : FuncData} {N ps : List Str} {k n : Nat} {F : FD} {dvs : List V} {kws : List (Str × V)}
theorem fnD_ok (Fn : FunD B.K x qual (defArgs st) (defBody st) (defScope st) dvs kws f fd) (S : FnScope N ps (defScope st)) (hn : n = ps.length)
    (h : ∀ (X : Cx) (ds : List Da) (KR : Da → Nat → Prop) (KE : Kx) (m : Nat), (∃ cdv A outer s H E, X = cxOf (L2.CX B.P B.w) B.P B.w B.K B.mg B.base N qual (defScope st) f cdv A outer s H E) → Ctx X N (defScope st) B → Room k X.A → ds.length = n → F ds KR KE m →
      StD M X (fun _ => KE) (defBody st) (startD N ds) { nx := fun _ m' => KR .non m', rt := KR } m) : FnOk B.P B.w B.K B.mg B.base (L2.CX B.P B.w) (k + 1) f fd ps (spD M B.K n F) := by
  refine Fn.ok S (fun vs H Q E q => q.1.trans hn) (fun cdv A outer s H vs Q E hr q => ?_)
  obtain ⟨hl, G, m, ds, KR, KE, ok, r, hF, po, px⟩ := q
  refine ⟨_, pss_wp, ?_⟩
  refine h (cxOf (L2.CX B.P B.w) B.P B.w B.K B.mg B.base N qual (defScope st) f cdv A outer s H E) ds KR KE m ⟨cdv, A, outer, s, H, E, rfl⟩ ⟨rfl, rfl, S.nd, rfl⟩ hr (r.length.symm.trans hl) hF G H G H (L2.start N vs) (fun cls d _ H => E cls d H) _ ok (sok_start r) ⟨takes_of rfl rfl rfl rfl, fun C fs d σ sl m' G' H' q o _ x => px C fs d m' G' H' q o x⟩ ⟨?_, ?_, ?_, ?_, ?_⟩
  · exact fun σ sl m' G' H' q o _ => po .non .non m' G' H' q o .non
  · exact fun v d m' G' H' q o rr => po v d m' G' H' q o rr
  · exact fun _ _ _ _ _ z => z.elim
  · exact fun _ _ _ _ _ z => z.elim
  · exact fun _ _ _ _ _ z => z.elim
theorem FnK.dflt {CX : CXT} {vs0 : List V} {us0 : List Value} {ds0 : List Da} (Fo : FnOk B.P B.w B.K B.mg B.base CX k f fd ps (spD M B.K ps.length F)) (hc : CX = CX0 ∨ CX = L2.CX B.P B.w) (hb : Binds B.K fd ps us0) (hv : Vals vs0 us0) (hr : ∀ G, Reps B.K G vs0 ds0) (hn : n + ds0.length = ps.length) : FnK M B k f n [] (fun ds _ => ds ++ ds0) F := by
  have l0 : us0.length = ds0.length := by rw [← hv.length, (hr (fun _ => none)).length]
  refine ⟨CX, fd, ps, fun us _ => us ++ us0, fun vs _ => vs ++ vs0, Fo, ⟨fun s us ws Kin l1 l2 => hb s us Kin (by rw [List.length_append, l1, l0]; exact hn), fun a _ => a.append hv⟩, fun G vs zs ds es r1 r2 h1 _ => ⟨r1.append (hr G), by rw [List.length_append, h1]; exact hn⟩, hc⟩
theorem FnK.kw {CX : CXT} {ks : List Str} {g : List Value → List Value → List Value} {gV : List V → List V → List V} {gD : List Da → List Da → List Da} (Fo : FnOk B.P B.w B.K B.mg B.base CX k f fd ps (spD M B.K ps.length F)) (hc : CX = CX0 ∨ CX = L2.CX B.P B.w) (hb : KBn B.K fd ps n ks g gV)
    (hr : ∀ (G : Hp) (vs zs : List V) (ds es : List Da), Reps B.K G vs ds → Reps B.K G zs es → ds.length = n → es.length = ks.length → Reps B.K G (gV vs zs) (gD ds es) ∧ (gD ds es).length = ps.length) : FnK M B k f n ks gD F := ⟨CX, fd, ps, g, gV, Fo, hb, hr, hc⟩
end
def spLaw (K : PySem.W.Frag) : Sp := fun vs H Q _ => ∃ (a : Addr) (ns : List Int), vs = [.ref a] ∧ SqL K H a (ns.map V.int) ∧ ns.length ≤ 63 ∧ ∀ H', Q (.bl true) H'
end OZ
namespace OZ
open PySem L2 PySem.Spec PyProof.Rows
theorem calld_make {M : Mode} {X : Cx} {KE : Kx} {P : Da → Nat → Prop} {m k j n : Nat} {C : Addr} {gD : List Da → List Da → List Da} {F : FI} {ds : List Da} {N : List Str} {sc : Scope} {B : Bd} (cx : Ctx X N sc B) (c : MakeG M B k C n [] gD F) (hr : Room j X.A) (h1 : ds.length = n) (h : F (gD ds []) (fun fs m1 => P (.obj C fs) m1) KE m) (hk : k + 1 ≤ j := by with_unfolding_all decide) : CallD M X KE (.ref C) ds P m := by
  have eb := cx.b
  subst eb
  exact (c.call hr h1 rfl h hk).toK.d
theorem FnG.mk' {B : Bd} {M : Mode} {CX : CXT} {k n : Nat} {f : Addr} {fd : FuncData} {ps : List Str} {F : FD} (Fo : FnOk B.P B.w B.K B.mg B.base CX k f fd ps (spD M B.K n F)) (hb : Binds B.K fd ps []) (hc : CX = CX0 ∨ CX = L2.CX B.P B.w) (hn : n = ps.length) : FnG M B k f n F := ⟨CX, fd, ps, Fo, hb, hc, hn⟩
end OZ

/-! ### comprehensions and loops by an invariant -/
namespace OZ
open PySem L2 PySem.Spec PyProof.Rows
theorem compd_go {step : Da → (Option Da → Nat → Prop) → Nat → Prop} (mono : ∀ d k k' m, (∀ o m', k o m' → k' o m') → step d k m → step d k' m) (I : Nat → List Da → Nat → Prop) : ∀ (ds : List Da) (i : Nat) (acc : List Da) (m : Nat) (K : List Da → Nat → Prop), I i acc m →
    (∀ j d acc m, ds[j]? = some d → I (i + j) acc m → step d (fun o m1 => I (i + j + 1) (acc ++ o.toList) m1) m) → (∀ r m, I (i + ds.length) (acc ++ r) m → K r m) → CompD step ds K m
  | [], i, acc, m, K, h0, _, k => k [] m (by simpa using h0)
  | d :: ds, i, acc, m, K, h0, h, k => by
    refine mono d _ _ m (fun o m1 h1 => ?_) (h 0 d acc m rfl h0)
    refine compd_go mono I ds (i + 1) (acc ++ o.toList) m1 _ h1 (fun j d acc m e h2 => ?_) fun r m2 h2 => ?_
    · have := h (j + 1) d acc m (by simpa using e) (by rw [show i + (j + 1) = i + 1 + j by omega]; exact h2)
      rw [show i + 1 + j + 1 = i + (j + 1) + 1 by omega]
      exact this
    · refine k _ m2 ?_
      rw [← List.append_assoc, show i + (d :: ds).length = i + 1 + ds.length by simp; omega]
      exact h2
theorem compd_inv {step : Da → (Option Da → Nat → Prop) → Nat → Prop} (mono : ∀ d k k' m, (∀ o m', k o m' → k' o m') → step d k m → step d k' m) (I : Nat → List Da → Nat → Prop) {ds : List Da} {m : Nat} {K : List Da → Nat → Prop} (h0 : I 0 [] m)
    (h : ∀ j d acc m, ds[j]? = some d → I j acc m → step d (fun o m1 => I (j + 1) (acc ++ o.toList) m1) m) (k : ∀ r m, I ds.length r m → K r m) : CompD step ds K m :=
  compd_go mono I ds 0 [] m K h0 (fun j d acc m e h1 => by rw [Nat.zero_add] at h1 ⊢; exact h j d acc m e h1) fun r m h1 => k r m (by simpa using h1)
section
variable {M : Mode} {X : Cx} {scope : Scope} {N : List Str} {sc : Scope} {B : Bd} {j : Nat} {vs : List Nat} {tg elt : Expr} {ifs : List Expr} {sl : List Sl} {m : Nat} {x : Str} {p : Pos}
theorem lcstep_mono : ∀ d k k' m, (∀ o m', k o m' → k' o m') → lcStep M X scope N sc B j vs tg ifs elt sl d k m → lcStep M X scope N sc B j vs tg ifs elt sl d k' m := by
  rintro d k k' m hk ⟨sl', is, h1, h2, h3⟩
  refine ⟨sl', is, h1, h2, ?_⟩
  have one : ∀ b m1, (if b = true then AllX X scope N sc B j fun X' => EvD M X' K0 elt sl' (fun y m2 => k (some y) m2) m1 else k none m1) → if b = true then AllX X scope N sc B j fun X' => EvD M X' K0 elt sl' (fun y m2 => k' (some y) m2) m1 else k' none m1 := by
    intro b m1 h
    cases b with
    | true => rw [if_pos rfl] at h ⊢; exact fun s H C cl fp cx hr => evd_imp (h s H C cl fp cx hr) fun y m' q => hk _ _ q
    | false => rw [if_neg Bool.false_ne_true] at h ⊢; exact hk _ _ h
  match ifs, h3 with
  | [], h3 => exact one true m h3
  | [c], h3 => exact fun s H C cl fp cx hr => evt_imp (h3 s H C cl fp cx hr) fun b m' q => one b m' q
  | _ :: _ :: _, h3 => exact h3.elim
/-- [elt for x in ..] -/
theorem lcstep_name {i : Nat} {d : Da} {k : Option Da → Nat → Prop} (hi : EnvSet N sl x i (.v d) (sl.set i (.v d))) (hv : i ∈ vs) (h : AllX X scope N sc B j fun X' => EvD M X' K0 elt (sl.set i (.v d)) (fun y m2 => k (some y) m2) m) (hl : (relabelS scope sc).names.lookup x = some .local) : lcStep M X scope N sc B j vs (.Name x p) [] elt sl d k m :=
  ⟨_, [i], fun s H C cl fp cx hr => .name hi (.inl hl) (.inr (by rw [cx.s]; exact hl)), fun a ha => (by rw [List.mem_singleton.mp ha]; exact hv), h⟩
/-- .. if c -/
theorem lcstep_nameIf {c : Expr} {i : Nat} {d : Da} {k : Option Da → Nat → Prop} (hi : EnvSet N sl x i (.v d) (sl.set i (.v d))) (hv : i ∈ vs)
    (h : AllX X scope N sc B j fun X' => EvT M X' K0 c (sl.set i (.v d)) (fun b m1 => if b = true then AllX X scope N sc B j fun X' => EvD M X' K0 elt (sl.set i (.v d)) (fun y m2 => k (some y) m2) m1 else k none m1) m) (hl : (relabelS scope sc).names.lookup x = some .local) : lcStep M X scope N sc B j vs (.Name x p) [c] elt sl d k m :=
  ⟨_, [i], fun s H C cl fp cx hr => .name hi (.inl hl) (.inr (by rw [cx.s]; exact hl)), fun a ha => (by rw [List.mem_singleton.mp ha]; exact hv), h⟩
theorem EnvSet.of : ∀ {N : List Str} {sl : List Sl} {x : Str} {i : Nat} {s : Sl}, IdxAt N x i → sl.length = N.length → EnvSet N sl x i s (sl.set i s)
  | _ :: _, _ :: _, _, _, _, .here, _ => .here
  | _ :: _, _ :: _, _, _, _, .there h, e => .there (EnvSet.of h (by simpa using e))
  | _ :: _, [], _, _, _, _, e => by simp at e
/-- the comprehension [elt for x in ds], elt the value f of each, no drawing -/
theorem compd_map {i : Nat} (f : Da → Da) {ds : List Da} {K : List Da → Nat → Prop} (hi : IdxAt N x i) (hN : sl.length = N.length) (hv : i ∈ vs) (h : ∀ d ∈ ds, ∀ (P : Da → Nat → Prop), P (f d) m → AllX X scope N sc B j fun X' => EvD M X' K0 elt (sl.set i (.v d)) P m) (k : K (ds.map f) m) (hl : (relabelS scope sc).names.lookup x = some .local := by with_unfolding_all rfl) :
    CompD (lcStep M X scope N sc B j vs (.Name x p) [] elt sl) ds K m := by
  refine compd_inv lcstep_mono (fun n acc m' => m' = m ∧ acc = (ds.take n).map f) ⟨rfl, rfl⟩ ?_ fun r m' ⟨e1, e2⟩ => by rw [e1, e2, List.take_length]; exact k
  rintro n d acc m' e ⟨rfl, rfl⟩
  refine lcstep_name (.of hi hN) hv (h d (List.mem_of_getElem? e) _ ⟨rfl, ?_⟩) hl
  rw [List.take_succ, e]
  simp
/-- .. by an invariant -/
theorem compd_all {i : Nat} (I : Nat → List Da → Nat → Prop) {ds : List Da} {K : List Da → Nat → Prop} (hi : IdxAt N x i) (hN : sl.length = N.length) (hv : i ∈ vs) (h0 : I 0 [] m) (h : ∀ n d acc m, ds[n]? = some d → I n acc m → AllX X scope N sc B j fun X' => EvD M X' K0 elt (sl.set i (.v d)) (fun y m1 => I (n + 1) (acc ++ [y]) m1) m) (k : ∀ r m, I ds.length r m → K r m) (hl : (relabelS scope sc).names.lookup x = some .local := by with_unfolding_all rfl) :
    CompD (lcStep M X scope N sc B j vs (.Name x p) [] elt sl) ds K m := compd_inv lcstep_mono I h0 (fun n d acc m e q => lcstep_name (.of hi hN) hv (h n d acc m e q) hl) k
end
section
variable {body : Da → List Sl → Kn → Nat → Prop} {D : Kn}
theorem ford_go (mono : ∀ d sl D D' m, (∀ s n, D.nx s n → D'.nx s n) → (∀ s n, D.ct s n → D'.ct s n) → D.rt = D'.rt → D.bk = D'.bk → D.rn = D'.rn → body d sl D m → body d sl D' m) (I : Nat → List Sl → Nat → Prop) : ∀ (ds : List Da) (i : Nat) (sl : List Sl) (m : Nat), I i sl m →
    (∀ j d sl m, ds[j]? = some d → I (i + j) sl m → body d sl { D with nx := I (i + j + 1), ct := I (i + j + 1), bk := D.nx } m) → (∀ sl m, I (i + ds.length) sl m → D.nx sl m) → ForD body D ds sl m
  | [], i, sl, m, h0, _, k => k sl m h0
  | d :: ds, i, sl, m, h0, h, k => by
    have nx : ∀ s n, I (i + 1) s n → ForD body D ds s n := fun s n q => ford_go mono I ds (i + 1) s n q (fun j d sl m e h2 => by
      have := h (j + 1) d sl m (by simpa using e) (by rw [show i + (j + 1) = i + 1 + j by omega]; exact h2)
      rw [show i + 1 + j + 1 = i + (j + 1) + 1 by omega]
      exact this) fun sl m h2 => k sl m (by rw [show i + (d :: ds).length = i + 1 + ds.length by simp; omega]; exact h2)
    exact mono d sl { D with nx := I (i + 0 + 1), ct := I (i + 0 + 1), bk := D.nx } _ m nx nx rfl rfl rfl (h 0 d sl m rfl h0)
theorem ford_inv (mono : ∀ d sl D D' m, (∀ s n, D.nx s n → D'.nx s n) → (∀ s n, D.ct s n → D'.ct s n) → D.rt = D'.rt → D.bk = D'.bk → D.rn = D'.rn → body d sl D m → body d sl D' m) (I : Nat → List Sl → Nat → Prop) {ds : List Da} {sl : List Sl} {m : Nat} (h0 : I 0 sl m)
    (h : ∀ j d sl m, ds[j]? = some d → I j sl m → body d sl { D with nx := I (j + 1), ct := I (j + 1), bk := D.nx } m) (k : ∀ sl m, I ds.length sl m → D.nx sl m) : ForD body D ds sl m :=
  ford_go mono I ds 0 sl m h0 (fun j d sl m e h1 => by rw [Nat.zero_add] at h1 ⊢; exact h j d sl m e h1) fun sl m h1 => k sl m (by simpa using h1)
theorem for_mono {M : Mode} {X : Cx} {KE : Ks} {N : List Str} {sc : Scope} {tg : Expr} {st : List Stmt} : ∀ d sl (D D' : Kn) m, (∀ s n, D.nx s n → D'.nx s n) → (∀ s n, D.ct s n → D'.ct s n) → D.rt = D'.rt → D.bk = D'.bk → D.rn = D'.rn →
    (∃ sl' is, Tg X N sc tg d sl sl' is ∧ StD M X KE st sl' D m) → ∃ sl' is, Tg X N sc tg d sl sl' is ∧ StD M X KE st sl' D' m := fun d sl D D' m h1 h2 h3 h4 h5 ⟨sl', is, t, s⟩ =>
  ⟨sl', is, t, std_imp s h1 (fun _ _ q => h3 ▸ q) (fun _ _ q => h4 ▸ q) h2 (fun _ _ q => h5 ▸ q)⟩
/-- for x in ds, by an invariant -/
theorem for_inv {M : Mode} {X : Cx} {KE : Ks} {N : List Str} {sc : Scope} {x : Str} {p : Pos} {st : List Stmt} {i : Nat} {B : Bd} (cx : Ctx X N sc B) (I : Nat → List Sl → Nat → Prop) {ds : List Da} {sl : List Sl} {m : Nat} (hi : IdxAt N x i) (h0 : I 0 sl m) (hN : ∀ n sl m, I n sl m → sl.length = N.length)
    (h : ∀ j d sl m, ds[j]? = some d → I j sl m → StD M X KE st (sl.set i (.v d)) { D with nx := I (j + 1), ct := I (j + 1), bk := D.nx } m) (k : ∀ sl m, I ds.length sl m → D.nx sl m) (hl : Loc sc x := by with_unfolding_all first | exact Or.inl rfl | exact Or.inr rfl) (hf : X.fn x = true ∨ X.env.scope.names.lookup x = some .local := by with_unfolding_all first | exact Or.inl rfl | exact Or.inr rfl) : ForD (fun d sl D m => ∃ sl' is, Tg X N sc (.Name x p) d sl sl' is ∧ StD M X KE st sl' D m) D ds sl m :=
  ford_inv for_mono I h0 (fun j d sl m e q => ⟨_, [i], .name (.of hi (hN j sl m q)) hl hf, h j d sl m e q⟩) k
end
end OZ
namespace OZ
open PySem L2 PySem.Spec PyProof.Rows
theorem evd_fldB {M : Mode} {X : Cx} {KE : Kx} {e : Expr} {sl : List Sl} {P : Da → Nat → Prop} {m : Nat} {pos : Pos} {f : Str} {N : List Str} {sc : Scope} {B : Bd} (cx : Ctx X N sc B) (h : EvD M X KE e sl (fun d m1 => ∃ C fs v, d = .obj C fs ∧ Cls B.K C ∧ NoAttr B.K C f ∧ fs.lookup f = some v ∧ P v m1) m) (hb : attributeBase e f X.env (eval e X.env) = eval e X.env := by with_unfolding_all rfl) : EvD M X KE (.Attribute e f pos) sl P m := by
  have eb := cx.b
  subst eb
  exact evd_fld h hb
end OZ
namespace OZ
open PySem L2 PySem.Spec PyProof.Rows
theorem tryk_hit {M : Mode} {X : Cx} {KS : Ks} {C C' : Addr} {i : Nat} {suite : List Stmt} {D : Kn} {sl : List Sl} {fs : List (Str × Da)} {m : Nat} (hb : PySem.W.exmOne X.K (.ref C') (.ref C) = some true) (hne : fs.isEmpty = false)
    (h : ∀ a oe dd pn, SuX (X.suite a ((a, oe) :: pn)) C' a dd → StD M (X.suite a ((a, oe) :: pn)) (fun _ => K0) suite (sl.set i (.v (.exc a dd fs))) { D with nx := fun sl' m' => D.nx (sl'.set i .un) m', bk := fun sl' m' => D.bk (sl'.set i .un) m', ct := fun sl' m' => D.ct (sl'.set i .un) m' } m) : TryK M X KS C i suite D sl C' fs m :=
  ⟨true, hb, fun _ => ⟨h, fun e => (by rw [e] at hne; exact nomatch hne)⟩, fun z => nomatch z⟩
theorem tryk_pass {M : Mode} {X : Cx} {KS : Ks} {C C' : Addr} {i : Nat} {suite : List Stmt} {D : Kn} {sl : List Sl} {fs : List (Str × Da)} {m : Nat} (hb : PySem.W.exmOne X.K (.ref C') (.ref C) = some false) (h : KS sl C' fs m) : TryK M X KS C i suite D sl C' fs m :=
  ⟨false, hb, (fun z => nomatch z), fun _ => h⟩
structure ErrX (B : Bd) (C : Addr) (n : Str) : Prop where
  xf : XfC B.K C
  no : PySem.W.findIn B.K (.ref C) n = some none
theorem evd_xfB {M : Mode} {X : Cx} {KE : Kx} {e : Expr} {sl : List Sl} {P : Da → Nat → Prop} {m : Nat} {pos : Pos} {C a dd : Addr} {n : Str} {N : List Str} {sc : Scope} {B : Bd} (cx : Ctx X N sc B) (su : SuX X C a dd) (T : ErrX B C n) (h : EvD M X KE e sl (fun d m1 => ∃ fs v, d = .exc a dd fs ∧ fs.lookup n = some v ∧ P v m1) m) (hb : attributeBase e n X.env (eval e X.env) = eval e X.env := by with_unfolding_all rfl) : EvD M X KE (.Attribute e n pos) sl P m := by
  have eb := cx.b
  subst eb
  exact evd_xf su T.xf T.no h hb
end OZ
namespace OZ
open PySem L2 PySem.Spec PyProof.Rows
/-- try with one clause for the one class that its body may raise; what stands at the clause -/
theorem st1_tryI {M : Mode} {X : Cx} {KS : Ks} {sl : List Sl} {D : Kn} {m : Nat} {pos : Pos} {x : Str} {C : Addr} {N : List Str} {sc : Scope} {B : Bd} {i : Nat} {nm : Str} {np hpos : Pos} {body suite : List Stmt} {b₀ : Stmt} (I : List Sl → List (Str × Da) → Nat → Prop) (cx : Ctx X N sc B) (hm : B.mg x = some (.ref C)) (hi : IdxAt N nm i) (te : PySem.W.exmOne B.K (.ref C) (.ref C) = some true)
    (h : ∀ pn xe, PassesOwn (model X.prog X.w) X.A X.env xe → Ctx (X.tr pn xe) N sc B → StD M (X.tr pn xe) (fun sl' C' fs m' => C' = C ∧ fs.isEmpty = false ∧ I sl' fs m') body sl D m)
    (h2 : ∀ sl' fs m' a oe dd pn, I sl' fs m' → SuX (X.suite a ((a, oe) :: pn)) C a dd → Ctx (X.suite a ((a, oe) :: pn)) N sc B → StD M (X.suite a ((a, oe) :: pn)) (fun _ => K0) (b₀ :: suite) (sl'.set i (.v (.exc a dd fs))) { D with nx := fun sl' m' => D.nx (sl'.set i .un) m', bk := fun sl' m' => D.bk (sl'.set i .un) m', ct := fun sl' m' => D.ct (sl'.set i .un) m' } m')
    (hl : sc.names.lookup nm = some .local := by with_unfolding_all rfl) (hs : X.stack = X.env :: X.outer := by with_unfolding_all rfl) (hf : X.env.frame = some X.env.locals := by with_unfolding_all rfl) (hg : GlS sc x := by with_unfolding_all rfl) (hdb : (x == ("__debug__" : Str)) = false := by with_unfolding_all decide) :
    St1 M X KS (.Try body [.ExceptHandler (some (.Name x np)) (some nm) (b₀ :: suite) hpos] [] [] pos) sl D m := by
  have eb := cx.b
  subst eb
  refine st1_try cx hm hi (fun pn xe ps => ?_) hl hs hf hg hdb
  have := h pn xe ps (ctx_tr cx pn xe)
  intro G0 H0 G H σ W E ok so wi po
  refine this G0 H0 G H σ W E ok so ⟨wi.tk, ?_⟩ po
  rintro C' fs d σ' sl' m' G' H' ⟨rfl, hne, hI⟩ ok' so' xr
  refine wi.ex C' fs d σ' sl' m' G' H' ?_ ok' so' xr
  exact tryk_hit te hne fun a oe dd pn2 su => h2 sl' fs m' a oe dd pn2 hI su (ctx_suite cx a _)
end OZ
namespace OZ
open PySem L2 PySem.Spec PyProof.Rows
/-- where two ways meet -/
theorem zjoin {M : Mode} {X : Cx} {KE : Ks} {sa sb : List Stmt} {sl : List Sl} {D : Kn} {m : Nat} {b : Bool} (Mid : List Sl → Nat → Prop) (h : if b = true then StD M X KE sa sl { D with nx := Mid } m else StD M X KE sb sl { D with nx := Mid } m) (k : ∀ sl' m', Mid sl' m' → D.nx sl' m') : if b = true then StD M X KE sa sl D m else StD M X KE sb sl D m := by
  cases b with
  | true => rw [if_pos rfl] at h ⊢; exact std_imp h k (fun _ _ q => q) (fun _ _ q => q) (fun _ _ q => q) (fun _ _ q => q)
  | false => rw [if_neg Bool.false_ne_true] at h ⊢; exact std_imp h k (fun _ _ q => q) (fun _ _ q => q) (fun _ _ q => q) (fun _ _ q => q)
end OZ
namespace OZ
open PySem L2
theorem PropG.lift {M : Mode} {B : Bd} {k : Nat} {C : Addr} {f : Str} {F : FD} (c : PropG pureM B k C f F) : PropG M B k C f (FP F) := by
  obtain ⟨p, g, fd, ps, h1, h2, Fo, hb⟩ := c.ex
  exact ⟨p, g, fd, ps, h1, h2, Fo.imp fun _ _ _ _ q => spD_pure q, hb⟩
end OZ
namespace OZ
mutual
theorem deq_refl : ∀ d : Da, plD d = true → deq d d = true
  | .non, _ => rfl
  | .bl b, _ => by simp [deq]
  | .int i, _ => by simp [deq]
  | .str s, _ => by simp [deq]
  | .tup ds, h => by simp only [deq]; exact deqs_refl ds (by simpa [plD] using h)
  | .lst ds, h => by simp only [deq]; exact deqs_refl ds (by simpa [plD] using h)
  | .ty _, h => by simp [plD] at h
  | .ref _, h => by simp [plD] at h
  | .dct _, h => by simp [plD] at h
  | .obj _ _, h => by simp [plD] at h
  | .exc _ _ _, h => by simp [plD] at h
theorem deqs_refl : ∀ ds : List Da, plDs ds = true → deqs ds ds = true
  | [], _ => rfl
  | d :: ds, h => by
    simp only [plDs, Bool.and_eq_true] at h
    simp only [deqs, deq_refl d h.1, deqs_refl ds h.2, Bool.and_self]
end
theorem zdqT {d : Da} {A B : Prop} (h : plD d = true) (k : A) : if deq d d = true then A else B := by rw [deq_refl d h]; exact k
theorem zdqF {d : Da} {A B : Prop} (h : plD d = true) (k : B) : if (!deq d d) = true then A else B := by rw [deq_refl d h]; exact k
theorem zdqE {d : Da} (h : plD d = true) : Da.bl (deq d d) = Da.bl true := by rw [deq_refl d h]
end OZ

namespace OZ
open PySem L2 PySem.Spec PyProof.Rows
section
variable {B : Bd} {M : Mode} {x qual : Str} {st : Stmt} {f : Addr} {fd : FuncData} {N ps : List Str} {k n : Nat} {F : FD}
theorem fn0_ok (Fn : Fun B.K x qual st f fd) (S : FnScope N ps (defScope st)) (hn : n = ps.length)
    (h : ∀ (X : Cx) (ds : List Da) (KR : Da → Nat → Prop) (KE : Kx) (m : Nat), (∃ cdv A outer s H E, X = (cxOf CX0 B.P B.w B.K B.mg B.base N qual (defScope st) f cdv A outer s H E).nox) → Ctx X N (defScope st) B → Room k X.A → ds.length = n → F ds KR KE m →
      StD M X (fun _ => K0) (defBody st) (startD N ds) { nx := fun _ m' => KR .non m', rt := KR } m) : FnOk B.P B.w B.K B.mg B.base CX0 (k + 1) f fd ps (spD M B.K n F) := by
  refine Fn.ok S (fun vs H Q E q => q.1.trans hn) (fun cdv A outer s H vs Q E hr q => ?_)
  obtain ⟨hl, G, m, ds, KR, KE, ok, r, hF, po, _⟩ := q
  refine ⟨_, pss_wp, ?_⟩
  refine h (cxOf CX0 B.P B.w B.K B.mg B.base N qual (defScope st) f cdv A outer s H E).nox ds KR KE m ⟨cdv, A, outer, s, H, E, rfl⟩ ⟨rfl, rfl, S.nd, rfl⟩ hr (r.length.symm.trans hl) hF G H G H (L2.start N vs) (fun _ _ _ _ => False) _ ok (sok_start r) ⟨takes0, fun _ _ _ _ _ _ _ _ z => z.elim⟩ ⟨?_, ?_, ?_, ?_, ?_⟩
  · exact fun σ sl m' G' H' q o _ => po .non .non m' G' H' q o .non
  · exact fun v d m' G' H' q o rr => po v d m' G' H' q o rr
  · exact fun _ _ _ _ _ z => z.elim
  · exact fun _ _ _ _ _ z => z.elim
  · exact fun _ _ _ _ _ z => z.elim
end
end OZ
namespace OZ
section
variable {P : Bool → Nat → Prop} {m : Nat}
theorem tru_bl {b : Bool} (h : P b m) : Tru P (.bl b) m := h
theorem tru_int {i : Int} (h : P (decide (i ≠ 0)) m) : Tru P (.int i) m := h
theorem tru_non (h : P false m) : Tru P .non m := h
theorem tru_lst {ds : List Da} (h : P (!ds.isEmpty) m) : Tru P (.lst ds) m := h
theorem tru_tup {ds : List Da} (h : P (!ds.isEmpty) m) : Tru P (.tup ds) m := h
end
end OZ

/-! ### own objects looked at; own stores -/
namespace OZ
open PySem L2 PySem.Spec PyProof.Rows
theorem flD_rep {K : PySem.W.Frag} {G G' : Hp} {v : V} {d : Da} (h : flD d = true) (r : Rep K G v d) : Rep K G' v d := by
  cases r with
  | non => exact .non
  | bl b => exact .bl b
  | int b => exact .int b
  | str b => exact .str b
  | _ => simp [flD] at h
def flF (fs : List (Str × Da)) : Bool := fs.all fun p => flD p.2
theorem flF_rep {K : PySem.W.Frag} {G G' : Hp} : ∀ {vs : List (Str × V)} {fs : List (Str × Da)}, flF fs = true → RepF K G vs fs → RepF K G' vs fs
  | _, _, _, .nil => .nil
  | _, _, h, .cons a b => by
    simp only [flF, List.all_cons, Bool.and_eq_true] at h
    exact .cons (flD_rep h.1 a) (flF_rep (by simpa [flF] using h.2) b)
theorem Ok.forget {M : Mode} {G G1 H G' H' : Hp} {m' : Nat} (b : Ok M G1 H G' H' m') (s : Same G G1) : Ok M G H G H' m' :=
  ⟨fun c u e => b.sub _ _ (b.le _ _ (s _ _ e)), b.inv, fun c x => (by
    cases e : G c with
    | none => rfl
    | some u => have h1 := b.off c x; rw [b.le _ _ (s _ _ e)] at h1; cases h1), Same.refl _, b.keep, fun _ _ _ _ g => g⟩
theorem sok_pub {K : PySem.W.Frag} {M : Mode} {H0 G H : Hp} {σ : L2.St} {sl : List Sl} {i : Nat} {q : Option Addr} {d : Da} (so : SOk K M H0 G H σ sl) (hi : sl[i]? = some (.mm q d)) (nd : notDct d = true) :
    ∃ a u, σ[i]? = some (some (.ref a)) ∧ H a = some u ∧ G a = none ∧ ¬ M.X H a ∧ (H0 a = none ∨ M.X H0 a) ∧ RepM K G H a d ∧ SOk K M H0 (L2.upd G a u) H σ (sl.set i (.v d)) := by
  obtain ⟨a, e1, ga, nx, h0, rm, f⟩ := sok_pub' so hi
  obtain ⟨u, hu⟩ := rm.there
  refine ⟨a, u, e1, hu, ga, nx, h0, rm, ?_⟩
  have := f u (repM_rep hu ga rm nd) (by rw [upd_self' hu]; exact fun _ z => z)
  rwa [upd_self' hu] at this
section
variable {M : Mode} {X : Cx} {KE : Kx} {e : Expr} {sl : List Sl} {P : Da → Nat → Prop} {PT' : Bool → Nat → Prop} {m i : Nat} {q : Option Addr} {d : Da}
theorem wis_bor {G H : Hp} {σ : L2.St} {W : WX} {a : Addr} {u : HO} (wi : Wis M X KE G H σ W) (hu : H a = some u) (ga : G a = none) (hx : ∀ vs, u ≠ .xd vs) : Wis M X (fun C fs m => flF fs = true ∧ KE C fs m) (L2.upd G a u) H σ W := by
  refine ⟨wi.tk, fun C fs dd m' G' H' ⟨fl, k⟩ ok xr => ?_⟩
  have s0 : Same G (L2.upd G a u) := sameUp ga
  rcases xr with ⟨rfl, rfl⟩ | ⟨d', vs, rfl, e, r⟩
  · exact wi.ex C [] none m' G H' k (ok.forget s0) (.inl ⟨rfl, rfl⟩)
  · by_cases g : ∃ o, G d' = some o
    · obtain ⟨o, g⟩ := g
      have : G' d' = some o := ok.le _ _ (s0 _ _ g)
      rw [e] at this
      cases this
      exact wi.ex C fs (some d') m' G H' k (ok.forget s0) (.inr ⟨d', vs, rfl, g, flF_rep fl r⟩)
    · have g : G d' = none := by
        cases z : G d' with
        | none => rfl
        | some o => exact absurd ⟨o, z⟩ g
      have na : d' ≠ a := fun z => by
        subst z
        have : G' d' = some u := ok.le _ _ upd_same
        rw [e] at this
        cases this
        exact hx _ rfl
      have f := ok.forget s0
      refine wi.ex C fs (some d') m' (L2.upd G d' (.xd vs)) H' k ⟨fun c o h => ?_, ok.inv, fun c x => ?_, sameUp g, ok.keep, fun c o h n gc => ?_⟩ (.inr ⟨d', vs, rfl, upd_same, flF_rep fl r⟩)
      · by_cases z : c = d'
        · subst z; rw [upd_same] at h; cases h; exact ok.sub _ _ e
        · rw [upd_ne z] at h; exact f.sub _ _ h
      · by_cases z : c = d'
        · subst z; rw [ok.off _ x] at e; cases e
        · rw [upd_ne z]; exact f.off _ x
      · by_cases z : c = d'
        · subst z
          have : G' c = none := ok.new c o h n (by rw [upd_ne na]; exact gc)
          rw [this] at e; cases e
        · rw [upd_ne z]; exact gc
theorem repm_xd {K : PySem.W.Frag} {G H : Hp} {a : Addr} {u : HO} {d : Da} (r : RepM K G H a d) (hu : H a = some u) (vs : List (Str × V)) : u ≠ .xd vs := fun z => by
  subst z
  cases d <;> first | exact r.elim | (obtain ⟨_, h, _⟩ := r; rw [hu] at h; cases h) | (obtain ⟨_, _, h, _⟩ := r; rw [hu] at h; cases h)
/-- an own object is looked at for a while: the value told is flat -/
theorem evd_bor (hi : sl[i]? = some (.mm q d)) (nd : notDct d = true) (h : EvD M X (fun C fs m => flF fs = true ∧ KE C fs m) e (sl.set i (.v d)) (fun z m' => flD z = true ∧ P z m') m) : EvD M X KE e sl P m := by
  intro G0 H0 G H σ W Q ok so wi po
  obtain ⟨a, u, e1, hu, ga, nx, h0, rm, so2⟩ := sok_pub so hi nd
  exact h G0 H0 _ H σ W Q (ok.pub hu ga nx h0) so2 (wis_bor wi hu ga (repm_xd rm hu)) fun v z m' G' H' ⟨fl, p⟩ ok' r => po v z m' G H' p (ok'.forget (sameUp ga)) (flD_rep fl r)
theorem evt_bor (hi : sl[i]? = some (.mm q d)) (nd : notDct d = true) (h : EvT M X (fun C fs m => flF fs = true ∧ KE C fs m) e (sl.set i (.v d)) PT' m) : EvT M X KE e sl PT' m := by
  intro G0 H0 G H σ W Q ok so wi po
  obtain ⟨a, u, e1, hu, ga, nx, h0, rm, so2⟩ := sok_pub so hi nd
  exact h G0 H0 _ H σ W Q (ok.pub hu ga nx h0) so2 (wis_bor wi hu ga (repm_xd rm hu)) fun b m' G' H' p ok' => po b m' G H' p (ok'.forget (sameUp ga))
end
/-! own[e] -/
section
variable {M : Mode} {X : Cx} {KE : Kx} {b e : Expr} {sl : List Sl} {P : Da → Nat → Prop} {m i : Nat} {x : Str} {p pos : Pos} {N : List Str} {sc : Scope} {B : Bd}
theorem evd_ixOwn {ds : List Da} {q : Option Addr} (cx : Ctx X N sc B) (hx : EnvAt N sl x i (.mm q (.lst ds))) (h : EvD M X KE b sl (fun y m1 => ∃ j z, y = .int j ∧ atI ds j = some z ∧ P z m1) m)
    (hv : Vis sc x := by with_unfolding_all first | exact Or.inl rfl | exact Or.inr (Or.inl rfl) | exact Or.inr (Or.inr rfl)) (hd : (x == ("__debug__" : Str)) = false := by with_unfolding_all decide) (hcd : (x == ("__classdict__" : Str)) = false := by with_unfolding_all decide)
    (hs : PlainIx b := by with_unfolding_all (intro _ _; rfl)) : EvD M X KE (.Subscript (.Name x p) b pos) sl P m := by
  intro G0 H0 G H σ W Q ok so wi po
  obtain ⟨o, e1, ad, rfl, zz, g, h0, n, rm⟩ := paired_get so.rel hx.slot
  refine wpE.of (pe_ix ix_list (pe_var (by rw [cx.n]; exact hx.name) (cx.vis hv) hd hcd) pe_wp fun _ _ => hs _ _) ⟨_, e1, ?_⟩
  refine h G0 H0 G H σ W _ ok so wi fun v d m1 G1 H1 ⟨j, z, hy, ha, q1⟩ o1 r1 => ?_
  subst hy
  have so1 := so.step o1
  obtain ⟨o', e2, ad', hh, zz', g', h0', n', vs, hl, rs⟩ := paired_get so1.rel hx.slot
  rw [e1] at e2
  cases e2
  cases hh
  obtain ⟨k, a1, a2⟩ := atI_len rs.length ha
  obtain ⟨w, w1, w2⟩ := rs.get a2
  exact ⟨ad, vs, j, w, rfl, r1.int_inv, sq_l hl, a1.trans w1, po w z m1 G1 H1 q1 o1 w2⟩
theorem evd_ixOwnK {ks : List (Key × Da)} {q : Option Addr} {j : Nat} (cx : Ctx X N sc B) (hr : Room j X.A) (hx : EnvAt N sl x i (.mm q (.dct ks))) (h : EvD M X KE b sl (fun y m1 => ∃ k z, y = keyD k ∧ look k ks = some z ∧ P z m1) m)
    (hv : Vis sc x := by with_unfolding_all first | exact Or.inl rfl | exact Or.inr (Or.inl rfl) | exact Or.inr (Or.inr rfl)) (hd : (x == ("__debug__" : Str)) = false := by with_unfolding_all decide) (hcd : (x == ("__classdict__" : Str)) = false := by with_unfolding_all decide)
    (hs : PlainIx b := by with_unfolding_all (intro _ _; rfl)) : EvD M X KE (.Subscript (.Name x p) b pos) sl P m := by
  intro G0 H0 G H σ W Q ok so wi po
  obtain ⟨o, e1, ad, rfl, zz, g, h0, n, rm⟩ := paired_get so.rel hx.slot
  refine wpE.of (pe_ix (ix_dct (by have := L2.Room.units hr; omega)) (pe_var (by rw [cx.n]; exact hx.name) (cx.vis hv) hd hcd) pe_wp fun _ _ => hs _ _) ⟨_, e1, ?_⟩
  refine h G0 H0 G H σ W _ ok so wi fun v d m1 G1 H1 ⟨k, z, hy, ha, q1⟩ o1 r1 => ?_
  subst hy
  have so1 := so.step o1
  obtain ⟨o', e2, ad', hh, zz', g', h0', n', kvs, hl, rs⟩ := paired_get so1.rel hx.slot
  rw [e1] at e2
  cases e2
  cases hh
  obtain ⟨o2, w1, _, w2⟩ := repK_get (k := k) rs
  obtain ⟨w, rfl, rw'⟩ := w2 z ha
  exact ⟨ad, w, rfl, .inl ⟨kvs, k, .inl hl, rep_key r1, w1.symm⟩, po w z m1 G1 H1 q1 o1 rw'⟩
end
/-! own[i] = e -/
theorem setAt {α β : Type} {xs : List α} {ys : List β} {i : Int} {j : Nat} (e : xs.length = ys.length) (h : ixN ys.length i = some j) : ixN xs.length i = some j := by rw [e]; exact h
section
variable {M : Mode} {X : Cx} {KE : Ks} {b e : Expr} {sl : List Sl} {D : Kn} {m i : Nat} {x : Str} {p pos spos : Pos} {N : List Str} {sc : Scope} {B : Bd}
theorem st1_setIx {ds : List Da} (cx : Ctx X N sc B) (hx : EnvAt N sl x i (.m (.lst ds))) (h : EvD M X (KE sl) e sl (fun z m1 => EvD M X (KE sl) b sl (fun y m2 => ∃ k j, y = .int k ∧ ixN ds.length k = some j ∧ ∃ i' sl', EnvSet N sl x i' (.m (.lst (ds.set j z))) sl' ∧ D.nx sl' m2) m1) m)
    (hv : Vis sc x := by with_unfolding_all first | exact Or.inl rfl | exact Or.inr (Or.inl rfl) | exact Or.inr (Or.inr rfl)) (hd : (x == ("__debug__" : Str)) = false := by with_unfolding_all decide) (hcd : (x == ("__classdict__" : Str)) = false := by with_unfolding_all decide)
    (ha : ∀ v, assign (.Subscript (.Name x p) b pos) X.env v = (do
      let ov ← holding [v] (eval (.Name x p) X.env)
      let iv ← holding [v, ov] (eval b X.env)
      standAt pos
      holding [v, ov, iv] (setItem ov iv v)
      release [v, ov, iv] []) := by with_unfolding_all (intro _; rfl))
    (hs : swapsWithSole [.Subscript (.Name x p) b pos] e spos.line X.env = pure false := by with_unfolding_all rfl) (hw : swappedStores [.Subscript (.Name x p) b pos] e X.env = pure none := by with_unfolding_all rfl)
    (h1 : (assignEach [.Subscript (.Name x p) b pos] X.env).map (·.2) = [assign (.Subscript (.Name x p) b pos) X.env] := by with_unfolding_all rfl) : St1 M X KE (.Assign [.Subscript (.Name x p) b pos] e spos) sl D m := by
  intro G0 H0 G H σ W E ok so wi po
  refine wpS.of (ps_asg pe_wp (pg_sub (pe_var (by rw [cx.n]; exact hx.name) (cx.vis hv) hd hcd) pe_wp set_list ha) hs hw h1) ?_
  have wi' := wi.at ok so
  refine h G0 H0 G H σ W _ ok so wi' fun v z m1 G1 H1 q1 o1 r1 => ?_
  have so1 := so.step o1
  obtain ⟨o, e1, ad, rfl, zz, g, h0, n, rm⟩ := paired_get so1.rel hx.slot
  refine ⟨_, e1, ?_⟩
  refine q1 G0 H0 G1 H1 σ W _ (ok.trans o1) so1 (wi'.step o1) fun w y m2 G2 H2 ⟨k, j, hy, hj, i', sl', es, q2⟩ o2 r2 => ?_
  subst hy
  have so2 := so1.step o2
  obtain ⟨o', e2, ad', hh, zz', g', h0', n', vs, hl, rs⟩ := paired_get so2.rel hx.slot
  rw [e1] at e2
  cases e2
  cases hh
  refine ⟨ad, vs, k, j, rfl, r2.int_inv, hl, setAt rs.length hj, ?_⟩
  obtain ⟨k1, k2⟩ := own_step (ok.trans (o1.trans o2)) so2 hx.slot e1 (o := .lst (vs.set j v)) (d1 := .lst (ds.set j z)) ⟨_, upd_same, rs.set (r1.mono o2.le) j⟩
  exact po.nx σ _ m2 G2 _ q2 k1 (envset_eq (cx.n ▸ cx.nd) hx.name es ▸ k2)
end
end OZ
namespace OZ
open PySem L2
/-- the list or dict that is made for this name will change -/
def OwnHint (_ : Str) : Prop := True
theorem big_size : 100000 ≤ sizeLine := Nat.le_of_ble_eq_true rfl
section
variable {M : Mode} {X : Cx} {KE : Ks} {e : Expr} {sl : List Sl} {D : Kn} {m : Nat} {x : Str} {p pos : Pos} {N : List Str} {sc : Scope} {B : Bd}
theorem st1_setNewH {i0 : Nat} (_ : OwnHint x) (cx : Ctx X N sc B) (hi : IdxAt N x i0) (h : EvN M X (KE sl) e sl (fun d m1 => ∃ i sl', EnvSet N sl x i (.m d) sl' ∧ D.nx sl' m1) m) (hx : Loc sc x := by with_unfolding_all first | exact Or.inl rfl | exact Or.inr rfl)
    (hs : swapsWith e (some (.Name x p)) pos.line X.env = pure false := by with_unfolding_all rfl) (hf : X.fn x = true ∨ X.env.scope.names.lookup x = some .local := by with_unfolding_all first | exact .inl rfl | exact .inr rfl) : St1 M X KE (.Assign [.Name x p] e pos) sl D m := st1_setNew cx h hi hx hs hf
end
end OZ
namespace OZ
open PySem L2 PySem.Spec PyProof.Rows
section
variable {M : Mode} {X : Cx} {KE : Kx} {a b c e : Expr} {es : List Expr} {sl : List Sl} {P : Da → Nat → Prop} {PT' : Bool → Nat → Prop} {m : Nat} {pos : Pos}
theorem evd_chain {op op' : CmpOp} (h : EvD M X KE a sl (fun x m1 => EvD M X KE b sl (fun y m2 => OpD M X KE (compareOp op) x y (fun z m3 => ∃ k, z = .bl k ∧ if k = true then EvD M X KE c sl (fun w m4 => OpD M X KE (compareOp op') y w P m4) m3 else P (.bl false) m3) m2) m1) m)
    (hm : lastMarks [op, op'] [b, c] = false := by with_unfolding_all rfl) : EvD M X KE (.Compare a [op, op'] [b, c] pos) sl P m := by
  intro G0 H0 G H σ W Q ok so wi po pins s I
  refine Compare_chain (h.run ok so wi I fun u s1 v d m1 G1 H1 p1 k1 o1 so1 wi1 r1 I1 rv1 => chain_link (p1.run k1 so1 wi1 I1 fun u2 s2 v2 d2 m2 G2 H2 p2 k2 o2 so2 wi2 r2 I2 rv2 =>
    thn (p2 G2 H2 σ W (fun v H' => ∃ k m3 G3, v = .bl k ∧ Ok M G2 H2 G3 H' m3 ∧ if k = true then EvD M X KE c sl (fun w m4 => OpD M X KE (compareOp op') d2 w P m4) m3 else P (.bl false) m3) v v2 k2.here wi2 (r1.mono o2.le) r2 (fun z d3 m3 G3 H3 p3 o3 r3 => ?_) pins s2 u u2 I2 rv1 rv2) fun c s3 ⟨z, H3, I3, r3, k, m3, G3, e, o3, q3⟩ => ?_)) hm
  · obtain ⟨k, rfl, p⟩ := p3
    exact ⟨k, m3, G3, r3.bl_inv, o3, p⟩
  · subst e
    cases r3
    refine wpAny_truthy_bool ?_
    cases k with
    | false => exact ite_ff ⟨.bl false, H3, I3, rfl, po (.bl false) (.bl false) m3 G3 H3 q3 ((o1.trans o2).trans o3) (.bl false)⟩
    | true =>
      rw [if_pos rfl] at q3
      exact ite_tt (chain_last (q3.run (k2.trans o3) (so2.step o3) (wi2.step o3) I3 fun u4 s4 v4 d4 m4 G4 H4 p4 k4 o4 so4 wi4 r4 I4 rv4 =>
        p4 G4 H4 σ W Q v2 v4 k4.here wi4 ((r2.mono o3.le).mono o4.le) r4 (po.step (((o1.trans o2).trans o3).trans o4)) pins s4 u2 u4 I4 rv2 rv4))
theorem evt_chainD {op op' : CmpOp} (h : EvD M X KE a sl (fun x m1 => EvD M X KE b sl (fun y m2 => OpD M X KE (compareOp op) x y (fun z m3 => ∃ k, z = .bl k ∧ if k = true then EvD M X KE c sl (fun w m4 => OpD M X KE (compareOp op') y w (fun z m5 => ∃ k, z = .bl k ∧ PT' k m5) m4) m3 else PT' false m3) m2) m1) m)
    (hm : lastMarks [op, op'] [b, c] = false := by with_unfolding_all rfl) : EvT M X KE (.Compare a [op, op'] [b, c] pos) sl PT' m := by
  intro G0 H0 G H σ W Q ok so wi po pins s I
  refine isTrue_chain (h.run ok so wi I fun u s1 v d m1 G1 H1 p1 k1 o1 so1 wi1 r1 I1 rv1 => test_link (p1.run k1 so1 wi1 I1 fun u2 s2 v2 d2 m2 G2 H2 p2 k2 o2 so2 wi2 r2 I2 rv2 =>
    thn (p2 G2 H2 σ W (fun v H' => ∃ k m3 G3, v = .bl k ∧ Ok M G2 H2 G3 H' m3 ∧ if k = true then EvD M X KE c sl (fun w m4 => OpD M X KE (compareOp op') d2 w (fun z m5 => ∃ k, z = .bl k ∧ PT' k m5) m4) m3 else PT' false m3) v v2 k2.here wi2 (r1.mono o2.le) r2 (fun z d3 m3 G3 H3 p3 o3 r3 => ?_) pins s2 u u2 I2 rv1 rv2) fun c s3 ⟨z, H3, I3, r3, k, m3, G3, e, o3, q3⟩ => ?_)) hm
  · obtain ⟨k, rfl, p⟩ := p3
    exact ⟨k, m3, G3, r3.bl_inv, o3, p⟩
  · subst e
    cases r3
    refine wpAny_truthy_bool ?_
    cases k with
    | false => exact ite_ff ⟨H3, I3, po false m3 G3 H3 q3 ((o1.trans o2).trans o3)⟩
    | true =>
      rw [if_pos rfl] at q3
      refine ite_tt (test_last (q3.run (k2.trans o3) (so2.step o3) (wi2.step o3) I3 fun u4 s4 v4 d4 m4 G4 H4 p4 k4 o4 so4 wi4 r4 I4 rv4 =>
        thn (p4 G4 H4 σ W (fun v H' => ∃ k, v = .bl k ∧ Q k H') v2 v4 k4.here wi4 ((r2.mono o3.le).mono o4.le) r4 (fun z d5 m5 G5 H5 p5 o5 r5 => ?_) pins s4 u2 u4 I4 rv2 rv4) fun c s5 ⟨z, H5, I5, r5, k, e, q5⟩ => ?_))
      · obtain ⟨k, rfl, p⟩ := p5
        exact ⟨k, r5.bl_inv, po k m5 G5 H5 p ((((o1.trans o2).trans o3).trans o4).trans o5)⟩
      · subst e
        cases r5
        exact wpAny_truthy_bool ⟨H5, I5, q5⟩
end
end OZ
namespace OZ
open PySem L2
section
variable {M : Mode} {X : Cx} {scope : Scope} {N : List Str} {sc : Scope} {B : Bd} {j : Nat} {vs : List Nat} {elt : Expr} {sl : List Sl} {m : Nat} {x : Str} {p : Pos}
/-- the comprehension [elt for x in xs.map g], elt the value f of each, no drawing -/
theorem compd_mapL {α : Type} {i : Nat} (g f : α → Da) {xs : List α} {K : List Da → Nat → Prop} (hi : IdxAt N x i) (hN : sl.length = N.length) (hv : i ∈ vs) (h : ∀ a ∈ xs, ∀ (P : Da → Nat → Prop), P (f a) m → AllX X scope N sc B j fun X' => EvD M X' K0 elt (sl.set i (.v (g a))) P m) (k : K (xs.map f) m) (hl : (relabelS scope sc).names.lookup x = some .local := by with_unfolding_all rfl) :
    CompD (lcStep M X scope N sc B j vs (.Name x p) [] elt sl) (xs.map g) K m := by
  refine compd_inv lcstep_mono (fun n acc m' => m' = m ∧ acc = (xs.take n).map f) ⟨rfl, rfl⟩ ?_ fun r m' ⟨e1, e2⟩ => by rw [e1, e2, List.length_map, List.take_length]; exact k
  rintro n d acc m' e ⟨rfl, rfl⟩
  rw [List.getElem?_map] at e
  cases ha : xs[n]? with
  | none => rw [ha] at e; cases e
  | some a =>
    rw [ha] at e
    cases e
    refine lcstep_name (.of hi hN) hv (h a (List.mem_of_getElem? ha) _ ⟨rfl, ?_⟩) hl
    rw [List.take_succ, ha]
    simp
end
end OZ
namespace OZ
theorem zeT {b : Bool} {A B : Prop} (h : b = true) (k : A) : if b = true then A else B := by rw [h]; exact k
theorem zeF {b : Bool} {A B : Prop} (h : b = false) (k : B) : if b = true then A else B := by rw [h]; exact k
end OZ
namespace OZ
theorem intsD_get {n : Int} {i : Nat} {d : Da} (h : (intsD 0 n.toNat)[i]? = some d) : (i : Int) < n ∧ d = .int (0 + (i : Int)) := by
  have hl := (List.getElem?_eq_some_iff.mp h).1
  rw [intsD_len] at hl
  rw [intsD_at hl] at h
  exact ⟨by omega, by cases h; rfl⟩
end OZ

/-! ### slices -/
namespace OZ
open PySem L2 PySem.Spec PyProof.Rows
def cutD {α : Type} (xs : List α) (lo hi : Option Int) : List α := (xs.drop (HT.sIx xs.length 0 lo)).take (HT.sIx xs.length xs.length hi - HT.sIx xs.length 0 lo)
theorem cutD_from {α : Type} {xs : List α} {i : Int} (h : 0 ≤ i) : cutD xs (some i) none = xs.drop i.toNat := by
  unfold cutD
  simp only [HT.sIx]
  rw [if_neg (by omega)]
  by_cases z : i.toNat ≤ xs.length
  · rw [Nat.min_eq_left z, List.take_of_length_le (by rw [List.length_drop]; exact Nat.le_refl _)]
  · rw [Nat.min_eq_right (by omega), List.drop_eq_nil_of_le (Nat.le_refl _), List.drop_eq_nil_of_le (by omega)]
    simp
theorem cutD_to {α : Type} {xs : List α} {i : Int} (h : 0 ≤ i) : cutD xs none (some i) = xs.take i.toNat := by
  unfold cutD
  simp only [HT.sIx]
  rw [if_neg (by omega), List.drop_zero, Nat.sub_zero]
  by_cases z : i.toNat ≤ xs.length
  · rw [Nat.min_eq_left z]
  · rw [Nat.min_eq_right (by omega), List.take_length, List.take_of_length_le (by omega)]
theorem cutD_but {α : Type} {xs : List α} {i : Int} (h : i < 0) : cutD xs none (some i) = xs.take (i + xs.length).toNat := by
  unfold cutD
  simp only [HT.sIx]
  rw [if_pos h, List.drop_zero, Nat.sub_zero]
theorem reps_cut {K : PySem.W.Frag} {G : Hp} {vs : List V} {ds : List Da} (r : Reps K G vs ds) (lo hi : Option Int) : Reps K G (L2.cutV vs lo hi) (cutD ds lo hi) := by
  unfold L2.cutV cutD
  rw [r.length]
  exact (r.drop _).take _
def wpO (X : Cx) (e : Option Expr) : L2.TO := fun σ H Q => ∀ pins s, Inv X pins σ H s → wpAny (model X.prog X.w) X.A (evalPart e X.env) (fun u s' => ∃ o H', Inv X pins σ H' s' ∧ IsPart u o ∧ Q o H') X.xe s
theorem po_wp {X : Cx} {e : Option Expr} : L2.PO X e (wpO X e) := ⟨fun pins s _ _ _ I h => h pins s I⟩
theorem wpO.of {X : Cx} {e : Option Expr} {t : L2.TO} {σ : L2.St} {H : Hp} {Q : Option Int → Hp → Prop} (p : L2.PO X e t) (h : t σ H Q) : wpO X e σ H Q := fun pins s I => p.run pins s σ H Q I h
section
variable {M : Mode} {X : Cx} {KE : Kx} {a b c e : Expr} {o1 o2 : Option Expr} {es : List Expr} {sl : List Sl} {P : Da → Nat → Prop} {m : Nat} {pos p2 : Pos}
variable (M X KE) in
def EvP (e : Option Expr) (sl : List Sl) (P : Option Int → Nat → Prop) (m : Nat) : Prop :=
  ∀ (G0 H0 G H : Hp) (σ : L2.St) (W : WX) (Q : Option Int → Hp → Prop), Ok M G0 H0 G H m → SOk X.K M H0 G H σ sl → Wis M X KE G H σ W → (∀ o m' G' H', P o m' → Ok M G H G' H' m' → Q o H') → wpO X e σ H Q
theorem evp_none {PO' : Option Int → Nat → Prop} (h : PO' none m) : EvP M X KE none sl PO' m := fun G0 H0 G H σ W Q ok so wi po => wpO.of po_none (po none m G H h ok.here)
theorem evp_some {PO' : Option Int → Nat → Prop} (h : EvD M X KE e sl (fun y m1 => ∃ i : Int, y = .int i ∧ PO' (some i) m1) m) : EvP M X KE (some e) sl PO' m := fun G0 H0 G H σ W Q ok so wi po =>
  wpO.of (po_some pe_wp) (h G0 H0 G H σ W _ ok so wi fun v d m' G' H' ⟨i, e, p⟩ o r => by subst e; exact ⟨i, r.int_inv, po _ m' G' H' p o⟩)
/-- what x[lo:hi] tells -/
def SlD (x : Da) (lo hi : Option Int) (P : Da → Nat → Prop) (m : Nat) : Prop := match x with
  | .lst ds => P (.lst (cutD ds lo hi)) m
  | .tup ds => ¬ (HT.sIx ds.length 0 lo = 0 ∧ HT.sIx ds.length ds.length hi = ds.length) ∧ P (.tup (cutD ds lo hi)) m
  | .str z => z.length ≤ sizeLine ∧ P (.str (cutS z lo hi)) m
  | _ => False
theorem evd_slice (h : EvD M X KE e sl (fun x m1 => EvP M X KE o1 sl (fun lo m2 => EvP M X KE o2 sl (fun hi m3 => SlD x lo hi P m3) m2) m1) m) : EvD M X KE (.Subscript e (.Slice o1 o2 none p2) pos) sl P m := fun G0 H0 G H σ W Q ok so wi po =>
  wpE.of (pe_slice (sl_list.or (sl_tup.or sl_str)) pe_wp po_wp po_wp) (h G0 H0 G H σ W _ ok so wi fun v d m1 G1 H1 q1 k1 r1 => q1 G0 H0 G1 H1 σ W _ (ok.trans k1) (so.step k1) (wi.step k1) fun lo m2 G2 H2 q2 k2 =>
    q2 G0 H0 G2 H2 σ W _ ((ok.trans k1).trans k2) ((so.step k1).step k2) ((wi.step k1).step k2) fun hi m3 G3 H3 q3 k3 => by
    have kk := (k1.trans k2).trans k3
    have r3 := (r1.mono k2.le).mono k3.le
    cases r3 with
    | @lst a vs ds q r =>
      refine .inl ⟨a, vs, rfl, sq_l (kk.sub _ _ q), fun p hp => ?_⟩
      have al := kk.here.alloc (o := .lst (L2.cutV vs lo hi)) hp
      exact po _ _ m3 _ _ q3 (kk.trans al) (.lst upd_same ((reps_cut r lo hi).mono al.le))
    | @tup a vs ds q r =>
      refine .inr (.inl ⟨a, vs, rfl, sqT_same kk.sub q, by rw [r.length]; exact q3.1, fun p hp => ?_⟩)
      have al := kk.here.alloc (o := .tup (L2.cutV vs lo hi)) hp
      exact po _ _ m3 _ _ q3.2 (kk.trans al) (.tup (sq_t upd_same) ((reps_cut r lo hi).mono al.le))
    | str z => exact .inr (.inr ⟨z, rfl, q3.1, po _ _ m3 _ _ q3.2 kk (.str _)⟩)
    | _ => exact q3.elim)
/-- xs[::-1] -/
theorem evd_revL {k : Nat} {p1 p3 : Pos} (h : EvD M X KE e sl (fun x m1 => ∃ ds, x = .lst ds ∧ P (.lst ds.reverse) m1) m) : EvD M X KE (.Subscript e (.Slice none none (some (.UnaryOp .USub (.Constant (.int 1) k p1) p2)) p3) pos) sl P m := fun G0 H0 G H σ W Q ok so wi po =>
  wpE.of (pe_revL pe_wp) (h G0 H0 G H σ W _ ok so wi fun v d m1 G1 H1 ⟨ds, e, q1⟩ k1 r1 => by
    subst e
    obtain ⟨a, vs, rfl, q, r⟩ := r1.lst_inv
    refine ⟨a, vs, rfl, sq_l (k1.sub _ _ q), fun p hp => ?_⟩
    have al := k1.here.alloc (o := .lst vs.reverse) hp
    exact po _ _ m1 _ _ q1 (k1.trans al) (.lst upd_same (r.rev.mono al.le)))
end
/-! lists, tuples, texts and locked dicts walked over -/
section
variable {M : Mode} {X : Cx} {KE : Kx} {tg e : Expr} {es : List Expr} {sl : List Sl} {KI : List Da → Nat → Prop} {m : Nat} {pos p apos cpos : Pos} {N : List Str} {sc : Scope} {B : Bd}
def chrsD (z : Str) : List Da := z.cps.toList.map fun c => Da.str ⟨#[c]⟩
theorem walkd_str {K : PySem.W.Frag} {G1 : Hp} {z : Str} : WalkD M K (Its z) (chrsD z) G1 := by
  refine ⟨_, _, by show Walk (Its z) (chrsD z).length _ _; rw [show (chrsD z).length = z.cps.size by simp [chrsD]]; exact walk_str, fun _ _ _ _ _ => trivial, fun i H x H' G m hi y le ok => ?_⟩
  obtain ⟨rfl, c, hc, rfl⟩ := y
  refine ⟨G, _, ok, ?_, .str _⟩
  unfold chrsD
  rw [List.getElem?_map, Array.getElem?_toList, hc]
  rfl
def keysD (ks : List (Key × Da)) : List Da := ks.map fun kv => keyD kv.1
def valsD (ks : List (Key × Da)) : List Da := ks.map fun kv => kv.2
def itemsD (ks : List (Key × Da)) : List Da := ks.map fun kv => .tup [keyD kv.1, kv.2]
theorem key_rep {K : PySem.W.Frag} {G : Hp} (k : Key) : Rep K G (kV k) (keyD k) := by
  cases k <;> constructor
theorem RepK.get' {K : PySem.W.Frag} {G : Hp} : ∀ {kvs : List (Key × V)} {ks : List (Key × Da)} {i : Nat} {k : Key} {v : V}, RepK K G kvs ks → kvs[i]? = some (k, v) → ∃ d, ks[i]? = some (k, d) ∧ Rep K G v d
  | _, _, _, _, _, .nil, e => by simp at e
  | _, _, 0, _, _, .cons a _, e => by simp at e; obtain ⟨rfl, rfl⟩ := e; exact ⟨_, rfl, a⟩
  | _, _, i + 1, _, _, .cons _ b, e => by
    obtain ⟨d, h1, h2⟩ := RepK.get' b (by simpa using e)
    exact ⟨d, by simpa using h1, h2⟩
theorem RepK.length {K : PySem.W.Frag} {G : Hp} : ∀ {kvs : List (Key × V)} {ks : List (Key × Da)}, RepK K G kvs ks → kvs.length = ks.length
  | _, _, .nil => rfl
  | _, _, .cons _ b => by simp [RepK.length b]
theorem walkd_keys {K : PySem.W.Frag} {G1 : Hp} {a : Addr} {o : Obj} {kvs : List (Key × V)} {ks : List (Key × Da)} (q : G1 a = some (.frz o (.dK kvs))) (r : RepK K G1 kvs ks) : WalkD M K (Itk a o kvs) (keysD ks) G1 := by
  refine ⟨_, _, by show Walk (Itk a o kvs) (keysD ks).length _ _; rw [show (keysD ks).length = kvs.length by simp [keysD, r.length]]; exact walk_keys, fun G H m le ok => ok.sub _ _ (le _ _ q), fun i H x H' G m hi y le ok => ?_⟩
  obtain ⟨rfl, k, v, hk, rfl⟩ := y
  obtain ⟨d, hd, _⟩ := r.get' hk
  exact ⟨G, _, ok, by unfold keysD; rw [List.getElem?_map, hd]; rfl, key_rep k⟩
theorem walkd_values {K : PySem.W.Frag} {G1 : Hp} {a : Addr} {o : Obj} {kvs : List (Key × V)} {ks : List (Key × Da)} (q : G1 a = some (.frz o (.dK kvs))) (r : RepK K G1 kvs ks) : WalkD M K (Itd a o kvs) (valsD ks) G1 := by
  refine ⟨_, _, by show Walk (Itd a o kvs) (valsD ks).length _ _; rw [show (valsD ks).length = kvs.length by simp [valsD, r.length]]; exact walk_values, fun G H m le ok => ok.sub _ _ (le _ _ q), fun i H x H' G m hi y le ok => ?_⟩
  obtain ⟨rfl, k, hk⟩ := y
  obtain ⟨d, hd, rd⟩ := r.get' hk
  exact ⟨G, _, ok, by unfold valsD; rw [List.getElem?_map, hd]; rfl, rd.mono le⟩
theorem walkd_items {K : PySem.W.Frag} {G1 : Hp} {a : Addr} {o : Obj} {kvs : List (Key × V)} {ks : List (Key × Da)} (q : G1 a = some (.frz o (.dK kvs))) (r : RepK K G1 kvs ks) : WalkD M K (Iti a o kvs) (itemsD ks) G1 := by
  refine ⟨_, _, by show Walk (Iti a o kvs) (itemsD ks).length _ _; rw [show (itemsD ks).length = kvs.length by simp [itemsD, r.length]]; exact walk_items, fun G H m le ok => ok.sub _ _ (le _ _ q), fun i H x H' G m hi y le ok => ?_⟩
  obtain ⟨T, x1, y1, rfl, hT, rfl, e1, e2⟩ := y
  dsimp only at e1 e2
  cases hk : kvs[i]? with
  | none => rw [hk] at e2; cases e2
  | some kv =>
    rw [hk] at e1 e2
    cases e1
    cases e2
    obtain ⟨d, hd, rd⟩ := r.get' (k := kv.1) (v := kv.2) hk
    have al := ok.alloc (o := .tup [kV kv.1, kv.2]) hT
    exact ⟨_, .tup [keyD kv.1, d], al, by unfold itemsD; rw [List.getElem?_map, hd]; rfl, .tup (sq_t upd_same) (.cons (key_rep _) (.cons ((rd.mono le).mono al.le) .nil))⟩
/-- what a for walks over -/
def SeqD (KI : List Da → Nat → Prop) : Da → Nat → Prop
  | .lst ds, m => KI ds m
  | .tup ds, m => KI ds m
  | .str z, m => KI (chrsD z) m
  | .dct ks, m => KI (keysD ks) m
  | _, _ => False
theorem iter_seq (h : EvD M X KE e sl (SeqD KI) m) : IterD M X KE tg e sl KI m := by
  intro G0 H0 G H σ W R ok so wi k pins s I
  refine h.run ok so wi I fun u s1 v d m1 G1 H1 p1 k1 o1 so1 wi1 r1 I1 rv1 => ?_
  cases r1 with
  | @lst a vs ds q r =>
    cases rv1
    obtain ⟨its, rv, pq, hz⟩ := I1.list (sq_l (K := X.K) (o1.sub _ _ q))
    refine wpAny_pyIter_list pq.isList ?_
    refine ⟨s1.heap.objs.size, [s1.heap.objs.size], _, _, H1, rfl, I1.kept (t' := s1.toks) fun b o e => Heap.get?_push_of_some _ e, turn_list a _, ⟨_, Heap.get?_push_size _ rfl, rfl, rfl⟩, fun b hb => ?_, k _ ds m1 G1 H1 p1 o1 (walkd_list q r)⟩
    have e : b = s1.heap.objs.size := by simpa using hb
    subst e
    exact I1.fpOk (Nat.le_refl _) (I1.hok.fresh (Nat.le_refl _))
  | @tup a vs ds q r =>
    cases rv1
    obtain ⟨its, rv, pq, hz⟩ := I1.tuple (sqT_same o1.sub q)
    refine wpAny_pyIter_tuple (show s1.heap.IsTuple a its.toArray from pq) ?_
    refine ⟨s1.heap.objs.size, [s1.heap.objs.size], _, _, H1, rfl, I1.kept (t' := s1.toks) fun b o e => Heap.get?_push_of_some _ e, turn_tuple a _, ⟨_, Heap.get?_push_size _ rfl, rfl, rfl⟩, fun b hb => ?_, k _ ds m1 G1 H1 p1 o1 (walkd_tup q r)⟩
    have e : b = s1.heap.objs.size := by simpa using hb
    subst e
    exact I1.fpOk (Nat.le_refl _) (I1.hok.fresh (Nat.le_refl _))
  | str x =>
    obtain ⟨t, rfl⟩ := rv1
    have q := k _ _ m1 G1 H1 p1 o1 (walkd_str (K := X.K) (G1 := G1) (z := x))
    cases ha : x.cps.all (· < 128)
    · exact wpAny_pyIter_wide ha (pi_one (tk := s1.toks) I1 _ (turn_str _ x t "str_iterator" (.inr rfl)) ⟨_, Heap.get?_push_size _ rfl, rfl, rfl⟩ q)
    · exact wpAny_pyIter_ascii ha (pi_one (tk := s1.toks) I1 _ (turn_str _ x t "str_ascii_iterator" (.inl rfl)) ⟨_, Heap.get?_push_size _ rfl, rfl, rfl⟩ q)
  | @dct a o kvs ks q r =>
    cases rv1
    have q2 := k _ _ m1 G1 H1 p1 o1 (walkd_keys q r)
    obtain ⟨hs, hgd, hx, es, ep, vs, hdt, hsz, kv, hm⟩ := I1.frzK (o1.sub _ _ q)
    refine iter_keys hs hgd hx hdt (pi_one (tk := s1.toks) I1 _ (turn_keys _ hdt) ⟨_, Heap.get?_push_size _ rfl, rfl, ?_⟩ q2)
    rw [hsz] <;> rfl
  | _ => exact p1.elim
theorem iter_values (h : EvD M X KE e sl (fun d m1 => ∃ ks, d = .dct ks ∧ KI (valsD ks) m1) m) (hbase : attributeBase e "values" X.env (eval e X.env) = eval e X.env := by with_unfolding_all rfl) (hline : (apos.endLine == cpos.line) = true := by with_unfolding_all rfl) :
    IterD M X KE tg (.Call (.Attribute e "values" apos) [] [] cpos) sl KI m := fun G0 H0 G H σ W R ok so wi k =>
  wpI.of (pi_values pe_wp hbase hline) (h G0 H0 G H σ W _ ok so wi fun v d m' G' H' ⟨ks, e, p⟩ o r => by
    subst e
    obtain ⟨a, ob, kvs, rfl, q, t⟩ := r.dct_inv
    exact ⟨a, ob, kvs, rfl, o.sub _ _ q, k _ _ m' G' H' p o (walkd_values q t)⟩)
theorem iter_items {elts : List Expr} {kk : Nat} {tpos : Pos} (h : EvD M X KE e sl (fun d m1 => ∃ ks, d = .dct ks ∧ KI (itemsD ks) m1) m) (hbase : attributeBase e "items" X.env (eval e X.env) = eval e X.env := by with_unfolding_all rfl) (hline : (apos.endLine == cpos.line) = true := by with_unfolding_all rfl) :
    IterD M X KE (.Tuple elts kk tpos) (.Call (.Attribute e "items" apos) [] [] cpos) sl KI m := fun G0 H0 G H σ W R ok so wi k =>
  wpI.of (pi_items pe_wp hbase hline) (h G0 H0 G H σ W _ ok so wi fun v d m' G' H' ⟨ks, e, p⟩ o r => by
    subst e
    obtain ⟨a, ob, kvs, rfl, q, t⟩ := r.dct_inv
    exact ⟨a, ob, kvs, rfl, o.sub _ _ q, k _ _ m' G' H' p o (walkd_items q t)⟩)
end
end OZ

/-! isinstance -/
namespace OZ
open PySem L2 PySem.Spec PyProof.Rows
structure TyC (K : PySem.W.Frag) (C : Addr) : Prop where
  cl : Cls K C
  ha : PySem.W.findIn K (.ref C) "__class__" = some (some (.builtin "object.__class__"))
  hn : PySem.W.specialIn K (.builtin "object.__class__") "__get__" = some (some (.builtin "getset_descriptor.__get__"))
  htk : PySem.W.takesIn K (.builtin "object.__class__") = some true
  hm : PySem.W.mroIn K C (.type "object") = some true
inductive TyDa (K : PySem.W.Frag) : Da → Value → Prop
  | non : TyDa K .non (.type "NoneType")
  | bl (b : Bool) : TyDa K (.bl b) (.type "bool")
  | int (i : Int) : TyDa K (.int i) (.type "int")
  | str (s : Str) : TyDa K (.str s) (.type "str")
  | lst (ds : List Da) : TyDa K (.lst ds) (.type "list")
  | tup (ds : List Da) : TyDa K (.tup ds) (.type "tuple")
  | dct (ks : List (Key × Da)) : TyDa K (.dct ks) (.type "dict")
  | obj {C : Addr} (fs : List (Str × Da)) (c : TyC K C) : TyDa K (.obj C fs) (.ref C)
theorem TyDa.x {K : PySem.W.Frag} {G H : Hp} {v : V} {d : Da} {t : Value} (s : Same G H) (r : Rep K G v d) (h : TyDa K d t) : TyX K H v t := by
  cases h with
  | non => cases r; exact .base .non
  | bl b => cases r; exact .base (.bl _)
  | int i => cases r; exact .base (.int _)
  | str i => cases r; exact .base (.str _)
  | lst ds => cases r with | lst q _ => exact .base (.lst (s _ _ q))
  | tup ds =>
    cases r with
    | tup q _ =>
      rcases q with (q | ⟨o, q⟩) | ⟨o, its, n, q, q2, _⟩
      · exact .base (.tup (s _ _ q))
      · exact .fTuple (s _ _ q)
      · exact .kTuple q q2
  | dct ks => cases r with | dct q _ => exact .fDict (s _ _ q)
  | obj fs c => cases r with | obj q _ => exact .base (.ins (s _ _ q) c.cl c.ha c.hn c.htk c.hm)
inductive ClsDa : Da → Value → Prop
  | ty (n : String) : ClsDa (.ty n) (.type n)
  | own (C : Addr) : ClsDa (.ref C) (.ref C)
structure KitG (K : PySem.W.Frag) (t u : Value) (b : Bool) : Prop where
  k : PySem.W.kitOne K t u = some b
theorem cd_isi {M : Mode} {X : Cx} {KE : Kx} {P : Da → Nat → Prop} {m : Nat} {N : List Str} {sc : Scope} {B : Bd} {x c : Da} {t u : Value} {b : Bool} (cx : Ctx X N sc B) (hx : TyDa B.K x t) (hc : ClsDa c u) (hk : KitG B.K t u b) (k : P (.bl b) m) : CallD M X KE (.builtin "isinstance") [x, c] P m := by
  have eb := cx.b
  subst eb
  exact .of call_isi fun G H _ vs ok r po => by
    obtain ⟨v, w, rfl, r1, r2⟩ := reps2 r
    have hcv : ClsV w u := by
      cases hc with
      | ty n => cases r2; exact .ty n
      | own C => cases r2; exact .own C
    exact ⟨v, w, t, u, b, rfl, hcv, hx.x ok.sub r1, hk.k, po _ _ m G H k ok (.bl b)⟩
end OZ
namespace OZ
open PySem L2 PySem.Spec PyProof.Rows
structure EqG (M : Mode) (B : Bd) (k : Nat) (C : Addr) (F : FD) : Prop where
  ex : ∃ f : Addr, FnG M B k f 2 F ∧ OS.EqF B.K C f
theorem EqG.lift {M : Mode} {B : Bd} {k : Nat} {C : Addr} {F : FD} (c : EqG pureM B k C F) : EqG M B k C (FP F) := by
  obtain ⟨f, h1, h2⟩ := c.ex
  exact ⟨f, h1.lift, h2⟩
section
variable {M : Mode} {X : Cx} {KE : Kx} {P : Da → Nat → Prop} {m k j : Nat} {C D : Addr} {F : FD} {fs gs : List (Str × Da)} {B : Bd} {N : List Str} {sc : Scope}
theorem opd_eqG (cx : Ctx X N sc B) (c : EqG M B k C F) (hr : Room j X.A) (h : F [.obj C fs, .obj C gs] (fun d m1 => ∃ b, d = .bl b ∧ P (.bl b) m1) KE m) (hk : k ≤ j := by with_unfolding_all decide) : OpD M X KE (compareOp .Eq) (.obj C fs) (.obj C gs) P m := by
  have eb := cx.b
  obtain ⟨f, h1, h2⟩ := c.ex
  subst eb
  exact opd_eqO cx h1 h2 (.inl rfl) hr (by have := L2.Room.units hr; omega) h hk
theorem opd_neG (cx : Ctx X N sc B) (c : EqG M B k C F) (hr : Room j X.A) (h : F [.obj C fs, .obj C gs] (fun d m1 => ∃ b, d = .bl b ∧ P (.bl (!b)) m1) KE m) (hk : k + 1 ≤ j := by with_unfolding_all decide) : OpD M X KE (compareOp .NotEq) (.obj C fs) (.obj C gs) P m := by
  have eb := cx.b
  obtain ⟨f, h1, h2⟩ := c.ex
  subst eb
  exact opd_neO cx h1 h2 (.inl rfl) hr (by have := L2.Room.units hr; omega) h hk
theorem opd_eqX (cx : Ctx X N sc B) (c : EqG M B k C F) (hD : PySem.W.subIn B.K (.ref D) (.ref C) = some false) (hr : Room j X.A) (h : F [.obj C fs, .obj D gs] (fun d m1 => ∃ b, d = .bl b ∧ P (.bl b) m1) KE m) (hk : k ≤ j := by with_unfolding_all decide) : OpD M X KE (compareOp .Eq) (.obj C fs) (.obj D gs) P m := by
  have eb := cx.b
  obtain ⟨f, h1, h2⟩ := c.ex
  subst eb
  exact opd_eqO cx h1 h2 (.inr hD) hr (by have := L2.Room.units hr; omega) h hk
theorem opd_neX (cx : Ctx X N sc B) (c : EqG M B k C F) (hD : PySem.W.subIn B.K (.ref D) (.ref C) = some false) (hr : Room j X.A) (h : F [.obj C fs, .obj D gs] (fun d m1 => ∃ b, d = .bl b ∧ P (.bl (!b)) m1) KE m) (hk : k + 1 ≤ j := by with_unfolding_all decide) : OpD M X KE (compareOp .NotEq) (.obj C fs) (.obj D gs) P m := by
  have eb := cx.b
  obtain ⟨f, h1, h2⟩ := c.ex
  subst eb
  exact opd_neO cx h1 h2 (.inr hD) hr (by have := L2.Room.units hr; omega) h hk
theorem opd_mulG (cx : Ctx X N sc B) (c : SpecG M B k C "__mul__" 2 F) (hc : PySem.W.selfFirst B.K C = true) (hr : Room j X.A) (h : F [.obj C fs, .obj C gs] P KE m) (hk : k ≤ j := by with_unfolding_all decide) : OpD M X KE (binaryOp .Mult) (.obj C fs) (.obj C gs) P m := by
  have eb := cx.b
  subst eb
  exact opd_own2 (op := .Mult) cx c hc hr h hk
end
end OZ
namespace OZ
open PySem L2
section
variable {P : Da → Nat → Prop} {KI : List Da → Nat → Prop} {m : Nat} {ds es : List Da} {lo hi : Option Int}
theorem sld_lst (h : P (.lst (cutD ds lo hi)) m) : SlD (.lst ds) lo hi P m := h
theorem sld_str {z : Str} (hz : z.length ≤ sizeLine) (h : P (.str (cutS z lo hi)) m) : SlD (.str z) lo hi P m := ⟨hz, h⟩
theorem sld_tup' (h0 : ¬ (HT.sIx ds.length 0 lo = 0 ∧ HT.sIx ds.length ds.length hi = ds.length)) (e : cutD ds lo hi = es) (h : P (.tup es) m) : SlD (.tup ds) lo hi P m := ⟨h0, by rw [e]; exact h⟩
theorem sld_lst' (e : cutD ds lo hi = es) (h : P (.lst es) m) : SlD (.lst ds) lo hi P m := by rw [← e] at h; exact h
theorem seqd_lst (h : KI ds m) : SeqD KI (.lst ds) m := h
theorem seqd_tup (h : KI ds m) : SeqD KI (.tup ds) m := h
theorem seqd_str {z : Str} (h : KI (chrsD z) m) : SeqD KI (.str z) m := h
theorem seqd_dct {ks : List (Key × Da)} (h : KI (keysD ks) m) : SeqD KI (.dct ks) m := h
end
end OZ
namespace OZ
open PySem L2
theorem kit_self {K : PySem.W.Frag} (C : Addr) : KitG K (.ref C) (.ref C) true := ⟨by unfold PySem.W.kitOne; rw [if_pos (by simp)]⟩
theorem kit_T {K : PySem.W.Frag} {t : Value} {T : String} {b : Bool} (h : PySem.W.subIn K t (.type T) = some b) (hn : (t == .type T) = false) (hm : PySem.W.kitMeta T = true) : KitG K t (.type T) b := by
  refine ⟨?_⟩
  unfold PySem.W.kitOne
  rw [if_neg (by rw [hn]; exact Bool.false_ne_true)]
  show (if PySem.W.kitMeta T = true then PySem.W.subIn K t (.type T) else none) = some b
  rw [if_pos hm]
  exact h
theorem kit_C {K : PySem.W.Frag} {t : Value} {C : Addr} {b : Bool} (c : Cls K C) (h1 : PySem.W.typeIn K (.ref C) = some (.type "type")) (h : PySem.W.subIn K t (.ref C) = some b) (hn : (t == .ref C) = false) : KitG K t (.ref C) b := by
  refine ⟨?_⟩
  unfold PySem.W.kitOne
  rw [if_neg (by rw [hn]; exact Bool.false_ne_true)]
  obtain ⟨cd, hc, _⟩ := PySem.W.any_some c.hd
  show (if ((PySem.W.clsIn K C).isSome && PySem.W.typeIn K (.ref C) == some (.type "type")) = true then PySem.W.subIn K t (.ref C) else none) = some b
  rw [if_pos (by rw [hc, h1] <;> rfl)]
  exact h
end OZ

/-! ### dicts made by comprehensions; sorted -/
namespace OZ
open PySem L2 PySem.Spec PyProof.Rows
def putD (ks : List (Key × Da)) (k : Key) (v : Da) : List (Key × Da) :=
  if (ks.any fun kv => decide (kv.1 = k)) = true then ks.map (fun kv => if kv.1 = k then (kv.1, v) else kv) else ks ++ [(k, v)]
theorem repK_any {K : PySem.W.Frag} {G : Hp} {k : Key} : ∀ {kvs : List (Key × V)} {ks : List (Key × Da)}, RepK K G kvs ks → (kvs.any fun kv => decide (kv.1 = k)) = (ks.any fun kv => decide (kv.1 = k))
  | _, _, .nil => rfl
  | _, _, .cons _ b => by simp only [List.any_cons, repK_any b]
theorem repK_map {K : PySem.W.Frag} {G : Hp} {k : Key} {v : V} {d : Da} (r : Rep K G v d) : ∀ {kvs : List (Key × V)} {ks : List (Key × Da)}, RepK K G kvs ks → RepK K G (kvs.map fun kv => if kv.1 = k then (kv.1, v) else kv) (ks.map fun kv => if kv.1 = k then (kv.1, d) else kv)
  | _, _, .nil => .nil
  | _, _, .cons (k := k0) a b => by
    simp only [List.map_cons]
    by_cases h : k0 = k
    · rw [if_pos h, if_pos h]; exact .cons r (repK_map r b)
    · rw [if_neg h, if_neg h]; exact .cons a (repK_map r b)
theorem repK_app {K : PySem.W.Frag} {G : Hp} : ∀ {kvs kws : List (Key × V)} {ks ls : List (Key × Da)}, RepK K G kvs ks → RepK K G kws ls → RepK K G (kvs ++ kws) (ks ++ ls)
  | _, _, _, _, .nil, r => r
  | _, _, _, _, .cons a b, r => .cons a (repK_app b r)
theorem repK_put {K : PySem.W.Frag} {G : Hp} {k : Key} {v : V} {d : Da} {kvs : List (Key × V)} {ks : List (Key × Da)} (b : RepK K G kvs ks) (r : Rep K G v d) : RepK K G (putK kvs k v) (putD ks k d) := by
  unfold putK putD
  rw [repK_any b]
  split
  · exact repK_map r b
  · exact repK_app b (.cons r .nil)
/-- a dict comprehension over anything walked -/
theorem dc_it {J : It} {n : Nat} {G : Hp → Prop} {Y : Nat → Hp → V → Hp → Prop} (w : Walk J n G Y) {g : TG} {tt : TT} {tk tv : TE} {vs : List Nat} {σ : L2.St} {H1 : Hp} {D : Addr} {Qd : Hp → Prop} (Pv : Nat → Hp → Prop) (h0 : Pv 0 (L2.upd H1 D (.dK []))) (hG : ∀ i H, i ≤ n → Pv i H → G H)
    (hs : ∀ i x H H', i < n → Pv i H → Y i H x H' → g x (wipe σ vs) H' fun σ2 H2 => wipe σ2 vs = wipe σ vs ∧ tt σ2 H2 fun b H3 =>
      if b = true then tk σ2 H3 fun y H4 => tv σ2 H4 fun z H5 => ∃ kvs k, y = kV k ∧ H5 D = some (.dK kvs) ∧ kvs.length < sizeLine ∧ Pv (i + 1) (L2.upd H5 D (.dK (putK kvs k z))) else Pv (i + 1) H3) (hd : ∀ H, Pv n H → Qd H) :
    ∃ W : Nat → Nat → Hp → Prop, (∃ m, W 0 m (L2.upd H1 D (.dK []))) ∧ ∀ i m H, W i m H →
      (J.stop i H ∧ Qd H) ∨ (J.go i H ∧ ∃ Nx : Hp → Prop, (∀ H', Nx H' → ∃ m', m' < m ∧ W (i + 1) m' H') ∧ ∀ x H', J.yld i H x H' → g x (wipe σ vs) H' fun σ2 H2 => wipe σ2 vs = wipe σ vs ∧ tt σ2 H2 fun b H3 =>
        if b = true then tk σ2 H3 fun y H4 => tv σ2 H4 fun z H5 => ∃ kvs k, y = kV k ∧ H5 D = some (.dK kvs) ∧ kvs.length < sizeLine ∧ Nx (L2.upd H5 D (.dK (putK kvs k z))) else Nx H3) := by
  refine ⟨fun i m H => m = n - i ∧ i ≤ n ∧ Pv i H, ⟨n, by simp, Nat.zero_le _, h0⟩, ?_⟩
  rintro i m H ⟨rfl, hi, p⟩
  have q := hG i H hi p
  by_cases hlt : i < n
  · refine .inr ⟨w.goes i H hlt q, Pv (i + 1), fun H' p' => ⟨n - (i + 1), by omega, rfl, hlt, p'⟩, fun x H' y => ?_⟩
    exact hs i x H H' hlt p (w.yields i H x H' hlt q y)
  · have e : i = n := by omega
    subst e
    exact .inl ⟨w.stops H q, hd H p⟩
/-- a dict comprehension, item by item, from what is there already -/
def CompK (step : Da → (Option (Key × Da) → Nat → Prop) → Nat → Prop) : List Da → List (Key × Da) → (List (Key × Da) → Nat → Prop) → Nat → Prop
  | [], acc, K, m => K acc m
  | d :: ds, acc, K, m => step d (fun o m1 => CompK step ds (match o with | none => acc | some kv => putD acc kv.1 kv.2) K m1) m
def dcStep (M : Mode) (X : Cx) (scope : Scope) (N : List Str) (sc : Scope) (B : Bd) (j : Nat) (vs : List Nat) (tg : Expr) (ifs : List Expr) (kx vx : Expr) (sl : List Sl) : Da → (Option (Key × Da) → Nat → Prop) → Nat → Prop := fun d k m =>
  ∃ sl' is, (AllX X scope N sc B j fun X' => Tg X' N (relabelS scope sc) tg d sl sl' is) ∧ (∀ i ∈ is, i ∈ vs) ∧
    lcIf M X scope N sc B j ifs sl' (fun b m1 => if b = true then AllX X scope N sc B j fun X' => EvD M X' K0 kx sl' (fun y m2 => ∃ q, y = keyD q ∧ AllX X scope N sc B j fun X' => EvD M X' K0 vx sl' (fun z m3 => k (some (q, z)) m3) m2) m1 else k none m1) m
section
variable {M : Mode} {X : Cx} {KE : Kx} {tg iter kx vx : Expr} {ifs : List Expr} {scope : Scope} {sl sw : List Sl} {P : Da → Nat → Prop} {m j : Nat} {pos : Pos} {N : List Str} {sc : Scope} {B : Bd} {own : List (Str × Nat)}
theorem putD_len (ks : List (Key × Da)) (k : Key) (v : Da) : (putD ks k v).length ≤ ks.length + 1 := by
  unfold putD
  split <;> simp
theorem dc_run (cx : Ctx X N sc B) (hr : Room j X.A) (hc : X.calm = true) (wp : WipeS N own sl sw) {G0 H0 G H G1 H1 : Hp} {σ : L2.St} {m1 : Nat} {J : It} {ds : List Da} {Q : VK} (ok : Ok M G0 H0 G H m) (so : SOk X.K M H0 G H σ sl) (o1 : Ok M G H G1 H1 m1) (wk : WalkD M X.K J ds G1) (hl : ds.length < sizeLine)
    (q : CompK (dcStep M X scope N sc B j (own.map (·.2)) tg ifs kx vx sw) ds [] (fun r m2 => P (.dct r) m2) m1) (D : Addr) (hD : H1 D = none)
    (fin : ∀ out m' G' H', P (.dct out) m' → Ok M G H G' H' m' → G' D = none → (H D = none ∨ M.X H D) → ¬ M.X H' D → RepM X.K G' H' D (.dct out) → Q (.ref D) H') :
    ∃ W : Nat → Nat → Hp → Prop, (∃ m, W 0 m (L2.upd H1 D (.dK []))) ∧ ∀ i m H, W i m H → (J.stop i H ∧ Q (.ref D) H) ∨ (J.go i H ∧ ∃ Nx : Hp → Prop, (∀ H', Nx H' → ∃ m', m' < m ∧ W (i + 1) m' H') ∧ ∀ x H', J.yld i H x H' →
      gBlk X scope tg x (wipe σ (own.map (·.2))) H' fun σ2 H2 => wipe σ2 (own.map (·.2)) = wipe σ (own.map (·.2)) ∧
        tBlk X scope ifs σ2 H2 fun b H3 =>
          if b = true then eBlk X scope kx σ2 H3 fun y H4 => eBlk X scope vx σ2 H4 fun z H5 => ∃ kvs k, y = kV k ∧ H5 D = some (.dK kvs) ∧ kvs.length < sizeLine ∧ Nx (L2.upd H5 D (.dK (putK kvs k z))) else Nx H3) := by
  obtain ⟨Gd, Y, wlk, hG, hY⟩ := wk
  have nx1 : ¬ M.X H1 D := fun x => by obtain ⟨u, e⟩ := M.there _ _ _ o1.inv x; rw [hD] at e; cases e
  have gD : G1 D = none := by
    cases e : G1 D with
    | none => rfl
    | some u => rw [o1.sub _ _ e] at hD; cases hD
  have hD0 : H D = none ∨ M.X H D := by
    cases e : H D with
    | none => exact .inl rfl
    | some u =>
      by_cases x : M.X H D
      · exact .inr x
      · rw [(o1.keep D u e x).1] at hD; cases hD
  have fr : ∀ i a, Mt sw i → (wipe σ (own.map (·.2)))[i]? = some (some (.ref a)) → a ≠ D := fun i a mt e z => by
    obtain ⟨u, h1, h2⟩ := (wp.ok so).held mt e
    subst z
    rcases hD0 with h | h
    · rw [h] at h1; cases h1
    · exact h2 h
  have al : Ok M G1 H1 G1 (L2.upd H1 D (.dK [])) m1 := o1.here.allocM hD
  let Pv : Nat → Hp → Prop := fun i H' => ∃ G' m' acc out, Ok M G H G' H' m' ∧ Same G1 G' ∧ SOk X.K M H0 G' H' (wipe σ (own.map (·.2))) sw ∧ H' D = some (.dK acc) ∧ RepK X.K G' acc out ∧ out.length ≤ i ∧ G' D = none ∧ ¬ M.X H' D ∧
    CompK (dcStep M X scope N sc B j (own.map (·.2)) tg ifs kx vx sw) (ds.drop i) out (fun r m2 => P (.dct r) m2) m'
  have adv : ∀ {i G' H' m' acc out} {k : Key} {y : V} {d : Da}, Ok M G H G' H' m' → Same G1 G' → SOk X.K M H0 G' H' (wipe σ (own.map (·.2))) sw → H' D = some (.dK acc) → RepK X.K G' acc out → out.length ≤ i → G' D = none → ¬ M.X H' D → Rep X.K G' y d →
      CompK (dcStep M X scope N sc B j (own.map (·.2)) tg ifs kx vx sw) (ds.drop (i + 1)) (putD out k d) (fun r m2 => P (.dct r) m2) m' → Pv (i + 1) (L2.upd H' D (.dK (putK acc k y))) := by
    intro i G' H' m' acc out k y d k1 k2 k3 k4 k5 k6 k7 k8 k9 k10
    have mo : Ok M G H G' (L2.upd H' D (.dK (putK acc k y))) m' := k1.mut k7 k8 hD0
    have nx : ∀ b, M.X (L2.upd H' D (.dK (putK acc k y))) b → M.X H' b := (M.clo m' H' _ k1.inv fun b u x e => by rw [upd_ne (fun q => k8 (by rw [← q]; exact x))]; exact e).2
    exact ⟨G', m', putK acc k y, putD out k d, mo, k2, k3.upd nx fr, upd_same, repK_put k5 k9, by have := putD_len out k d; omega, k7, fun x => k8 (nx _ x), k10⟩
  refine dc_it (g := gBlk X scope tg) (tt := tBlk X scope ifs) (tk := eBlk X scope kx) (tv := eBlk X scope vx) (vs := own.map (·.2)) (σ := σ) (D := D) (Qd := fun H => Q (.ref D) H) wlk Pv ?_ ?_ ?_ ?_
  · refine ⟨G1, m1, [], [], o1.trans al, Same.refl _, (wp.ok ((so.step o1).step al)), upd_same, .nil, Nat.le_refl _, gD, ?_, ?_⟩
    · exact fun x => nx1 ((M.clo m1 H1 _ o1.inv fun b u x e => by rw [upd_ne (fun q => nx1 (by rw [← q]; exact x))]; exact e).2 _ x)
    · simpa using q
  · rintro i H' _ ⟨G', m', acc, out, k1, k2, _⟩
    exact hG G' H' m' k2 k1.here
  · rintro i x H' H2 hi ⟨G', m', acc, out, k1, k2, k3, k4, k5, k6, k7, k8, k9⟩ y
    obtain ⟨G2, d, e1, hd, rd⟩ := hY i H' x H2 G' m' hi y k2 k1.here
    have hdr : ds.drop i = d :: ds.drop (i + 1) := by
      obtain ⟨hl, e⟩ := List.getElem?_eq_some_iff.mp hd
      rw [List.drop_eq_getElem_cons hl, e]
    rw [hdr] at k9
    obtain ⟨sl', is, tgA, hin, hif⟩ := k9
    have ok2 : Ok M G H G2 H2 m' := k1.trans e1
    have so2 := k3.step e1
    obtain ⟨f1, f2⟩ := e1.keep D _ k4 k8
    have f3 := e1.new D _ k4 k8 k7
    intro s Hb C cl fp
    refine (tgA.get cx hr s Hb C cl fp).run (blk_ctx cx s Hb C cl fp) hc (ok.trans ok2) so2 rd fun σ' so3 w3 => ⟨(w3 _ hin).trans (wipe_idem σ _), ?_⟩
    have rest : ∀ b m3 G3 H3, Ok M G2 H2 G3 H3 m3 → (if b = true then AllX X scope N sc B j fun X' => EvD M X' K0 kx sl' (fun y m2 => ∃ q, y = keyD q ∧ AllX X scope N sc B j fun X' => EvD M X' K0 vx sl' (fun z m3 => CompK (dcStep M X scope N sc B j (own.map (·.2)) tg ifs kx vx sw) (ds.drop (i + 1)) (putD out q z) (fun r m2 => P (.dct r) m2) m3) m2) m3
        else CompK (dcStep M X scope N sc B j (own.map (·.2)) tg ifs kx vx sw) (ds.drop (i + 1)) out (fun r m2 => P (.dct r) m2) m3) →
        if b = true then (∀ s Hb C cl fp, wpE (X.blk s Hb scope (compEnvC scope cl C X.env) fp) kx σ' H3 fun y H4 => ∀ s Hb C cl fp, wpE (X.blk s Hb scope (compEnvC scope cl C X.env) fp) vx σ' H4 fun z H5 => ∃ kvs k, y = kV k ∧ H5 D = some (.dK kvs) ∧ kvs.length < sizeLine ∧ Pv (i + 1) (L2.upd H5 D (.dK (putK kvs k z)))) else Pv (i + 1) H3 := by
      intro b m3 G3 H3 e2 hb
      obtain ⟨g1, g2⟩ := e2.keep D _ f1 f2
      have g3 := e2.new D _ f1 f2 f3
      cases b with
      | true =>
        rw [if_pos rfl] at hb ⊢
        intro s Hb C cl fp
        refine (AllX.get hb cx hr s Hb C cl fp) G0 H0 G3 H3 σ' (fun _ _ _ _ => False) _ ((ok.trans ok2).trans e2) (so3.step e2) wis0 fun y dy m4 G4 H4 ⟨qk, eqk, pc⟩ e3 ry => ?_
        subst eqk
        intro s Hb C cl fp
        obtain ⟨h1, h2⟩ := e3.keep D _ g1 g2
        have h3 := e3.new D _ g1 g2 g3
        refine (AllX.get pc cx hr s Hb C cl fp) G0 H0 G4 H4 σ' (fun _ _ _ _ => False) _ (((ok.trans ok2).trans e2).trans e3) ((so3.step e2).step e3) wis0 fun z dz m5 G5 H5 pz e4 rz => ?_
        obtain ⟨i1, i2⟩ := e4.keep D _ h1 h2
        have i3 := e4.new D _ h1 h2 h3
        refine ⟨acc, qk, rep_key ry, i1, by rw [k5.length]; omega, ?_⟩
        exact adv (((ok2.trans e2).trans e3).trans e4) ((((k2.trans e1.le).trans e2.le).trans e3.le).trans e4.le) ((((so2.step e2).step e3).step e4)) i1 (((((k5.mono e1.le).mono e2.le).mono e3.le)).mono e4.le) k6 i3 i2 rz pz
      | false =>
        rw [if_neg Bool.false_ne_true] at hb ⊢
        exact ⟨G3, m3, acc, out, ok2.trans e2, ((k2.trans e1.le).trans e2.le), so2.step e2, g1, (k5.mono e1.le).mono e2.le, by omega, g3, g2, hb⟩
    match ifs, hif, rest with
    | [], hif, rest => exact rest true m' G2 H2 ok2.here hif
    | [c], hif, rest =>
      intro s Hb C cl fp
      unfold lcIf at hif
      exact (AllX.get hif cx hr s Hb C cl fp) G0 H0 G2 H2 σ' (fun _ _ _ _ => False) _ (ok.trans ok2) so3 wis0 fun b m3 G3 H3 pb e2 => rest b m3 G3 H3 e2 pb
    | _ :: _ :: _, hif, _ => exact hif.elim
  · rintro H' ⟨G', m', acc, out, k1, k2, k3, k4, k5, k6, k7, k8, k9⟩
    rw [List.drop_length] at k9
    exact fin out m' G' H' k9 k1 k7 hD0 k8 ⟨acc, k4, k5⟩
theorem evn_dc (cx : Ctx X N sc B) (hr : Room j X.A) (ot : OwnT N tg own) (wp : WipeS N own sl sw) (h : IterD M X KE tg iter sl (fun ds m1 => ds.length < sizeLine ∧ CompK (dcStep M X scope N sc B j (own.map (·.2)) tg ifs kx vx sw) ds [] (fun r m2 => P (.dct r) m2) m1) m)
    (hb : blkC N sc scope own = true := by with_unfolding_all decide +kernel) (hc : X.calm = true := by with_unfolding_all rfl) (hs : ∀ x, foldedSetIterable iter X.env x = pure x := by with_unfolding_all (intro _; rfl)) : EvN M X KE (.DictComp kx vx [⟨tg, iter, ifs, 0⟩] scope pos) sl P m := by
  intro G0 H0 G H σ W Q ok so wi po
  refine wpE.of (pe_dc (own := own) (wi := wpI X tg iter) (g := gBlk X scope tg) (tt := tBlk X scope ifs) (tk := eBlk X scope kx) (tv := eBlk X scope vx) hc cx.nd pi_wp ?_ ?_ ?_ ?_ ?_ hs) ?_
  · rw [cx.n, cx.s]; exact blkOk_by hb
  · exact fun s Hb C cl fp => ⟨fun pins s' σ H v u Q I r q => q s Hb C cl fp pins s' u I r⟩
  · intro s Hb C cl fp
    match ifs with
    | [] => exact pts_nil
    | [c] => exact pts_one ⟨fun pins s' σ H Q I q => q s Hb C cl fp pins s' I⟩
    | _ :: _ :: _ => exact ⟨fun pins s' σ H Q I q => q.elim⟩
  · exact fun s Hb C cl fp => ⟨fun pins s' σ H Q I q => q s Hb C cl fp pins s' I⟩
  · exact fun s Hb C cl fp => ⟨fun pins s' σ H Q I q => q s Hb C cl fp pins s' I⟩
  · refine h G0 H0 G H σ W _ ok so wi fun J ds m1 G1 H1 q o1 wk => fun D hD => ?_
    exact dc_run cx hr hc wp ok so o1 wk q.1 q.2 D hD fun out m' G' H' p k g h0 nx r => po D (.dct out) m' G' H' p k ⟨g, h0, nx, r⟩
end
end OZ
namespace OZ
open PySem L2 PySem.Spec PyProof.Rows
section
variable {M : Mode} {X : Cx} {KE : Kx} {P : Da → Nat → Prop} {m : Nat}
theorem opd_inC {c : Nat} {z : Str} (k : P (.bl (decide (c ∈ z.cps.toList))) m) : OpD M X KE (compareOp .In) (.str ⟨#[c]⟩) (.str z) P m := .of op_in_sign fun G H _ _ _ ok r1 r2 po => ⟨c, z, r1.str_inv, r2.str_inv, po _ _ m G H k ok (.bl _)⟩
theorem opd_ninC {c : Nat} {z : Str} (k : P (.bl (!decide (c ∈ z.cps.toList))) m) : OpD M X KE (compareOp .NotIn) (.str ⟨#[c]⟩) (.str z) P m := .of op_notIn_sign fun G H _ _ _ ok r1 r2 po => ⟨c, z, r1.str_inv, r2.str_inv, po _ _ m G H k ok (.bl _)⟩
theorem cd_sortS {xs : List Str} (h : xs.length < 64) (k : ∀ ys : List Str, ys.Perm xs → sortedS ys = true → P (.lst (ys.map Da.str)) m) : CallD M X KE (.builtin "sorted") [.lst (xs.map Da.str)] P m := .of cr_sortedS fun G H Q vs ok r po => by
  obtain ⟨v, rfl, r1⟩ := reps1 r
  obtain ⟨a, us, rfl, q, rs⟩ := r1.lst_inv
  have := reps_strs rs
  subst this
  refine ⟨a, xs, rfl, sq_l (ok.sub _ _ q), h, fun ys p pm sr hp => ?_⟩
  have al := ok.here.alloc (o := .lst (ys.map V.str)) hp
  exact po _ _ m _ _ (k ys pm sr) (ok.trans al) (.lst upd_same (reps_strsI ys))
theorem cd_sortT {xs : List Str} (h : xs.length < 64) (k : ∀ ys : List Str, ys.Perm xs → sortedS ys = true → P (.lst (ys.map Da.str)) m) : CallD M X KE (.builtin "sorted") [.lst (xs.map Da.str)] P m := cd_sortS h k
theorem cd_sortI {xs : List Int} (h : xs.length < 64) (k : ∀ ys : List Int, ys.Perm xs → ys.Pairwise (· ≤ ·) → P (.lst (ys.map Da.int)) m) : CallD M X KE (.builtin "sorted") [.lst (xs.map Da.int)] P m := .of cr_sorted fun G H Q vs ok r po => by
  obtain ⟨v, rfl, r1⟩ := reps1 r
  obtain ⟨a, us, rfl, q, rs⟩ := r1.lst_inv
  have := reps_ints rs
  subst this
  refine ⟨a, xs, rfl, sq_l (ok.sub _ _ q), h, fun ys p pm sr hp => ?_⟩
  have al := ok.here.alloc (o := .lst (ys.map V.int)) hp
  exact po _ _ m _ _ (k ys pm sr) (ok.trans al) (.lst upd_same (reps_intsI ys))
theorem repK_keys {K : PySem.W.Frag} {G : Hp} : ∀ {kvs : List (Key × V)} {ks : List (Key × Da)}, RepK K G kvs ks → kvs.map (·.1) = ks.map (·.1)
  | _, _, .nil => rfl
  | _, _, .cons _ b => by simp [repK_keys b]
theorem cd_sortD {ks : List (Key × Da)} {xs : List Str} (hk : ks.map (·.1) = xs.map Sum.inr) (h : xs.length < 64) (k : ∀ ys : List Str, ys.Perm xs → sortedS ys = true → P (.lst (ys.map Da.str)) m) (hc : X.calm = true := by with_unfolding_all rfl) : CallD M X KE (.builtin "sorted") [.dct ks] P m := .of (call_sortedD hc) fun G H Q vs ok r po => by
  obtain ⟨v, rfl, r1⟩ := reps1 r
  obtain ⟨a, o, us, rfl, q, rs⟩ := r1.dct_inv
  refine ⟨a, us, xs, rfl, .inr ⟨_, ok.sub _ _ q⟩, (repK_keys rs).trans hk, h, fun ys p pm sr hp => ?_⟩
  have al := ok.here.alloc (o := .lst (ys.map V.str)) hp
  exact po _ _ m _ _ (k ys pm sr) (ok.trans al) (.lst upd_same (reps_strsI ys))
end
/-! a dict comprehension by an invariant over what is there -/
theorem compk_go {step : Da → (Option (Key × Da) → Nat → Prop) → Nat → Prop} (mono : ∀ d k k' m, (∀ o m', k o m' → k' o m') → step d k m → step d k' m) (I : Nat → List (Key × Da) → Nat → Prop) : ∀ (ds : List Da) (i : Nat) (acc : List (Key × Da)) (m : Nat) (K : List (Key × Da) → Nat → Prop), I i acc m →
    (∀ j d acc m, ds[j]? = some d → I (i + j) acc m → step d (fun o m1 => I (i + j + 1) (match o with | none => acc | some kv => putD acc kv.1 kv.2) m1) m) → (∀ r m, I (i + ds.length) r m → K r m) → CompK step ds acc K m
  | [], i, acc, m, K, h0, _, k => k acc m (by simpa using h0)
  | d :: ds, i, acc, m, K, h0, h, k => by
    refine mono d _ _ m (fun o m1 h1 => ?_) (h 0 d acc m rfl h0)
    refine compk_go mono I ds (i + 1) _ m1 _ h1 (fun j d acc m e h2 => ?_) fun r m2 h2 => ?_
    · have := h (j + 1) d acc m (by simpa using e) (by rw [show i + (j + 1) = i + 1 + j by omega]; exact h2)
      rw [show i + 1 + j + 1 = i + (j + 1) + 1 by omega]
      exact this
    · refine k _ m2 ?_
      rw [show i + (d :: ds).length = i + 1 + ds.length by simp; omega]
      exact h2
section
variable {M : Mode} {X : Cx} {scope : Scope} {N : List Str} {sc : Scope} {B : Bd} {j : Nat} {vs : List Nat} {tg kx vx : Expr} {ifs : List Expr} {sl : List Sl} {m : Nat} {x : Str} {p : Pos}
theorem dcstep_mono : ∀ d k k' m, (∀ o m', k o m' → k' o m') → dcStep M X scope N sc B j vs tg ifs kx vx sl d k m → dcStep M X scope N sc B j vs tg ifs kx vx sl d k' m := by
  rintro d k k' m hk ⟨sl', is, h1, h2, h3⟩
  refine ⟨sl', is, h1, h2, ?_⟩
  have one : ∀ b m1, (if b = true then AllX X scope N sc B j fun X' => EvD M X' K0 kx sl' (fun y m2 => ∃ q, y = keyD q ∧ AllX X scope N sc B j fun X' => EvD M X' K0 vx sl' (fun z m3 => k (some (q, z)) m3) m2) m1 else k none m1) → if b = true then AllX X scope N sc B j fun X' => EvD M X' K0 kx sl' (fun y m2 => ∃ q, y = keyD q ∧ AllX X scope N sc B j fun X' => EvD M X' K0 vx sl' (fun z m3 => k' (some (q, z)) m3) m2) m1 else k' none m1 := by
    intro b m1 h
    cases b with
    | true =>
      rw [if_pos rfl] at h ⊢
      exact fun s H C cl fp cx hr => evd_imp (h s H C cl fp cx hr) fun y m' ⟨q, e, hq⟩ => ⟨q, e, fun s H C cl fp cx hr => evd_imp (hq s H C cl fp cx hr) fun z m3 hz => hk _ _ hz⟩
    | false => rw [if_neg Bool.false_ne_true] at h ⊢; exact hk _ _ h
  match ifs, h3 with
  | [], h3 => exact one true m h3
  | [c], h3 => exact fun s H C cl fp cx hr => evt_imp (h3 s H C cl fp cx hr) fun b m' q => one b m' q
  | _ :: _ :: _, h3 => exact h3.elim
/-- {kx: vx for x in ds if c}, by an invariant -/
theorem compk_if {c : Expr} {i : Nat} (I : Nat → List (Key × Da) → Nat → Prop) {ds : List Da} {K : List (Key × Da) → Nat → Prop} (hi : IdxAt N x i) (hN : sl.length = N.length) (hv : i ∈ vs) (h0 : I 0 [] m)
    (h : ∀ n d acc m, ds[n]? = some d → I n acc m → AllX X scope N sc B j fun X' => EvT M X' K0 c (sl.set i (.v d)) (fun b m1 => if b = true then AllX X scope N sc B j fun X' => EvD M X' K0 kx (sl.set i (.v d)) (fun y m2 => ∃ q, y = keyD q ∧ AllX X scope N sc B j fun X' => EvD M X' K0 vx (sl.set i (.v d)) (fun z m3 => I (n + 1) (putD acc q z) m3) m2) m1 else I (n + 1) acc m1) m)
    (k : ∀ r m, I ds.length r m → K r m) (hl : (relabelS scope sc).names.lookup x = some .local := by with_unfolding_all rfl) : CompK (dcStep M X scope N sc B j vs (.Name x p) [c] kx vx sl) ds [] K m :=
  compk_go dcstep_mono I ds 0 [] m K h0 (fun n d acc m e q => ⟨_, [i], fun s H C cl fp cx hr => .name (.of hi hN) (.inl hl) (.inr (by rw [cx.s]; exact hl)), fun a ha => (by rw [List.mem_singleton.mp ha]; exact hv), by rw [Nat.zero_add] at q ⊢; exact h n d acc m e q⟩) fun r m q => k r m (by simpa using q)
theorem compk_all {i : Nat} (I : Nat → List (Key × Da) → Nat → Prop) {ds : List Da} {K : List (Key × Da) → Nat → Prop} (hi : IdxAt N x i) (hN : sl.length = N.length) (hv : i ∈ vs) (h0 : I 0 [] m)
    (h : ∀ n d acc m, ds[n]? = some d → I n acc m → AllX X scope N sc B j fun X' => EvD M X' K0 kx (sl.set i (.v d)) (fun y m2 => ∃ q, y = keyD q ∧ AllX X scope N sc B j fun X' => EvD M X' K0 vx (sl.set i (.v d)) (fun z m3 => I (n + 1) (putD acc q z) m3) m2) m)
    (k : ∀ r m, I ds.length r m → K r m) (hl : (relabelS scope sc).names.lookup x = some .local := by with_unfolding_all rfl) : CompK (dcStep M X scope N sc B j vs (.Name x p) [] kx vx sl) ds [] K m :=
  compk_go dcstep_mono I ds 0 [] m K h0 (fun n d acc m e q => ⟨_, [i], fun s H C cl fp cx hr => .name (.of hi hN) (.inl hl) (.inr (by rw [cx.s]; exact hl)), fun a ha => (by rw [List.mem_singleton.mp ha]; exact hv), by rw [Nat.zero_add] at q ⊢; exact h n d acc m e q⟩) fun r m q => k r m (by simpa using q)
/-- .. with a condition, a list comprehension -/
theorem compd_allIf {c elt : Expr} {i : Nat} (I : Nat → List Da → Nat → Prop) {ds : List Da} {K : List Da → Nat → Prop} (hi : IdxAt N x i) (hN : sl.length = N.length) (hv : i ∈ vs) (h0 : I 0 [] m)
    (h : ∀ n d acc m, ds[n]? = some d → I n acc m → AllX X scope N sc B j fun X' => EvT M X' K0 c (sl.set i (.v d)) (fun b m1 => if b = true then AllX X scope N sc B j fun X' => EvD M X' K0 elt (sl.set i (.v d)) (fun y m2 => I (n + 1) (acc ++ [y]) m2) m1 else I (n + 1) acc m1) m)
    (k : ∀ r m, I ds.length r m → K r m) (hl : (relabelS scope sc).names.lookup x = some .local := by with_unfolding_all rfl) : CompD (lcStep M X scope N sc B j vs (.Name x p) [c] elt sl) ds K m :=
  compd_inv lcstep_mono I h0 (fun n d acc m e q => lcstep_nameIf (.of hi hN) hv (fun s H C cl fp cx hr => evt_imp (h n d acc m e q s H C cl fp cx hr) fun b m1 hb => by
    cases b with
    | true => exact hb
    | false => simpa using hb) hl) k
end
end OZ
namespace OZ
open PySem L2 PySem.Spec PyProof.Rows
section
variable {B : Bd} {M : Mode} {x qual : Str} {st : Stmt} {f C : Addr} {fd : FuncData} {N ps : List Str} {k n : Nat} {F : FI} {ks : List Str} {gD : List Da → List Da → List Da}
theorem fnID_ok {dvs : List V} {kws : List (Str × V)} (Fn : FunD B.K x qual (defArgs st) (defBody st) (defScope st) dvs kws f fd) (S : FnScope N ps (defScope st)) (hn : n + 1 = ps.length)
    (h : ∀ (X : Cx) (ds : List Da) (KR : List (Str × Da) → Nat → Prop) (KE : Kx) (m : Nat) (a : Addr), (∃ cdv A outer s H E, X = cxOf (L2.CX B.P B.w) B.P B.w B.K B.mg B.base N qual (defScope st) f cdv A outer s H E) → Ctx X N (defScope st) B → Room k X.A → ds.length = n → F ds KR KE m →
      StD M X (fun _ => KE) (defBody st) ((startD N (.ref a :: ds)).set 0 (.mm (some a) (.obj C []))) { nx := fun sl' m' => ∃ fs, sl'[0]? = some (.mm (some a) (.obj C fs)) ∧ KR fs m', rt := fun _ _ => False } m) : FnOk B.P B.w B.K B.mg B.base (L2.CX B.P B.w) (k + 1) f fd ps (spI M B.K C n F) := by
  refine Fn.ok S (fun vs H Q E q => q.1.trans hn) (fun cdv A outer s H vs Q E hr q => ?_)
  obtain ⟨hl, a, dx, rest, H0, G, m, ds, KR, KE, rfl, hx, hdx, ne, rfl, ok, r, hF, po, px⟩ := q
  refine ⟨_, pss_wp, ?_⟩
  have ok1 : Ok M G H0 G (L2.upd H0 dx (.own a)) m := ok.allocM hdx
  have hx1 : (L2.upd H0 dx (.own a)) a = none := by rw [upd_ne (Ne.symm ne)]; exact hx
  have ok2 := ok1.trans (ok1.allocM (o := .ins C dx []) hx1)
  have nX0 : ¬ M.X H0 a := fun z => by obtain ⟨u, e⟩ := M.there _ _ _ ok.inv z; rw [hx] at e; cases e
  have nX1 : ¬ M.X (L2.upd H0 dx (.own a)) a := fun z => by obtain ⟨u, e⟩ := M.there _ _ _ ok1.inv z; rw [hx1] at e; cases e
  have gA : G a = none := by
    cases e : G a with
    | none => rfl
    | some u => rw [ok.sub _ _ e] at hx; cases hx
  have nw : New B.K M H0 G (L2.upd (L2.upd H0 dx (.own a)) a (.ins C dx [])) a (.obj C []) := ⟨gA, .inl hx, fun z => nX1 (X_keep ok1 nX1 _ z), dx, [], upd_same, .nil⟩
  have so0 : SOk B.K M H0 G (L2.upd (L2.upd H0 dx (.own a)) a (.ins C dx [])) (L2.start N (.ref a :: rest)) (startD N (.ref a :: ds)) := sok_startB (.cons (.ref a) r)
  have so1 : SOk B.K M H0 G (L2.upd (L2.upd H0 dx (.own a)) a (.ins C dx [])) (L2.start N (.ref a :: rest)) ((startD N (.ref a :: ds)).set 0 (.mm (some a) (.obj C []))) := by
    have hs0 : (L2.start N (.ref a :: rest)).set 0 (some (.ref a)) = L2.start N (.ref a :: rest) := rfl
    refine ⟨?_, fun i j b mi mj ei ej => ?_⟩
    · have := paired_set (F := RelSl B.K M H0 G (L2.upd (L2.upd H0 dx (.own a)) a (.ins C dx []))) (x := some (.ref a)) (y := .mm (some a) (.obj C [])) ⟨a, rfl, fun y e => Option.some.inj e, nw.g, nw.h0, nw.nx, nw.r⟩ 0 so0.rel
      rw [hs0] at this
      exact this
    · have w : ∀ i, Mt ((startD N (.ref a :: ds)).set 0 (.mm (some a) (.obj C []))) i → i = 0 := fun i ⟨q, d, hd⟩ => by
        by_cases z : 0 = i
        · exact z.symm
        · rw [List.getElem?_set_ne z] at hd; exact absurd ⟨q, d, hd⟩ start_noM
      rw [w i mi, w j mj]
  refine h (cxOf (L2.CX B.P B.w) B.P B.w B.K B.mg B.base N qual (defScope st) f cdv A outer s _ E) ds KR KE m a ⟨cdv, A, outer, s, _, E, rfl⟩ ⟨rfl, rfl, S.nd, rfl⟩ hr (by have := r.length; simp at hl; omega) hF G H0 G _ (L2.start N (.ref a :: rest)) (fun cls d _ H => E cls d H) _ ok2 so1 ⟨takes_of rfl rfl rfl rfl, fun C' fs d σ sl m' G' H' q o _ x => px C' fs d m' G' H' q o x⟩ ⟨?_, ?_, ?_, ?_, ?_⟩
  · rintro σ sl m' G' H' ⟨fs, e, q⟩ o so
    obtain ⟨u, e1, b, rfl, zz, g, h0, nx, rm⟩ := paired_get so.rel e
    cases zz a rfl
    exact po fs m' G' H' q o ⟨g, h0, nx, rm⟩
  · exact fun _ _ _ _ _ z => z.elim
  · exact fun _ _ _ _ _ z => z.elim
  · exact fun _ _ _ _ _ z => z.elim
  · exact fun _ _ _ _ _ z => z.elim
end
end OZ

/-! ### dicts: copies, get, stores, displays -/
namespace OZ
open PySem L2 PySem.Spec PyProof.Rows
section
variable {M : Mode} {X : Cx} {KE : Kx} {a b e f o : Expr} {es : List Expr} {sl : List Sl} {P : Da → Nat → Prop} {m j i : Nat} {pos p apos cpos : Pos} {x : Str} {id : String} {N : List Str} {sc : Scope} {B : Bd}
/-- a call that makes an object of the run's own -/
def CallDN (M : Mode) (X : Cx) (KE : Kx) (f : Value) (ds : List Da) (P : Da → Nat → Prop) (m : Nat) : Prop :=
  ∀ (G H : Hp) (σ : L2.St) (W : WX) (Q : VK) (vs : List V), Ok M G H G H m → Wis M X KE G H σ W → Reps X.K G vs ds → (∀ ad d m' G' H', P d m' → Ok M G H G' H' m' → New X.K M H G' H' ad d → Q (.ref ad) H') →
    ∀ pins s us, Inv X pins σ H s → Vals vs us → wpAny (model X.prog X.w) X.A (call f us) (EP X pins σ Q) X.xe s
theorem CallDN.d {f : Value} {ds : List Da} (c : CallDN M X KE f ds P m) : CallD M X KE f ds P m := fun G H σ W Q vs ok wi r po pins s us I e =>
  thn (c G H σ W (fun v H' => ∃ ad d m' G', v = .ref ad ∧ P d m' ∧ Ok M G H G' H' m' ∧ New X.K M H G' H' ad d) vs ok wi r (fun ad d m' G' H' q o n => ⟨ad, d, m', G', rfl, q, o, n⟩) pins s us I e) fun v s1 ⟨x, H1, I1, rv, ad, d, m', G', e, p, o, n⟩ => by
    obtain ⟨G2, H2, I2, o2, rep⟩ := n.pubI o I1
    subst e
    exact ⟨_, H2, I2, rv, po _ d m' G2 H2 p o2 rep⟩
theorem new_at {G H : Hp} {ad : Addr} {u : HO} {d : Da} (ok : Ok M G H G H m) (h : H ad = none) (r : RepM X.K G (L2.upd H ad u) ad d) : Ok M G H G (L2.upd H ad u) m ∧ New X.K M H G (L2.upd H ad u) ad d := by
  have gA : G ad = none := by
    cases e : G ad with
    | none => rfl
    | some u => rw [ok.sub _ _ e] at h; cases h
  have nx : ¬ M.X H ad := fun z => by obtain ⟨u, e⟩ := M.there _ _ _ ok.inv z; rw [h] at e; cases e
  exact ⟨ok.allocM h, gA, .inl h, fun z => nx (X_keep ok nx _ z), r⟩
theorem cdn_dictD {ks : List (Key × Da)} (k : P (.dct ks) m) : CallDN M X KE (.type "dict") [.dct ks] P m := fun G H σ W Q vs ok wi r po pins s us I e => by
  obtain ⟨v, rfl, r1⟩ := reps1 r
  obtain ⟨a, ob, kvs, rfl, q, t⟩ := r1.dct_inv
  refine call_dictD pins s σ H _ us Q I e ⟨a, kvs, rfl, .inr ⟨_, ok.sub _ _ q⟩, fun ad had => ?_⟩
  obtain ⟨o2, nw⟩ := new_at (X := X) (u := .dK kvs) (d := .dct ks) ok had ⟨kvs, upd_same, t⟩
  exact po ad _ m G _ k o2 nw
theorem cd_dictD {ks : List (Key × Da)} (k : P (.dct ks) m) : CallD M X KE (.type "dict") [.dct ks] P m := (cdn_dictD k).d
theorem cd_lenK {ks : List (Key × Da)} (k : P (.int ks.length) m) : CallD M X KE (.builtin "len") [.dct ks] P m := fun G H σ W Q vs ok wi r po pins s us I e => by
  obtain ⟨v, rfl, r1⟩ := reps1 r
  obtain ⟨a, ob, kvs, rfl, q, t⟩ := r1.dct_inv
  obtain ⟨u, rfl, ru⟩ := vals1 e
  cases ru
  refine d_len I (.inr ⟨_, ok.sub _ _ q⟩) fun t' s' I' => ⟨.int kvs.length, H, I', ⟨t', rfl⟩, po _ _ m G H k ok (by rw [t.length]; exact .int _)⟩
theorem cdn_listL {ds : List Da} (k : P (.lst ds) m) : CallDN M X KE (.type "list") [.lst ds] P m := fun G H σ W Q vs ok wi r po pins s us I e => by
  obtain ⟨v, rfl, r1⟩ := reps1 r
  obtain ⟨a, us', rfl, q, t⟩ := r1.lst_inv
  refine call_list_of pins s σ H _ us Q I e ⟨a, us', rfl, .inl (sq_l (ok.sub _ _ q)), fun ad had => ?_⟩
  obtain ⟨o2, nw⟩ := new_at (X := X) (u := .lst us') (d := .lst ds) ok had ⟨us', upd_same, t⟩
  exact po ad _ m G _ k o2 nw
theorem cdn_listT {ds : List Da} (k : P (.lst ds) m) : CallDN M X KE (.type "list") [.tup ds] P m := fun G H σ W Q vs ok wi r po pins s us I e => by
  obtain ⟨v, rfl, r1⟩ := reps1 r
  obtain ⟨a, us', rfl, q, t⟩ := r1.tup_inv
  refine call_list_of pins s σ H _ us Q I e ⟨a, us', rfl, .inr (sqT_same ok.sub q), fun ad had => ?_⟩
  obtain ⟨o2, nw⟩ := new_at (X := X) (u := .lst us') (d := .lst ds) ok had ⟨us', upd_same, t⟩
  exact po ad _ m G _ k o2 nw
/-- dict(e), list(e): an object of the run's own -/
theorem evn_callTy (cx : Ctx X N sc B) (hm : B.mg x = none) (h : EvA M X KE (e :: es) sl (fun ds m1 => CallDN M X KE (.type id) ds P m1) m) (hv : bootBuiltins x = some (.type id) := by with_unfolding_all first | rfl | decide +kernel) (hg : GlS sc x := by with_unfolding_all rfl) (hn : x ≠ "__name__" := by with_unfolding_all decide) (hdb : (x == ("__debug__" : Str)) = false := by with_unfolding_all decide)
    (he : starEach (e :: es) X.env = (false, eval e X.env) :: starEach es X.env := by with_unfolding_all rfl) (hpl : (backTo pos (starEach es X.env)).any (·.1) = false := by with_unfolding_all rfl) : EvN M X KE (.Call (.Name x p) (e :: es) [] pos) sl P m := by
  intro G0 H0 G H σ W Q ok so wi po pins s I
  refine wpAny_Call_Name_kw (ld_blt I (cx.gl hg) (cx.mg hm) hv ?_ hn hdb)
  refine PyProof.Rows.callWith_type1 (h.run ok so wi I (fun us s1 vs ds m1 G1 H1 p1 k1 o1 so1 wi1 r1 I1 rv1 => ?_) pos) he hpl
  exact p1 G1 H1 σ W Q vs k1.here wi1 r1 (fun ad d m' G' H' q o n => po ad d m' G' H' q (o1.trans o) (n.back o1)) pins s1 us I1 rv1
/-- d.get(k, z) -/
theorem evd_get2 (hr : Room j X.A) (h : EvD M X KE o sl (fun d m0 => ∃ ks, d = .dct ks ∧ EvD M X KE e sl (fun y m1 => ∃ k, y = keyD k ∧ EvD M X KE f sl (fun z m2 => P ((look k ks).getD z) m2) m1) m0) m)
    (hbase : attributeBase o "get" X.env (eval o X.env) = eval o X.env := by with_unfolding_all rfl)
    (hfew : ((backTo cpos (starEach [e, f] X.env)).all (fun x => !x.1) && (backToKw cpos (keywordEach [] X.env)).all (fun x => x.1.isSome)
      && decide (([e, f] : List Expr).length + ([] : List Keyword).length + (if ([] : List Keyword).isEmpty then 0 else 1) < 30)) = true := by with_unfolding_all rfl)
    (hline : (apos.endLine == cpos.line) = true := by with_unfolding_all rfl) (htr : backTo cpos (starEach [e, f] X.env) = [(false, eval e X.env), (false, eval f X.env)] := by with_unfolding_all rfl) : EvD M X KE (.Call (.Attribute o "get" apos) [e, f] [] cpos) sl P m := by
  intro G0 H0 G H σ W Q ok so wi po
  refine wpE.of (pe_dget2 (by have := L2.Room.units hr; omega) pe_wp pe_wp pe_wp ⟨hbase, hfew, hline, htr⟩) (h G0 H0 G H σ W _ ok so wi fun v d m0 G1 H1 ⟨ks, ed, q1⟩ o1 r1 => ?_)
  subst ed
  obtain ⟨a, ob, kvs, rfl, q, t⟩ := r1.dct_inv
  refine ⟨a, rfl, .inl ⟨kvs, .inr ⟨_, o1.sub _ _ q⟩⟩, ?_⟩
  refine q1 G0 H0 G1 H1 σ W _ (ok.trans o1) (so.step o1) (wi.step o1) fun y dy m1 G2 H2 ⟨k, ek, q2⟩ o2 r2 => ?_
  subst ek
  refine q2 G0 H0 G2 H2 σ W _ ((ok.trans o1).trans o2) ((so.step o1).step o2) ((wi.step o1).step o2) fun z dz m2 G3 H3 q3 o3 r3 => ?_
  have t3 := RepK.mono (o2.le.trans o3.le) t
  obtain ⟨ov, h1, h2, h3⟩ := repK_get (k := k) t3
  refine ⟨ov, .inl ⟨kvs, k, .inr ⟨_, o3.sub _ _ (o3.le _ _ (o2.le _ _ q))⟩, rep_key r2, h1.symm⟩, ?_⟩
  refine po _ _ m2 G3 H3 q3 ((o1.trans o2).trans o3) ?_
  cases hl : look k ks with
  | none =>
    rw [hl] at h2
    cases ov with
    | none => exact r3
    | some v => cases h2
  | some d =>
    obtain ⟨v, rfl, rv⟩ := h3 d hl
    exact rv
/-- own.get(k, z) -/
theorem evd_get2Own {q : Option Addr} {ks : List (Key × Da)} (cx : Ctx X N sc B) (hr : Room j X.A) (hx : EnvAt N sl x i (.mm q (.dct ks))) (h : EvD M X KE e sl (fun y m1 => ∃ k, y = keyD k ∧ EvD M X KE f sl (fun z m2 => P ((look k ks).getD z) m2) m1) m)
    (hv : Vis sc x := by with_unfolding_all first | exact Or.inl rfl | exact Or.inr (Or.inl rfl) | exact Or.inr (Or.inr rfl)) (hd : (x == ("__debug__" : Str)) = false := by with_unfolding_all decide) (hcd : (x == ("__classdict__" : Str)) = false := by with_unfolding_all decide)
    (hbase : attributeBase (.Name x p) "get" X.env (eval (.Name x p) X.env) = eval (.Name x p) X.env := by with_unfolding_all rfl)
    (hfew : ((backTo cpos (starEach [e, f] X.env)).all (fun x => !x.1) && (backToKw cpos (keywordEach [] X.env)).all (fun x => x.1.isSome)
      && decide (([e, f] : List Expr).length + ([] : List Keyword).length + (if ([] : List Keyword).isEmpty then 0 else 1) < 30)) = true := by with_unfolding_all rfl)
    (hline : (apos.endLine == cpos.line) = true := by with_unfolding_all rfl) (htr : backTo cpos (starEach [e, f] X.env) = [(false, eval e X.env), (false, eval f X.env)] := by with_unfolding_all rfl) : EvD M X KE (.Call (.Attribute (.Name x p) "get" apos) [e, f] [] cpos) sl P m := by
  intro G0 H0 G H σ W Q ok so wi po
  refine wpE.of (pe_dget2 (by have := L2.Room.units hr; omega) (pe_var (by rw [cx.n]; exact hx.name) (cx.vis hv) hd hcd) pe_wp pe_wp ⟨hbase, hfew, hline, htr⟩) ?_
  obtain ⟨ov, e1, ad, rfl, zz, g, h0, n, kvs, hl, t⟩ := paired_get so.rel hx.slot
  refine ⟨_, e1, ad, rfl, .inl ⟨kvs, .inl hl⟩, ?_⟩
  refine h G0 H0 G H σ W _ ok so wi fun y dy m1 G2 H2 ⟨k, ek, q2⟩ o2 r2 => ?_
  subst ek
  refine q2 G0 H0 G2 H2 σ W _ (ok.trans o2) (so.step o2) (wi.step o2) fun z dz m2 G3 H3 q3 o3 r3 => ?_
  have so3 := (so.step o2).step o3
  obtain ⟨ov', e2, ad', hh, zz', g', h0', n', kvs', hl', t'⟩ := paired_get so3.rel hx.slot
  rw [e1] at e2
  cases e2
  cases hh
  obtain ⟨ov, h1, h2, h3⟩ := repK_get (k := k) t'
  refine ⟨ov, .inl ⟨kvs', k, .inl hl', rep_key r2, h1.symm⟩, ?_⟩
  refine po _ _ m2 G3 H3 q3 (o2.trans o3) ?_
  cases hlk : look k ks with
  | none =>
    rw [hlk] at h2
    cases ov with
    | none => exact r3
    | some v => cases h2
  | some d =>
    obtain ⟨v, rfl, rv⟩ := h3 d hlk
    exact rv
/-- {} -/
theorem evn_dict0 (k : P (.dct []) m) : EvN M X KE (.Dict [] [] pos) sl P m := fun G0 H0 G H σ W Q ok so wi po =>
  wpE.of pe_dnewK fun ad had => by
    obtain ⟨o2, nw⟩ := new_at (X := X) (u := .dK []) (d := .dct []) ok.here had ⟨[], upd_same, .nil⟩
    exact po ad _ m G _ k o2 nw
end
/-! own[k] = e -/
section
variable {M : Mode} {X : Cx} {KE : Ks} {b e : Expr} {sl : List Sl} {D : Kn} {m i j : Nat} {x : Str} {p pos spos : Pos} {N : List Str} {sc : Scope} {B : Bd}
theorem st1_setIxK {ks : List (Key × Da)} (cx : Ctx X N sc B) (hr : Room j X.A) (hx : EnvAt N sl x i (.m (.dct ks))) (hlen : ks.length < sizeLine) (h : EvD M X (KE sl) e sl (fun z m1 => EvD M X (KE sl) b sl (fun y m2 => ∃ k, y = keyD k ∧ ∃ i' sl', EnvSet N sl x i' (.m (.dct (putD ks k z))) sl' ∧ D.nx sl' m2) m1) m)
    (hv : Vis sc x := by with_unfolding_all first | exact Or.inl rfl | exact Or.inr (Or.inl rfl) | exact Or.inr (Or.inr rfl)) (hd : (x == ("__debug__" : Str)) = false := by with_unfolding_all decide) (hcd : (x == ("__classdict__" : Str)) = false := by with_unfolding_all decide)
    (hs : swapsWith e (some (.Subscript (.Name x p) b pos)) spos.line X.env = pure false := by with_unfolding_all rfl) : St1 M X KE (.Assign [.Subscript (.Name x p) b pos] e spos) sl D m := by
  intro G0 H0 G H σ W E ok so wi po
  refine wpS.of (ps_dput (by have := L2.Room.units hr; omega) (pe_var (by rw [cx.n]; exact hx.name) (cx.vis hv) hd hcd) pe_wp pe_wp hs) ?_
  have wi' := wi.at ok so
  refine h G0 H0 G H σ W _ ok so wi' fun v z m1 G1 H1 q1 o1 r1 => ?_
  have so1 := so.step o1
  obtain ⟨o, e1, ad, rfl, zz, g, h0, n, rm⟩ := paired_get so1.rel hx.slot
  refine ⟨_, e1, ?_⟩
  refine q1 G0 H0 G1 H1 σ W _ (ok.trans o1) so1 (wi'.step o1) fun w y m2 G2 H2 ⟨k, hy, i', sl', es, q2⟩ o2 r2 => ?_
  subst hy
  have so2 := so1.step o2
  obtain ⟨o', e2, ad', hh, zz', g', h0', n', kvs, hl, rs⟩ := paired_get so2.rel hx.slot
  rw [e1] at e2
  cases e2
  cases hh
  obtain ⟨k1, k2⟩ := own_step (ok.trans (o1.trans o2)) so2 hx.slot e1 (o := .dK (putK kvs k v)) (d1 := .dct (putD ks k z)) ⟨_, upd_same, repK_put rs (r1.mono o2.le)⟩
  exact ⟨ad, _, rfl, .inl ⟨kvs, k, hl, rep_key r2, by rw [rs.length]; exact hlen, rfl⟩, po.nx σ _ m2 G2 _ q2 k1 (envset_eq (cx.n ▸ cx.nd) hx.name es ▸ k2)⟩
end
end OZ

/-! ### operators of own classes with ints; -x, str(x) -/
namespace OZ
open PySem L2 PySem.Spec PyProof.Rows
/-- what an operator of the class asks of an int beside it -/
structure BinI (K : PySem.W.Frag) (C : Addr) (op : Operator) : Prop where
  rr : ∃ rc, PySem.W.findIn K (.ref C) (dunderR op.info.2) = some rc ∧ (rc = none ∨ ∃ g : Addr, rc = some (.ref g))
  h1 : ∃ fo, PySem.W.findIn K (.type "int") (PySem.dunder op.info.2) = some fo
  h2 : ∃ ro, PySem.W.findIn K (.type "int") (dunderR op.info.2) = some ro
  sub : PySem.W.subIn K (.type "int") (.ref C) = some false
  sub2 : PySem.W.subIn K (.ref C) (.type "int") = some false
  sf : PySem.W.selfFirst K C = true
section
variable {M : Mode} {X : Cx} {KE : Kx} {P : Da → Nat → Prop} {m k j n : Nat} {C : Addr} {F : FD} {fs gs : List (Str × Da)} {B : Bd} {N : List Str} {sc : Scope} {i : Int}
theorem opd_ownI {op : Operator} (cx : Ctx X N sc B) (c : SpecG M B k C (PySem.dunder op.info.2) 2 F) (b : BinI B.K C op) (hr : Room j X.A) (h : F [.obj C fs, .int i] P KE m) (hk : k ≤ j := by with_unfolding_all decide) : OpD M X KE (binaryOp op) (.obj C fs) (.int i) P m := by
  have eb := cx.b
  subst eb
  obtain ⟨g, o, fg⟩ := c.ex
  obtain ⟨rc, rr, hp⟩ := b.rr
  obtain ⟨fo, h1⟩ := b.h1
  obtain ⟨ro, h2⟩ := b.h2
  intro G H σ W Q x y ok wi r1 r2 po pins s v u I rx ry
  have r10 := r1; have r20 := r2
  obtain ⟨a, dx, vs, rfl, ea, _⟩ := r1.obj_inv
  have := r2.int_inv
  subst this
  have ry0 := ry
  cases rx
  obtain ⟨t, rfl⟩ := ry
  obtain ⟨mA, J, _⟩ := ins_get I.hok (ok.sub _ _ ea)
  obtain ⟨od, J, _⟩ := J.look
  obtain ⟨mm, hF⟩ := I.fr
  exact PySem.W.ksp_binT (T := "int") hF I.ok.mod.kin J rfl b.sf o.at_ o.fn rr hp h1 h2 b.sub (run_atD fg ⟨hr, rfl⟩ hk rfl h ok wi (.cons r10 (.cons r20 .nil)) I (.cons rfl (.cons ry0 .nil)) fun v d m' G' H' u s' p o2 rr I' rv => OS.notImpl rv ⟨v, H', I', rv, po v d m' G' H' p o2 rr⟩)
theorem opd_reflI {op : Operator} {id : String} (cx : Ctx X N sc B) (c : SpecG M B k C (dunderR op.info.2) 2 F) (b : BinI B.K C op) (c0 : ∃ f : Addr, PySem.W.findIn B.K (.ref C) (PySem.dunder op.info.2) = some (some (.ref f))) (dc : OS.Decl X.prog X.w op.info.2 id) (hr : Room j X.A) (h : F [.obj C fs, .int i] P KE m) (hk : k ≤ j := by with_unfolding_all decide) : OpD M X KE (binaryOp op) (.int i) (.obj C fs) P m := by
  have eb := cx.b
  subst eb
  obtain ⟨g, o, fg⟩ := c.ex
  obtain ⟨f0, hf0⟩ := c0
  obtain ⟨fo, h1⟩ := b.h1
  obtain ⟨ro, h2⟩ := b.h2
  intro G H σ W Q y x ok wi r2 r1 po pins s u v I ry rx
  have r10 := r1; have r20 := r2
  obtain ⟨a, dx, vs, rfl, ea, _⟩ := r1.obj_inv
  have := r2.int_inv
  subst this
  have ry0 := ry
  cases rx
  obtain ⟨t, rfl⟩ := ry
  obtain ⟨ox, od, J, hd⟩ := OS.plain_at I (ok.sub _ _ ea)
  obtain ⟨mm, hF⟩ := I.fr
  obtain ⟨mA, J0, _⟩ := ins_get I.hok (ok.sub _ _ ea)
  exact OS.int_op_own hF I.ok.mod.kin J J.1 hd b.sf hf0 o.at_ o.fn h1 h2 b.sub2 dc (run_atD fg ⟨hr, rfl⟩ hk rfl h ok wi (.cons r10 (.cons r20 .nil)) I (.cons rfl (.cons ry0 .nil)) fun v d m' G' H' u s' p o2 rr I' rv => OS.notImpl rv ⟨v, H', I', rv, po v d m' G' H' p o2 rr⟩)
theorem und_negO (cx : Ctx X N sc B) (c : SpecG M B k C "__neg__" 1 F) (hr : Room j X.A) (h : F [.obj C fs] P KE m) (hk : k ≤ j := by with_unfolding_all decide) : UnD M X KE (unaryOp .USub) (.obj C fs) P m := by
  have eb := cx.b
  subst eb
  obtain ⟨g, o, fg⟩ := c.ex
  intro G H σ W Q x ok wi r1 po pins s v I rx
  have r10 := r1
  obtain ⟨a, dx, vs, rfl, ea, _⟩ := r1.obj_inv
  cases rx
  obtain ⟨mA, J, _⟩ := ins_get I.hok (ok.sub _ _ ea)
  obtain ⟨od, J, _⟩ := J.look
  obtain ⟨mm, hF⟩ := I.fr
  exact PySem.W.ksp_neg hF I.ok.mod.kin J o.at_ o.fn (run_atD fg ⟨hr, rfl⟩ hk rfl h ok wi (.cons r10 .nil) I OS.v1 fun v d m' G' H' u s' p o2 rr I' rv => ⟨v, H', I', rv, po v d m' G' H' p o2 rr⟩)
theorem cd_strO (cx : Ctx X N sc B) (c : SpecG M B k C "__str__" 1 F) (hr : Room j X.A) (h : F [.obj C fs] (fun d m1 => ∃ z, d = .str z ∧ P (.str z) m1) KE m) (hk : k + 2 ≤ j := by with_unfolding_all decide) : CallD M X KE (.type "str") [.obj C fs] P m := by
  have eb := cx.b
  subst eb
  obtain ⟨g, o, fg⟩ := c.ex
  intro G H σ W Q vs ok wi r po pins s us I e
  obtain ⟨v, rfl, r1⟩ := reps1 r
  have r10 := r1
  obtain ⟨a, dx, vs, rfl, ea, _⟩ := r1.obj_inv
  obtain ⟨u, rfl, ru⟩ := vals1 e
  cases ru
  obtain ⟨mA, J, _⟩ := ins_get I.hok (ok.sub _ _ ea)
  obtain ⟨od, J, _⟩ := J.look
  have sb : Sub X k X.A.in1.in1 := (Sub.in1 (n := k) (Sub.in1 (n := k + 1) ⟨hr.mono hk, rfl⟩))
  refine PySem.W.kso_call (by have := sb.room.units0; exact this) I.kIn J o.at_ o.fn (run_atD fg sb (Nat.le_refl _) rfl h ok wi (.cons r10 .nil) I OS.v1 fun v d m' G' H' u s' p o2 rr I' rv => ?_)
  obtain ⟨z, rfl, p⟩ := p
  cases rr
  obtain ⟨t, rfl⟩ := id rv
  exact ⟨.str z, H', I', ⟨t, rfl⟩, po _ _ m' G' H' p o2 (.str z)⟩
end
end OZ

namespace OZ
open PySem L2
theorem key_str {s : Str} {Q : Key → Prop} (h : Q (Sum.inr s)) : ∃ k, Da.str s = keyD k ∧ Q k := ⟨_, rfl, h⟩
theorem key_int {s : Int} {Q : Key → Prop} (h : Q (Sum.inl s)) : ∃ k, Da.int s = keyD k ∧ Q k := ⟨_, rfl, h⟩
section
variable {M : Mode} {X : Cx} {KE : Kx} {P : Da → Nat → Prop} {m j : Nat} {s : Str} {i : Int} {ks : List (Key × Da)}
theorem opd_inKS (hr : Room j X.A) (h : P (.bl (look (Sum.inr s : Key) ks).isSome) m) : OpD M X KE (compareOp .In) (.str s) (.dct ks) P m := opd_inK (k := Sum.inr s) (by have := L2.Room.units hr; omega) h
theorem opd_ninKS (hr : Room j X.A) (h : P (.bl (!(look (Sum.inr s : Key) ks).isSome)) m) : OpD M X KE (compareOp .NotIn) (.str s) (.dct ks) P m := opd_ninK (k := Sum.inr s) (by have := L2.Room.units hr; omega) h
theorem ixd_dctS {d : Da} (hr : Room j X.A) (h : look (Sum.inr s : Key) ks = some d) (kp : P d m) : IxD M X KE (.dct ks) (.str s) P m := ixd_dct (k := Sum.inr s) (by have := L2.Room.units hr; omega) h kp
end
end OZ

namespace OS
open PySem L2 PySem.Spec PyProof.Rows
section
variable {X : Cx}
/-- name = {.. : .. for ..} on one line, the name a local -/
theorem ps_setDc {i : Nat} {y : Str} {py : Pos} {kx vx tg iter : Expr} {ifs : List Expr} {scope : Scope} {own : List (Str × Nat)} {pos spos : Pos} {wi : TI} {g : TG} {tt : TT} {tk tv : TE} (hc : X.calm = true) (hN : X.N.Nodup) (hy : X.N[i]? = some y) (hyl : X.env.scope.names.lookup y = some .local)
    (hsw : swapsWith (.DictComp kx vx [⟨tg, iter, ifs, 0⟩] scope pos) (some (.Name y py)) spos.line X.env = pure true) (hi : PI X tg iter wi) (ok : BlkOk X.N X.env.scope scope own)
    (hg : ∀ (s : Shared) (H : Hp) (C : Addr) (cl : List (Str × Addr)) (fp : List Addr), PG (X.blk s H scope (compEnvC scope cl C X.env) fp) tg g) (ht : ∀ (s : Shared) (H : Hp) (C : Addr) (cl : List (Str × Addr)) (fp : List Addr), PTs (X.blk s H scope (compEnvC scope cl C X.env) fp) ifs tt)
    (hk : ∀ (s : Shared) (H : Hp) (C : Addr) (cl : List (Str × Addr)) (fp : List Addr), PE (X.blk s H scope (compEnvC scope cl C X.env) fp) kx tk)
    (he : ∀ (s : Shared) (H : Hp) (C : Addr) (cl : List (Str × Addr)) (fp : List Addr), PE (X.blk s H scope (compEnvC scope cl C X.env) fp) vx tv) (hs : ∀ x, foldedSetIterable iter X.env x = pure x := by intro _; rfl) :
    PS X (.Assign [.Name y py] (.DictComp kx vx [⟨tg, iter, ifs, 0⟩] scope pos) spos) (tAsg (tDc wi g tt tk tv (own.map (·.2))) (gName i)) := by
  refine ⟨fun pins s σ H D I h => ?_⟩
  rw [exec_Assign_Name_used _ _ _ _ hsw]
  refine wpAny_bind (wpAny_standAt (wpAny_bind ?_))
  show wpAny _ X.A (do let _ ← comprehension (.DictComp kx vx [⟨tg, iter, ifs, 0⟩] scope pos) scope X.env (firstIterPos [⟨tg, iter, ifs, 0⟩] pos) newDict false (eval iter X.env) (some (assign (.Name y py) X.env))) _ _ s
  have h : tDc wi g tt tk tv (own.map (·.2)) σ H (fun x H1 => gName i x σ H1 D.nx) := h
  refine wpAny_bind (thn (dc_core (Qf := fun _ s' => SP X pins D .next s') hc hN I hi ok hg ht hk he hs h fun L C s' m H' I' q hn f => ?_) fun _ s' hq => wpAny_pure (wpAny_pure hq))
  show wpAny _ _ (assign (.Name y py) X.env (.ref L)) _ _ _
  refine wpAny_assign_Name (store_ok2 (v := V.ref L) I' hN hy (.inl hyl) rfl (fun s2 I2 ⟨a, sb, ha⟩ => ?_) (.inr hyl))
  obtain ⟨f0, f1, f2, f3, f4, f5⟩ := f
  have haC : C ≠ a := by
    rcases ha with z | z
    · rw [z]; exact f1
    · exact fun e => f4 y a z e.symm
  refine ⟨m, hn.sameBut sb haC, fun h3 sb3 => ?_⟩
  exact ⟨_, H', I2.turned (t' := s2.toks) (fun b o hb e => (sb3.2 b hb).trans e) f0 f1 f3 f4 f5, q⟩
theorem sw_trueD {kx vx : Expr} {gs : List Comprehension} {scope : Scope} {pos py : Pos} {y : Str} {l : Nat} {env : Env} (hk : env.scope.kind = .function) (hy : env.scope.names.lookup y = some .local) (hl : (py.line == pos.line) = true)
    (ha : (scope.names.any fun (n, k) => n == y && (k == .local || k == .cell)) = false) : swapsWith (.DictComp kx vx gs scope pos) (some (.Name y py)) l env = pure true := by
  have ky : env.kindOf y = some .local := hy
  have hb : env.blockKind = .function := by unfold Env.blockKind; rw [hk]; rfl
  unfold swapsWith
  simp only [hb, ky, ha, Expr.pos, hl]
  rfl
end
end OS
namespace OZ
open PySem L2 PySem.Spec PyProof.Rows
section
variable {M : Mode} {X : Cx} {KE : Kx} {sl sw : List Sl} {P : Da → Nat → Prop} {m j k : Nat} {pos : Pos} {N : List Str} {sc : Scope} {B : Bd} {own : List (Str × Nat)} {C : Addr} {F : FD}
/-- name = {.. for ..}: the dict is own -/
theorem st1_setDc {KE : Ks} {D : Kn} {tg iter kx vx : Expr} {ifs : List Expr} {scope : Scope} {y : Str} {py spos : Pos} (cx : Ctx X N sc B) (hr : Room j X.A) (ot : OwnT N tg own) (wp : WipeS N own sl sw) (h : IterD M X (KE sl) tg iter sl (fun ds m1 => ds.length < sizeLine ∧ CompK (dcStep M X scope N sc B j (own.map (·.2)) tg ifs kx vx sw) ds [] (fun r m2 => ∃ i sl', EnvSet N sl y i (.m (.dct r)) sl' ∧ D.nx sl' m2) m1) m)
    (hsw : swapsWith (.DictComp kx vx [⟨tg, iter, ifs, 0⟩] scope pos) (some (.Name y py)) spos.line X.env = pure true := by with_unfolding_all exact OS.sw_trueD rfl rfl rfl (by decide +kernel)) (hN : ∃ i : Nat, N[i]? = some y) (hyl : sc.names.lookup y = some .local := by with_unfolding_all rfl)
    (hb : blkC N sc scope own = true := by with_unfolding_all decide +kernel) (hc : X.calm = true := by with_unfolding_all rfl) (hs : ∀ x, foldedSetIterable iter X.env x = pure x := by with_unfolding_all (intro _; rfl)) : St1 M X KE (.Assign [.Name y py] (.DictComp kx vx [⟨tg, iter, ifs, 0⟩] scope pos) spos) sl D m := by
  intro G0 H0 G H σ W E ok so wi po
  obtain ⟨i, hi⟩ := hN
  refine wpS.of (OS.ps_setDc (own := own) (i := i) (wi := wpI X tg iter) (g := gBlk X scope tg) (tt := tBlk X scope ifs) (tk := eBlk X scope kx) (tv := eBlk X scope vx) hc cx.nd (by rw [cx.n]; exact hi) (by rw [cx.s]; exact hyl) hsw pi_wp ?_ ?_ ?_ ?_ ?_ hs) ?_
  · rw [cx.n, cx.s]; exact blkOk_by hb
  · exact fun s Hb C cl fp => ⟨fun pins s' σ H v u Q I r q => q s Hb C cl fp pins s' u I r⟩
  · intro s Hb C cl fp
    match ifs with
    | [] => exact pts_nil
    | [c] => exact pts_one ⟨fun pins s' σ H Q I q => q s Hb C cl fp pins s' I⟩
    | _ :: _ :: _ => exact ⟨fun pins s' σ H Q I q => q.elim⟩
  · exact fun s Hb C cl fp => ⟨fun pins s' σ H Q I q => q s Hb C cl fp pins s' I⟩
  · exact fun s Hb C cl fp => ⟨fun pins s' σ H Q I q => q s Hb C cl fp pins s' I⟩
  · refine h G0 H0 G H σ W _ ok so (wi.at ok so) fun J ds m1 G1 H1 q o1 wk => fun D2 hD => ?_
    refine dc_run (P := fun d m2 => ∃ i sl', EnvSet N sl y i (.m d) sl' ∧ D.nx sl' m2) cx hr hc wp ok so o1 wk q.1 q.2 (Q := fun v H' => gName i v σ H' E.nx) D2 hD fun out m' G1 H' p k g h0 nx r => ?_
    have n : New X.K M H G1 H' D2 (.dct out) := ⟨g, h0, nx, r⟩
    obtain ⟨i', sl', es, p⟩ := p
    have hii : i' = i := nd_ix (cx.n ▸ cx.nd) es.name hi
    subst hii
    refine po.nx _ sl' m' _ H' p (ok.trans k) ?_
    rw [es.set]
    exact (so.step k).newM i' (n.back ok) (held_ne (G0 := G0) so n.h0)
/-- {kx: vx for a, b in ds} -/
theorem compk_two {kx vx : Expr} {scope : Scope} {x y : Str} {p1 p2 tp : Pos} {kk : Nat} {vs : List Nat} {i1 i2 : Nat} (I : Nat → List (Key × Da) → Nat → Prop) {ds : List Da} {K : List (Key × Da) → Nat → Prop} (hi1 : IdxAt N x i1) (hi2 : IdxAt N y i2) (hN : sl.length = N.length) (hv1 : i1 ∈ vs) (hv2 : i2 ∈ vs) (h0 : I 0 [] m)
    (h : ∀ n d acc m, ds[n]? = some d → I n acc m → ∃ a b, d = .tup [a, b] ∧ AllX X scope N sc B j fun X' => EvD M X' K0 kx ((sl.set i1 (.v a)).set i2 (.v b)) (fun y m2 => ∃ q, y = keyD q ∧ AllX X scope N sc B j fun X' => EvD M X' K0 vx ((sl.set i1 (.v a)).set i2 (.v b)) (fun z m3 => I (n + 1) (putD acc q z) m3) m2) m)
    (k : ∀ r m, I ds.length r m → K r m) (hl1 : (relabelS scope sc).names.lookup x = some .local := by with_unfolding_all rfl) (hl2 : (relabelS scope sc).names.lookup y = some .local := by with_unfolding_all rfl) : CompK (dcStep M X scope N sc B j vs (.Tuple [.Name x p1, .Name y p2] kk tp) [] kx vx sl) ds [] K m :=
  compk_go dcstep_mono I ds 0 [] m K h0 (fun n d acc m e q => by
    rw [Nat.zero_add] at q ⊢
    obtain ⟨a, b, rfl, hh⟩ := h n d acc m e q
    refine ⟨_, [i1] ++ [i2], fun s H C cl fp cx hr => .two (.name (.of hi1 hN) (.inl hl1) (.inr (by rw [cx.s]; exact hl1))) (.name (.of hi2 (by rw [List.length_set]; exact hN)) (.inl hl2) (.inr (by rw [cx.s]; exact hl2))), fun a ha => ?_, hh⟩
    rcases List.mem_cons.mp ha with z | z
    · rw [z]; exact hv1
    · rw [List.mem_singleton.mp z]; exact hv2) fun r m q => k r m (by simpa using q)
/-- o[i] by the own __getitem__ -/
structure GetG (M : Mode) (B : Bd) (k : Nat) (C : Addr) (F : FD) : Prop where
  ex : ∃ g : Addr, OS.Own B.K C "__getitem__" g ∧ PySem.W.fnIn B.K g = true ∧ FnG M B k g 2 F
theorem GetG.lift {M : Mode} {B : Bd} {k : Nat} {C : Addr} {F : FD} (c : GetG pureM B k C F) : GetG M B k C (FP F) := by
  obtain ⟨g, h1, h2, h3⟩ := c.ex
  exact ⟨g, h1, h2, h3.lift⟩
theorem evd_ixO {KE : Kx} {a b : Expr} (cx : Ctx X N sc B) (c : GetG M B k C F) (hr : Room j X.A) (h : EvD M X KE a sl (fun x m1 => EvD M X KE b sl (fun y m2 => ∃ fs, x = .obj C fs ∧ F [x, y] P KE m2) m1) m) (hk : k + 1 ≤ j := by with_unfolding_all decide)
    (hs : ∀ x i, subscripted b true (.ref x) i = runValue (.builtin "lifetime.subscript" ⟨[.ref x, i], []⟩) := by with_unfolding_all (intro _ _; rfl)) : EvD M X KE (.Subscript a b pos) sl P m := by
  have eb := cx.b
  subst eb
  obtain ⟨g, o, fi, fg⟩ := c.ex
  intro G0 H0 G H σ W Q ok so wi po pins s I
  refine Subscript_ (h.run ok so wi I fun u s1 v d m1 G1 H1 p1 k1 o1 so1 wi1 r1 I1 rv1 => ?_)
  refine p1.run k1 so1 wi1 I1 fun u2 s2 v2 d2 m2 G2 H2 p2 k2 o2 so2 wi2 r2 I2 rv2 => ?_
  obtain ⟨fs, rfl, q⟩ := p2
  have r10 := r1.mono o2.le
  obtain ⟨a, dx, ws, rfl, ea, _⟩ := r10.obj_inv
  cases rv1
  obtain ⟨mA, J, _⟩ := ins_get I2.hok (k2.sub _ _ ea)
  obtain ⟨od, J, _⟩ := J.look
  obtain ⟨mm, hF⟩ := I2.fr
  exact PySem.W.sub_K hF I2.ok.mod.kin J o.at_ fi o.fn (run_atD fg (Sub.in1 (n := k) ⟨hr.mono hk, rfl⟩) (Nat.le_refl _) rfl q k2.here wi2 (.cons r10 (.cons r2 .nil)) I2 (.cons rfl (.cons rv2 .nil)) fun v d m' G' H' u s' p o3 rr I' rv => ⟨v, H', I', rv, po _ _ m' G' H' p ((o1.trans o2).trans o3) rr⟩) (hs _ _)
theorem opd_mulOI {KE : Kx} {fs : List (Str × Da)} {i : Int} (cx : Ctx X N sc B) (c : SpecG M B k C "__mul__" 2 F) (b : BinI B.K C .Mult) (hr : Room j X.A) (h : F [.obj C fs, .int i] P KE m) (hk : k ≤ j := by with_unfolding_all decide) : OpD M X KE (binaryOp .Mult) (.obj C fs) (.int i) P m := opd_ownI (op := .Mult) cx c b hr h hk
theorem opd_addOI {KE : Kx} {fs : List (Str × Da)} {i : Int} (cx : Ctx X N sc B) (c : SpecG M B k C "__add__" 2 F) (b : BinI B.K C .Add) (hr : Room j X.A) (h : F [.obj C fs, .int i] P KE m) (hk : k ≤ j := by with_unfolding_all decide) : OpD M X KE (binaryOp .Add) (.obj C fs) (.int i) P m := opd_ownI (op := .Add) cx c b hr h hk
theorem opd_subOI {KE : Kx} {fs : List (Str × Da)} {i : Int} (cx : Ctx X N sc B) (c : SpecG M B k C "__sub__" 2 F) (b : BinI B.K C .Sub) (hr : Room j X.A) (h : F [.obj C fs, .int i] P KE m) (hk : k ≤ j := by with_unfolding_all decide) : OpD M X KE (binaryOp .Sub) (.obj C fs) (.int i) P m := opd_ownI (op := .Sub) cx c b hr h hk
theorem opd_addG {KE : Kx} {fs gs : List (Str × Da)} (cx : Ctx X N sc B) (c : SpecG M B k C "__add__" 2 F) (hc : PySem.W.selfFirst B.K C = true) (hr : Room j X.A) (h : F [.obj C fs, .obj C gs] P KE m) (hk : k ≤ j := by with_unfolding_all decide) : OpD M X KE (binaryOp .Add) (.obj C fs) (.obj C gs) P m := by
  have eb := cx.b
  subst eb
  exact opd_own2 (op := .Add) cx c hc hr h hk
theorem opd_subG {KE : Kx} {fs gs : List (Str × Da)} (cx : Ctx X N sc B) (c : SpecG M B k C "__sub__" 2 F) (hc : PySem.W.selfFirst B.K C = true) (hr : Room j X.A) (h : F [.obj C fs, .obj C gs] P KE m) (hk : k ≤ j := by with_unfolding_all decide) : OpD M X KE (binaryOp .Sub) (.obj C fs) (.obj C gs) P m := by
  have eb := cx.b
  subst eb
  exact opd_own2 (op := .Sub) cx c hc hr h hk
end
end OZ
namespace OZ
open PySem L2 PySem.Spec PyProof.Rows
/-- for a, b in ds -/
theorem for_inv2 {M : Mode} {X : Cx} {KE : Ks} {D : Kn} {N : List Str} {sc : Scope} {x y : Str} {p1 p2 tp : Pos} {kk : Nat} {st : List Stmt} {i1 i2 : Nat} {B : Bd} (cx : Ctx X N sc B) (I : Nat → List Sl → Nat → Prop) {ds : List Da} {sl : List Sl} {m : Nat} (hi1 : IdxAt N x i1) (hi2 : IdxAt N y i2) (h0 : I 0 sl m) (hN : ∀ n sl m, I n sl m → sl.length = N.length)
    (h : ∀ j d sl m, ds[j]? = some d → I j sl m → ∃ a b, d = .tup [a, b] ∧ StD M X KE st ((sl.set i1 (.v a)).set i2 (.v b)) { D with nx := I (j + 1), ct := I (j + 1), bk := D.nx } m) (k : ∀ sl m, I ds.length sl m → D.nx sl m)
    (hl1 : Loc sc x := by with_unfolding_all first | exact Or.inl rfl | exact Or.inr rfl) (hl2 : Loc sc y := by with_unfolding_all first | exact Or.inl rfl | exact Or.inr rfl) (hf1 : X.fn x = true ∨ X.env.scope.names.lookup x = some .local := by with_unfolding_all first | exact Or.inl rfl | exact Or.inr rfl) (hf2 : X.fn y = true ∨ X.env.scope.names.lookup y = some .local := by with_unfolding_all first | exact Or.inl rfl | exact Or.inr rfl) :
    ForD (fun d sl D m => ∃ sl' is, Tg X N sc (.Tuple [.Name x p1, .Name y p2] kk tp) d sl sl' is ∧ StD M X KE st sl' D m) D ds sl m :=
  ford_inv for_mono I h0 (fun j d sl m e q => by
    obtain ⟨a, b, rfl, hh⟩ := h j d sl m e q
    exact ⟨_, [i1] ++ [i2], .two (.name (.of hi1 (hN j sl m q)) hl1 hf1) (.name (.of hi2 (by rw [List.length_set]; exact hN j sl m q)) hl2 hf2), hh⟩) k
end OZ
namespace OS
open PySem L2 PySem.Spec PyProof.Rows
/-! ### tuple(d): the keys of a dict -/
theorem code_tuple_src {prog : Program} {w : World} {A : Around} {E : Value → Shared → Prop} {s : Shared} {T : String} {r d : Addr} {n : Nat} {Pk : Nat → Value → Prop} {OK : Heap → Prop} {Q₁ : Value → Shared → Prop}
    (Ks : PySem.W.KdlSrc prog w T r d n Pk OK) (hh : A.handled = none) (hok : OK s.heap) (hn : n ≤ sizeLine)
    (h : ∀ (h' : Heap) (tk : Nat) (acc : Array Value), (∀ (b : Addr) (o : Obj), s.heap.get? b = some o → h'.get? b = some o) → ItemsOf Pk acc n → Q₁ (.ref h'.objs.size) { heap := h'.push { cls := .type "tuple", data := .seq acc }, gens := s.gens, drawn := s.drawn, toks := tk, os := s.os }) :
    codeAny (model prog w) A (.call (.builtin "tuple.__new__") { pos := [.type "tuple", .ref r] }) (wants Q₁ E) s := by
  refine codeAny_of_tree (wpAny_bind (wpAny_of_eq (F.newCall_tuple_1 (Value.ref r)) (wpAny_pure ⟨plainId_quiet F.plain_tuple_new { pos := [Value.type "tuple", Value.ref r] }, codeAny_builtin F.entry_tuple_new ?_⟩)))
  rw [Around.under_plainId F.plain_tuple_new { pos := [Value.type "tuple", Value.ref r] }]
  have hsub := sub_tuple_self
  have hinit := init_tuple_lookup
  have hmh := madeHere_tuple
  have hTI := Ks.type s hok
  refine wpAny_bind (wpAny_pure (wpAny_ite_false rfl (wpAny_bind (wpAny_of_eq hsub (wpAny_ite_false rfl (wpAny_ite_false rfl (wpAny_bind (wpAny_of_eq hmh (wpAny_bind (wpAny_of_eq hinit (wpAny_ite_true rfl (wpAny_bind ?_))))))))))))
  unfold noKeywords
  refine wpAny_ite_true (by rfl) (wpAny_pure (wpAny_bind ?_))
  unfold checkCount
  refine wpAny_ite_false (by rfl) ?_
  refine wpAny_ite_false (by rfl) ?_
  refine wpAny_ite_false (by rfl) ?_
  refine wpAny_pure ?_
  refine wpAny_ite_true (by rfl) (wpAny_bind ?_)
  unfold Builtin.Tuple.tupleIsExact
  refine wpAny_bind (wpAny_typeOf hTI (wpAny_pure ?_))
  refine wpAny_ite_false ?_ ?_
  · rw [Ks.notTuple]
    rfl
  refine wpAny_bind ?_
  refine PySem.W.kdu_collect Ks hh hok hn fun h' tk acc kp hacc => ?_
  refine wpAny_bind (wpAny_pure ?_)
  refine wpAny_bind ?_
  have hsz : acc.size = n := hacc.1
  have e : acc.toList.toArray = acc := Array.toArray_toList
  rw [e]
  unfold Builtin.Tuple.tupleExact
  refine wpAny_newObj_type (wpAny_pure (h h' tk acc kp hacc)) ?_
  show acc.size ≤ sizeLine
  omega
theorem call_tuple_src {prog : Program} {w : World} {A : Around} {E : Value → Shared → Prop} {s : Shared} {T : String} {r d : Addr} {n : Nat} {Pk : Nat → Value → Prop} {OK : Heap → Prop} {Q : Value → Shared → Prop}
    (Ks : PySem.W.KdlSrc prog w T r d n Pk OK) (hh : A.handled = none) (hok : OK s.heap) (hn : n ≤ sizeLine)
    (h : ∀ (h' : Heap) (tk : Nat) (acc : Array Value), (∀ (b : Addr) (o : Obj), s.heap.get? b = some o → h'.get? b = some o) → ItemsOf Pk acc n → Q (.ref h'.objs.size) { heap := h'.push { cls := .type "tuple", data := .seq acc }, gens := s.gens, drawn := s.drawn, toks := tk, os := s.os }) :
    wpAny (model prog w) A (call (.type "tuple") [.ref r]) Q E s := by
  have hc := code_tuple_src (A := A.in1) (E := E) (Q₁ := fun obj s₁ => s₁.TypeIs obj "tuple" ∧ Q obj s₁) Ks (show A.in1.handled = none from hh) hok hn fun h' tk acc kp hacc => ⟨⟨_, Heap.get?_push_size h' rfl, rfl⟩, h h' tk acc kp hacc⟩
  refine callType_codes F.called_tuple (F.typeCall_tuple_1 (Value.ref r)) F.entry_object_init hc fun obj s₁ h₁ => ?_
  exact ⟨h₁.left, ⟨F.args_object_init_2 obj (Value.ref r), object_init_meets F.called_tuple.init.lookup F.called_tuple.made (of_decide_eq_true (id (Eq.refl true))) prog w A.in1 (wants (fun r s₂ => r = Value.none ∧ Q obj s₂) E) s₁ ⟨h₁.left, ⟨rfl, h₁.right⟩⟩⟩⟩
theorem call_tupleD {X : Cx} (hcalm : X.calm = true) : CallR X (.type "tuple") fun xs H Q => ∃ (a : Addr) (kvs : List (Key × V)), xs = [V.ref a] ∧ Rd H a (HO.dK kvs) ∧ ∀ p, H p = none → Q (V.ref p) (L2.upd H p (HO.tup (kvs.map fun kv => kV kv.1))) := by
  intro pins s σ H xs us Q I r q
  obtain ⟨a, kvs, rfl, hd, q⟩ := q
  obtain ⟨u, rfl, rx⟩ := L2.vals1 r
  cases rx
  obtain ⟨z, lo, vs, rel, dd⟩ := dk_rd I.hok hd
  obtain ⟨ep, hat⟩ := Heap.DictOf.dictAt dd
  have ek : kvs.map (fun kv => kV kv.1) = vs.map (fun kv => kV kv.1) := by
    have e := congrArg (List.map kV) (KV.keys rel)
    rw [List.map_map, List.map_map] at e
    exact e
  refine call_tuple_src (PySem.W.kdl_dict lo) (I.ok.hd hcalm) hat (by rw [← KV.length rel]; exact z) fun h' tk acc kp hacc => ?_
  have hv := keys_at (vs := vs) (us := acc.toList) (by rw [Array.length_toList]; exact hacc.1) fun j v e => hacc.2 j v (by rw [← Array.getElem?_toList]; exact e)
  have I1 := Inv.kept (t' := tk) I kp
  have I2 := Inv.laid I1 (t' := tk) (fun b o e => Heap.get?_push_of_some { cls := Value.type "tuple", data := Data.seq acc } e) (Nat.le_refl h'.objs.size) (o := HO.tup (kvs.map fun kv => kV kv.1)) (by
    have this : HO.tup (kvs.map fun kv => kV kv.1) = HO.tup (kvs.map fun kv => kV kv.1) := rfl
    refine ⟨by rw [List.length_map]; exact z, acc.toList, by rw [ek]; exact hv, ?_⟩
    rw [Array.toArray_toList]
    exact IsTup.new h' acc)
  exact ⟨V.ref h'.objs.size, _, I2, rfl, q _ (HOk.fresh I1.hok (Nat.le_refl h'.objs.size))⟩
end OS
namespace OZ
open PySem L2 PySem.Spec PyProof.Rows
theorem keyD_rep {K : PySem.W.Frag} {G : Hp} : ∀ k : Key, Rep K G (kV k) (keyD k)
  | .inl i => .int i
  | .inr s => .str s
theorem repk_keys {K : PySem.W.Frag} {G : Hp} : ∀ {kvs : List (Key × V)} {ks : List (Key × Da)}, RepK K G kvs ks → Reps K G (kvs.map fun kv => kV kv.1) (keysD ks)
  | _, _, .nil => .nil
  | _, _, .cons _ h => .cons (keyD_rep _) (repk_keys h)
section
variable {M : Mode} {X : Cx} {KE : Kx} {P : Da → Nat → Prop} {m : Nat}
theorem cd_tupK {ks : List (Key × Da)} (k : P (.tup (keysD ks)) m) (hc : X.calm = true := by with_unfolding_all rfl) : CallD M X KE (.type "tuple") [.dct ks] P m := .of (OS.call_tupleD hc) fun G H _ vs ok r po => by
  obtain ⟨v, rfl, r1⟩ := reps1 r
  obtain ⟨a, ob, kvs, rfl, q, t⟩ := r1.dct_inv
  refine ⟨a, kvs, rfl, .inr ⟨_, ok.sub _ _ q⟩, fun p hp => ?_⟩
  have al := ok.alloc (o := .tup (kvs.map fun kv => kV kv.1)) hp
  exact po _ _ m _ _ k al (.tup (sq_t upd_same) ((repk_keys t).mono al.le))
end
end OZ
namespace OZ
open PySem L2 PySem.Spec PyProof.Rows
section
variable {M : Mode} {X : Cx} {KE : Kx} {e : Expr} {es : List Expr} {kws : List Keyword} {sl : List Sl} {P : Da → Nat → Prop} {m : Nat} {x : Str} {p pos : Pos}
/-- C(e, .., k = v, ..), C an own class of the text -/
theorem evd_mkX {N : List Str} {sc : Scope} {B : Bd} {C : Addr} {ks : List Str} {k j n : Nat} {gD : List Da → List Da → List Da} {F : FI} (cx : Ctx X N sc B) (hm : B.mg x = some (.ref C)) (hkp : PySem.W.keepIn B.K (.ref C) = true) (c : MakeG M B k C n ks gD F) (hr : Room j X.A) (h : EvA M X KE (e :: es) sl (fun ds m1 => EvK M X KE kws sl (fun zs m2 => zs.length = ks.length ∧ ds.length = n ∧ F (gD ds zs) (fun fs m3 => P (.obj C fs) m3) KE m2) m1) m) (hk : k + 1 ≤ j := by with_unfolding_all decide) (hg : GlS sc x := by with_unfolding_all rfl) (hdb : (x == ("__debug__" : Str)) = false := by with_unfolding_all decide)
    (hall : (backToKw pos (keywordEach kws X.env)).all (·.1.isSome) = true := by with_unfolding_all rfl) (hks : (backToKw pos (keywordEach kws X.env)).filterMap (·.1) = ks := by with_unfolding_all rfl)
    (he : starEach (e :: es) X.env = (false, eval e X.env) :: starEach es X.env := by with_unfolding_all rfl) (hpl : ((backTo pos (starEach (e :: es) X.env)).any (·.1) || (backToKw pos (keywordEach kws X.env)).any (·.1.isNone)) = false := by with_unfolding_all rfl) : EvD M X KE (.Call (.Name x p) (e :: es) kws pos) sl P m := by
  have eb := cx.b
  subst eb
  exact evd_callX cx hm hkp (eva_imp h fun ds m1 q => evk_imp q fun zs m2 q => ⟨q.1, (MakeG.call c hr q.2.1 q.1 q.2.2 hk).toK⟩) hg hdb hall hks he hpl
end
end OZ

/-! ### try with several clauses, each with a name -/
namespace OZ
open PySem L2 PySem.Spec PyProof.Rows
abbrev Clause := Value × Nat × (Addr → Value → Option Addr → TS)
/-- the ends of a suite, seen from behind it: its name is gone -/
def nEnds (i : Nat) (D : Ends) : Ends := ⟨fun τ G => D.nx (τ.set i none) G, D.rt, fun τ G => D.bk (τ.set i none) G, fun τ G => D.ct (τ.set i none) G⟩
def wNm (K : PySem.W.Frag) (Wo : WX) (D : Ends) : List Clause → WX
  | [] => Wo
  | k :: r => fun c d τ G => ∃ b, PySem.W.exmOne K c k.1 = some b ∧ (b = true → ∀ p, G p = none → k.2.2 p c d (nEnds k.2.1 D) (τ.set k.2.1 (some (.ref p))) G) ∧ (b = false → wNm K Wo D r c d τ G)
inductive Hdn (X : Cx) : List ExceptHandler → List Clause → Prop
  | nil : Hdn X [] []
  | cons {x n : Str} {c : Value} {i : Nat} {t : Addr → Value → Option Addr → TS} {b0 : Stmt} {su : List Stmt} {q1 q2 : Pos} {hs : List ExceptHandler} {l : List Clause} (hc : Names X x c) (hi : X.N[i]? = some n) (hln : X.env.kindOf n = some .local)
      (hsu : ∀ (p : Addr) (o : Obj) (k : Value) (d : Option Addr) (pn : List (Addr × Obj)), Zc k d o → (∃ vs, o.data = .fields vs) → PSs (X.suite p ((p, o) :: pn)) (b0 :: su) (t p k d)) (r : Hdn X hs l) :
      Hdn X (.ExceptHandler (some (.Name x q1)) (some n) (b0 :: su) q2 :: hs) ((c, i, t) :: l)
theorem sp_try {X : Cx} {pins : List (Addr × Obj)} {pn : List (Addr × Obj)} {xe : Value → Shared → Prop} {D : Ends} {s1 : Shared} {f : Flow} (ok : X.Ok) (q : ∀ {τ G}, Inv (X.tr pn xe) [] τ G s1 → Inv X pins τ G s1) (h : SP (X.tr pn xe) [] D f s1) : SP X pins D f s1 := by
  cases f with
  | ret u => obtain ⟨w, τ, G, J, r, z⟩ := h; exact ⟨w, τ, G, q J, r, z⟩
  | _ => obtain ⟨τ, G, J, z⟩ := h; exact ⟨τ, G, q J, z⟩
section
variable {X : Cx} {body : List Stmt} {h0 : ExceptHandler} {hds : List ExceptHandler} {l : List Clause} {pos : Pos} {tb : WX → TS} {Wo : WX}
theorem ps_tryNm (hst : X.stack = X.env :: X.outer) (hfr : X.env.frame = some X.env.locals) (hN : X.N.Nodup) (tk : Takes X Wo)
    (hb : ∀ (W : WX) (pn : List (Addr × Obj)) (xe : Value → Shared → Prop), Takes (X.tr pn xe) W → PassesOwn (model X.prog X.w) X.A X.env xe → PSs (X.tr pn xe) body (tb W)) (hh : Hdn X (h0 :: hds) l) :
    PS X (.Try body (h0 :: hds) [] [] pos) (fun D τ G => tb (wNm X.K Wo D l) D τ G) := by
  refine ⟨fun pins s τ G D I h => ?_⟩
  have ok := I.ok
  have hA : X.A.frames = some (X.env :: X.outer) := by rw [ok.frames, hst]
  refine wpAny_Try_except ?_
  let xe : Value → Shared → Prop := fun e t1 => wpAny (model X.prog X.w) X.A (noteFrame e X.env) (fun _ t2 => wpAny (model X.prog X.w) X.A (setFlight e none) (fun _ t3 => wpAny (model X.prog X.w) X.A (handleBy e X.env (h0 :: hds)) (SP X pins D) X.xe t3) X.xe t2) X.xe t1
  have takes : Takes (X.tr (X.pn ++ pins) xe) (wNm X.K Wo D l) := by
    rintro u t0 ⟨p, B, tI, pins', τ', G', k, d, rfl, J', nb, up, sky, np, os, ag, w⟩
    have J : Inv X pins τ' G' tI := J'.ofTry ok
    have sky2 : Sky B (X.env :: X.outer) p (Zc k d) X.env.locals t0.heap := by rw [← hst]; exact sky
    show wpAny (model X.prog X.w) X.A (noteFrame (.ref p) X.env) _ _ _
    refine Sky.land Zc.steady hA hfr sky2 fun g3 fl3 up3 => ?_
    have J3 : Inv X pins τ' G' { t0 with heap := g3 } := J.landed nb fl3.1 (up.trans up3) os ag
    obtain ⟨o3, vs3, e3, z3, d3⟩ := fl3.there
    have out : p ∉ frs (X.env :: X.outer) := fun hm => by
      obtain ⟨_, o', e', hn⟩ := fl3.2.2.1.mem hm
      rw [e3] at e'
      cases e'
      exact hn _ d3
    have nL : p ≠ X.env.locals := fun z => out (List.mem_filterMap.mpr ⟨X.env, List.mem_cons_self, by rw [hfr, z]⟩)
    have nF : p ∉ X.fs := fun hm => by
      obtain ⟨v, hv, q⟩ := List.mem_filterMap.mp hm
      exact out (List.mem_filterMap.mpr ⟨v, List.mem_cons_of_mem _ hv, q⟩)
    have S3 := J3.suite e3 d3 np nL nF
    have go : ∀ {hs' : List ExceptHandler} {l' : List Clause}, Hdn X hs' l' → wNm X.K Wo D l' k d τ' G' → wpAny (model X.prog X.w) X.A (handleBy (.ref p) X.env hs') (SP X pins D) X.xe { t0 with heap := g3 } := by
      intro hs' l' hk
      induction hk with
      | nil =>
        intro w
        refine wpAny_handleBy_nil ?_
        obtain ⟨_, _, _, o4, vs4, T, oT, ts4, e4, _, d4, h4, _⟩ := id fl3
        unfold PySem.passOn
        refine wpAny_bind (wpAny_field e4 d4 h4 ?_)
        rw [if_neg (show ¬ ((Value.ref T == Value.none) = true) from by simp)]
        have fin : wpAny (model X.prog X.w) X.A (setFlight (.ref p) X.env.frame) (fun _ t4 => wpAny (model X.prog X.w) X.A (throw (.ref p) : Sem Flow) (SP X pins D) X.xe t4) X.xe { t0 with heap := g3 } := by
          rw [hfr]
          exact HandSPX.setFlight_upZ fl3 fun g4 hh4 up4 => wpAny_throw (tk _ _ ⟨p, B, tI, pins, τ', G', k, d, rfl, J, nb, (up.trans up3).trans up4, .inr (.inr (by rw [hst]; exact hh4)), np, os, ag, w⟩)
        first
          | exact wpAny_bind (wpAny_pure (wpAny_bind fin))
          | exact wpAny_bind fin
      | @cons x n c i t b0 su q1 q2 hs2 l2 hc hi hln hsu r ih =>
        intro w
        obtain ⟨b, hb1, yes, no⟩ := w
        refine wpAny_handleBy_cons (codeAny_handlers_test ?_) (by intro q; cases q)
        have LT : PySem.W.Looks (model X.prog X.w) g3 (typeOf (.ref p)) k := fun A Q E s kp q => wpAny_typeOf_ref (kp _ _ e3) (by rw [z3.1]; exact q)
        have LM := PySem.W.exm_one (M := model X.prog X.w) J3.kIn LT hb1
        have test : ∀ {Q : Value → Shared → Prop} {E : Value → Shared → Prop}, Q c { t0 with heap := g3 } → wpAny (model X.prog X.w) (X.A.mark (some (.ref p))) (eval (.Name x q1) X.env) Q E { t0 with heap := g3 } := fun {Q E} q => by
          obtain ⟨hg, hdbg, hm | ⟨hm, hv, hnn⟩⟩ := hc
          · exact ld_glob (X := X.suite p ((p, o3) :: (X.pn ++ pins))) S3 hg hm q hdbg
          · exact ld_blt (X := X.suite p ((p, o3) :: (X.pn ++ pins))) S3 hg hm hv q hnn hdbg
        refine test (LM.here ?_)
        cases b with
        | true =>
          refine codeAny_handlers_suite_as ?_
          refine HandSPX.lands_againZ fl3 fun g4 fl4 up4 => ?_
          have J4 : Inv X pins τ' G' { t0 with heap := g4 } := J.landed nb fl4.1 ((up.trans up3).trans up4) os ag
          obtain ⟨o4, vs4, e4, z4, d4⟩ := fl4.there
          have S4 := J4.suite e4 d4 np nL nF
          refine store_ok (X := X.suite p ((p, o4) :: (X.pn ++ pins))) (v := .ref p) S4 hN hi (.inl hln) rfl (fun t5 S5 => ?_) (.inr hln)
          refine wpAny_mono ((hsu p o4 k d (X.pn ++ pins) z4 ⟨_, d4⟩).run [] t5 _ G' _ S5 (yes rfl p np)) (fun f t6 hsp => ?_) (fun _ _ z => False.elim z)
          have gone : ∀ {τ6 : L2.St} {G6 : Hp} {Q : Shared → Prop}, Inv (X.suite p ((p, o4) :: (X.pn ++ pins))) [] τ6 G6 t6 → (∀ t7, Inv X pins (τ6.set i none) G6 t7 → Q t7) →
              wpAny (model X.prog X.w) X.A (do bindName X.env n .none; unbindBehindTheSuite X.env n q2) (fun _ t7 => Q t7) X.xe t6 := fun {τ6 G6 Q} S6 hq => gone_ok (S6.unsuite ok) hN hi hln hq
          cases f with
          | ret u => obtain ⟨v6, τ6, G6, S6, r6, q6⟩ := hsp; exact gone S6 fun t7 J7 => ⟨_, _, _, J7, r6, q6⟩
          | next => obtain ⟨τ6, G6, S6, q6⟩ := hsp; exact gone S6 fun t7 J7 => ⟨_, _, J7, q6⟩
          | brk => obtain ⟨τ6, G6, S6, q6⟩ := hsp; exact gone S6 fun t7 J7 => ⟨_, _, J7, q6⟩
          | cont => obtain ⟨τ6, G6, S6, q6⟩ := hsp; exact gone S6 fun t7 J7 => ⟨_, _, J7, q6⟩
        | false => exact ih (no rfl)
    exact go hh w
  refine wpAny_mono ((hb (wNm X.K Wo D l) (X.pn ++ pins) xe takes PassesOwn.looking).run [] s τ G D (I.toTry _) h) (fun f s1 hsp => ?_) (fun e s1 he => he)
  have hsp2 : SP X pins D f s1 := sp_try ok (fun J => J.ofTry ok) hsp
  cases f with
  | next => exact wpAny_execs_nil hsp2
  | ret u => exact hsp2
  | brk => exact hsp2
  | cont => exact hsp2
end
/-- over data: the clauses of a try -/
def TryL (M : Mode) (X : Cx) (KS : Ks) (D : Kn) : List (Addr × Nat × List Stmt) → Ks
  | [] => KS
  | k :: r => TryK M X (TryL M X KS D r) k.1 k.2.1 k.2.2 D
inductive HdC (N : List Str) (sc : Scope) (B : Bd) : List ExceptHandler → List (Addr × Nat × List Stmt) → Prop
  | nil : HdC N sc B [] []
  | cons {x n : Str} {C : Addr} {i : Nat} {b0 : Stmt} {su : List Stmt} {q1 q2 : Pos} {hs : List ExceptHandler} {l : List (Addr × Nat × List Stmt)} (hm : B.mg x = some (.ref C)) (hi : IdxAt N n i) (hl : sc.names.lookup n = some .local) (hg : GlS sc x) (hdb : (x == ("__debug__" : Str)) = false) (r : HdC N sc B hs l) :
      HdC N sc B (.ExceptHandler (some (.Name x q1)) (some n) (b0 :: su) q2 :: hs) ((C, i, b0 :: su) :: l)
section
variable {M : Mode} {X : Cx} {KS : Ks} {sl : List Sl} {D : Kn} {m : Nat} {pos : Pos} {N : List Str} {sc : Scope} {B : Bd} {body : List Stmt} {h0 : ExceptHandler} {hds : List ExceptHandler} {l : List (Addr × Nat × List Stmt)}
def clOf (X : Cx) (k : Addr × Nat × List Stmt) : Clause := (.ref k.1, k.2.1, fun p c d E τ G => ∀ o pn, Zc c d o → (∃ vs, o.data = .fields vs) → wpSs (X.suite p ((p, o) :: pn)) k.2.2 E τ G)
theorem HdC.hdn (cx : Ctx X N sc B) : ∀ {hs : List ExceptHandler} {l : List (Addr × Nat × List Stmt)}, HdC N sc B hs l → Hdn X hs (l.map (clOf X))
  | _, _, .nil => .nil
  | _, _, .cons hm hi hl hg hdb r => .cons ⟨cx.gl hg, hdb, .inl (cx.mg hm)⟩ (by rw [cx.n]; exact hi.at) (by unfold Env.kindOf; rw [cx.s]; exact hl) (fun p o k d pn hz hf => ⟨fun pins s τ G E I q => q o pn hz hf pins s I⟩) (r.hdn cx)
theorem st1_tryL (cx : Ctx X N sc B) (hh : HdC N sc B (h0 :: hds) l) (h : ∀ pn xe, PassesOwn (model X.prog X.w) X.A X.env xe → StD M (X.tr pn xe) (TryL M X KS D l) body sl D m)
    (hst : X.stack = X.env :: X.outer := by with_unfolding_all rfl) (hf : X.env.frame = some X.env.locals := by with_unfolding_all rfl) : St1 M X KS (.Try body (h0 :: hds) [] [] pos) sl D m := by
  intro G0 H0 G H σ W E ok so wi po
  refine wpS.of (ps_tryNm (Wo := W) (tb := fun W' E σ H => ∀ pn xe, Takes (X.tr pn xe) W' → PassesOwn (model X.prog X.w) X.A X.env xe → wpSs (X.tr pn xe) body E σ H) hst hf cx.nd wi.tk
    (fun W' pn xe tk ps => ⟨fun pins s σ H E I q => q pn xe tk ps pins s I⟩) (hh.hdn cx)) ?_
  intro pn xe tk ps
  refine h pn xe ps G0 H0 G H σ _ E ok so ⟨tk, ?_⟩ po
  clear h hh tk ps
  induction l with
  | nil => exact wi.ex
  | cons k r ih =>
    rintro C' fs d σ' sl' m' G' H' ⟨b, hb, h1, h2⟩ ok' so' xr
    refine ⟨b, hb, fun hb1 a ha => ?_, fun hb2 => ih C' fs d σ' sl' m' G' H' (h2 hb2) ok' so' xr⟩
    obtain ⟨hA, hB⟩ := h1 hb1
    have post : PostS M X.K G0 H0 { D with nx := fun s n => D.nx (s.set k.2.1 .un) n, bk := fun s n => D.bk (s.set k.2.1 .un) n, ct := fun s n => D.ct (s.set k.2.1 .un) n } (nEnds k.2.1 E) :=
      ⟨fun σ sl m G H q ok so => po.nx _ _ m G H q ok (so.setN _), po.rt, fun σ sl m G H q ok so => po.bk _ _ m G H q ok (so.setN _), fun σ sl m G H q ok so => po.ct _ _ m G H q ok (so.setN _), po.rn⟩
    intro oe pn2 hz hfl
    rcases xr with ⟨e1, e2⟩ | ⟨dd, vs, e1, g, rf⟩
    · exact hB e1 a oe pn2 G0 H0 G' H' _ (fun _ _ _ _ => False) _ ok' (so'.setN _) ⟨takes0, fun _ _ _ _ _ _ _ _ z => z.elim⟩ post
    · subst e1
      exact hA a oe dd pn2 ⟨X, oe, pn2, rfl, hz, hfl⟩ G0 H0 G' H' _ (fun _ _ _ _ => False) _ ok' (so'.setV _ (.exc g rf)) ⟨takes0, fun _ _ _ _ _ _ _ _ z => z.elim⟩ post
/-- by what stands at the clauses; the body raises errors with fields only -/
theorem st1_tryLI (I : Addr → List Sl → List (Str × Da) → Nat → Prop) (cx : Ctx X N sc B) (hh : HdC N sc B (h0 :: hds) l)
    (h : ∀ pn xe, PassesOwn (model X.prog X.w) X.A X.env xe → Ctx (X.tr pn xe) N sc B → StD M (X.tr pn xe) (fun sl' C' fs m' => fs.isEmpty = false ∧ I C' sl' fs m') body sl D m)
    (h2 : ∀ C' sl' fs m', fs.isEmpty = false → I C' sl' fs m' → TryL M X KS D l sl' C' fs m')
    (hst : X.stack = X.env :: X.outer := by with_unfolding_all rfl) (hf : X.env.frame = some X.env.locals := by with_unfolding_all rfl) : St1 M X KS (.Try body (h0 :: hds) [] [] pos) sl D m := by
  refine st1_tryL cx hh (fun pn xe ps => ?_) hst hf
  have := h pn xe ps (ctx_tr cx pn xe)
  intro G0 H0 G H σ W E ok so wi po
  refine this G0 H0 G H σ W E ok so ⟨wi.tk, ?_⟩ po
  rintro C' fs d σ' sl' m' G' H' ⟨hne, hI⟩ ok' so' xr
  exact wi.ex C' fs d σ' sl' m' G' H' (h2 C' sl' fs m' hne hI) ok' so' xr
end
/-- C' is caught by a clause for C, or not -/
structure ExG (B : Bd) (C' C : Addr) (b : Bool) : Prop where
  ex : PySem.W.exmOne B.K (.ref C') (.ref C) = some b
section
variable {M : Mode} {X : Cx} {KS : Ks} {C C' : Addr} {i : Nat} {su : List Stmt} {D : Kn} {sl : List Sl} {fs : List (Str × Da)} {m : Nat} {N : List Str} {sc : Scope} {B : Bd} {r : List (Addr × Nat × List Stmt)}
theorem tryl_hit (cx : Ctx X N sc B) (e : ExG B C' C true) (hne : fs.isEmpty = false)
    (h : ∀ p o dd pn, SuX (X.suite p ((p, o) :: pn)) C' p dd → Ctx (X.suite p ((p, o) :: pn)) N sc B → StD M (X.suite p ((p, o) :: pn)) (fun _ => K0) su (sl.set i (.v (.exc p dd fs))) { D with nx := fun s n => D.nx (s.set i .un) n, bk := fun s n => D.bk (s.set i .un) n, ct := fun s n => D.ct (s.set i .un) n } m) : TryL M X KS D ((C, i, su) :: r) sl C' fs m := by
  have eb := cx.b
  subst eb
  exact tryk_hit e.ex hne fun p o dd pn su => h p o dd pn su (ctx_suite cx p _)
theorem tryl_pass (cx : Ctx X N sc B) (e : ExG B C' C false) (h : TryL M X KS D r sl C' fs m) : TryL M X KS D ((C, i, su) :: r) sl C' fs m := by
  have eb := cx.b
  subst eb
  exact tryk_pass e.ex h
end
end OZ
/-! ### class values, read through an object or the class -/
namespace OZ
open PySem L2 PySem.Spec PyProof.Rows
/-- C.f is the text (number) d, for C and for its objects -/
structure ConG (K : PySem.W.Frag) (C : Addr) (f : Str) (d : Da) : Prop where
  ex : ∃ (v : V) (u : Value), Con K C f v u ∧ (∀ G, Rep K G v d) ∧ ∃ mc, ClX.CRead K C mc ∧ ClX.CVal K C mc f v u
section
variable {M : Mode} {X : Cx} {KE : Kx} {e : Expr} {sl : List Sl} {P : Da → Nat → Prop} {m : Nat} {pos : Pos} {f : Str} {N : List Str} {sc : Scope} {B : Bd}
theorem evd_con (cx : Ctx X N sc B) (h : EvD M X KE e sl (fun x m1 => (∃ C, x = .ref C ∧ ∃ d, ConG B.K C f d ∧ P d m1) ∨ (∃ C fs, x = .obj C fs ∧ Cls B.K C ∧ fs.lookup f = none ∧ ∃ d, ConG B.K C f d ∧ P d m1)) m) (hb : attributeBase e f X.env (eval e X.env) = eval e X.env := by with_unfolding_all rfl) : EvD M X KE (.Attribute e f pos) sl P m := by
  have eb := cx.b
  subst eb
  intro G0 H0 G H σ W Q ok so wi po pins s I
  refine attr_of hb (h.run ok so wi I fun u s1 v x m1 G1 H1 p1 k1 o1 so1 wi1 r1 I1 rv1 => ?_)
  rcases p1 with ⟨C, rfl, d, c, p⟩ | ⟨C, fs, rfl, cl, hl, d, c, p⟩
  · obtain ⟨w, uc, cn, rp, mc, cr, cv⟩ := c.ex
    cases r1
    obtain rfl : u = Value.ref C := rv1
    exact ClX.getcval_ok I1 cr cv fun s2 I2 => ⟨w, H1, I2, cn.rel, po w d m1 G1 H1 p o1 (rp G1)⟩
  · obtain ⟨w, uc, cn, rp, mc, cr, cv⟩ := c.ex
    obtain ⟨a, dx, ws, rfl, ea, rf⟩ := r1.obj_inv
    obtain rfl : u = Value.ref a := rv1
    exact getcon_ok I1 (k1.sub _ _ ea) cl cn (rf.lookN hl) fun s2 I2 => ⟨w, H1, I2, cn.rel, po w d m1 G1 H1 p o1 (rp G1)⟩
end
end OZ
/-! ### an own dict is looked at for a while -/
namespace OZ
open PySem L2 PySem.Spec PyProof.Rows
/-- behind the look: the dict as it was -/
theorem Ok.unlock {M : Mode} {G H G' H' : Hp} {m m' : Nat} {a : Addr} {u : HO} {w : HO} (ok0 : Ok M G H G H m) (hu : H a = some u) (ga : G a = none) (nx : ¬ M.X H a) (ok : Ok M (L2.upd G a w) (L2.upd H a w) G' H' m') : Ok M G H G (L2.upd H' a u) m' := by
  have ga' : G' a = some w := ok.le _ _ upd_same
  have nx' : ¬ M.X H' a := fun z => by rw [ok.off _ z] at ga'; cases ga'
  obtain ⟨c1, c2⟩ := M.clo m' H' (L2.upd H' a u) ok.inv fun b o x e => by rw [upd_ne (fun q => nx' (by rw [← q]; exact x))]; exact e
  have cx := (M.clo m H (L2.upd H a w) ok0.inv fun b o x e => by rw [upd_ne (fun q => nx (by rw [← q]; exact x))]; exact e).2
  have ne : ∀ b o, G b = some o → b ≠ a := fun b o e q => by rw [q, ga] at e; cases e
  refine ⟨fun b o e => ?_, c1, fun b x => ?_, Same.refl _, fun b o e n => ?_, fun _ _ _ _ g => g⟩
  · rw [upd_ne (ne b o e)]
    exact ok.sub _ _ (ok.le _ _ (by rw [upd_ne (ne b o e)]; exact e))
  · cases e : G b with
    | none => rfl
    | some o =>
      have h1 := ok.off _ (c2 _ x)
      rw [ok.le b o (by rw [upd_ne (ne b o e)]; exact e)] at h1
      cases h1
  · by_cases q : b = a
    · subst q
      rw [upd_same, ← hu]
      exact ⟨e, fun z => nx' (c2 _ z)⟩
    · obtain ⟨h1, h2⟩ := ok.keep b o (by rw [upd_ne q]; exact e) fun z => n (cx _ z)
      exact ⟨by rw [upd_ne q]; exact h1, fun z => h2 (c2 _ z)⟩
section
variable {M : Mode} {X : Cx} {KE : Kx} {e : Expr} {sl : List Sl} {P : Da → Nat → Prop} {PT' : Bool → Nat → Prop} {m i : Nat} {q : Option Addr} {ks : List (Key × Da)}
/-- an own dict is looked at for a while: the value told is flat; nothing is raised -/
theorem evd_borK (hi : sl[i]? = some (.mm q (.dct ks))) (h : EvD M X K0 e (sl.set i (.v (.dct ks))) (fun z m' => flD z = true ∧ P z m') m) : EvD M X KE e sl P m := by
  intro G0 H0 G H σ W Q ok so wi po pins s I
  obtain ⟨a, e1, ga, nx, h0, ⟨kvs, hu, rk⟩, f⟩ := sok_pub' so hi
  obtain ⟨od, I2⟩ := I.lock hu trivial
  have rep : Rep X.K (L2.upd G a (.frz od (.dK kvs))) (.ref a) (.dct ks) := .dct upd_same (RepK.mono (sameUp ga) rk)
  refine thn (h G0 H0 _ _ σ W (fun v H' => ∃ G' z m', flD z = true ∧ P z m' ∧ Ok M (L2.upd G a (.frz od (.dK kvs))) (L2.upd H a (.frz od (.dK kvs))) G' H' m' ∧ Rep X.K G' v z) (ok.mpub ga nx h0) (f _ rep (ok.xk nx)) ⟨wi.tk, fun _ _ _ _ _ _ z => z.elim⟩ (fun v z m' G' H' ⟨fl, p⟩ o r => ⟨G', z, m', fl, p, o, r⟩) pins s I2) fun v s1 hq => ?_
  obtain ⟨x, H1, I1, rx, G', z, m', fl, p, o, r⟩ := hq
  have hl : H1 a = some (.frz od (.dK kvs)) := o.sub _ _ (o.le _ _ upd_same)
  exact ⟨x, _, I1.unlock hl (I.nofrz hu trivial), rx, po x z m' G _ p (Ok.unlock ok.here hu ga nx o) (flD_rep fl r)⟩
theorem evt_borK (hi : sl[i]? = some (.mm q (.dct ks))) (h : EvT M X K0 e (sl.set i (.v (.dct ks))) PT' m) : EvT M X KE e sl PT' m := by
  intro G0 H0 G H σ W R ok so wi po pins s I
  obtain ⟨a, e1, ga, nx, h0, ⟨kvs, hu, rk⟩, f⟩ := sok_pub' so hi
  obtain ⟨od, I2⟩ := I.lock hu trivial
  have rep : Rep X.K (L2.upd G a (.frz od (.dK kvs))) (.ref a) (.dct ks) := .dct upd_same (RepK.mono (sameUp ga) rk)
  refine thn (h G0 H0 _ _ σ W (fun b H' => ∃ G' m', PT' b m' ∧ Ok M (L2.upd G a (.frz od (.dK kvs))) (L2.upd H a (.frz od (.dK kvs))) G' H' m') (ok.mpub ga nx h0) (f _ rep (ok.xk nx)) ⟨wi.tk, fun _ _ _ _ _ _ z => z.elim⟩ (fun b m' G' H' p o => ⟨G', m', p, o⟩) pins s I2) fun b s1 hq => ?_
  obtain ⟨H1, I1, G', m', p, o⟩ := hq
  have hl : H1 a = some (.frz od (.dK kvs)) := o.sub _ _ (o.le _ _ upd_same)
  exact ⟨_, I1.unlock hl (I.nofrz hu trivial), po b m' G _ p (Ok.unlock ok.here hu ga nx o)⟩
end
/-! own.pop(k) -/
def rDpop : V → List V → Hp → VK → Prop := fun x vs H Q => ∃ (a : Addr) (kvs : List (Key × V)) (k : Key) (v : V), x = .ref a ∧ vs = [kV k] ∧ H a = some (.dK kvs) ∧ valV kvs k = some v ∧ Q v (L2.upd H a (.dK (dropK kvs k)))
theorem mt_dpop {X : Cx} : MtR X "dict.pop" rDpop := by
  intro pins s σ H x vs v us Q I rx rv h
  obtain ⟨a, kvs, k, w, rfl, rfl, hH, hw, q⟩ := h
  cases rx
  obtain ⟨u, rfl, ru⟩ := vals1 rv
  exact d_pop I hH ru hw (.inl rfl) fun w' s' I' r' => ⟨w, _, I', r', q⟩
theorem oc_dpop {X : Cx} : OwnC X "dict" "pop" "dict.pop" rDpop := ⟨PySem.F.plainAttrs_dict, PySem.F.slot_dict_pop, PySem.F.type_dict_pop, mt_dpop⟩
def delD (ks : List (Key × Da)) (k : Key) : List (Key × Da) := ks.filter fun kv => decide (kv.1 ≠ k)
end OZ
namespace OZ
open PySem L2 PySem.Spec PyProof.Rows
theorem tym_dctM {ks : List (Key × Da)} : TyM "dict" (.dct ks) := tym_dct
theorem repK_del {K : PySem.W.Frag} {G : Hp} (k : Key) : ∀ {kvs : List (Key × V)} {ks : List (Key × Da)}, RepK K G kvs ks → RepK K G (dropK kvs k) (delD ks k)
  | _, _, .nil => .nil
  | _, _, .cons (k := j) (vs := vs) (ds := ds) (v := v) (d := d) a b => by
    have ih := repK_del k b
    unfold dropK delD at ih ⊢
    rw [List.filter_cons, List.filter_cons]
    by_cases q : j = k
    · rw [if_neg (by simp [q]), if_neg (by simp [q])]; exact ih
    · rw [if_pos (by simp [q]), if_pos (by simp [q])]; exact .cons a ih
theorem own_dpop {X : Cx} {ks : List (Key × Da)} {k : Key} {d : Da} (h : look k ks = some d) : OwnR X rDpop (.dct ks) [keyD k] d (.dct (delD ks k)) := fun G H ad vs Q s rm r po => by
  obtain ⟨kvs, hl, rk⟩ := rm
  obtain ⟨v, rfl, rv⟩ := reps1 r
  obtain ⟨o, w1, _, w2⟩ := repK_get (k := k) rk
  obtain ⟨w, rfl, rw'⟩ := w2 d h
  exact ⟨ad, kvs, k, w, rfl, by rw [rep_key rv], hl, w1, po _ w ⟨_, upd_same, repK_del k rk⟩ rw'⟩
end OZ
namespace OZ
open PySem L2 PySem.Spec PyProof.Rows
section
variable {M : Mode} {X : Cx} {scope : Scope} {N : List Str} {sc : Scope} {B : Bd} {j : Nat} {vs : List Nat} {sl : List Sl} {m : Nat} {x : Str} {p : Pos}
/-- the comprehension [elt for x in xs.map g if c], elt the value f of each, c the test t, no drawing -/
theorem compd_filtL {α : Type} {c elt : Expr} {i : Nat} (g : α → Da) (t : α → Bool) (f : α → Da) {xs : List α} {K : List Da → Nat → Prop} (hi : IdxAt N x i) (hN : sl.length = N.length) (hv : i ∈ vs)
    (h : ∀ a ∈ xs, ∀ (P : Bool → Nat → Prop), P (t a) m → AllX X scope N sc B j fun X' => EvT M X' K0 c (sl.set i (.v (g a))) P m)
    (h2 : ∀ a ∈ xs, t a = true → ∀ (P : Da → Nat → Prop), P (f a) m → AllX X scope N sc B j fun X' => EvD M X' K0 elt (sl.set i (.v (g a))) P m) (k : K ((xs.filter t).map f) m)
    (hl : (relabelS scope sc).names.lookup x = some .local := by with_unfolding_all rfl) : CompD (lcStep M X scope N sc B j vs (.Name x p) [c] elt sl) (xs.map g) K m := by
  refine compd_allIf (fun n acc m' => m' = m ∧ acc = ((xs.take n).filter t).map f) hi hN hv ⟨rfl, rfl⟩ ?_ (fun r m' ⟨e1, e2⟩ => by rw [e1, e2, List.length_map, List.take_length]; exact k) hl
  rintro n d acc m' e ⟨rfl, rfl⟩
  rw [List.getElem?_map] at e
  obtain ⟨a, ha, rfl⟩ : ∃ a, xs[n]? = some a ∧ g a = d := by
    cases q : xs[n]? with
    | none => rw [q] at e; cases e
    | some a => rw [q] at e; cases e; exact ⟨a, rfl, rfl⟩
  have hm := List.mem_of_getElem? ha
  have tk : xs.take (n + 1) = xs.take n ++ [a] := by rw [List.take_succ, ha]; rfl
  refine h a hm _ ?_
  cases q : t a with
  | true =>
    rw [if_pos rfl]
    refine h2 a hm q _ ⟨rfl, ?_⟩
    rw [tk, List.filter_append, List.map_append, List.filter_cons, q]
    rfl
  | false =>
    rw [if_neg Bool.false_ne_true]
    refine ⟨rfl, ?_⟩
    rw [tk, List.filter_append, List.map_append, List.filter_cons, q]
    simp
end
end OZ

/-! ### own objects looked at by their names; displays; lists made by comprehensions; lifts -/
namespace OZ
open PySem L2 PySem.Spec PyProof.Rows
section
variable {ds : List Da} {M : Mode} {X : Cx} {KE : Kx} {a e : Expr} {sl sl2 : List Sl} {P : Da → Nat → Prop} {PT' : Bool → Nat → Prop} {m i : Nat} {q : Option Addr} {d : Da} {ks : List (Key × Da)} {x : Str} {p p2 pos : Pos} {N : List Str} {sc : Scope} {B : Bd} {op : CmpOp}
theorem envset_mm {i' : Nat} (cx : Ctx X N sc B) (hx : EnvAt N sl x i (.mm q d)) (es : EnvSet N sl x i' (.v d) sl2) : sl2 = sl.set i (.v d) := envset_eq (cx.n ▸ cx.nd) hx.name es
/-- len(x), x an own list -/
theorem evd_lenB {i' : Nat} (cx : Ctx X N sc B) (hx : EnvAt N sl x i (.mm q (.lst ds))) (es : EnvSet N sl x i' (.v (.lst ds)) sl2) (h : EvD M X (fun C fs m => flF fs = true ∧ KE C fs m) (.Call (.Name "len" p) [.Name x p2] [] pos) sl2 (fun z m' => flD z = true ∧ P z m') m) : EvD M X KE (.Call (.Name "len" p) [.Name x p2] [] pos) sl P m :=
  evd_bor hx.slot rfl (envset_mm cx hx es ▸ h)
theorem evd_lenBK {i' : Nat} (cx : Ctx X N sc B) (hx : EnvAt N sl x i (.mm q (.dct ks))) (es : EnvSet N sl x i' (.v (.dct ks)) sl2) (h : EvD M X K0 (.Call (.Name "len" p) [.Name x p2] [] pos) sl2 (fun z m' => flD z = true ∧ P z m') m) : EvD M X KE (.Call (.Name "len" p) [.Name x p2] [] pos) sl P m :=
  evd_borK hx.slot (envset_mm cx hx es ▸ h)
/-- x as a test -/
theorem evt_nameB {i' : Nat} (cx : Ctx X N sc B) (hx : EnvAt N sl x i (.mm q (.lst ds))) (es : EnvSet N sl x i' (.v (.lst ds)) sl2) (h : EvT M X (fun C fs m => flF fs = true ∧ KE C fs m) (.Name x p) sl2 PT' m) : EvT M X KE (.Name x p) sl PT' m :=
  evt_bor hx.slot rfl (envset_mm cx hx es ▸ h)
/-- e op x, x op e as tests -/
theorem evt_cmpRB {i' : Nat} (cx : Ctx X N sc B) (hx : EnvAt N sl x i (.mm q (.lst ds))) (es : EnvSet N sl x i' (.v (.lst ds)) sl2) (h : EvT M X (fun C fs m => flF fs = true ∧ KE C fs m) (.Compare a [op] [.Name x p] pos) sl2 PT' m) : EvT M X KE (.Compare a [op] [.Name x p] pos) sl PT' m :=
  evt_bor hx.slot rfl (envset_mm cx hx es ▸ h)
theorem evt_cmpRBK {i' : Nat} (cx : Ctx X N sc B) (hx : EnvAt N sl x i (.mm q (.dct ks))) (es : EnvSet N sl x i' (.v (.dct ks)) sl2) (h : EvT M X K0 (.Compare a [op] [.Name x p] pos) sl2 PT' m) : EvT M X KE (.Compare a [op] [.Name x p] pos) sl PT' m :=
  evt_borK hx.slot (envset_mm cx hx es ▸ h)
theorem evt_cmpLB {i' : Nat} (cx : Ctx X N sc B) (hx : EnvAt N sl x i (.mm q (.lst ds))) (es : EnvSet N sl x i' (.v (.lst ds)) sl2) (h : EvT M X (fun C fs m => flF fs = true ∧ KE C fs m) (.Compare (.Name x p) [op] [a] pos) sl2 PT' m) : EvT M X KE (.Compare (.Name x p) [op] [a] pos) sl PT' m :=
  evt_bor hx.slot rfl (envset_mm cx hx es ▸ h)
theorem evt_cmpLBK {i' : Nat} (cx : Ctx X N sc B) (hx : EnvAt N sl x i (.mm q (.dct ks))) (es : EnvSet N sl x i' (.v (.dct ks)) sl2) (h : EvT M X K0 (.Compare (.Name x p) [op] [a] pos) sl2 PT' m) : EvT M X KE (.Compare (.Name x p) [op] [a] pos) sl PT' m :=
  evt_borK hx.slot (envset_mm cx hx es ▸ h)
end
section
variable {M : Mode} {X : Cx} {KE : Kx} {sl : List Sl} {P : Da → Nat → Prop} {pos : Pos}
/-- the pairs of a display, from the left -/
def DispD (M : Mode) (X : Cx) (KE : Kx) (sl : List Sl) : List (Expr × Expr) → (List (Key × Da) → Nat → Prop) → Nat → Prop
  | [], K, m => K [] m
  | e :: r, K, m => EvD M X KE e.1 sl (fun y m1 => ∃ k, y = keyD k ∧ EvD M X KE e.2 sl (fun z m2 => DispD M X KE sl r (fun rest m3 => K ((k, z) :: rest) m3) m2) m1) m
theorem disp_run : ∀ (prs : List (Expr × Expr)) {K : List (Key × Da) → Nat → Prop} {m : Nat} {G0 H0 G H : Hp} {σ : L2.St} {W : WX} {p : Addr} {Q : List (V × V) → Hp → Prop}, Ok M G0 H0 G H m → SOk X.K M H0 G H σ sl → Wis M X KE G H σ W → H p = some (.dK []) → G p = none → ¬ M.X H p → DispD M X KE sl prs K m →
    (∀ rest kvs m' G' H', K rest m' → Ok M G H G' H' m' → RepK X.K G' kvs rest → H' p = some (.dK []) → G' p = none → ¬ M.X H' p → kvs.length = prs.length → Q (kvs.map fun kv => (kV kv.1, kv.2)) H') → tPairs (prs.map fun e => (wpE X e.1, wpE X e.2)) σ H Q
  | [], K, m, G0, H0, G, H, σ, W, p, Q, ok, so, wi, hp, gp, nx, h, k => k [] [] m G H h ok.here .nil hp gp nx rfl
  | e :: r, K, m, G0, H0, G, H, σ, W, p, Q, ok, so, wi, hp, gp, nx, h, k => by
    refine h G0 H0 G H σ W _ ok so wi fun y dy m1 G1 H1 ⟨kk, ek, h1⟩ o1 r1 => ?_
    subst ek
    refine h1 G0 H0 G1 H1 σ W _ (ok.trans o1) (so.step o1) (wi.step o1) fun z dz m2 G2 H2 h2 o2 r2 => ?_
    obtain ⟨a1, a2⟩ := o1.keep p _ hp nx
    have a3 := o1.new p _ hp nx gp
    obtain ⟨b1, b2⟩ := o2.keep p _ a1 a2
    have b3 := o2.new p _ a1 a2 a3
    refine disp_run r ((ok.trans o1).trans o2) ((so.step o1).step o2) ((wi.step o1).step o2) b1 b3 b2 h2 fun rest kvs m' G' H' q o rk c1 c2 c3 c4 => ?_
    have := k ((kk, dz) :: rest) ((kk, z) :: kvs) m' G' H' q ((o1.trans o2).trans o) (.cons (r2.mono o.le) rk) c1 c2 c3 (by simp [c4])
    rw [List.map_cons, ← rep_key r1] at this
    exact this
def putsD (acc : List (Key × Da)) (ks : List (Key × Da)) : List (Key × Da) := ks.foldl (fun acc kv => putD acc kv.1 kv.2) acc
theorem repK_puts {K : PySem.W.Frag} {G : Hp} : ∀ {kvs more : List (Key × V)} {ks ls : List (Key × Da)}, RepK K G kvs ks → RepK K G more ls → RepK K G (mergeK kvs more) (putsD ks ls)
  | _, _, _, _, a, .nil => a
  | _, _, _, _, a, .cons b r => by
    show RepK K G (mergeK (putK _ _ _) _) (putsD (putD _ _ _) _)
    exact repK_puts (repK_put a b) r
theorem pps_wp {pos : Pos} : ∀ prs : List (Expr × Expr), PPs X pos (prs.map fun e => some e.1) (prs.map (·.2)) (prs.map fun e => (wpE X e.1, wpE X e.2))
  | [] => pps_nil
  | _ :: r => pps_cons pe_wp pe_wp (pps_wp r)
/-- {k: v, ..} -/
theorem evn_disp {m : Nat} (prs : List (Expr × Expr)) {keys : List (Option Expr)} {values : List Expr} (hk : keys = prs.map fun e => some e.1) (hv : values = prs.map (·.2)) (h0 : prs ≠ []) (h15 : prs.length ≤ 15)
    (h : DispD M X KE sl prs (fun ks m1 => P (.dct (putsD [] ks)) m1) m) : EvN M X KE (.Dict keys values pos) sl P m := by
  subst hk hv
  intro G0 H0 G H σ W Q ok so wi po
  refine wpE.of (pe_disp (pps_wp prs) (by simp) (by simp) (by simpa using h0) (by simpa using h15)) fun p hp => ?_
  have ok1 := ok.here.allocM (o := .dK []) hp
  have gp : G p = none := by
    cases e : G p with
    | none => rfl
    | some u => rw [ok.sub _ _ e] at hp; cases hp
  have nx0 : ¬ M.X H p := fun z => by obtain ⟨u, e⟩ := M.there _ _ _ ok.inv z; rw [hp] at e; cases e
  have nx : ¬ M.X (L2.upd H p (.dK [])) p := fun z => nx0 (X_keep ok nx0 _ z)
  refine disp_run prs (ok.trans ok1) (so.step ok1) (wi.step ok1) upd_same gp nx h fun rest kvs m' G' H' q o rk c1 c2 c3 c4 => ?_
  refine ⟨c1, kvs, rfl, by rw [c4]; exact h15, ?_⟩
  have nm : ∀ b, M.X (L2.upd H' p (.dK (mergeK [] kvs))) b → M.X H' b := (M.clo m' H' _ o.inv fun b u x e => by rw [upd_ne (fun q => c3 (by rw [← q]; exact x))]; exact e).2
  have h0' : H p = none ∨ M.X H p := .inl hp
  have om : Ok M G H G' (L2.upd H' p (.dK (mergeK [] kvs))) m' := (ok1.trans o).mut c2 c3 h0'
  exact po p _ m' G' _ q om ⟨c2, .inl hp, fun z => c3 (nm _ z), ⟨_, upd_same, repK_puts .nil rk⟩⟩
end
/-- name = [..], a list of the run's own -/
theorem st1_setLcM {M : Mode} {X : Cx} {KE : Ks} {D : Kn} {tg iter elt : Expr} {ifs : List Expr} {scope : Scope} {sl sw : List Sl} {m j : Nat} {pos : Pos} {N : List Str} {sc : Scope} {B : Bd} {own : List (Str × Nat)} {y : Str} {py spos : Pos} (cx : Ctx X N sc B) (hr : Room j X.A) (ot : OwnT N tg own) (wp : WipeS N own sl sw)
    (h : IterD M X (KE sl) tg iter sl (fun ds m1 => ds.length < sizeLine ∧ CompD (lcStep M X scope N sc B j (own.map (·.2)) tg ifs elt sw) ds (fun r m2 => ∃ i sl', EnvSet N sl y i (.m (.lst r)) sl' ∧ D.nx sl' m2) m1) m)
    (hsw : swapsWith (.ListComp elt [⟨tg, iter, ifs, 0⟩] scope pos) (some (.Name y py)) spos.line X.env = pure true := by with_unfolding_all exact sw_true rfl rfl rfl (by decide +kernel)) (hN : ∃ i : Nat, N[i]? = some y) (hyl : sc.names.lookup y = some .local := by with_unfolding_all rfl)
    (hb : blkC N sc scope own = true := by with_unfolding_all decide +kernel) (hc : X.calm = true := by with_unfolding_all rfl) (hs : ∀ x, foldedSetIterable iter X.env x = pure x := by with_unfolding_all (intro _; rfl)) : St1 M X KE (.Assign [.Name y py] (.ListComp elt [⟨tg, iter, ifs, 0⟩] scope pos) spos) sl D m := by
  intro G0 H0 G H σ W E ok so wi po
  obtain ⟨i, hi⟩ := hN
  refine wpS.of (ps_setLc (own := own) (i := i) (wi := wpI X tg iter) (g := gBlk X scope tg) (tt := tBlk X scope ifs) (te := eBlk X scope elt) hc cx.nd (by rw [cx.n]; exact hi) (by rw [cx.s]; exact hyl) hsw pi_wp ?_ ?_ ?_ ?_ hs) ?_
  · rw [cx.n, cx.s]; exact blkOk_by hb
  · exact fun s Hb C cl fp => ⟨fun pins s' σ H v u Q I r q => q s Hb C cl fp pins s' u I r⟩
  · intro s Hb C cl fp
    match ifs with
    | [] => exact pts_nil
    | [c] => exact pts_one ⟨fun pins s' σ H Q I q => q s Hb C cl fp pins s' I⟩
    | _ :: _ :: _ => exact ⟨fun pins s' σ H Q I q => q.elim⟩
  · exact fun s Hb C cl fp => ⟨fun pins s' σ H Q I q => q s Hb C cl fp pins s' I⟩
  · refine h G0 H0 G H σ W _ ok so (wi.at ok so) fun J ds m1 G1 H1 q o1 wk => fun D2 hD => ?_
    refine lc_run (P := fun d m2 => ∃ i sl', EnvSet N sl y i (.m d) sl' ∧ D.nx sl' m2) cx hr hc wp ok so o1 wk q.1 q.2 (Q := fun v H' => gName i v σ H' E.nx) D2 hD fun out m' G1 H' p k g h0 nx r => ?_
    have n : New X.K M H G1 H' D2 (.lst out) := ⟨g, h0, nx, r⟩
    obtain ⟨i', sl', es, p⟩ := p
    have hii : i' = i := nd_ix (cx.n ▸ cx.nd) es.name hi
    subst hii
    refine po.nx _ sl' m' _ H' p (ok.trans k) ?_
    rw [es.set]
    exact (so.step k).newM i' (n.back ok) (held_ne (G0 := G0) so n.h0)
/-! a class that makes objects, within any mode -/
def FPI (F : FI) : FI := fun ds KR KE m => F ds (fun fs _ => KR fs m) (fun C fs _ => KE C fs m) 0
theorem spI_pure {M : Mode} {K : PySem.W.Frag} {C : Addr} {n : Nat} {F : FI} {vs : List V} {H : Hp} {Q : VK} {E : XK} (h : spI M K C n (FPI F) vs H Q E) : spI pureM K C n F vs H Q E := by
  obtain ⟨hl, x, dx, rest, H0, G, m, ds, KR, KE, ge, hx, hdx, ne, rfl, ok, r, hF, po, px⟩ := h
  refine ⟨hl, x, dx, rest, H0, G, 0, ds, _, _, ge, hx, hdx, ne, rfl, ok.toPure, r, hF, fun fs m' G' H' p o nw => po fs m G' H' p (ok.lift o) ⟨nw.g, .inl hx, fun z => ?_, nw.r⟩, fun C fs d m' G' H' p o x => px C fs d m G' H' p (ok.lift o) x⟩
  have c2 := (M.clo m H0 H' ok.inv fun b u _ e => (o.keep b u e fun h => h).1).2
  obtain ⟨u, e⟩ := M.there _ _ _ ok.inv (c2 _ z)
  rw [hx] at e
  cases e
theorem MakeG.lift {M : Mode} {B : Bd} {k n : Nat} {C : Addr} {ks : List Str} {gD : List Da → List Da → List Da} {F : FI} (c : MakeG pureM B k C n ks gD F) : MakeG M B k C n ks gD (FPI F) := by
  obtain ⟨f, CX, fd, ps, g, gV, r, Mk', Fo, hb, hrep, hc⟩ := c.ex
  exact ⟨f, CX, fd, ps, g, gV, r, Mk', Fo.imp fun _ _ _ _ q => spI_pure q, hb, hrep, hc⟩
theorem fp {F : FD} {ds : List Da} {P : Da → Nat → Prop} {KE : Kx} {m : Nat} (h : F ds (fun d _ => P d m) (fun C fs _ => KE C fs m) 0) : FP F ds P KE m := h
theorem fpi {F : FI} {ds : List Da} {P : List (Str × Da) → Nat → Prop} {KE : Kx} {m : Nat} (h : F ds (fun d _ => P d m) (fun C fs _ => KE C fs m) 0) : FPI F ds P KE m := h
/-! lists of flat things are plain -/
theorem plDs_map {α : Type} (f : α → Da) (h : ∀ a, plD (f a) = true) : ∀ xs : List α, plDs (xs.map f) = true
  | [] => rfl
  | a :: r => by simp only [List.map_cons, plDs, h a, plDs_map f h r, Bool.and_self]
theorem dpts_le {α : Type} (f : α → Da) (n : Nat) (h : ∀ a, dpt (f a) ≤ n) : ∀ xs : List α, dpts (xs.map f) ≤ n
  | [] => Nat.zero_le _
  | a :: r => by simp only [List.map_cons, dpts]; exact Nat.max_le.mpr ⟨h a, dpts_le f n h r⟩
/-- == of lists, item by item -/
theorem deqs_map {α β : Type} [DecidableEq β] (f : α → Da) (g : α → β) (h : ∀ a b, deq (f a) (f b) = decide (g a = g b)) : ∀ xs ys : List α, deqs (xs.map f) (ys.map f) = decide (xs.map g = ys.map g)
  | [], [] => by simp [deqs]
  | [], _ :: _ => by simp [deqs]
  | _ :: _, [] => by simp [deqs]
  | a :: r, b :: t => by
    simp only [List.map_cons, deqs, h a b, deqs_map f g h r t]
    rw [Bool.eq_iff_iff]
    simp
theorem deqs_mapI {α : Type} [DecidableEq α] (f : α → Da) (h : ∀ a b, deq (f a) (f b) = decide (a = b)) (xs ys : List α) : deqs (xs.map f) (ys.map f) = decide (xs = ys) := by
  rw [deqs_map f id h, List.map_id, List.map_id]
theorem deqs_len : ∀ {xs ys : List Da}, deqs xs ys = true → xs.length = ys.length
  | [], [], _ => rfl
  | [], _ :: _, h => by cases h
  | _ :: _, [], h => by cases h
  | a :: r, b :: t, h => by
    simp only [deqs, Bool.and_eq_true] at h
    simp [deqs_len h.2]
end OZ
namespace OZ
open PySem L2 PySem.Spec PyProof.Rows
section
variable {M : Mode} {X : Cx} {KE : Kx} {a b c d : Expr} {sl : List Sl} {P : Da → Nat → Prop} {m : Nat} {pos : Pos}
theorem evn_disp1 (h : EvD M X KE a sl (fun y m1 => ∃ k, y = keyD k ∧ EvD M X KE b sl (fun z m2 => P (.dct [(k, z)]) m2) m1) m) : EvN M X KE (.Dict [some a] [b] pos) sl P m :=
  evn_disp [(a, b)] rfl rfl (by simp) (by simp) h
theorem evn_disp2 (h : EvD M X KE a sl (fun y m1 => ∃ k, y = keyD k ∧ EvD M X KE b sl (fun z m2 => EvD M X KE c sl (fun y2 m3 => ∃ k2, y2 = keyD k2 ∧ EvD M X KE d sl (fun z2 m4 => P (.dct (putsD [] [(k, z), (k2, z2)])) m4) m3) m2) m1) m) : EvN M X KE (.Dict [some a, some c] [b, d] pos) sl P m :=
  evn_disp [(a, b), (c, d)] rfl rfl (by simp) (by simp) h
theorem dpt_le {ds : List Da} (h : dpts ds ≤ 60) : dpt (.lst ds) ≤ 64 := by show dpts ds + 1 ≤ 64; omega
theorem dpt_leT {ds : List Da} (h : dpts ds ≤ 60) : dpt (.tup ds) ≤ 64 := by show dpts ds + 1 ≤ 64; omega
end
end OZ
/-! ### attributes and methods, by what the object turns out to be -/
namespace OZ
open PySem L2 PySem.Spec PyProof.Rows
/-- o.f, for what o is -/
inductive AttrD (M : Mode) (B : Bd) (j : Nat) (f : Str) (P : Da → Nat → Prop) (m : Nat) : Da → Prop
  | prop {C : Addr} {fs : List (Str × Da)} {k : Nat} {F : FD} (c : PropG M B k C f F) (hk : k + 1 ≤ j) (h : F [.obj C fs] P K0 m) : AttrD M B j f P m (.obj C fs)
  | fld {C : Addr} {fs : List (Str × Da)} {v : Da} (cl : Cls B.K C) (na : NoAttr B.K C f) (l : fs.lookup f = some v) (h : P v m) : AttrD M B j f P m (.obj C fs)
  | con {C : Addr} {fs : List (Str × Da)} {d : Da} (c : ConG B.K C f d) (cl : Cls B.K C) (l : fs.lookup f = none) (h : P d m) : AttrD M B j f P m (.obj C fs)
  | cls {C : Addr} {d : Da} (c : ConG B.K C f d) (h : P d m) : AttrD M B j f P m (.ref C)
theorem AttrD.propP {M : Mode} {B : Bd} {j : Nat} {f : Str} {P : Da → Nat → Prop} {m : Nat} {C : Addr} {fs : List (Str × Da)} {k : Nat} {F : FD} (c : PropG pureM B k C f F) (hk : k + 1 ≤ j) (h : F [.obj C fs] (fun d _ => P d m) (fun _ _ _ => False) 0) : AttrD M B j f P m (.obj C fs) :=
  .prop c.lift hk h
section
variable {M : Mode} {X : Cx} {KE : Kx} {e o : Expr} {es : List Expr} {kws : List Keyword} {sl : List Sl} {P : Da → Nat → Prop} {m j : Nat} {pos apos : Pos} {f mt : Str} {ks : List Str} {N : List Str} {sc : Scope} {B : Bd}
theorem evd_attr (cx : Ctx X N sc B) (hr : Room j X.A) (h : EvD M X KE e sl (fun x m1 => AttrD M B j f P m1 x) m) (hb : attributeBase e f X.env (eval e X.env) = eval e X.env := by with_unfolding_all rfl) : EvD M X KE (.Attribute e f pos) sl P m := by
  have eb := cx.b
  subst eb
  intro G0 H0 G H σ W Q ok so wi po pins s I
  refine attr_of hb (h.run ok so wi I fun u s1 v x m1 G1 H1 p1 k1 o1 so1 wi1 r1 I1 rv1 => ?_)
  cases p1 with
  | prop c hk q =>
    obtain ⟨p, g, fd, ps, cl, po', Fo, bn⟩ := c.ex
    have r0 := r1
    obtain ⟨ad, dx, vs, rfl, ea, rf⟩ := r1.obj_inv
    obtain rfl : u = Value.ref ad := rv1
    exact getprop_ok (E := fun _ _ _ => False) I1 (k1.sub _ _ ea) cl po' Fo (hr.mono hk) bn .nil pass0 ⟨rfl, G1, m1, _, P, K0, k1.here, .cons r0 .nil, q, po.step o1, fun _ _ _ _ _ _ z => z.elim⟩
  | fld cl na l q =>
    obtain ⟨ad, dx, vs, rfl, ea, rf⟩ := r1.obj_inv
    obtain rfl : u = Value.ref ad := rv1
    obtain ⟨w, hw, rw'⟩ := rf.look l
    exact getattr_ok I1 (k1.sub _ _ ea) cl na hw fun u' s2 I2 ru => ⟨w, H1, I2, ru, po w _ m1 G1 H1 q o1 rw'⟩
  | con c cl l q =>
    obtain ⟨w, uc, cn, rp, mc, cr, cv⟩ := c.ex
    obtain ⟨ad, dx, vs, rfl, ea, rf⟩ := r1.obj_inv
    obtain rfl : u = Value.ref ad := rv1
    exact getcon_ok I1 (k1.sub _ _ ea) cl cn (rf.lookN l) fun s2 I2 => ⟨w, H1, I2, cn.rel, po w _ m1 G1 H1 q o1 (rp G1)⟩
  | cls c q =>
    obtain ⟨w, uc, cn, rp, mc, cr, cv⟩ := c.ex
    cases r1
    obtain rfl : u = Value.ref _ := rv1
    exact ClX.getcval_ok I1 cr cv fun s2 I2 => ⟨w, H1, I2, cn.rel, po w _ m1 G1 H1 q o1 (rp G1)⟩
/-- o.mt(e, .., k = v, ..), for what o is -/
inductive MethD (M : Mode) (X : Cx) (KE : Kx) (B : Bd) (j : Nat) (mt : Str) (ks : List Str) (A : (List Da → List Da → Nat → Prop) → Nat → Prop) (P : Da → Nat → Prop) (m : Nat) : Da → Prop
  | mk {C : Addr} {fs : List (Str × Da)} {k n : Nat} {gD : List Da → List Da → List Da} {F : FD} (c : MethG M B k C mt n ks gD F) (hk : k ≤ j) (l : fs.lookup mt = none) (h : A (fun ds zs m2 => ds.length = n ∧ zs.length = ks.length ∧ F (gD (.obj C fs :: ds) zs) P KE m2) m) : MethD M X KE B j mt ks A P m (.obj C fs)
theorem MethD.pure {A : (List Da → List Da → Nat → Prop) → Nat → Prop} {C : Addr} {fs : List (Str × Da)} {k n : Nat} {gD : List Da → List Da → List Da} {F : FD} (c : MethG pureM B k C mt n ks gD F) (hk : k ≤ j) (l : fs.lookup mt = none) (h : A (fun ds zs m2 => ds.length = n ∧ zs.length = ks.length ∧ F (gD (.obj C fs :: ds) zs) (fun d _ => P d m2) (fun C fs _ => KE C fs m2) 0) m) : MethD M X KE B j mt ks A P m (.obj C fs) :=
  .mk c.lift hk l h
theorem evd_methX {pl : Sem Bool} (cx : Ctx X N sc B) (hr : Room j X.A) (h : EvD M X KE o sl (fun d m0 => MethD M X KE B j mt ks (fun K m => EvA M X KE (e :: es) sl (fun ds m1 => EvK M X KE kws sl (fun zs m2 => K ds zs m2) m1) m) P m0 d) m)
    (hall : (backToKw pos (keywordEach kws X.env)).all (·.1.isSome) = true := by with_unfolding_all rfl) (hks : (backToKw pos (keywordEach kws X.env)).filterMap (·.1) = ks := by with_unfolding_all rfl)
    (he : starEach (e :: es) X.env = (false, eval e X.env) :: starEach es X.env := by with_unfolding_all rfl) (hpl : ((backTo pos (starEach (e :: es) X.env)).any (·.1) || (backToKw pos (keywordEach kws X.env)).any (·.1.isNone)) = false := by with_unfolding_all rfl)
    (ht : eval (.Call (.Attribute o mt apos) (e :: es) kws pos) X.env = (do
      let ov ← eval o X.env
      standAt apos.atName
      let (f, first) ← holding [ov] (getMethod ov mt pl)
      callWith pos f first (backTo pos (starEach (e :: es) X.env)) (backToKw pos (keywordEach kws X.env))) := by with_unfolding_all rfl) : EvD M X KE (.Call (.Attribute o mt apos) (e :: es) kws pos) sl P m := by
  have eb := cx.b
  subst eb
  intro G0 H0 G H σ W Q ok so wi po pins s I
  refine PySem.W.methodCall_KW (pl := pl) (h.run ok so wi I fun u s1 v d m1 G1 H1 p1 k1 o1 so1 wi1 r1 I1 rv1 => ?_) ht
  cases p1 with
  | mk c hk l p1 =>
    obtain ⟨g, cl, me, fk⟩ := c.ex
    have r0 := r1
    obtain ⟨ad, dx, vs0, rfl, ea, rf⟩ := r1.obj_inv
    cases rv1
    refine getmeth_ok I1 (k1.sub _ _ ea) cl me (rf.lookN l) ?_
    refine PySem.W.callWith_KW (first := [.ref ad]) (h₀ := X.base) I.ok.mod.kin me.kp hall (p1.run k1 so1 wi1 I1 (fun us s2 vs ds m2 G2 H2 p2 k2 o2 so2 wi2 r2 I2 rv2 => ?_) pos) hpl he
    refine p2.run k2 so2 wi2 I2 (fun ws s3 zs es' m3 G3 H3 p3 k3 o3 so3 wi3 r3 I3 rv3 => ?_) pos
    rw [hks]
    refine ⟨I3.kIn, ?_⟩
    exact (fk.code hr (by simp [p3.1]) p3.2.1 p3.2.2 hk).k G3 H3 σ W Q (.ref ad :: vs) zs k3.here wi3 (.cons ((r0.mono o2.le).mono o3.le) (r2.mono o3.le)) r3 (po.step ((o1.trans o2).trans o3)) pins s3 (.ref ad :: us) ws I3 (.cons rfl rv2) rv3
theorem evd_meth0X {pl : Sem Bool} (cx : Ctx X N sc B) (hr : Room j X.A) (h : EvD M X KE o sl (fun d m0 => MethD M X KE B j mt ks (fun K m => EvK M X KE kws sl (fun zs m2 => K [] zs m2) m) P m0 d) m)
    (hall : (backToKw pos (keywordEach kws X.env)).all (·.1.isSome) = true := by with_unfolding_all rfl) (hks : (backToKw pos (keywordEach kws X.env)).filterMap (·.1) = ks := by with_unfolding_all rfl)
    (hpl : ((backTo pos (starEach [] X.env)).any (·.1) || (backToKw pos (keywordEach kws X.env)).any (·.1.isNone)) = false := by with_unfolding_all rfl)
    (ht : eval (.Call (.Attribute o mt apos) [] kws pos) X.env = (do
      let ov ← eval o X.env
      standAt apos.atName
      let (f, first) ← holding [ov] (getMethod ov mt pl)
      callWith pos f first (backTo pos (starEach [] X.env)) (backToKw pos (keywordEach kws X.env))) := by with_unfolding_all rfl) : EvD M X KE (.Call (.Attribute o mt apos) [] kws pos) sl P m := by
  have eb := cx.b
  subst eb
  intro G0 H0 G H σ W Q ok so wi po pins s I
  refine PySem.W.methodCall_KW (pl := pl) (h.run ok so wi I fun u s1 v d m1 G1 H1 p1 k1 o1 so1 wi1 r1 I1 rv1 => ?_) ht
  cases p1 with
  | mk c hk l p1 =>
    obtain ⟨g, cl, me, fk⟩ := c.ex
    have r0 := r1
    obtain ⟨ad, dx, vs0, rfl, ea, rf⟩ := r1.obj_inv
    cases rv1
    refine getmeth_ok I1 (k1.sub _ _ ea) cl me (rf.lookN l) ?_
    refine PySem.W.callWith_KW0 (first := [.ref ad]) (h₀ := X.base) I.ok.mod.kin me.kp hall ?_ hpl
    refine p1.run k1 so1 wi1 I1 (fun ws s3 zs es' m3 G3 H3 p3 k3 o3 so3 wi3 r3 I3 rv3 => ?_) pos
    rw [hks]
    refine ⟨I3.kIn, ?_⟩
    exact (fk.code hr (by simp [← p3.1]) p3.2.1 p3.2.2 hk).k G3 H3 σ W Q [.ref ad] zs k3.here wi3 (.cons (r0.mono o3.le) .nil) r3 (po.step (o1.trans o3)) pins s3 [.ref ad] ws I3 (.cons rfl .nil) rv3
end
end OZ
namespace OZ
open PySem L2 PySem.Spec PyProof.Rows
section
variable {M : Mode} {B : Bd} {CX : CXT} {k n r : Nat} {C f : Addr} {fd : FuncData} {ps ks : List Str} {F : FI} {us0 : List Value} {vs0 : List V} {ds0 : List Da}
theorem MakeG.plain (mk : Mk B.K C f) (Fo : FnOk B.P B.w B.K B.mg B.base CX k f fd ps (spI M B.K C n F)) (hc : CX = CX0 ∨ CX = L2.CX B.P B.w) (hb : Binds B.K fd ps []) (hn : n + 1 = ps.length) : MakeG M B k C n [] (fun ds _ => ds) F :=
  ⟨f, CX, fd, ps, fun us _ => us, fun vs _ => vs, n, mk, Fo, ⟨fun s us ws Kin l1 _ => by
    have := hb s us Kin (by rw [List.append_nil]; exact l1.trans hn)
    rw [List.append_nil] at this
    exact this, fun a _ => a⟩, fun G x vs zs ds es r1 _ h1 _ => ⟨vs, rfl, r1, h1⟩, hc⟩
theorem MakeG.dflt (mk : Mk B.K C f) (Fo : FnOk B.P B.w B.K B.mg B.base CX k f fd ps (spI M B.K C r F)) (hc : CX = CX0 ∨ CX = L2.CX B.P B.w) (hb : Binds B.K fd ps us0) (hv : Vals vs0 us0) (hr : ∀ G, Reps B.K G vs0 ds0) (hn : n + 1 + ds0.length = ps.length) (hl : r = n + ds0.length) : MakeG M B k C n [] (fun ds _ => ds ++ ds0) F := by
  have l0 : us0.length = ds0.length := by rw [← hv.length, (hr (fun _ => none)).length]
  exact ⟨f, CX, fd, ps, fun us _ => us ++ us0, fun vs _ => vs ++ vs0, r, mk, Fo, ⟨fun s us ws Kin l1 l2 => hb s us Kin (by rw [List.length_append, l1, l0]; exact hn), fun a _ => a.append hv⟩,
    fun G x vs zs ds es r1 _ h1 _ => ⟨vs ++ vs0, rfl, r1.append (hr G), by rw [List.length_append, h1, hl]⟩, hc⟩
theorem MakeG.kw {g : List Value → List Value → List Value} (mk : Mk B.K C f) (Fo : FnOk B.P B.w B.K B.mg B.base CX k f fd ps (spI M B.K C r F)) (hc : CX = CX0 ∨ CX = L2.CX B.P B.w) (hb : KBn B.K fd ps (n + 1) ks g (fun us ws => us ++ ws)) (hl : r = n + ks.length) : MakeG M B k C n ks (fun ds es => ds ++ es) F :=
  ⟨f, CX, fd, ps, g, _, r, mk, Fo, hb, fun G x vs zs ds es r1 r2 h1 h2 => ⟨vs ++ zs, rfl, r1.append r2, by rw [List.length_append, h1, h2, hl]⟩, hc⟩
end
end OZ
namespace OZ
open PySem L2
theorem kit_selfV {K : PySem.W.Frag} (t : Value) : KitG K t t true := ⟨by unfold PySem.W.kitOne; rw [if_pos (by simp)]⟩
end OZ
namespace OS
open PySem L2 PySem.Spec PyProof.Rows
theorem kw_plain {K : PySem.W.Frag} {x qual : Str} {st : Stmt} {f : Addr} {fd : FuncData} {ps ks : List Str} {n : Nat} {g : List Value → List Value → List Value} {gV : List V → List V → List V} (F : Fun K x qual st f fd)
    (h : ∀ (kV doc pm : Value) (an : Option Addr) (cdv ct : Value) (us ws : List Value), us.length = n → ws.length = ks.length → bindArgs (PySem.W.fnOf x qual (defArgs st) (defBody st) (defScope st) .none kV doc pm an cdv ct) ⟨us, ks.zip ws⟩ = pure (ps.zip (g us ws)))
    (hrel : ∀ {vs : List V} {us : List Value} {zs : List V} {ws : List Value}, Vals vs us → Vals zs ws → Vals (gV vs zs) (g us ws)) : KBn K fd ps n ks g gV := by
  obtain ⟨oc, od, kV, doc, pm, an, cdv, ct, osl, rfl, lk, hcd⟩ := F.ex
  exact ⟨fun s us ws _ l1 l2 => .of_eq (h kV doc pm an cdv ct us ws l1 l2), hrel⟩
end OS
namespace OZ
open PySem L2 PySem.Spec PyProof.Rows
/-- o.mt(e, ..), for what o is: a method, or a field that holds an object that is called -/
inductive MethN (M : Mode) (X : Cx) (KE : Kx) (B : Bd) (j : Nat) (mt : Str) (A : (List Da → Nat → Prop) → Nat → Prop) (P : Da → Nat → Prop) (m : Nat) : Da → Prop
  | mk {C : Addr} {fs : List (Str × Da)} {k n : Nat} {gD : List Da → List Da → List Da} {F : FD} (c : MethG M B k C mt n [] gD F) (hk : k ≤ j) (l : fs.lookup mt = none) (h : A (fun ds m2 => ds.length = n ∧ F (gD (.obj C fs :: ds) []) P KE m2) m) : MethN M X KE B j mt A P m (.obj C fs)
  | fld {C D : Addr} {fs gs : List (Str × Da)} {k n : Nat} {F : FD} (cl : Cls B.K C) (na : NoAttr B.K C mt) (l : fs.lookup mt = some (.obj D gs)) (c : InstG M B k D n F) (hk : k ≤ j) (h : A (fun ds m2 => ds.length = n ∧ F (.obj D gs :: ds) P KE m2) m) : MethN M X KE B j mt A P m (.obj C fs)
section
variable {M : Mode} {X : Cx} {KE : Kx} {e o : Expr} {es : List Expr} {sl : List Sl} {P : Da → Nat → Prop} {m j : Nat} {pos apos : Pos} {mt : Str} {N : List Str} {sc : Scope} {B : Bd}
theorem MethN.pure {A : (List Da → Nat → Prop) → Nat → Prop} {C : Addr} {fs : List (Str × Da)} {k n : Nat} {gD : List Da → List Da → List Da} {F : FD} (c : MethG pureM B k C mt n [] gD F) (hk : k ≤ j) (l : fs.lookup mt = none) (h : A (fun ds m2 => ds.length = n ∧ F (gD (.obj C fs :: ds) []) (fun d _ => P d m2) (fun C fs _ => KE C fs m2) 0) m) : MethN M X KE B j mt A P m (.obj C fs) :=
  .mk c.lift hk l h
theorem MethN.fldP {A : (List Da → Nat → Prop) → Nat → Prop} {C D : Addr} {fs gs : List (Str × Da)} {k n : Nat} {F : FD} (cl : Cls B.K C) (na : NoAttr B.K C mt) (l : fs.lookup mt = some (.obj D gs)) (c : InstG pureM B k D n F) (hk : k ≤ j) (h : A (fun ds m2 => ds.length = n ∧ F (.obj D gs :: ds) (fun d _ => P d m2) (fun C fs _ => KE C fs m2) 0) m) : MethN M X KE B j mt A P m (.obj C fs) :=
  .fld cl na l c.lift hk h
theorem evd_methN {pl : Sem Bool} (cx : Ctx X N sc B) (hr : Room j X.A) (h : EvD M X KE o sl (fun d m0 => MethN M X KE B j mt (fun K m => EvA M X KE (e :: es) sl K m) P m0 d) m)
    (he : starEach (e :: es) X.env = (false, eval e X.env) :: starEach es X.env := by with_unfolding_all rfl) (hpl : (backTo pos (starEach es X.env)).any (·.1) = false := by with_unfolding_all rfl)
    (hp2 : ((backTo pos (starEach (e :: es) X.env)).any (·.1) || (backToKw pos (keywordEach [] X.env)).any (·.1.isNone)) = false := by with_unfolding_all rfl)
    (ht : eval (.Call (.Attribute o mt apos) (e :: es) [] pos) X.env = (do
      let ov ← eval o X.env
      standAt apos.atName
      let (f, first) ← holding [ov] (getMethod ov mt pl)
      callWith pos f first (backTo pos (starEach (e :: es) X.env)) (backToKw pos (keywordEach [] X.env))) := by with_unfolding_all rfl) : EvD M X KE (.Call (.Attribute o mt apos) (e :: es) [] pos) sl P m := by
  have eb := cx.b
  subst eb
  intro G0 H0 G H σ W Q ok so wi po pins s I
  refine PySem.W.methodCall_KW (pl := pl) (h.run ok so wi I fun u s1 v d m1 G1 H1 p1 k1 o1 so1 wi1 r1 I1 rv1 => ?_) ht
  cases p1 with
  | @mk C fs k n gD F c hk l p1 =>
    obtain ⟨g, cl, me, fk⟩ := c.ex
    have r0 := r1
    obtain ⟨ad, dx, vs0, rfl, ea, rf⟩ := r1.obj_inv
    cases rv1
    refine getmeth_ok I1 (k1.sub _ _ ea) cl me (rf.lookN l) ?_
    refine PySem.W.callWith_KW (first := [.ref ad]) (h₀ := X.base) I.ok.mod.kin me.kp (by rfl) (p1.run k1 so1 wi1 I1 (fun us s2 vs ds m2 G2 H2 p2 k2 o2 so2 wi2 r2 I2 rv2 => ?_) pos) hp2 he
    refine (show EvK M X KE [] sl (fun zs m2 => zs = [] ∧ F (gD (.obj C fs :: ds) []) P KE m2) m2 from evk_nil ⟨rfl, p2.2⟩).run k2 so2 wi2 I2 (fun ws s3 zs es' m3 G3 H3 p3 k3 o3 so3 wi3 r3 I3 rv3 => ?_) pos
    obtain ⟨rfl, p3⟩ := p3
    refine ⟨I3.kIn, ?_⟩
    exact (fk.code hr (by simp [p2.1]) rfl p3 hk).k G3 H3 σ W Q (.ref ad :: vs) zs k3.here wi3 (.cons ((r0.mono o2.le).mono o3.le) (r2.mono o3.le)) r3 (po.step ((o1.trans o2).trans o3)) pins s3 (.ref ad :: us) ws I3 (.cons rfl rv2) rv3
  | fld cl na l c hk p1 =>
    obtain ⟨g, co, fk⟩ := c.ex
    obtain ⟨ad, dx, vs0, rfl, ea, rf⟩ := r1.obj_inv
    cases rv1
    obtain ⟨w, hw, rw'⟩ := rf.look l
    refine getmeth_fld I1 (k1.sub _ _ ea) cl na hw fun u s1' I1' ru => ?_
    have r0 := rw'
    obtain ⟨ad2, dx2, vs2, rfl, ea2, rf2⟩ := rw'.obj_inv
    cases ru
    refine StX.callO_with (p1.run k1 so1 wi1 I1' (fun us s2 vs ds m2 G2 H2 p2 k2 o2 so2 wi2 r2 I2 rv2 => ?_) pos) he hpl
    obtain ⟨ox, od, J, hd⟩ := StX.insC_at (C := _) I2 (.inr ⟨dx2, vs2, k2.sub _ _ (o2.le _ _ ea2)⟩)
    refine ⟨⟨_, ox, od, J, hd⟩, wpAny_call (PySem.W.kco_code I2.kIn J hd co.at_ co.fn co.fi ?_)⟩
    exact (fk.code (ks := []) (es := []) hr (by simp [p2.1]) rfl p2.2 hk) G2 H2 σ W Q (.ref ad2 :: vs) [] k2.here wi2 (.cons (r0.mono o2.le) r2) .nil (po.step (o1.trans o2)) pins s2 (.ref ad2 :: us) [] I2 (.cons rfl rv2) .nil
end
end OZ
namespace OZ
open PySem L2 PySem.Spec PyProof.Rows
/-- x.f, x an own object: a class value -/
theorem evd_attrB {M : Mode} {X : Cx} {KE : Kx} {sl sl2 : List Sl} {P : Da → Nat → Prop} {m i i' : Nat} {q : Option Addr} {C : Addr} {fs : List (Str × Da)} {x f : Str} {p pos : Pos} {N : List Str} {sc : Scope} {B : Bd} (cx : Ctx X N sc B) (hx : EnvAt N sl x i (.mm q (.obj C fs))) (es : EnvSet N sl x i' (.v (.obj C fs)) sl2)
    (h : EvD M X (fun C fs m => flF fs = true ∧ KE C fs m) (.Attribute (.Name x p) f pos) sl2 (fun z m' => flD z = true ∧ P z m') m) : EvD M X KE (.Attribute (.Name x p) f pos) sl P m :=
  evd_bor hx.slot rfl (envset_mm cx hx es ▸ h)
end OZ

namespace ZM
open PySem PySem.Spec PyProof.Rows L2
/-- the two sorts of rows -/
inductive Kd | l | t
def Kd.it : Kd → Heap → Addr → Addr → Nat → Prop
  | .l, h, i, a, k => h.IsListIter i a k
  | .t, h, i, a, k => h.IsTupleIter i a k
def Kd.sq : Kd → Heap → Addr → Array Value → Prop
  | .l, h, a, xs => h.IsList a xs
  | .t, h, a, xs => h.IsTuple a xs
def Kd.nm : Kd → String
  | .l => "list_iterator"
  | .t => "tuple_iterator"
def Kd.vs : Kd → PySem.W.Frag → Hp → Addr → List V → Prop
  | .l, K, H, a, xs => SqL K H a xs
  | .t, K, H, a, xs => SqT K H a xs
theorem Kd.it.itE {k : Kd} {h h' : Heap} {b i a n} (x : k.it h i a n) (hs : Heap.ExtBut b h h') (e : i ≠ b) : k.it h' i a n := by
  cases k
  · exact Heap.IsListIter.extBut x hs e
  · exact Heap.IsTupleIter.extBut x hs e
theorem Kd.sq.sqE {k : Kd} {h h' : Heap} {b a xs} (x : k.sq h a xs) (hs : Heap.ExtBut b h h') (e : a ≠ b) : k.sq h' a xs := by
  cases k
  · exact Heap.IsList.extBut x hs e
  · exact Heap.IsTuple.extBut x hs e
theorem Kd.it.itA {k : Kd} {h h' : Heap} {i a n} (x : k.it h i a n) (e : ∀ o, h.get? i = some o → h'.get? i = some o) : k.it h' i a n := by
  cases k
  · exact Heap.IsListIter.at x e
  · exact Heap.IsTupleIter.at x e
theorem Kd.it.itO {k : Kd} {h : Heap} {i a n} (x : k.it h i a n) : ∃ o, h.get? i = some o ∧ ∀ v, o.data ≠ .cell v := by
  cases k
  · obtain ⟨o, e, _, d⟩ := x
    exact ⟨o, e, fun v q => by rw [d] at q; cases q⟩
  · obtain ⟨o, e, _, d⟩ := x
    exact ⟨o, e, fun v q => by rw [d] at q; cases q⟩
theorem Kd.row {k : Kd} {X : Cx} {pins : List (Addr × Obj)} {σ : L2.St} {H : Hp} {s : Shared} {a : Addr} {xs : List V} (I : Inv X pins σ H s) (q : k.vs X.K H a xs) :
    ∃ its : List Value, Vals xs its ∧ k.sq s.heap a its.toArray ∧ a < s.heap.objs.size := by
  cases k
  · obtain ⟨its, rv, p, _⟩ := I.list q
    exact ⟨its, rv, p.isList, p.lt⟩
  · obtain ⟨its, rv, p, _⟩ := I.tuple q
    refine ⟨its, rv, p, ?_⟩
    obtain ⟨o, ho, _⟩ := id p
    exact Heap.lt_size ho
theorem Kd.inj {k : Kd} {X : Cx} {pins : List (Addr × Obj)} {σ : L2.St} {H : Hp} {s : Shared} {a : Addr} {xs ys : List V} (I : Inv X pins σ H s) (q : k.vs X.K H a xs) (q2 : k.vs X.K H a ys) : xs = ys := by
  cases k
  · exact I.list_inj q q2
  · exact I.tuple_inj q q2
section
variable {prog : Program} {w : World} {A : Around} {E : Value → Shared → Prop} {s : Shared}
theorem Kd.nxt {k : Kd} {it l : Addr} {i : Nat} {items} {x : Value} {Q : Value → Shared → Prop} (hit : k.it s.heap it l i) (hl : k.sq s.heap l items) (hx : items[i]? = some x)
    (hQ : ∀ h', k.it h' it l (i + 1) → Heap.SameBut it s.heap h' → Q x { s with heap := h' }) : wpAny (model prog w) A (Builtin.SmallTypes.nextOf (.ref it)) Q E s := by
  cases k
  · exact wpAny_nextOf_list_item hit hl hx hQ
  · exact RZ.nextOf_tuple_item hit hl hx hQ
theorem Kd.fin {k : Kd} {it l : Addr} {i : Nat} {items} {Q : Value → Shared → Prop} (hh : A.handled = none) (hit : k.it s.heap it l i) (hl : k.sq s.heap l items) (hx : items[i]? = none)
    (hE : ∀ h' e, Heap.ExtBut it s.heap h' → (∃ o, h'.get? e = some o ∧ o.cls = .type "StopIteration") → E (.ref e) { s with heap := h' }) : wpAny (model prog w) A (Builtin.SmallTypes.nextOf (.ref it)) Q E s := by
  cases k
  · exact wpAny_nextOf_list_end hh hit hl hx hE
  · exact RZ.nextOf_tuple_end hh hit hl hx hE
/-- one item more of a zip over rows of any sorts -/
theorem item {k1 k2 : Kd} {z TI TO i1 i2 l1 l2 : Addr} {n1 n2 : Nat} {xs ys : Array Value} {x y a b : Value} {Q : Value → Shared → Prop} (D : ZipApart z TI TO i1 i2 l1 l2)
    (hz : IsZip s.heap z TI TO .none) (hTI : IsPair s.heap TI (.ref i1) (.ref i2)) (hTO : IsPair s.heap TO a b)
    (h1 : k1.it s.heap i1 l1 n1) (h2 : k2.it s.heap i2 l2 n2) (hl1 : k1.sq s.heap l1 xs) (hl2 : k2.sq s.heap l2 ys) (hx : xs[n1]? = some x) (hy : ys[n2]? = some y)
    (hQ : ∀ h', IsZip h' z TI TO (rawInt s.heap.objs.size) → IsPair h' TO x y → k1.it h' i1 l1 (n1 + 1) → k2.it h' i2 l2 (n2 + 1) → IsPair h' s.heap.objs.size x y → h'.objs.size = s.heap.objs.size + 1 →
      (∀ c o, c ≠ z → c ≠ TO → c ≠ i1 → c ≠ i2 → s.heap.get? c = some o → h'.get? c = some o) → Q (.ref s.heap.objs.size) { s with heap := h' }) :
    wpAny (model prog w) A (Builtin.«zip.__next__» ⟨[.ref z], []⟩) (fun fin s' => ∃ v, fin = .done (.ret v) ∧ Q v s') E s := by
  show wpAny _ _ (field (.ref z) 2 >>= _) _ _ _
  refine wpAny_bind (wpAny_field hz rfl (x := .bool false) rfl ?_)
  show wpAny _ _ (field (.ref z) 3 >>= _) _ _ _
  refine wpAny_bind (wpAny_field hz rfl (x := .ref TI) rfl (wpAny_bind (wpAny_seqItems hTI rfl ?_)))
  show wpAny _ _ (Builtin.SmallTypes.ownedTupleIsFree (.ref z) >>= _) _ _ _
  refine wpAny_bind ?_
  unfold Builtin.SmallTypes.ownedTupleIsFree
  refine wpAny_bind (wpAny_field hz rfl (x := .none) rfl (wpAny_pure ?_))
  rw [if_pos rfl]
  refine wpAny_bind (wpAny_rule (wpAny_bind (wpAny_field hz rfl (x := .ref TO) rfl (wpAny_bind (wpAny_setField_rec hz (by simp) fun ha za sa => ?_)))))
  replace za : IsZip ha z TI TO .ellipsis := za
  refine wpAny_bind ?_
  simp only [List.zipIdx_cons, List.zipIdx_nil, List.forIn_cons, List.forIn_nil]
  have ea := sa.extBut
  refine wpAny_bind (wpAny_bind (wpAny_onRaise ?_))
  show wpAny _ _ (Builtin.SmallTypes.nextOf (.ref i1) >>= _) _ _ _
  refine wpAny_bind (Kd.nxt (h1.itE ea D.i1z) (hl1.sqE ea D.l1z) hx fun hb ib sb => wpAny_pure ?_)
  have eb := sb.extBut
  have ob : IsPair hb TO a b := eb _ _ D.TOi1 (ea _ _ D.TOz hTO)
  refine wpAny_bind (wpAny_seqItems ob rfl (wpAny_bind (wpAny_updateSeq_pair ob fun hc oc sc => ?_)))
  replace oc : IsPair hc TO x b := oc
  have ec := sc.extBut
  refine wpAny_bind (wpAny_letGo (wpAny_pure ?_))
  refine wpAny_bind (wpAny_bind (wpAny_onRaise ?_))
  show wpAny _ _ (Builtin.SmallTypes.nextOf (.ref i2) >>= _) _ _ _
  refine wpAny_bind (Kd.nxt (((h2.itE ea D.i2z).itE eb D.i12.symm).itE ec D.TOi2.symm) (((hl2.sqE ea D.l2z).sqE eb D.l2i1).sqE ec D.l2TO) hy fun hd jd sd => wpAny_pure ?_)
  have ed := sd.extBut
  have od : IsPair hd TO x b := ed _ _ D.TOi2 oc
  refine wpAny_bind (wpAny_seqItems od rfl (wpAny_bind (wpAny_updateSeq_pair od fun he oe se => ?_)))
  replace oe : IsPair he TO x y := oe
  have ee := se.extBut
  refine wpAny_bind (wpAny_letGo (wpAny_pure (wpAny_pure (wpAny_bind (wpAny_seqItems oe rfl (wpAny_bind (wpAny_newTuple ?_)))))))
  have hsz : he.objs.size = s.heap.objs.size := by rw [se.1, sd.1, sc.1, sb.1, sa.1]
  have ze : IsZip he z TI TO .ellipsis := ee _ _ D.TOz.symm (ed _ _ D.i2z.symm (ec _ _ D.TOz.symm (eb _ _ D.i1z.symm za)))
  have hzlt := Heap.lt_size ze
  show wpAny _ _ (Builtin.SmallTypes.ownedTupleHandOut (.ref z) (.ref he.objs.size) >>= _) _ _ _
  refine wpAny_bind ?_
  unfold Builtin.SmallTypes.ownedTupleHandOut
  have zf : IsZip (he.push { cls := .type "tuple", data := .seq #[x, y] }) z TI TO .ellipsis := Heap.get?_push_of_some _ ze
  refine wpAny_bind (wpAny_setField_rec zf (by simp) fun hg zg sg => ?_)
  replace zg : IsZip hg z TI TO (rawInt he.objs.size) := zg
  refine wpAny_setField_rec zg (by simp) fun hk zk sk => ?_
  replace zk : IsZip hk z TI TO (rawInt he.objs.size) := zk
  have up : ∀ c o, c ≠ z → he.get? c = some o → hk.get? c = some o := fun c o c1 e => sk.extBut _ _ c1 (sg.extBut _ _ c1 (Heap.get?_push_of_some _ e))
  have tk : IsPair hk he.objs.size x y := sk.extBut _ _ (Nat.ne_of_gt hzlt) (sg.extBut _ _ (Nat.ne_of_gt hzlt) (Heap.get?_push_size _ rfl))
  have nk : hk.objs.size = he.objs.size + 1 := by rw [sk.1, sg.1, Heap.size_push]
  rw [hsz] at zk tk nk
  refine wpAny_pure ⟨_, rfl, ?_⟩
  show Q (.ref he.objs.size) _
  rw [hsz]
  exact hQ hk zk (up _ _ D.TOz oe) ((((ib.itE ec D.TOi1.symm).itE ed D.i12).itE ee D.TOi1.symm).itA fun o e => up _ o D.i1z e) ((jd.itE ee D.TOi2.symm).itA fun o e => up _ o D.i2z e) tk nk
    fun c o c1 c2 c3 c4 e => up c o c1 (ee _ _ c2 (ed _ _ c4 (ec _ _ c2 (eb _ _ c3 (ea _ _ c1 e)))))
/-- the end of a zip over rows of any sorts -/
theorem fin {k1 k2 : Kd} {z TI TO i1 i2 l1 l2 : Addr} {n1 n2 : Nat} {xs ys : Array Value} {a b : Value} {Q : Fin → Shared → Prop} (hh : A.handled = none) (D : ZipApart z TI TO i1 i2 l1 l2)
    (hz : IsZip s.heap z TI TO .none) (hTI : IsPair s.heap TI (.ref i1) (.ref i2)) (hTO : IsPair s.heap TO a b)
    (h1 : k1.it s.heap i1 l1 n1) (h2 : k2.it s.heap i2 l2 n2) (hl1 : k1.sq s.heap l1 xs) (hl2 : k2.sq s.heap l2 ys) (hend : xs[n1]? = none ∨ ys[n2]? = none)
    (hE : ∀ h' e, (∀ c o, c ≠ z → c ≠ TO → c ≠ i1 → c ≠ i2 → s.heap.get? c = some o → h'.get? c = some o) → (∃ o, h'.get? e = some o ∧ o.cls = .type "StopIteration") → E (.ref e) { s with heap := h' }) :
    wpAny (model prog w) A (Builtin.«zip.__next__» ⟨[.ref z], []⟩) Q E s := by
  show wpAny _ _ (field (.ref z) 2 >>= _) _ _ _
  refine wpAny_bind (wpAny_field hz rfl (x := .bool false) rfl ?_)
  show wpAny _ _ (field (.ref z) 3 >>= _) _ _ _
  refine wpAny_bind (wpAny_field hz rfl (x := .ref TI) rfl (wpAny_bind (wpAny_seqItems hTI rfl ?_)))
  show wpAny _ _ (Builtin.SmallTypes.ownedTupleIsFree (.ref z) >>= _) _ _ _
  refine wpAny_bind ?_
  unfold Builtin.SmallTypes.ownedTupleIsFree
  refine wpAny_bind (wpAny_field hz rfl (x := .none) rfl (wpAny_pure ?_))
  rw [if_pos rfl]
  refine wpAny_bind (wpAny_rule (wpAny_bind (wpAny_field hz rfl (x := .ref TO) rfl (wpAny_bind (wpAny_setField_rec hz (by simp) fun ha za sa => ?_)))))
  replace za : IsZip ha z TI TO .ellipsis := za
  refine wpAny_bind ?_
  simp only [List.zipIdx_cons, List.zipIdx_nil, List.forIn_cons, List.forIn_nil]
  have ea := sa.extBut
  refine wpAny_bind (wpAny_bind (wpAny_onRaise ?_))
  show wpAny _ _ (Builtin.SmallTypes.nextOf (.ref i1) >>= _) _ _ _
  -- an error object is none of the zip's own
  have off : ∀ {g : Heap} {e : Addr} {o : Obj}, IsZip g z TI TO .ellipsis → g.get? e = some o → o.cls = .type "StopIteration" → e ≠ z := fun {g e o} gz ge gc q => by
    subst q
    rw [gz] at ge
    cases ge
    simp at gc
  cases hx : xs[n1]? with
  | none =>
    refine wpAny_bind (Kd.fin hh (h1.itE ea D.i1z) (hl1.sqE ea D.l1z) hx fun hb e eb ⟨oe, ge, gc⟩ => ?_)
    have zb : IsZip hb z TI TO .ellipsis := eb _ _ D.i1z.symm za
    exact wpAny_setField_rec zb (by simp) fun hc _ sc => hE hc e (fun c o c1 _ c3 _ q => sc.extBut _ _ c1 (eb _ _ c3 (ea _ _ c1 q))) ⟨oe, sc.extBut _ _ (off zb ge gc) ge, gc⟩
  | some x =>
    have hy : ys[n2]? = none := by
      rcases hend with h | h
      · rw [hx] at h; cases h
      · exact h
    refine wpAny_bind (Kd.nxt (h1.itE ea D.i1z) (hl1.sqE ea D.l1z) hx fun hb ib sb => wpAny_pure ?_)
    have eb := sb.extBut
    have ob : IsPair hb TO a b := eb _ _ D.TOi1 (ea _ _ D.TOz hTO)
    refine wpAny_bind (wpAny_seqItems ob rfl (wpAny_bind (wpAny_updateSeq_pair ob fun hc oc sc => ?_)))
    have ec := sc.extBut
    refine wpAny_bind (wpAny_letGo (wpAny_pure ?_))
    refine wpAny_bind (wpAny_bind (wpAny_onRaise ?_))
    show wpAny _ _ (Builtin.SmallTypes.nextOf (.ref i2) >>= _) _ _ _
    refine wpAny_bind (Kd.fin hh (((h2.itE ea D.i2z).itE eb D.i12.symm).itE ec D.TOi2.symm) (((hl2.sqE ea D.l2z).sqE eb D.l2i1).sqE ec D.l2TO) hy fun hd e ed ⟨oe, ge, gc⟩ => ?_)
    have zd : IsZip hd z TI TO .ellipsis := ed _ _ D.i2z.symm (ec _ _ D.TOz.symm (eb _ _ D.i1z.symm za))
    exact wpAny_setField_rec zd (by simp) fun hk _ sk => hE hk e (fun c o c1 c2 c3 c4 q => sk.extBut _ _ c1 (ed _ _ c4 (ec _ _ c2 (eb _ _ c3 (ea _ _ c1 q))))) ⟨oe, sk.extBut _ _ (off zd ge gc) ge, gc⟩
theorem next {k1 k2 : Kd} {z TI TO i1 i2 l1 l2 : Addr} {n1 n2 : Nat} {xs ys : Array Value} {x y a b : Value} {Q : Option Value → Shared → Prop} (D : ZipApart z TI TO i1 i2 l1 l2)
    (hz : IsZip s.heap z TI TO .none) (hTI : IsPair s.heap TI (.ref i1) (.ref i2)) (hTO : IsPair s.heap TO a b)
    (h1 : k1.it s.heap i1 l1 n1) (h2 : k2.it s.heap i2 l2 n2) (hl1 : k1.sq s.heap l1 xs) (hl2 : k2.sq s.heap l2 ys) (hx : xs[n1]? = some x) (hy : ys[n2]? = some y)
    (hQ : ∀ h', IsZip h' z TI TO (rawInt s.heap.objs.size) → IsPair h' TO x y → k1.it h' i1 l1 (n1 + 1) → k2.it h' i2 l2 (n2 + 1) → IsPair h' s.heap.objs.size x y → h'.objs.size = s.heap.objs.size + 1 →
      (∀ c o, c ≠ z → c ≠ TO → c ≠ i1 → c ≠ i2 → s.heap.get? c = some o → h'.get? c = some o) → Q (some (.ref s.heap.objs.size)) { s with heap := h' }) :
    wpAny (model prog w) A (pyNext (.ref z)) Q E s := by
  have hT : s.TypeIs (.ref z) "zip" := ⟨_, hz, rfl⟩
  unfold pyNext
  refine wpAny_bind (wpAny_attempt (wpAny_callSpecial?_slot (name := Str.ofString "__next__") hT F.slot_zip_next (wpAny_call_entry F.slot_zip_next hT F.entry_zip_next ?_ (F.args_zip_next_1 _))))
  exact item D hz hTI hTO h1 h2 hl1 hl2 hx hy fun h' a1 a2 a3 a4 a5 a6 a7 => wpAny_pure (hQ h' a1 a2 a3 a4 a5 a6 a7)
theorem last {k1 k2 : Kd} {z TI TO i1 i2 l1 l2 : Addr} {n1 n2 : Nat} {xs ys : Array Value} {a b : Value} {Q : Option Value → Shared → Prop} (hh : A.handled = none) (D : ZipApart z TI TO i1 i2 l1 l2)
    (hz : IsZip s.heap z TI TO .none) (hTI : IsPair s.heap TI (.ref i1) (.ref i2)) (hTO : IsPair s.heap TO a b)
    (h1 : k1.it s.heap i1 l1 n1) (h2 : k2.it s.heap i2 l2 n2) (hl1 : k1.sq s.heap l1 xs) (hl2 : k2.sq s.heap l2 ys) (hend : xs[n1]? = none ∨ ys[n2]? = none)
    (hQ : ∀ h', (∀ c o, c ≠ z → c ≠ TO → c ≠ i1 → c ≠ i2 → s.heap.get? c = some o → h'.get? c = some o) → Q none { s with heap := h' }) : wpAny (model prog w) A (pyNext (.ref z)) Q E s := by
  have hT : s.TypeIs (.ref z) "zip" := ⟨_, hz, rfl⟩
  unfold pyNext
  refine wpAny_bind (wpAny_attempt (wpAny_callSpecial?_slot (name := Str.ofString "__next__") hT F.slot_zip_next (wpAny_call_entry F.slot_zip_next hT F.entry_zip_next ?_ (F.args_zip_next_1 _))))
  refine fin hh D hz hTI hTO h1 h2 hl1 hl2 hend fun h' e hk ⟨o, ho, hc⟩ => ?_
  exact wpAny_bind (wpAny_isInstance (T := "StopIteration") (b := true) ⟨o, ho, hc⟩ isSubtype_stop (wpAny_pure (hQ _ hk)))
end
def Kd.io (k : Kd) (a : Addr) : Obj := { cls := .type k.nm, data := .fields #[.ref a, .int 0 0] }
abbrev g1 (k1 : Kd) (h : Heap) (a : Addr) : Heap := h.push (k1.io a)
abbrev g2 (k1 k2 : Kd) (h : Heap) (a b : Addr) : Heap := (g1 k1 h a).push (k2.io b)
abbrev g3 (k1 k2 : Kd) (h : Heap) (a b : Addr) : Heap := (g2 k1 k2 h a b).push { cls := .type "tuple", data := .seq #[.ref h.objs.size, .ref (g1 k1 h a).objs.size] }
abbrev g4 (k1 k2 : Kd) (h : Heap) (a b : Addr) : Heap := (g3 k1 k2 h a b).push { cls := .type "tuple", data := .seq #[.none, .none] }
abbrev g5 (k1 k2 : Kd) (h : Heap) (a b : Addr) : Heap := (g4 k1 k2 h a b).push { cls := .type "zip", data := .fields #[.none, .bool false, .bool false, .ref (g2 k1 k2 h a b).objs.size, .ref (g3 k1 k2 h a b).objs.size] }
theorem born (k1 k2 : Kd) (a b : Addr) (xs ys : Array Value) :
    Meets (Builtin.«zip.__new__» ⟨[.type "zip", .ref a, .ref b], []⟩) (fun _ R s => k1.sq s.heap a xs ∧ k2.sq s.heap b ys ∧
      R (.ok (.ret (.ref (g4 k1 k2 s.heap a b).objs.size))) { s with heap := g5 k1 k2 s.heap a b }) :=
  .of_wp fun prog w A R s h => by
    obtain ⟨hp, g, d, tk, os⟩ := s
    obtain ⟨hl1, hl2, h⟩ := h
    have hsub := sub_zip
    cases k1 <;> cases k2
    · have u1 : Heap.IsList (Shared.heap ⟨hp, g, d, tk, os⟩) a xs := hl1
      have u2 : Heap.IsList (Shared.heap ⟨hp.push { cls := .type "list_iterator", data := .fields #[.ref a, .int 0 0] }, g, d, tk, os⟩) b ys := Heap.IsList.push hl2 _
      wp_walk using wpAny_pyIter_list u1, wpAny_pyIter_list u2
      exact ⟨_, rfl, h⟩
    · have u1 : Heap.IsList (Shared.heap ⟨hp, g, d, tk, os⟩) a xs := hl1
      have u2 : Heap.IsTuple (Shared.heap ⟨hp.push { cls := .type "list_iterator", data := .fields #[.ref a, .int 0 0] }, g, d, tk, os⟩) b ys := Heap.IsTuple.push hl2 _
      wp_walk using wpAny_pyIter_list u1, wpAny_pyIter_tuple u2
      exact ⟨_, rfl, h⟩
    · have u1 : Heap.IsTuple (Shared.heap ⟨hp, g, d, tk, os⟩) a xs := hl1
      have u2 : Heap.IsList (Shared.heap ⟨hp.push { cls := .type "tuple_iterator", data := .fields #[.ref a, .int 0 0] }, g, d, tk, os⟩) b ys := Heap.IsList.push hl2 _
      wp_walk using wpAny_pyIter_tuple u1, wpAny_pyIter_list u2
      exact ⟨_, rfl, h⟩
    · have u1 : Heap.IsTuple (Shared.heap ⟨hp, g, d, tk, os⟩) a xs := hl1
      have u2 : Heap.IsTuple (Shared.heap ⟨hp.push { cls := .type "tuple_iterator", data := .fields #[.ref a, .int 0 0] }, g, d, tk, os⟩) b ys := Heap.IsTuple.push hl2 _
      wp_walk using wpAny_pyIter_tuple u1, wpAny_pyIter_tuple u2
      exact ⟨_, rfl, h⟩
theorem Kd.it0 {k : Kd} {h : Heap} {i a : Addr} (e : h.get? i = some (k.io a)) : k.it h i a 0 := by
  cases k
  · exact ⟨_, e, rfl, rfl⟩
  · exact ⟨_, e, rfl, rfl⟩
theorem made {prog : Program} {w : World} {A : Around} {E : Value → Shared → Prop} {s : Shared} {k1 k2 : Kd} {a b : Addr} {xs ys : Array Value} {Q : Value → Shared → Prop} (hl1 : k1.sq s.heap a xs) (hl2 : k2.sq s.heap b ys)
    (h : ∀ h', IsZip h' (s.heap.objs.size + 4) (s.heap.objs.size + 2) (s.heap.objs.size + 3) .none → IsPair h' (s.heap.objs.size + 2) (.ref s.heap.objs.size) (.ref (s.heap.objs.size + 1)) →
      IsPair h' (s.heap.objs.size + 3) .none .none → k1.it h' s.heap.objs.size a 0 → k2.it h' (s.heap.objs.size + 1) b 0 →
      (∀ c o, s.heap.get? c = some o → h'.get? c = some o) → Q (.ref (s.heap.objs.size + 4)) { s with heap := h' }) :
    wpAny (model prog w) A (call (.type "zip") [.ref a, .ref b]) Q E s := by
  refine callType_new F.called_zip (by decide) (F.typeCall_zip_2 _ _) (F.newCall_zip_2 _ _) (fun obj => F.args_object_init_3 obj _ _) F.entry_zip_new (born k1 k2 a b xs ys) ⟨hl1, hl2, ?_⟩
  have n1 : (g1 k1 s.heap a).objs.size = s.heap.objs.size + 1 := Heap.size_push ..
  have n2 : (g2 k1 k2 s.heap a b).objs.size = s.heap.objs.size + 2 := by rw [Heap.size_push, n1]
  have n3 : (g3 k1 k2 s.heap a b).objs.size = s.heap.objs.size + 3 := by rw [Heap.size_push, n2]
  have n4 : (g4 k1 k2 s.heap a b).objs.size = s.heap.objs.size + 4 := by rw [Heap.size_push, n3]
  have up : ∀ {g : Heap} {c : Addr} {o : Obj} (p : Obj), g.get? c = some o → (g.push p).get? c = some o := fun p e => Heap.get?_push_of_some _ e
  have e5 : (g5 k1 k2 s.heap a b).get? (g4 k1 k2 s.heap a b).objs.size = some _ := Heap.get?_push_size _ rfl
  have e4 : (g5 k1 k2 s.heap a b).get? (g3 k1 k2 s.heap a b).objs.size = some _ := up _ (Heap.get?_push_size _ rfl)
  have e3 : (g5 k1 k2 s.heap a b).get? (g2 k1 k2 s.heap a b).objs.size = some _ := up _ (up _ (Heap.get?_push_size _ rfl))
  have e2 : (g5 k1 k2 s.heap a b).get? (g1 k1 s.heap a).objs.size = some (k2.io b) := up _ (up _ (up _ (Heap.get?_push_size _ (by cases k2 <;> rfl))))
  have e1 : (g5 k1 k2 s.heap a b).get? s.heap.objs.size = some (k1.io a) := up _ (up _ (up _ (up _ (Heap.get?_push_size _ (by cases k1 <;> rfl)))))
  show _ ∧ _
  rw [n2, n3, n4] at e5
  rw [n1, n2] at e3
  rw [n3] at e4
  rw [n1] at e2
  rw [n4]
  exact ⟨⟨_, e5, rfl⟩, h _ e5 e3 e4 (Kd.it0 e1) (Kd.it0 e2) fun c o x => up _ (up _ (up _ (up _ (up _ x))))⟩
/-- the rows at a and b as they stand at each turn, the items in new pairs -/
def It2 (k1 k2 : Kd) (K : PySem.W.Frag) (a b : Addr) : It :=
  ⟨fun i H => ∃ (xs ys : List V) (x y : V), k1.vs K H a xs ∧ k2.vs K H b ys ∧ xs[i]? = some x ∧ ys[i]? = some y,
    fun i H v H' => ∃ T x y, v = .ref T ∧ H T = none ∧ H' = upd H T (.tup [x, y]) ∧ (∀ xs, k1.vs K H a xs → xs[i]? = some x) ∧ ∀ ys, k2.vs K H b ys → ys[i]? = some y,
    fun i H => ∃ xs ys : List V, k1.vs K H a xs ∧ k2.vs K H b ys ∧ (xs.length ≤ i ∨ ys.length ≤ i)⟩
theorem turn {P : Program} {w : World} {K : PySem.W.Frag} {elts : List Expr} {kk : Nat} {tpos : Pos} {k1 k2 : Kd} {a b z TI TO i1 i2 : Addr} (D : ZipApart z TI TO i1 i2 a b) :
    Turn P w K (.Tuple elts kk tpos) (It2 k1 k2 K a b) [z, TI, TO, i1, i2] z (fun i h => IsZip h z TI TO .none ∧ IsPair h TI (.ref i1) (.ref i2) ∧ (∃ x y, IsPair h TO x y) ∧ k1.it h i1 a i ∧ k2.it h i2 b i) where
  mem := by simp
  obj := fun i h st c hc => by
    obtain ⟨hz, hTI, ⟨x, y, hTO⟩, h1, h2⟩ := st
    simp only [List.mem_cons, List.not_mem_nil, or_false] at hc
    rcases hc with rfl | rfl | rfl | rfl | rfl
    · exact ⟨_, hz, fun v q => nomatch q⟩
    · exact ⟨_, hTI, fun v q => nomatch q⟩
    · exact ⟨_, hTO, fun v q => nomatch q⟩
    · exact h1.itO
    · exact h2.itO
  keep := fun i h h' st k => by
    obtain ⟨hz, hTI, ⟨x, y, hTO⟩, h1, h2⟩ := st
    exact ⟨k z (by simp) _ hz, k TI (by simp) _ hTI, ⟨x, y, k TO (by simp) _ hTO⟩, h1.itA fun o q => k i1 (by simp) o q, h2.itA fun o q => k i2 (by simp) o q⟩
  item := by
    intro X hP hw hK hc i pins s σ H E I hf st hg
    subst hP hw hK
    obtain ⟨hz, hTI, ⟨x0, y0, hTO⟩, h1, h2⟩ := st
    obtain ⟨xs, ys, x, y, hqx, hqy, hx, hy⟩ := hg
    obtain ⟨its, rv, p, _⟩ := Kd.row I hqx
    obtain ⟨its2, rv2, p2, _⟩ := Kd.row I hqy
    obtain ⟨u, hu, ru⟩ := rv.get hx
    obtain ⟨u2, hu2, ru2⟩ := rv2.get hy
    have hzl : z < s.heap.objs.size := Heap.lt_size hz
    refine next D hz hTI hTO h1 h2 p p2 (x := u) (y := u2) (by simpa using hu) (by simpa using hu2) fun h' z' TO' h1' h2' hT hsz hk => ⟨_, rfl, wpAny_letOwnedTupleGo_zip (s := { s with heap := h' }) z' fun h'' z'' sb => ?_⟩
    have hT2 : h''.get? s.heap.objs.size = some { cls := .type "tuple", data := .seq #[u, u2] } := (sb.2 _ (Nat.ne_of_gt hzl)).trans hT
    have new : ObjOk X.prog X.w (upd H s.heap.objs.size (.tup [x, y])) h'' s.heap.objs.size (.tup [x, y]) :=
      ⟨by show 2 ≤ sizeLine; decide, [u, u2], .cons ru (.cons ru2 .nil), ⟨_, hT2, rfl, _, rfl⟩⟩
    have I1 : Inv X pins σ (upd H s.heap.objs.size (.tup [x, y])) { s with heap := h'' } :=
      I.turnedNew (t' := s.toks) (ch := [z, TI, TO, i1, i2]) (fun c o hb q => by
        simp only [List.mem_cons, List.not_mem_nil, or_false, not_or] at hb
        exact (sb.2 c hb.1).trans (hk c o hb.1 hb.2.2.1 hb.2.2.2.1 hb.2.2.2.2 q)) hf (Nat.le_refl _) new
    refine ⟨.ref s.heap.objs.size, _, I1, rfl, ⟨_, x, y, rfl, I.hok.fresh (Nat.le_refl _), rfl, fun l hl => by rw [Kd.inj I hl hqx]; exact hx, fun l hl => by rw [Kd.inj I hl hqy]; exact hy⟩, ⟨z'', (sb.2 _ D.TIz).trans (hk _ _ D.TIz D.TITO D.TIi1 D.TIi2 hTI), ⟨u, u2, (sb.2 _ D.TOz).trans TO'⟩, h1'.itA fun o q => (sb.2 _ D.i1z).trans q, h2'.itA fun o q => (sb.2 _ D.i2z).trans q⟩, fun c hcm => ?_⟩
    have hlt : c < s.heap.objs.size := by
      simp only [List.mem_cons, List.not_mem_nil, or_false] at hcm
      rcases hcm with rfl | rfl | rfl | rfl | rfl
      · exact hzl
      · exact Heap.lt_size hTI
      · exact Heap.lt_size hTO
      · obtain ⟨_, e1, _⟩ := h1.itO; exact Heap.lt_size e1
      · obtain ⟨_, e2, _⟩ := h2.itO; exact Heap.lt_size e2
    rw [upd_ne (Nat.ne_of_lt hlt)]
    exact (hf c hcm).1
  done := by
    intro X hP hw hK hc i pins s σ H E I hf st hg
    subst hP hw hK
    obtain ⟨hz, hTI, ⟨x0, y0, hTO⟩, h1, h2⟩ := st
    obtain ⟨xs, ys, hqx, hqy, hend⟩ := hg
    obtain ⟨its, rv, p, _⟩ := Kd.row I hqx
    obtain ⟨its2, rv2, p2, _⟩ := Kd.row I hqy
    have l1 := rv.length
    have l2 := rv2.length
    have he : its.toArray[i]? = none ∨ its2.toArray[i]? = none := by
      rcases hend with q | q
      · exact .inl (by simp; omega)
      · exact .inr (by simp; omega)
    refine last (I.ok.hd hc) D hz hTI hTO h1 h2 p p2 he fun h' hk => ⟨rfl, I.turnedL (t' := s.toks) (ch := [z, TI, TO, i1, i2]) (fun c o hb q => ?_) hf⟩
    simp only [List.mem_cons, List.not_mem_nil, or_false, not_or] at hb
    exact hk c o hb.1 hb.2.2.1 hb.2.2.2.1 hb.2.2.2.2 q
  self := fun A i s Q E st h => wpAny_pyIter_zip st.1 h
def iZip2 (K : PySem.W.Frag) (ta : TA) : TI := fun σ H R => ta σ H fun vs H1 => ∃ (k1 k2 : Kd) (a b : Addr) (xs ys : List V), vs = [.ref a, .ref b] ∧ k1.vs K H1 a xs ∧ k2.vs K H1 b ys ∧ R (It2 k1 k2 K a b) H1
theorem pi_zip2 {X : Cx} {e e2 : Expr} {ta : TA} {p pos tpos : Pos} {elts : List Expr} {kk : Nat} (hg : Gl X "zip") (hm : X.mg "zip" = none) (ha : PA X [e, e2] ta)
    (hs : starEach [e, e2] X.env = (false, eval e X.env) :: starEach [e2] X.env := by rfl) (hpl : (backTo pos (starEach [e2] X.env)).any (·.1) = false := by rfl) :
    PI X (.Tuple elts kk tpos) (.Call (.Name "zip" p) [e, e2] [] pos) (iZip2 X.K ta) := by
  refine ⟨fun pins s σ H R I h => Call_ (ld_blt I hg hm PyProof.Rows.boot_zip (PyProof.Rows.callWith_type1 (thn (ha.run pos pins s σ H _ I h) fun us s1 ⟨vs, H1, I1, r1, q1⟩ => ?_) hs hpl))⟩
  obtain ⟨k1, k2, a, b, xs, ys, rfl, hqx, hqy, q⟩ := q1
  cases r1 with
  | cons r rr =>
    cases rr with
    | cons r' rr =>
      cases rr
      cases r
      cases r'
      obtain ⟨its, rv, p1, la⟩ := Kd.row I1 hqx
      obtain ⟨its2, rv2, p2, lb⟩ := Kd.row I1 hqy
      refine made p1 p2 fun h' hz hTI hTO h1 h2 hk => wpAny_pyIter_zip hz ?_
      refine ⟨s1.heap.objs.size + 4, [s1.heap.objs.size + 4, s1.heap.objs.size + 2, s1.heap.objs.size + 3, s1.heap.objs.size, s1.heap.objs.size + 1], _, _, H1, rfl, I1.kept (t' := s1.toks) hk, turn (PySem.W.ktu_apart s1.heap.objs.size a b la lb), ⟨hz, hTI, ⟨_, _, hTO⟩, h1, h2⟩, fun c hcm => ?_, q⟩
      have hle : s1.heap.objs.size ≤ c := by
        simp only [List.mem_cons, List.not_mem_nil, or_false] at hcm
        rcases hcm with rfl | rfl | rfl | rfl | rfl
        all_goals first | exact Nat.le_add_right _ _ | exact Nat.le_refl _
      exact I1.fpOk hle (I1.hok.fresh hle)
/-- a comprehension's loop over two rows of one length -/
theorem for_zip2 {K : PySem.W.Frag} {k1 k2 : Kd} {a b : Addr} {xs ys : List V} {g : TG} {tb : TS} {D : Ends} {σ : L2.St} {H : Hp} (hl : xs.length = ys.length) (Pv : Nat → L2.St → Hp → Prop) (h0 : Pv 0 σ H) (hq : ∀ i σ H, Pv i σ H → k1.vs K H a xs ∧ k2.vs K H b ys)
    (hs : ∀ (i : Nat) (x y : V) (T : Addr) (σ : L2.St) (H : Hp), xs[i]? = some x → ys[i]? = some y → Pv i σ H → H T = none → g (.ref T) σ (upd H T (.tup [x, y])) fun σ2 H2 => tb { D with nx := Pv (i + 1), ct := Pv (i + 1), bk := D.nx } σ2 H2) (hd : ∀ σ H, Pv xs.length σ H → D.nx σ H) :
    ∃ W : Nat → Nat → L2.St → Hp → Prop, (∃ m, W 0 m σ H) ∧ ∀ i m σ H, W i m σ H →
      ((It2 k1 k2 K a b).stop i H ∧ D.nx σ H) ∨ ((It2 k1 k2 K a b).go i H ∧ ∃ N : L2.St → Hp → Prop, (∀ σ' H', N σ' H' → ∃ m', m' < m ∧ W (i + 1) m' σ' H') ∧ ∀ v H', (It2 k1 k2 K a b).yld i H v H' → g v σ H' fun σ2 H2 => tb { D with nx := N, ct := N, bk := D.nx } σ2 H2) := by
  refine ⟨fun i m σ H => m = xs.length - i ∧ i ≤ xs.length ∧ Pv i σ H, ⟨xs.length, rfl, Nat.zero_le _, h0⟩, ?_⟩
  rintro i m σ H ⟨rfl, hi, p⟩
  obtain ⟨qx, qy⟩ := hq i σ H p
  rcases Nat.lt_or_ge i xs.length with hlt | hge
  · have hx : xs[i]? = some xs[i] := List.getElem?_eq_getElem hlt
    have hy : ys[i]? = some (ys[i]'(by omega)) := List.getElem?_eq_getElem (by omega)
    refine .inr ⟨⟨xs, ys, _, _, qx, qy, hx, hy⟩, Pv (i + 1), fun σ' H' p' => ⟨xs.length - (i + 1), by omega, rfl, hlt, p'⟩, ?_⟩
    rintro v H' ⟨T, x', y', rfl, hT, rfl, f1, f2⟩
    exact hs i x' y' T σ H (f1 xs qx) (f2 ys qy) p hT
  · obtain rfl : i = xs.length := by omega
    exact .inl ⟨⟨xs, ys, qx, qy, Or.inl (Nat.le_refl _)⟩, hd σ H p⟩
end ZM

namespace ZM
open PySem PySem.Spec PyProof.Rows L2
/-! enumerate over a list or a tuple, from any count -/
def ItE (k : Kd) (k0 : Int) (K : PySem.W.Frag) (a : Addr) : It :=
  ⟨fun i H => ∃ (xs : List V) (x : V), k.vs K H a xs ∧ xs[i]? = some x,
    fun i H v H' => ∃ T x, v = .ref T ∧ H T = none ∧ H' = upd H T (.tup [.int (k0 + (i : Int)), x]) ∧ ∀ xs, k.vs K H a xs → xs[i]? = some x,
    fun i H => ∃ xs : List V, k.vs K H a xs ∧ xs.length = i⟩
theorem Kd.drw (k : Kd) {prog : Program} {w : World} {A : Around} (hh : A.handled = none) {it a : Addr} (ne : a ≠ it) (vs : Array Value) :
    Draws prog w A it [it, a] vs.size (fun i v => vs[i]? = some v) (fun i h => k.it h it a i ∧ k.sq h a vs) := by
  cases k
  · exact .list hh it a ne vs
  · exact .tuple hh it a ne vs
theorem turnE {P : Program} {w : World} {K : PySem.W.Frag} {elts : List Expr} {kk : Nat} {tpos : Pos} (k : Kd) (k0 : Int) (a e it : Addr) :
    Turn P w K (.Tuple elts kk tpos) (ItE k k0 K a) [e, it] e (fun i h => (∃ old, IsEnum h e it (k0 + (i : Int)) old) ∧ k.it h it a i ∧ e ≠ it ∧ a ≠ it ∧ a ≠ e) where
  mem := by simp
  obj := by
    rintro i h ⟨⟨old, he⟩, hi, _⟩ b hb
    simp only [List.mem_cons, List.not_mem_nil, or_false] at hb
    rcases hb with rfl | rfl
    · exact ⟨_, he, fun v q => nomatch q⟩
    · exact hi.itO
  keep := by
    rintro i h h' ⟨⟨old, he⟩, hi, hne⟩ ke
    exact ⟨⟨old, ke e (by simp) _ he⟩, hi.itA fun o q => ke it (by simp) o q, hne⟩
  item := by
    intro X hP hw hK hc i pins s σ H E I hf st hg
    subst hP hw hK
    obtain ⟨⟨old, he⟩, hit, n1, n2, n3⟩ := st
    obtain ⟨xs, x, hq, hx⟩ := hg
    obtain ⟨vs, rv, p, la⟩ := Kd.row I hq
    obtain ⟨u, hu, ru⟩ := rv.get hx
    have hi : i < vs.toArray.size := by rw [List.size_toArray]; exact (List.getElem?_eq_some_iff.mp hu).1
    have el : e < s.heap.objs.size := Heap.lt_size he
    have il : it < s.heap.objs.size := by obtain ⟨_, q, _⟩ := hit.itO; exact Heap.lt_size q
    refine wpAny_pyNext_enum_itemC (k.drw (prog := X.prog) (w := X.w) (A := X.A.in1) (I.ok.hd hc) n2 vs.toArray) he ⟨hit, p⟩ hi n1 (by simp [n1, Ne.symm n3]) fun y h' tk hy ho hs' hT hsz kp => ?_
    obtain rfl : y = u := Option.some.inj (hy.symm.trans (by simpa using hu))
    refine ⟨_, rfl, wpAny_letOwnedTupleGo_enum (s := { s with heap := h', toks := tk + 1 }) ho fun h2 he2 sb => ?_⟩
    have hT2 : h2.get? s.heap.objs.size = some { cls := .type "tuple", data := .seq #[.int (k0 + (i : Int)) tk, y] } := (sb.2 _ (Nat.ne_of_gt el)).trans hT
    have new : ObjOk X.prog X.w (upd H s.heap.objs.size (.tup [.int (k0 + (i : Int)), x])) h2 s.heap.objs.size (.tup [.int (k0 + (i : Int)), x]) :=
      ⟨by show 2 ≤ sizeLine; decide, [.int (k0 + (i : Int)) tk, y], .cons ⟨_, rfl⟩ (.cons ru .nil), ⟨_, hT2, rfl, _, rfl⟩⟩
    have I1 : Inv X pins σ (upd H s.heap.objs.size (.tup [.int (k0 + (i : Int)), x])) { s with heap := h2, toks := tk + 1 } :=
      I.turnedNew (ch := [e, it]) (fun b ob hb q => (sb.2 b (fun z => hb (by simp [z]))).trans (kp b ob (fun z => hb (by simp [z])) (fun z => hb (by simp [z])) q)) hf (Nat.le_refl _) new
    refine ⟨.ref s.heap.objs.size, _, I1, rfl, ⟨_, x, rfl, I.hok.fresh (Nat.le_refl _), rfl, fun ys hy => by rw [Kd.inj I hy hq]; exact hx⟩, ⟨⟨y, ?_⟩, hs'.1.itA fun o q => (sb.2 it (Ne.symm n1)).trans q, n1, n2, n3⟩, fun b hb => ?_⟩
    · rw [show k0 + ((i + 1 : Nat) : Int) = k0 + (i : Int) + 1 by omega]
      exact he2
    · simp only [List.mem_cons, List.not_mem_nil, or_false] at hb
      have hb' : b < s.heap.objs.size := by
        rcases hb with rfl | rfl
        · exact el
        · exact il
      rw [upd_ne (Nat.ne_of_lt hb')]
      exact (hf b (by simp only [List.mem_cons, List.not_mem_nil, or_false]; exact hb)).1
  done := by
    intro X hP hw hK hc i pins s σ H E I hf st hg
    subst hP hw hK
    obtain ⟨⟨old, he⟩, hit, n1, n2, n3⟩ := st
    obtain ⟨xs, hq, rfl⟩ := hg
    obtain ⟨vs, rv, p, la⟩ := Kd.row I hq
    have hl : vs.toArray.size = xs.length := by rw [List.size_toArray]; exact rv.length.symm
    obtain ⟨f0, f1, f2, f3, f4, f5⟩ := hf it (by simp)
    refine wpAny_pyNext_enum_endD (k.drw (prog := X.prog) (w := X.w) (A := X.A.in1) (I.ok.hd hc) n2 vs.toArray) he ⟨by rw [hl]; exact hit, p⟩ fun h' eb => ⟨rfl, I.turned (t' := s.toks) (fun b o hb q => eb b o hb q) f0 f1 f3 f4 f5⟩
  self := fun A i s Q E st h => let ⟨⟨_, he⟩, _⟩ := st; wpAny_pyIter_enum he h
theorem Kd.beg (k : Kd) (a : Addr) (vs : Array Value) : Begins (.ref a) (k.io a) fun h => k.sq h a vs := by
  cases k
  · exact begins_list a vs
  · exact begins_tuple a vs
theorem bornE {v : Value} {o : Obj} {Hb : Heap → Prop} (B : Begins v o Hb) :
    Meets (Builtin.«enumerate.__new__» ⟨[.type "enumerate", v], []⟩) (fun _ R s => Hb s.heap ∧
      R (.ok (.ret (.ref (s.heap.push o).objs.size))) { s with heap := (s.heap.push o).push { cls := .type "enumerate", data := .fields #[.none, .bool false, .ref s.heap.objs.size, rawInt 0, .none, .none] } }) := by
  refine .of_wp fun prog w A R s ⟨b0, r⟩ => ?_
  obtain ⟨h0, g, d, tk, os⟩ := s
  have hsub := sub_enumerate
  have it : ∀ {A2 : Around} {E2 : Value → Shared → Prop} {Q2 : Value → Shared → Prop}, Q2 (.ref h0.objs.size) ⟨h0.push o, g, d, tk, os⟩ → wpAny (model prog w) A2 (pyIter v) Q2 E2 ⟨h0, g, d, tk, os⟩ :=
    fun q => B.iter prog w _ _ ⟨h0, g, d, tk, os⟩ _ b0 q
  wp_walk using it
  refine wpAny_stack_any fun st => wpAny_pure ?_
  split
  · rename_i c _ _ _ _ _
    cases (c == Value.type "enumerate") <;> (wp_walk using it; exact ⟨_, rfl, r⟩)
  · wp_walk using it
    exact ⟨_, rfl, r⟩
section
variable {prog : Program} {w : World} {A : Around} {E : Value → Shared → Prop} {s : Shared}
theorem madeE {v : Value} {o : Obj} {Hb : Heap → Prop} {Q : Value → Shared → Prop} (B : Begins v o Hb) (h1 : Hb s.heap)
    (h : ∀ h', IsEnum h' (s.heap.objs.size + 1) s.heap.objs.size 0 .none → h'.get? s.heap.objs.size = some o → (∀ b o, s.heap.get? b = some o → h'.get? b = some o) → Q (.ref (s.heap.objs.size + 1)) { s with heap := h' }) :
    wpAny (model prog w) A (call (.type "enumerate") [v]) Q E s := by
  have hz : (s.heap.push o).objs.size = s.heap.objs.size + 1 := Heap.size_push ..
  have he := Heap.get?_push_size (s.heap.push o) (o := { cls := .type "enumerate", data := .fields #[.none, .bool false, .ref s.heap.objs.size, rawInt 0, .none, .none] }) rfl
  rw [hz] at he
  refine callType_new F.called_enumerate (by decide) (F.typeCall_enumerate_1 _) (F.newCall_enumerate_1 _) (fun obj => F.args_object_init_2 obj _) F.entry_enumerate_new (bornE B) ⟨h1, ?_⟩
  show _ ∧ _
  rw [hz]
  exact ⟨⟨_, he, rfl⟩, h _ he (Heap.get?_push_of_some _ (Heap.get?_push_size _ B.free)) fun b o x => Heap.get?_push_of_some _ (Heap.get?_push_of_some _ x)⟩
end
theorem goE {X : Cx} {pins : List (Addr × Obj)} {σ : L2.St} {H : Hp} {s : Shared} {elts : List Expr} {kk : Nat} {tpos : Pos} {R : It → Hp → Prop} {k : Kd} {k0 : Int} {a : Addr} {h' : Heap} (I : Inv X pins σ H s) (la : a < s.heap.objs.size)
    (he : IsEnum h' (s.heap.objs.size + 1) s.heap.objs.size k0 .none) (hi : h'.get? s.heap.objs.size = some (k.io a)) (hk : ∀ b o, s.heap.get? b = some o → h'.get? b = some o) (q : R (ItE k k0 X.K a) H) :
    PIE X pins σ (.Tuple elts kk tpos) R (.ref (s.heap.objs.size + 1)) { s with heap := h' } := by
  refine ⟨s.heap.objs.size + 1, [s.heap.objs.size + 1, s.heap.objs.size], _, _, H, rfl, I.kept (t' := s.toks) hk, turnE k k0 a (s.heap.objs.size + 1) s.heap.objs.size, ⟨⟨.none, by simpa using he⟩, Kd.it0 hi, Nat.succ_ne_self _, Nat.ne_of_lt la, Nat.ne_of_lt (Nat.lt_succ_of_lt la)⟩, fun b hb => ?_, q⟩
  have hle : s.heap.objs.size ≤ b := by
    simp only [List.mem_cons, List.not_mem_nil, or_false] at hb
    rcases hb with rfl | rfl
    · exact Nat.le_add_right _ _
    · exact Nat.le_refl _
  exact I.fpOk hle (I.hok.fresh hle)
def iEnumE (K : PySem.W.Frag) (ta : TA) : TI := fun σ H R => ta σ H fun vs H1 => ∃ (k : Kd) (a : Addr) (xs : List V), vs = [.ref a] ∧ k.vs K H1 a xs ∧ R (ItE k 0 K a) H1
theorem pi_enumE {X : Cx} {e : Expr} {ta : TA} {p pos tpos : Pos} {elts : List Expr} {kk : Nat} (hg : Gl X "enumerate") (hm : X.mg "enumerate" = none) (ha : PA X [e] ta) (hs : starEach [e] X.env = [(false, eval e X.env)] := by rfl) :
    PI X (.Tuple elts kk tpos) (.Call (.Name "enumerate" p) [e] [] pos) (iEnumE X.K ta) := by
  refine ⟨fun pins s σ H R I h => Call_ (ld_blt I hg hm boot_enumerate (PyProof.Rows.callWith_type1 (thn (ha.run pos pins s σ H _ I h) fun us s1 ⟨vs, H1, I1, r1, q1⟩ => ?_) hs rfl))⟩
  obtain ⟨k, a, xs, rfl, hq, q⟩ := q1
  cases r1 with
  | cons r rr =>
    cases rr
    cases r
    obtain ⟨its, rv, p', la⟩ := Kd.row I1 hq
    exact madeE (k.beg a its.toArray) p' fun h' he hi hk => wpAny_pyIter_enum he (goE I1 la he hi hk q)
/-- enumerate(xs, k0) -/
def iEnumF (K : PySem.W.Frag) (ta : TA) : TI := fun σ H R => ta σ H fun vs H1 => ∃ (k : Kd) (a : Addr) (xs : List V) (k0 : Int), vs = [.ref a, .int k0] ∧ (0 ≤ k0 ∧ k0 < 1000) ∧ k.vs K H1 a xs ∧ R (ItE k k0 K a) H1
theorem pi_enumF {X : Cx} {e e2 : Expr} {ta : TA} {p pos tpos : Pos} {elts : List Expr} {kk : Nat} (hg : Gl X "enumerate") (hm : X.mg "enumerate" = none) (ha : PA X [e, e2] ta) (hs : starEach [e, e2] X.env = (false, eval e X.env) :: starEach [e2] X.env := by rfl) (hpl : (backTo pos (starEach [e2] X.env)).any (·.1) = false := by rfl) :
    PI X (.Tuple elts kk tpos) (.Call (.Name "enumerate" p) [e, e2] [] pos) (iEnumF X.K ta) := by
  refine ⟨fun pins s σ H R I h => Call_ (ld_blt I hg hm boot_enumerate (PyProof.Rows.callWith_type1 (thn (ha.run pos pins s σ H _ I h) fun us s1 ⟨vs, H1, I1, r1, q1⟩ => ?_) hs hpl))⟩
  obtain ⟨k, a, xs, k0, rfl, hb, hq, q⟩ := q1
  cases r1 with
  | cons r rr =>
    cases rr with
    | cons r' rr =>
      cases rr
      cases r
      obtain ⟨t, rfl⟩ := id r'
      obtain ⟨its, rv, p', la⟩ := Kd.row I1 hq
      exact enum_begins (k.beg a its.toArray) p' (by omega) (by omega) fun h' he hi _ hk => wpAny_pyIter_enum he (goE I1 la he hi hk q)
theorem walkE {K : PySem.W.Frag} {k : Kd} {k0 : Int} {a : Addr} {xs : List V} : Walk (ItE k k0 K a) xs.length (fun H => k.vs K H a xs) (YPair (fun i => some (.int (k0 + (i : Nat)))) (fun i => xs[i]?)) := by
  refine ⟨fun i _ hi q => ⟨xs, xs[i], q, by simp [hi]⟩, fun _ q => ⟨xs, q, rfl⟩, fun i H v H' _ q y => ?_⟩
  obtain ⟨T, x, h1, h2, h3, h4⟩ := y
  exact ⟨T, .int (k0 + (i : Nat)), x, h1, h2, h3, rfl, h4 xs q⟩
theorem walkZ {K : PySem.W.Frag} {k1 k2 : Kd} {a b : Addr} {xs ys : List V} {n : Nat} (hn : n = min xs.length ys.length) : Walk (It2 k1 k2 K a b) n (fun H => k1.vs K H a xs ∧ k2.vs K H b ys) (YPair (fun i => xs[i]?) (fun i => ys[i]?)) := by
  subst hn
  refine ⟨fun i _ hi q => ?_, fun _ q => ⟨xs, ys, q.1, q.2, by omega⟩, fun i H v H' _ q y => ?_⟩
  · have h1 : i < xs.length := by omega
    have h2 : i < ys.length := by omega
    exact ⟨xs, ys, xs[i], ys[i], q.1, q.2, List.getElem?_eq_getElem h1, List.getElem?_eq_getElem h2⟩
  · obtain ⟨T, x, z, e1, e2, e3, e4, e5⟩ := y
    exact ⟨T, x, z, e1, e2, e3, e4 xs q.1, e5 ys q.2⟩
end ZM

namespace OZ
open PySem L2 PySem.Spec PyProof.Rows ZM
/-! enumerate, zip over lists and tuples -/
def EnuD (KI : List Da → Nat → Prop) : Da → Nat → Prop
  | .lst ds, m => KI ds m
  | .tup ds, m => KI ds m
  | _, _ => False
theorem enud_lst {KI : List Da → Nat → Prop} {ds : List Da} {m : Nat} (h : KI ds m) : EnuD KI (.lst ds) m := h
theorem enud_tup {KI : List Da → Nat → Prop} {ds : List Da} {m : Nat} (h : KI ds m) : EnuD KI (.tup ds) m := h
theorem walkd_enumE {M : Mode} {K : PySem.W.Frag} {G1 : Hp} {k : Kd} {n : Nat} {a : Addr} {vs : List V} {ds : List Da} (q : ∀ G H m, Same G1 G → Ok M G H G H m → k.vs K H a vs) (r : Reps K G1 vs ds) : WalkD M K (ItE k (n : Int) K a) (enums n ds) G1 := by
  refine ⟨_, _, by rw [enums_len, ← r.length]; exact walkE (K := K) (k := k) (k0 := (n : Int)) (a := a) (xs := vs), fun G H m le ok => q G H m le ok, fun i H x H' G m hi y le ok => ?_⟩
  obtain ⟨T, x1, y1, rfl, hT, rfl, e1, e2⟩ := y
  obtain ⟨d, hd, rd⟩ := r.get' e2
  cases e1
  have al := ok.alloc (o := .tup [V.int ((n : Int) + (i : Nat)), y1]) hT
  refine ⟨_, .tup [.int ((n : Int) + (i : Int)), d], al, ?_, .tup (sq_t upd_same) (.cons (.int _) (.cons ((rd.mono le).mono al.le) .nil))⟩
  rw [enums_at, hd]
  simp
section
variable {M : Mode} {X : Cx} {KE : Kx} {e e2 : Expr} {sl : List Sl} {KI : List Da → Nat → Prop} {m : Nat} {pos p tpos : Pos} {N : List Str} {sc : Scope} {B : Bd}
theorem enud_rep {K : PySem.W.Frag} {G1 : Hp} {d : Da} {v : V} {KI : List Da → Nat → Prop} {m : Nat} (h : EnuD KI d m) (r : Rep K G1 v d) : ∃ (k : Kd) (a : Addr) (vs : List V) (ds : List Da), v = .ref a ∧ (∀ {M : Mode} (G H : Hp) (m : Nat), Same G1 G → Ok M G H G H m → k.vs K H a vs) ∧ Reps K G1 vs ds ∧ KI ds m := by
  cases r with
  | @lst a vs ds q r => exact ⟨.l, a, vs, ds, rfl, fun G H m le ok => sq_l (ok.sub _ _ (le _ _ q)), r, h⟩
  | @tup a vs ds q r => exact ⟨.t, a, vs, ds, rfl, fun G H m le ok => sqT_same (le.trans ok.sub) q, r, h⟩
  | _ => exact h.elim
theorem iter_enumE {elts : List Expr} {kk : Nat} (cx : Ctx X N sc B) (hm : B.mg "enumerate" = none) (h : EvD M X KE e sl (EnuD fun ds m1 => KI (enums 0 ds) m1) m) (hg : GlS sc "enumerate" := by with_unfolding_all rfl)
    (he : starEach [e] X.env = (false, eval e X.env) :: starEach [] X.env := by with_unfolding_all rfl) : IterD M X KE (.Tuple elts kk tpos) (.Call (.Name "enumerate" p) [e] [] pos) sl KI m := fun G0 H0 G H σ W R ok so wi k =>
  wpI.of (pi_enumE (cx.gl hg) (cx.mg hm) (pa_cons pe_wp pa_nil he) (hs := by rw [he]; rfl)) (h G0 H0 G H σ W _ ok so wi fun v d m' G' H' p o r => by
    obtain ⟨kd, a, vs, ds, rfl, q, t, kk⟩ := enud_rep p r
    exact ⟨kd, a, vs, rfl, q (M := M) G' H' m' (Same.refl _) o.here, k _ _ m' G' H' kk o (walkd_enumE (n := 0) q t)⟩)
theorem iter_enumF {elts : List Expr} {kk : Nat} (cx : Ctx X N sc B) (hm : B.mg "enumerate" = none) (h : EvD M X KE e sl (fun d m0 => EvD M X KE e2 sl (fun y m1 => ∃ n : Nat, y = .int n ∧ n < 1000 ∧ EnuD (fun ds m1 => KI (enums n ds) m1) d m1) m0) m) (hg : GlS sc "enumerate" := by with_unfolding_all rfl)
    (he : starEach [e, e2] X.env = (false, eval e X.env) :: starEach [e2] X.env := by with_unfolding_all rfl) (he2 : starEach [e2] X.env = (false, eval e2 X.env) :: starEach [] X.env := by with_unfolding_all rfl) : IterD M X KE (.Tuple elts kk tpos) (.Call (.Name "enumerate" p) [e, e2] [] pos) sl KI m := fun G0 H0 G H σ W R ok so wi k =>
  wpI.of (pi_enumF (cx.gl hg) (cx.mg hm) (pa_cons pe_wp (pa_cons pe_wp pa_nil he2) he) (hs := by rw [he]) (hpl := by rw [he2]; rfl)) (h G0 H0 G H σ W _ ok so wi fun v d m' G' H' p o r =>
    p G0 H0 G' H' σ W _ (ok.trans o) (so.step o) (wi.step o) fun v2 d2 m2 G2 H2 p2 o2 r2 => by
    obtain ⟨n, rfl, hn, p2⟩ := p2
    obtain ⟨kd, a, vs, ds, rfl, q, t, kk⟩ := enud_rep p2 (r.mono o2.le)
    exact ⟨kd, a, vs, (n : Int), by rw [r2.int_inv], by omega, q (M := M) G2 H2 m2 (Same.refl _) (o.trans o2).here, k _ _ m2 G2 H2 kk (o.trans o2) (walkd_enumE (n := n) q t)⟩)
/-- pairs of two rows -/
def zipsD (xs ys : List Da) : List Da := (xs.zip ys).map fun e => .tup [e.1, e.2]
theorem walkd_zipE {K : PySem.W.Frag} {G1 : Hp} {k1 k2 : Kd} {a b : Addr} {us vs : List V} {xs ys : List Da} (q1 : ∀ G H m, Same G1 G → Ok M G H G H m → k1.vs K H a us) (q2 : ∀ G H m, Same G1 G → Ok M G H G H m → k2.vs K H b vs) (r1 : Reps K G1 us xs) (r2 : Reps K G1 vs ys) : WalkD M K (It2 k1 k2 K a b) (zipsD xs ys) G1 := by
  refine ⟨_, _, walkZ (K := K) (k1 := k1) (k2 := k2) (a := a) (b := b) (xs := us) (ys := vs) (by unfold zipsD; rw [List.length_map, List.length_zip, r1.length, r2.length]), fun G H m le ok => ⟨q1 G H m le ok, q2 G H m le ok⟩, fun i H x H' G m hi y le ok => ?_⟩
  obtain ⟨T, x1, y1, rfl, hT, rfl, e1, e2⟩ := y
  obtain ⟨d1, hd1, rd1⟩ := r1.get' e1
  obtain ⟨d2, hd2, rd2⟩ := r2.get' e2
  have al := ok.alloc (o := .tup [x1, y1]) hT
  refine ⟨_, .tup [d1, d2], al, ?_, .tup (sq_t upd_same) (.cons ((rd1.mono le).mono al.le) (.cons ((rd2.mono le).mono al.le) .nil))⟩
  unfold zipsD
  rw [List.getElem?_map, (List.getElem?_zip_eq_some (z := (d1, d2))).mpr ⟨hd1, hd2⟩]
  rfl
theorem iter_zipE {elts : List Expr} {kk : Nat} (cx : Ctx X N sc B) (hm : B.mg "zip" = none) (h : EvD M X KE e sl (fun d m0 => EvD M X KE e2 sl (fun y m1 => EnuD (fun xs m2 => EnuD (fun ys m3 => KI (zipsD xs ys) m3) y m2) d m1) m0) m) (hg : GlS sc "zip" := by with_unfolding_all rfl)
    (he : starEach [e, e2] X.env = (false, eval e X.env) :: starEach [e2] X.env := by with_unfolding_all rfl) (he2 : starEach [e2] X.env = (false, eval e2 X.env) :: starEach [] X.env := by with_unfolding_all rfl) : IterD M X KE (.Tuple elts kk tpos) (.Call (.Name "zip" p) [e, e2] [] pos) sl KI m := fun G0 H0 G H σ W R ok so wi k =>
  wpI.of (pi_zip2 (cx.gl hg) (cx.mg hm) (pa_cons pe_wp (pa_cons pe_wp pa_nil he2) he) (hs := by rw [he]) (hpl := by rw [he2]; rfl)) (h G0 H0 G H σ W _ ok so wi fun v d m' G' H' p o r =>
    p G0 H0 G' H' σ W _ (ok.trans o) (so.step o) (wi.step o) fun v2 d2 m2 G2 H2 p2 o2 r2 => by
    obtain ⟨k1, a, us, xs, rfl, q1, t1, p3⟩ := enud_rep p2 (r.mono o2.le)
    obtain ⟨k2, b, vs, ys, rfl, q2, t2, p4⟩ := enud_rep p3 r2
    exact ⟨k1, k2, a, b, us, vs, rfl, q1 (M := M) G2 H2 m2 (Same.refl _) (o.trans o2).here, q2 (M := M) G2 H2 m2 (Same.refl _) (o.trans o2).here, k _ _ m2 G2 H2 p4 (o.trans o2) (walkd_zipE q1 q2 t1 t2)⟩)
end
end OZ
namespace OZ
open PySem L2 PySem.Spec PyProof.Rows
/-! a list or a tuple -/
def sqd (t : Bool) (ds : List Da) : Da := if t then .tup ds else .lst ds
theorem seqd_sqd {KI : List Da → Nat → Prop} {t : Bool} {ds : List Da} {m : Nat} (h : KI ds m) : SeqD KI (sqd t ds) m := by cases t <;> exact h
theorem enud_sqd {KI : List Da → Nat → Prop} {t : Bool} {ds : List Da} {m : Nat} (h : KI ds m) : EnuD KI (sqd t ds) m := by cases t <;> exact h
section
variable {M : Mode} {X : Cx} {KE : Kx} {P : Da → Nat → Prop} {m : Nat} {t : Bool} {ls : List Da}
theorem cd_lenQ (k : P (.int ls.length) m) : CallD M X KE (.builtin "len") [sqd t ls] P m := by
  cases t
  · exact cd_lenL k
  · exact cd_lenT k
theorem cd_tupQ (k : P (.tup ls) m) : CallD M X KE (.type "tuple") [sqd t ls] P m := by
  cases t
  · exact cd_tupL k
  · exact cd_tupT k
theorem cd_lstQ (k : P (.lst ls) m) : CallD M X KE (.type "list") [sqd t ls] P m := by
  cases t
  · exact cd_lstL k
  · exact cd_lstT k
theorem sld_sqd {i : Int} (h0 : 0 ≤ i) (h1 : i < (ls.length : Int)) (h : P (sqd t (ls.take i.toNat)) m) : SlD (sqd t ls) none (some i) P m := by
  cases t
  · exact sld_lst' (cutD_to h0) h
  · refine sld_tup' (fun z => ?_) (cutD_to h0) h
    have := z.2
    simp only [HT.sIx] at this
    rw [if_neg (by omega)] at this
    omega
theorem opd_inQ {x : Da} (h : flD x = true) (h2 : ls.all flD = true) (k : P (.bl (inD x ls)) m) : OpD M X KE (compareOp .In) x (sqd t ls) P m := by
  cases t
  · exact opd_inL h h2 k
  · exact opd_inT h h2 k
theorem opd_ninQ {x : Da} (h : flD x = true) (h2 : ls.all flD = true) (k : P (.bl (!inD x ls)) m) : OpD M X KE (compareOp .NotIn) x (sqd t ls) P m := by
  cases t
  · exact opd_ninL h h2 k
  · exact opd_ninT h h2 k
end
end OZ

namespace OZ
open PySem L2 PySem.Spec PyProof.Rows
/-! typed loops and comprehensions; gcd, // by any number -/
def CDivZ : Int → Int → Prop := fun _ j => j ≠ 0 ∧ j.natAbs.log2 < 9000
theorem op_fdivZ {X : Cx} : OpR X (binaryOp .FloorDiv) (rI CDivZ fun i j => V.int (i.fdiv j)) :=
  opI fun i j t u s Q E hc q => PyProof.Rows.floordiv_int hc.1 q (Or.inl (PyProof.noPylong_of_log2 hc.2))
theorem cdivZ {i j : Int} {b : Nat} (h : j ≠ 0) (hb : j.natAbs < 2 ^ b) (h0 : 0 < b) (h9 : b ≤ 9000) : CDivZ i j := ⟨h, Nat.lt_of_lt_of_le (Flt.log2_lt_of h0 hb) h9⟩
section
variable {M : Mode} {X : Cx} {KE : Kx} {P : Da → Nat → Prop} {m : Nat} {i j : Int}
theorem opd_fdivX (c : CDivZ i j) (k : P (.int (i.fdiv j)) m) : OpD M X KE (binaryOp .FloorDiv) (.int i) (.int j) P m := .of op_fdivZ fun G H _ _ _ ok r1 r2 po => ⟨i, j, r1.int_inv, r2.int_inv, c, po _ _ m G H k ok (.int _)⟩
end
section
variable {α : Type} {M : Mode} {X : Cx} {KE : Ks} {N : List Str} {sc : Scope} {x y : Str} {p p1 p2 tp : Pos} {kk : Nat} {st : List Stmt} {B : Bd} {D : Kn} {sl : List Sl} {m : Nat}
/-- for x in xs.map g -/
theorem for_invL {i : Nat} (g : α → Da) {xs : List α} (cx : Ctx X N sc B) (I : Nat → List Sl → Nat → Prop) (hi : IdxAt N x i) (h0 : I 0 sl m) (hN : ∀ n sl m, I n sl m → sl.length = N.length)
    (h : ∀ j a sl m, xs[j]? = some a → j < xs.length → xs.take (j + 1) = xs.take j ++ [a] → I j sl m → StD M X KE st (sl.set i (.v (g a))) { D with nx := I (j + 1), ct := I (j + 1), bk := D.nx } m) (k : ∀ sl m, I xs.length sl m → D.nx sl m) (hl : Loc sc x := by with_unfolding_all first | exact Or.inl rfl | exact Or.inr rfl) (hf : X.fn x = true ∨ X.env.scope.names.lookup x = some .local := by with_unfolding_all first | exact Or.inl rfl | exact Or.inr rfl) : ForD (fun d sl D m => ∃ sl' is, Tg X N sc (.Name x p) d sl sl' is ∧ StD M X KE st sl' D m) D (xs.map g) sl m :=
  for_inv cx I hi h0 hN (fun j d sl m e q => by
    rw [List.getElem?_map] at e
    cases ha : xs[j]? with
    | none => rw [ha] at e; cases e
    | some a =>
      rw [ha] at e
      cases e
      exact h j a sl m ha (List.getElem?_eq_some_iff.mp ha).1 (by rw [List.take_succ, ha]; rfl) q) (fun sl m q => k sl m (by rwa [List.length_map] at q)) hl hf
/-- for x in range(n) -/
theorem for_invN {i : Nat} {n : Int} (cx : Ctx X N sc B) (I : Nat → List Sl → Nat → Prop) (hi : IdxAt N x i) (h0 : I 0 sl m) (hN : ∀ n sl m, I n sl m → sl.length = N.length)
    (h : ∀ (j : Nat) sl m, (j : Int) < n → j < n.toNat → I j sl m → StD M X KE st (sl.set i (.v (.int j))) { D with nx := I (j + 1), ct := I (j + 1), bk := D.nx } m) (k : ∀ sl m, I n.toNat sl m → D.nx sl m) (hl : Loc sc x := by with_unfolding_all first | exact Or.inl rfl | exact Or.inr rfl) (hf : X.fn x = true ∨ X.env.scope.names.lookup x = some .local := by with_unfolding_all first | exact Or.inl rfl | exact Or.inr rfl) : ForD (fun d sl D m => ∃ sl' is, Tg X N sc (.Name x p) d sl sl' is ∧ StD M X KE st sl' D m) D (intsD 0 n.toNat) sl m :=
  for_inv cx I hi h0 hN (fun j d sl m e q => by
    obtain ⟨h1, rfl⟩ := intsD_get e
    rw [show (0 + (j : Int)) = (j : Int) by omega]
    exact h j sl m h1 (by omega) q) (fun sl m q => k sl m (by rwa [intsD_len] at q)) hl hf
/-- for x, y in xs.map .. -/
theorem for_inv2L {i1 i2 : Nat} (g1 g2 : α → Da) {xs : List α} (cx : Ctx X N sc B) (I : Nat → List Sl → Nat → Prop) (hi1 : IdxAt N x i1) (hi2 : IdxAt N y i2) (h0 : I 0 sl m) (hN : ∀ n sl m, I n sl m → sl.length = N.length)
    (h : ∀ j a sl m, xs[j]? = some a → j < xs.length → xs.take (j + 1) = xs.take j ++ [a] → I j sl m → StD M X KE st ((sl.set i1 (.v (g1 a))).set i2 (.v (g2 a))) { D with nx := I (j + 1), ct := I (j + 1), bk := D.nx } m) (k : ∀ sl m, I xs.length sl m → D.nx sl m)
    (hl1 : Loc sc x := by with_unfolding_all first | exact Or.inl rfl | exact Or.inr rfl) (hl2 : Loc sc y := by with_unfolding_all first | exact Or.inl rfl | exact Or.inr rfl) (hf1 : X.fn x = true ∨ X.env.scope.names.lookup x = some .local := by with_unfolding_all first | exact Or.inl rfl | exact Or.inr rfl) (hf2 : X.fn y = true ∨ X.env.scope.names.lookup y = some .local := by with_unfolding_all first | exact Or.inl rfl | exact Or.inr rfl) :
    ForD (fun d sl D m => ∃ sl' is, Tg X N sc (.Tuple [.Name x p1, .Name y p2] kk tp) d sl sl' is ∧ StD M X KE st sl' D m) D (xs.map fun a => .tup [g1 a, g2 a]) sl m :=
  for_inv2 cx I hi1 hi2 h0 hN (fun j d sl m e q => by
    rw [List.getElem?_map] at e
    cases ha : xs[j]? with
    | none => rw [ha] at e; cases e
    | some a =>
      rw [ha] at e
      cases e
      exact ⟨_, _, rfl, h j a sl m ha (List.getElem?_eq_some_iff.mp ha).1 (by rw [List.take_succ, ha]; rfl) q⟩) (fun sl m q => k sl m (by rwa [List.length_map] at q)) hl1 hl2 hf1 hf2
end
section
variable {α : Type} {M : Mode} {X : Cx} {scope : Scope} {N : List Str} {sc : Scope} {B : Bd} {j : Nat} {vs : List Nat} {elt c : Expr} {sl : List Sl} {m : Nat} {x y : Str} {p p1 p2 tp : Pos} {kk : Nat}
/-- a target of the block: a local, or a cell of the block's own -/
def LocB (scope sc : Scope) (x : Str) : Prop := (relabelS scope sc).names.lookup x = some .local ∨ ((relabelS scope sc).names.lookup x = some .cell ∧ (scope.names.lookup x == some .cell) = true)
theorem LocB.loc {scope sc : Scope} {x : Str} (h : LocB scope sc x) : Loc (relabelS scope sc) x := h.elim (fun h => .inl h) fun h => .inr h.1
theorem LocB.fn {scope : Scope} {x : Str} {s : Shared} {H : Hp} {cenv : Env} {fp : List Addr} (h : LocB scope sc x) (cx : Ctx (X.blk s H scope cenv fp) N (relabelS scope sc) B) : (X.blk s H scope cenv fp).fn x = true ∨ (X.blk s H scope cenv fp).env.scope.names.lookup x = some .local :=
  h.elim (fun h => .inr (by rw [cx.s]; exact h)) fun h => .inl h.2
theorem lcstep_one {i : Nat} {d : Da} {k : Option Da → Nat → Prop} (hi : IdxAt N x i) (hN : sl.length = N.length) (hv : i ∈ vs) (h : AllX X scope N sc B j fun X' => EvD M X' K0 elt (sl.set i (.v d)) (fun y m2 => k (some y) m2) m) (hl : LocB scope sc x) : lcStep M X scope N sc B j vs (.Name x p) [] elt sl d k m :=
  ⟨_, [i], fun s H C cl fp cx hr => .name (.of hi hN) hl.loc (hl.fn cx), fun a ha => (by rw [List.mem_singleton.mp ha]; exact hv), h⟩
theorem lcstep_oneIf {c : Expr} {i : Nat} {d : Da} {k : Option Da → Nat → Prop} (hi : IdxAt N x i) (hN : sl.length = N.length) (hv : i ∈ vs)
    (h : AllX X scope N sc B j fun X' => EvT M X' K0 c (sl.set i (.v d)) (fun b m1 => if b = true then AllX X scope N sc B j fun X' => EvD M X' K0 elt (sl.set i (.v d)) (fun y m2 => k (some y) m2) m1 else k none m1) m) (hl : LocB scope sc x) : lcStep M X scope N sc B j vs (.Name x p) [c] elt sl d k m :=
  ⟨_, [i], fun s H C cl fp cx hr => .name (.of hi hN) hl.loc (hl.fn cx), fun a ha => (by rw [List.mem_singleton.mp ha]; exact hv), h⟩
theorem tg_two {i1 i2 : Nat} {a b : Da} (hi1 : IdxAt N x i1) (hi2 : IdxAt N y i2) (hN : sl.length = N.length) (hl1 : LocB scope sc x) (hl2 : LocB scope sc y) : AllX X scope N sc B j fun X' => Tg X' N (relabelS scope sc) (.Tuple [.Name x p1, .Name y p2] kk tp) (.tup [a, b]) sl ((sl.set i1 (.v a)).set i2 (.v b)) ([i1] ++ [i2]) :=
  fun s H C cl fp cx hr => .two (.name (.of hi1 hN) hl1.loc (hl1.fn cx)) (.name (.of hi2 (by rw [List.length_set]; exact hN)) hl2.loc (hl2.fn cx))
theorem two_in {i1 i2 : Nat} (hv1 : i1 ∈ vs) (hv2 : i2 ∈ vs) : ∀ i ∈ [i1] ++ [i2], i ∈ vs := fun a ha => by
  rcases List.mem_cons.mp ha with z | z
  · rw [z]; exact hv1
  · rw [List.mem_singleton.mp z]; exact hv2
theorem lcstep_two {i1 i2 : Nat} {a b : Da} {k : Option Da → Nat → Prop} (hi1 : IdxAt N x i1) (hi2 : IdxAt N y i2) (hN : sl.length = N.length) (hv1 : i1 ∈ vs) (hv2 : i2 ∈ vs) (h : AllX X scope N sc B j fun X' => EvD M X' K0 elt ((sl.set i1 (.v a)).set i2 (.v b)) (fun y m2 => k (some y) m2) m)
    (hl1 : LocB scope sc x) (hl2 : LocB scope sc y) : lcStep M X scope N sc B j vs (.Tuple [.Name x p1, .Name y p2] kk tp) [] elt sl (.tup [a, b]) k m :=
  ⟨_, _, tg_two hi1 hi2 hN hl1 hl2, two_in hv1 hv2, h⟩
theorem lcstep_twoIf {c : Expr} {i1 i2 : Nat} {a b : Da} {k : Option Da → Nat → Prop} (hi1 : IdxAt N x i1) (hi2 : IdxAt N y i2) (hN : sl.length = N.length) (hv1 : i1 ∈ vs) (hv2 : i2 ∈ vs)
    (h : AllX X scope N sc B j fun X' => EvT M X' K0 c ((sl.set i1 (.v a)).set i2 (.v b)) (fun t m1 => if t = true then AllX X scope N sc B j fun X' => EvD M X' K0 elt ((sl.set i1 (.v a)).set i2 (.v b)) (fun y m2 => k (some y) m2) m1 else k none m1) m)
    (hl1 : LocB scope sc x) (hl2 : LocB scope sc y) : lcStep M X scope N sc B j vs (.Tuple [.Name x p1, .Name y p2] kk tp) [c] elt sl (.tup [a, b]) k m :=
  ⟨_, _, tg_two hi1 hi2 hN hl1 hl2, two_in hv1 hv2, h⟩
theorem map_get {β : Type} {g : α → β} {xs : List α} {n : Nat} {d : β} (e : (xs.map g)[n]? = some d) : ∃ a, xs[n]? = some a ∧ d = g a ∧ n < xs.length ∧ xs.take (n + 1) = xs.take n ++ [a] := by
  rw [List.getElem?_map] at e
  cases ha : xs[n]? with
  | none => rw [ha] at e; cases e
  | some a =>
    rw [ha] at e
    cases e
    exact ⟨a, rfl, rfl, (List.getElem?_eq_some_iff.mp ha).1, by rw [List.take_succ, ha]; rfl⟩
/-- [elt for x in xs.map g], no drawing -/
theorem compd_mapB {i : Nat} (g f : α → Da) {xs : List α} {K : List Da → Nat → Prop} (hi : IdxAt N x i) (hN : sl.length = N.length) (hv : i ∈ vs) (h : ∀ a ∈ xs, ∀ (P : Da → Nat → Prop), P (f a) m → AllX X scope N sc B j fun X' => EvD M X' K0 elt (sl.set i (.v (g a))) P m) (k : K (xs.map f) m)
    (hl : LocB scope sc x := by with_unfolding_all first | exact Or.inl rfl | exact Or.inr ⟨rfl, rfl⟩) : CompD (lcStep M X scope N sc B j vs (.Name x p) [] elt sl) (xs.map g) K m := by
  refine compd_inv lcstep_mono (fun n acc m' => m' = m ∧ acc = (xs.take n).map f) ⟨rfl, rfl⟩ ?_ fun r m' ⟨e1, e2⟩ => by rw [e1, e2, List.length_map, List.take_length]; exact k
  rintro n d acc m' e ⟨rfl, rfl⟩
  obtain ⟨a, ha, rfl, _, tk⟩ := map_get e
  exact lcstep_one hi hN hv (h a (List.mem_of_getElem? ha) _ ⟨rfl, by rw [tk]; simp⟩) hl
/-- .. if c -/
theorem compd_filtB {i : Nat} (g : α → Da) (t : α → Bool) (f : α → Da) {xs : List α} {K : List Da → Nat → Prop} (hi : IdxAt N x i) (hN : sl.length = N.length) (hv : i ∈ vs)
    (h : ∀ a ∈ xs, ∀ (P : Bool → Nat → Prop), P (t a) m → AllX X scope N sc B j fun X' => EvT M X' K0 c (sl.set i (.v (g a))) P m)
    (h2 : ∀ a ∈ xs, t a = true → ∀ (P : Da → Nat → Prop), P (f a) m → AllX X scope N sc B j fun X' => EvD M X' K0 elt (sl.set i (.v (g a))) P m) (k : K ((xs.filter t).map f) m)
    (hl : LocB scope sc x := by with_unfolding_all first | exact Or.inl rfl | exact Or.inr ⟨rfl, rfl⟩) : CompD (lcStep M X scope N sc B j vs (.Name x p) [c] elt sl) (xs.map g) K m := by
  refine compd_inv lcstep_mono (fun n acc m' => m' = m ∧ acc = ((xs.take n).filter t).map f) ⟨rfl, rfl⟩ ?_ fun r m' ⟨e1, e2⟩ => by rw [e1, e2, List.length_map, List.take_length]; exact k
  rintro n d acc m' e ⟨rfl, rfl⟩
  obtain ⟨a, ha, rfl, _, tk⟩ := map_get e
  have hm := List.mem_of_getElem? ha
  refine lcstep_oneIf hi hN hv (h a hm _ ?_) hl
  cases q : t a with
  | true =>
    rw [if_pos rfl]
    refine h2 a hm q _ ⟨rfl, ?_⟩
    rw [tk, List.filter_append, List.map_append, List.filter_cons, q]
    rfl
  | false =>
    rw [if_neg Bool.false_ne_true]
    refine ⟨rfl, ?_⟩
    rw [tk, List.filter_append, List.map_append, List.filter_cons, q]
    rfl
/-- [elt for x, y in xs.map ..], no drawing -/
theorem compd_mapL2 {i1 i2 : Nat} (g1 g2 f : α → Da) {xs : List α} {K : List Da → Nat → Prop} (hi1 : IdxAt N x i1) (hi2 : IdxAt N y i2) (hN : sl.length = N.length) (hv1 : i1 ∈ vs) (hv2 : i2 ∈ vs)
    (h : ∀ a ∈ xs, ∀ (P : Da → Nat → Prop), P (f a) m → AllX X scope N sc B j fun X' => EvD M X' K0 elt ((sl.set i1 (.v (g1 a))).set i2 (.v (g2 a))) P m) (k : K (xs.map f) m)
    (hl1 : LocB scope sc x := by with_unfolding_all first | exact Or.inl rfl | exact Or.inr ⟨rfl, rfl⟩) (hl2 : LocB scope sc y := by with_unfolding_all first | exact Or.inl rfl | exact Or.inr ⟨rfl, rfl⟩) :
    CompD (lcStep M X scope N sc B j vs (.Tuple [.Name x p1, .Name y p2] kk tp) [] elt sl) (xs.map fun a => .tup [g1 a, g2 a]) K m := by
  refine compd_inv lcstep_mono (fun n acc m' => m' = m ∧ acc = (xs.take n).map f) ⟨rfl, rfl⟩ ?_ fun r m' ⟨e1, e2⟩ => by rw [e1, e2, List.length_map, List.take_length]; exact k
  rintro n d acc m' e ⟨rfl, rfl⟩
  obtain ⟨a, ha, rfl, _, tk⟩ := map_get e
  exact lcstep_two hi1 hi2 hN hv1 hv2 (h a (List.mem_of_getElem? ha) _ ⟨rfl, by rw [tk]; simp⟩) hl1 hl2
/-- .. if c -/
theorem compd_filtL2 {i1 i2 : Nat} (g1 g2 : α → Da) (t : α → Bool) (f : α → Da) {xs : List α} {K : List Da → Nat → Prop} (hi1 : IdxAt N x i1) (hi2 : IdxAt N y i2) (hN : sl.length = N.length) (hv1 : i1 ∈ vs) (hv2 : i2 ∈ vs)
    (h : ∀ a ∈ xs, ∀ (P : Bool → Nat → Prop), P (t a) m → AllX X scope N sc B j fun X' => EvT M X' K0 c ((sl.set i1 (.v (g1 a))).set i2 (.v (g2 a))) P m)
    (h2 : ∀ a ∈ xs, t a = true → ∀ (P : Da → Nat → Prop), P (f a) m → AllX X scope N sc B j fun X' => EvD M X' K0 elt ((sl.set i1 (.v (g1 a))).set i2 (.v (g2 a))) P m) (k : K ((xs.filter t).map f) m)
    (hl1 : LocB scope sc x := by with_unfolding_all first | exact Or.inl rfl | exact Or.inr ⟨rfl, rfl⟩) (hl2 : LocB scope sc y := by with_unfolding_all first | exact Or.inl rfl | exact Or.inr ⟨rfl, rfl⟩) :
    CompD (lcStep M X scope N sc B j vs (.Tuple [.Name x p1, .Name y p2] kk tp) [c] elt sl) (xs.map fun a => .tup [g1 a, g2 a]) K m := by
  refine compd_inv lcstep_mono (fun n acc m' => m' = m ∧ acc = ((xs.take n).filter t).map f) ⟨rfl, rfl⟩ ?_ fun r m' ⟨e1, e2⟩ => by rw [e1, e2, List.length_map, List.take_length]; exact k
  rintro n d acc m' e ⟨rfl, rfl⟩
  obtain ⟨a, ha, rfl, _, tk⟩ := map_get e
  have hm := List.mem_of_getElem? ha
  refine lcstep_twoIf hi1 hi2 hN hv1 hv2 (h a hm _ ?_) hl1 hl2
  cases q : t a with
  | true =>
    rw [if_pos rfl]
    refine h2 a hm q _ ⟨rfl, ?_⟩
    rw [tk, List.filter_append, List.map_append, List.filter_cons, q]
    rfl
  | false =>
    rw [if_neg Bool.false_ne_true]
    refine ⟨rfl, ?_⟩
    rw [tk, List.filter_append, List.map_append, List.filter_cons, q]
    rfl
/-- by an invariant (drawing) -/
theorem compd_allL {i : Nat} (g : α → Da) (I : Nat → List Da → Nat → Prop) {xs : List α} {K : List Da → Nat → Prop} (hi : IdxAt N x i) (hN : sl.length = N.length) (hv : i ∈ vs) (h0 : I 0 [] m)
    (h : ∀ n a acc m, xs[n]? = some a → n < xs.length → xs.take (n + 1) = xs.take n ++ [a] → I n acc m → AllX X scope N sc B j fun X' => EvD M X' K0 elt (sl.set i (.v (g a))) (fun y m1 => I (n + 1) (acc ++ [y]) m1) m) (k : ∀ r m, I xs.length r m → K r m)
    (hl : LocB scope sc x := by with_unfolding_all first | exact Or.inl rfl | exact Or.inr ⟨rfl, rfl⟩) : CompD (lcStep M X scope N sc B j vs (.Name x p) [] elt sl) (xs.map g) K m :=
  compd_inv lcstep_mono I h0 (fun n d acc m e q => by
    obtain ⟨a, ha, rfl, hl2, tk⟩ := map_get e
    exact lcstep_one hi hN hv (h n a acc m ha hl2 tk q) hl) (fun r m q => k r m (by rwa [List.length_map] at q))
/-- .. if c, by an invariant -/
theorem compd_allLIf {i : Nat} (g : α → Da) (I : Nat → List Da → Nat → Prop) {xs : List α} {K : List Da → Nat → Prop} (hi : IdxAt N x i) (hN : sl.length = N.length) (hv : i ∈ vs) (h0 : I 0 [] m)
    (h : ∀ n a acc m, xs[n]? = some a → n < xs.length → xs.take (n + 1) = xs.take n ++ [a] → I n acc m → AllX X scope N sc B j fun X' => EvT M X' K0 c (sl.set i (.v (g a))) (fun b m1 => if b = true then AllX X scope N sc B j fun X' => EvD M X' K0 elt (sl.set i (.v (g a))) (fun y m2 => I (n + 1) (acc ++ [y]) m2) m1 else I (n + 1) acc m1) m) (k : ∀ r m, I xs.length r m → K r m)
    (hl : LocB scope sc x := by with_unfolding_all first | exact Or.inl rfl | exact Or.inr ⟨rfl, rfl⟩) : CompD (lcStep M X scope N sc B j vs (.Name x p) [c] elt sl) (xs.map g) K m :=
  compd_inv lcstep_mono I h0 (fun n d acc m e q => by
    obtain ⟨a, ha, rfl, hl2, tk⟩ := map_get e
    refine lcstep_oneIf hi hN hv (fun s H C cl fp cx hr => evt_imp (h n a acc m ha hl2 tk q s H C cl fp cx hr) fun b m1 z => ?_) hl
    cases b with
    | true => rw [if_pos rfl] at z ⊢; exact z
    | false => rw [if_neg Bool.false_ne_true] at z ⊢; simpa using z) (fun r m q => k r m (by rwa [List.length_map] at q))
theorem intsD_map (n : Int) : intsD 0 n.toNat = (List.range n.toNat).map fun k : Nat => Da.int (k : Int) := by
  refine List.ext_getElem (by rw [intsD_len]; simp) fun i h1 h2 => ?_
  have h3 := intsD_get (n := n) (List.getElem?_eq_getElem h1)
  rw [h3.2, List.getElem_map, List.getElem_range]
  congr 1
  omega
/-- over a range, no drawing -/
theorem compd_mapN {i : Nat} {n : Int} (f : Nat → Da) {K : List Da → Nat → Prop} (hi : IdxAt N x i) (hN : sl.length = N.length) (hv : i ∈ vs) (h : ∀ k : Nat, (k : Int) < n → k < n.toNat → ∀ (P : Da → Nat → Prop), P (f k) m → AllX X scope N sc B j fun X' => EvD M X' K0 elt (sl.set i (.v (.int k))) P m)
    (k : K ((List.range n.toNat).map f) m) (hl : LocB scope sc x := by with_unfolding_all first | exact Or.inl rfl | exact Or.inr ⟨rfl, rfl⟩) : CompD (lcStep M X scope N sc B j vs (.Name x p) [] elt sl) (intsD 0 n.toNat) K m := by
  rw [intsD_map]
  exact compd_mapB (fun k : Nat => Da.int (k : Int)) f hi hN hv (fun a ha => h a (by have := List.mem_range.mp ha; omega) (List.mem_range.mp ha)) k hl
/-- over a range, drawing -/
theorem compd_allN {i : Nat} {n : Int} (I : Nat → List Da → Nat → Prop) {K : List Da → Nat → Prop} (hi : IdxAt N x i) (hN : sl.length = N.length) (hv : i ∈ vs) (h0 : I 0 [] m)
    (h : ∀ (k : Nat) acc m, (k : Int) < n → k < n.toNat → I k acc m → AllX X scope N sc B j fun X' => EvD M X' K0 elt (sl.set i (.v (.int k))) (fun y m1 => I (k + 1) (acc ++ [y]) m1) m) (k : ∀ r m, I n.toNat r m → K r m)
    (hl : LocB scope sc x := by with_unfolding_all first | exact Or.inl rfl | exact Or.inr ⟨rfl, rfl⟩) : CompD (lcStep M X scope N sc B j vs (.Name x p) [] elt sl) (intsD 0 n.toNat) K m := by
  rw [intsD_map]
  refine compd_allL (fun k : Nat => Da.int (k : Int)) I hi hN hv h0 (fun q a acc m e hq tk r => ?_) (fun r m q => k r m (by rwa [List.length_range] at q)) hl
  have := List.getElem?_range (show q < n.toNat by simpa using hq)
  rw [this] at e
  cases e
  rw [List.length_range] at hq
  exact h q acc m (by omega) hq r
end
theorem zipsD_map {α β : Type} (f : α → Da) (g : β → Da) : ∀ (xs : List α) (ys : List β), zipsD (xs.map f) (ys.map g) = (xs.zip ys).map fun e => .tup [f e.1, g e.2] := by
  intro xs ys
  unfold zipsD
  rw [List.zip_map, List.map_map]
  rfl
theorem enums_map {α : Type} (f : α → Da) : ∀ (n : Nat) (xs : List α), enums n (xs.map f) = (xs.zipIdx n).map fun e => Da.tup [.int (e.2 : Int), f e.1]
  | _, [] => rfl
  | n, x :: xs => by
    rw [List.map_cons, List.zipIdx_cons, List.map_cons, enums, enums_map f (n + 1) xs]
section
variable {M : Mode} {X : Cx} {KE : Kx} {a b : Expr} {sl : List Sl} {P : Da → Nat → Prop} {m : Nat} {pos : Pos}
theorem new_lst {M : Mode} {K : PySem.W.Frag} {G H G1 H1 : Hp} {m m1 : Nat} {vs : List V} {ds : List Da} {ad : Addr} (o : Ok M G H G1 H1 m1) (had : H1 ad = none) (r : Reps K G1 vs ds) : Ok M G H G1 (L2.upd H1 ad (.lst vs)) m1 ∧ New K M H G1 (L2.upd H1 ad (.lst vs)) ad (.lst ds) := by
  have al := o.here.allocM (o := .lst vs) had
  have gA : G1 ad = none := by
    cases e : G1 ad with
    | none => rfl
    | some u => rw [o.sub _ _ e] at had; cases had
  have nx : ¬ M.X H1 ad := fun z => by obtain ⟨u, e⟩ := M.there _ _ _ o.inv z; rw [had] at e; cases e
  exact ⟨o.trans al, gA, fresh0 o (.inl had), fun z => nx (X_keep o nx _ z), ⟨vs, upd_same, r⟩⟩
theorem evn_rep (h : EvD M X KE a sl (fun x m1 => EvD M X KE b sl (fun y m2 => ∃ xs k, x = .lst xs ∧ y = .int k ∧ -(2 ^ 63) ≤ k ∧ k < 2 ^ 63 ∧ xs.length * k.toNat ≤ sizeLine ∧ P (.lst (List.replicate k.toNat xs).flatten) m2) m1) m) : EvN M X KE (.BinOp a .Mult b pos) sl P m := fun G0 H0 G H σ W Q ok so wi po =>
  wpE.of (pe_op op_rep pe_wp pe_wp) (h G0 H0 G H σ W _ ok so wi fun v x m1 G1 H1 q1 o1 r1 => q1 G0 H0 G1 H1 σ W _ (ok.trans o1) (so.step o1) (wi.step o1) fun w y m2 G2 H2 ⟨xs, k, hx, hy, k0, k1, kl, p⟩ o2 r2 => by
    subst hx hy
    obtain ⟨ad, us, rfl, q, r⟩ := (r1.mono o2.le).lst_inv
    have o := o1.trans o2
    have fl : ∀ n : Nat, Reps X.K G2 (List.replicate n us).flatten (List.replicate n xs).flatten := by
      intro n
      induction n with
      | zero => exact .nil
      | succ n ih => rw [List.replicate_succ, List.replicate_succ, List.flatten_cons, List.flatten_cons]; exact r.append ih
    refine ⟨ad, k, us, rfl, r2.int_inv, o.sub _ _ q, k0, k1, by rw [r.length]; exact kl, fun z hz => ?_⟩
    obtain ⟨n1, n2⟩ := new_lst (m := m) o hz (fl k.toNat)
    exact po z _ m2 _ _ p n1 n2)
theorem evn_cat (h : EvD M X KE a sl (fun x m1 => EvD M X KE b sl (fun y m2 => ∃ xs ys, x = .lst xs ∧ y = .lst ys ∧ xs.length + ys.length ≤ sizeLine ∧ P (.lst (xs ++ ys)) m2) m1) m) : EvN M X KE (.BinOp a .Add b pos) sl P m := fun G0 H0 G H σ W Q ok so wi po =>
  wpE.of (pe_op op_cat pe_wp pe_wp) (h G0 H0 G H σ W _ ok so wi fun v x m1 G1 H1 q1 o1 r1 => q1 G0 H0 G1 H1 σ W _ (ok.trans o1) (so.step o1) (wi.step o1) fun w y m2 G2 H2 ⟨xs, ys, hx, hy, kl, p⟩ o2 r2 => by
    subst hx hy
    obtain ⟨ad, us, rfl, q, r⟩ := (r1.mono o2.le).lst_inv
    obtain ⟨bd, ws, rfl, q', r'⟩ := r2.lst_inv
    have o := o1.trans o2
    refine ⟨ad, bd, us, ws, rfl, rfl, o.sub _ _ q, o.sub _ _ q', by rw [r.length, r'.length]; exact kl, fun z hz => ?_⟩
    obtain ⟨n1, n2⟩ := new_lst (m := m) o hz (r.append r')
    exact po z _ m2 _ _ p n1 n2)
end
/-- at a suite's end the own object of this slot is known from now on -/
def PubHint (_ : Nat) : Prop := True
theorem std_pubH {M : Mode} {X : Cx} {KE : Ks} {sl : List Sl} {D : Kn} {m i : Nat} {q : Option Addr} {d : Da} (_ : PubHint i) (hi : sl[i]? = some (.mm q d)) (h : StD M X KE [] (sl.set i (.v d)) D m) : StD M X KE [] sl D m := std_pub hi h
end OZ

namespace OS
open PySem PySem.Spec PySem.Calls PyProof.Rows PySem.W
section
variable {prog : Program} {w : World} {A : Around} {E : Value → Shared → Prop} {s : Shared} {K : Frag} {x D : Addr} {ox od : Obj}
/-- e.__class__ of an error that has its own dict -/
theorem class_of_err {Q : Option Value → Shared → Prop} (hga : findIn K (.ref D) "__getattribute__" = some (some (.builtin "BaseException.__getattribute__"))) (hgt : findIn K (.ref D) "__getattr__" = some none) (hsub : subIn K (.ref D) (.type "BaseException") = some true)
    (hdct : hasDictIn K D = true) (ha : findIn K (.ref D) "__class__" = some (some (.builtin "object.__class__")))
    (hn : specialIn K (.builtin "object.__class__") "__get__" = some (some (.builtin "getset_descriptor.__get__"))) (htk : takesIn K (.builtin "object.__class__") = some true) (hm : mroIn K D (.type "object") = some true)
    (X : K.In s.heap) (I : InstAt s.heap x ox D (some od)) (h : Q (some (.ref D)) { s with toks := s.toks + 1 }) : wpAny (model prog w) A (getAttr? (.ref x) "__class__") Q E s := by
  have hf : findObj K D (some od) "__class__" = some (.bind (.builtin "getset_descriptor.__get__") (.builtin "object.__class__")) := findObj_data (by obtain ⟨cd, hc, _⟩ := any_some hdct; rw [hc]; rfl) ha hn htk
  obtain ⟨hp, g, d, t, os⟩ := s
  have L0 := I.type (M := model prog w)
  have L1 := looks_findIn (M := model prog w) X hga
  have L2 := looks_findIn (M := model prog w) X hgt
  have L3 := looks_find (M := model prog w) X I hf
  have sub : Looks (model prog w) hp (isInstance (.ref x) (.type "BaseException")) true := L0.andThen (looks_subIn X hsub)
  have hx0 : (false && onTheHeap (Value.builtin "BaseException.__getattribute__")) = false := rfl
  have hx2 : (Value.builtin "BaseException.__getattribute__" == Value.builtin "object.__getattribute__") = false := by decide +kernel
  have hx1 : (onTheHeap (Value.ref D) && Value.builtin "BaseException.__getattribute__" == Value.builtin "object.__getattribute__") = false := by rw [hx2]; rfl
  unfold getAttr? getAttrBy? getAttrBy
  refine wpAny_bind (wpAny_mkText (wpAny_bind (wpAny_attempt (wpAny_holding (wpAny_bind (L0.at (wpAny_bind (L1.at ?_))))))))
  show wpAny _ _ (if (onTheHeap (Value.ref D) && Value.builtin "BaseException.__getattribute__" == Value.builtin "object.__getattribute__") = true then _ else _) _ _ _
  rw [hx1, if_neg Bool.false_ne_true]
  unfold getAttrByItsOwn hookBefore
  refine wpAny_bind ?_
  rw [if_pos (show onTheHeap (Value.ref D) = true from rfl)]
  refine L2.at ?_
  refine wpAny_bind (wpAny_attempt (wpAny_holding ?_))
  unfold callGetattribute
  rw [hx0, if_neg Bool.false_ne_true]
  unfold boundAndCalled
  rw [PySem.F.excAttr_ValueError.ga.bind (.ref x)]
  refine wpAny_bind (wpAny_pure ?_)
  show wpAny _ _ (call (.builtin "BaseException.__getattribute__") [.ref x, .str "__class__" t]) _ _ _
  refine wpAny_call (codeAny_call_builtin PySem.F.excAttr_ValueError.ga.plain PySem.F.entry_bexc_ga ?_)
  refine @check_slot (model prog w) _ _ ⟨hp, g, d, t + 1, os⟩ "BaseException.__getattribute__" "BaseException" "__getattribute__" (.ref x) [.str "__class__" t] [] _ (by decide +kernel) (by decide +kernel) sub (PySem.F.args_bexc_ga (.ref x) (.str "__class__" t)) ?_
  unfold Builtin.«object.__getattribute__»
  refine wpAny_bind (wpAny_of_eq (a := ((Value.ref x : Value), [Value.str "__class__" t])) (by first | rfl | (simp only [slotArgs]; rfl)) ?_)
  refine wpAny_bind (wpAny_pure (wpAny_bind (L0.at (wpAny_bind (L3.at ?_)))))
  show wpAny _ _ (holding [Value.builtin "object.__class__"] (call (.builtin "getset_descriptor.__get__") [.builtin "object.__class__", .ref x, .ref D]) >>= ret) _ _ _
  refine wpAny_bind (wpAny_holding (wpAny_call (class_get (s := ⟨hp, g, d, t + 1, os⟩) (ox := ox) (od := some od) X I hm ?_)))
  refine wpAny_pure ?_
  show wpAny _ _ (handedOut (.ref D)) _ _ _
  rw [handedOut_of (v := .ref D) rfl]
  first
    | exact wpAny_pure (wpAny_pure h)
    | exact wpAny_pure h
    | exact wpAny_pure (wpAny_bind (wpAny_pure (wpAny_pure h)))
theorem kit_err (hga : findIn K (.ref D) "__getattribute__" = some (some (.builtin "BaseException.__getattribute__"))) (hgt : findIn K (.ref D) "__getattr__" = some none) (hsub : subIn K (.ref D) (.type "BaseException") = some true) (hdct : hasDictIn K D = true) (ha : findIn K (.ref D) "__class__" = some (some (.builtin "object.__class__")))
    (hn : specialIn K (.builtin "object.__class__") "__get__" = some (some (.builtin "getset_descriptor.__get__"))) (htk : takesIn K (.builtin "object.__class__") = some true) (hm : mroIn K D (.type "object") = some true) :
    KitX K (.ref x) (.ref D) (fun h => InstAt h x ox D (some od)) where
  ty := fun _ _ _ I => I.type
  it := fun _ _ X _ => by
    obtain ⟨cdD, hcD, _⟩ := any_some hdct
    unfold clsIn at hcD
    split at hcD
    · rename_i c' d' cd' sl' ho
      intro A' Q' E' s' k q
      unfold isType loadHead
      exact wpAny_bind (wpAny_loadPart (k _ _ (X _ _ ho)) (wpAny_pure q))
    · cases hcD
  ne := (handS_kitx_exc (x := x) (ox := ox) hga hgt hsub hdct ha hn htk hm).ne
  ca := fun X I k => class_of_err hga hgt hsub hdct ha hn htk hm X I k
end
end OS
namespace OS
open PySem L2 PySem.Spec PyProof.Rows
section
variable {X : Cx} {a D dd : Addr} {oe : Obj} {pn : List (Addr × Obj)}
def rIsEd (K : PySem.W.Frag) (cls : Value) (D a : Addr) (d : Option Addr) : List V → Hp → VK → Prop := fun xs H Q => ∃ (c : V) (cv : Value) (b : Bool), xs = [.ref a, c] ∧ cls = .ref D ∧ (∃ dd fs, d = some dd ∧ H dd = some (.xd fs)) ∧ (∀ u, RelV c u → u = cv) ∧ PySem.W.kitOne K (.ref D) cv = some b ∧ Q (.bl b) H
theorem call_isEd {cls : Value} {d : Option Addr} (C : ExcC X.K D) (hz : Zc cls d oe) (hf : ∃ vs, oe.data = .fields vs) : CallR (X.suite a ((a, oe) :: pn)) (.builtin "isinstance") (rIsEd X.K cls D a d) := by
  intro pins s σ H xs us Q I r h
  obtain ⟨c, cv, b, rfl, rfl, ⟨dd, fs, rfl, hd⟩, hcv, e, q⟩ := h
  cases r with
  | cons rx rr =>
    cases rr with
    | cons rt rr =>
      cases rr
      cases rx
      have ec := hcv _ rt
      subst ec
      obtain ⟨ha, _⟩ := I.pin (a, oe) (List.mem_append_left pins List.mem_cons_self)
      obtain ⟨vs, hdat⟩ := hf
      obtain ⟨mA, hns, hr⟩ := I.hok dd (HO.xd fs) hd
      obtain ⟨od, ho, hl⟩ := lookIn_ns hns
      have J : PySem.W.InstAt s.heap a oe D (some od) := by
        obtain ⟨oc, odd, oda, osl⟩ := oe
        obtain ⟨h1, h2⟩ := hz
        dsimp only at h1 h2 hdat
        subst h1 h2 hdat
        exact ⟨ha, rfl, rfl, ho⟩
      exact PySem.W.kia_one (kit_err C.hg C.hk C.hs C.hd C.ha C.hn C.ht C.hm) I.kIn J e (fun z => nomatch z) fun tk => ⟨.bl b, H, I.kept (t' := tk) fun _ _ z => z, rfl, q⟩
end
end OS
/-! isinstance of the error that is handled -/
namespace OZ
open PySem L2 PySem.Spec PyProof.Rows
theorem cd_isE {M : Mode} {X : Cx} {KE : Kx} {P : Da → Nat → Prop} {m : Nat} {N : List Str} {sc : Scope} {B : Bd} {a dd C : Addr} {fs : List (Str × Da)} {c : Da} {u : Value} {b : Bool} (cx : Ctx X N sc B) (su : SuX X C a dd) (E : ExcC B.K C) (hc : ClsDa c u) (hk : KitG B.K (.ref C) u b) (k : P (.bl b) m) : CallD M X KE (.builtin "isinstance") [.exc a dd fs, c] P m := by
  have eb := cx.b
  subst eb
  obtain ⟨X0, oe, pn, rfl, hz, hf⟩ := su.ex
  exact .of (OS.call_isEd E hz hf) fun G H _ vs ok r po => by
    obtain ⟨v, w, rfl, r1, r2⟩ := reps2 r
    cases r1 with
    | exc g rf =>
      refine ⟨w, u, b, rfl, rfl, ⟨dd, _, rfl, ok.sub _ _ g⟩, ?_, hk.k, po _ _ m G H k ok (.bl b)⟩
      cases hc with
      | ty n => cases r2; exact fun u h => by first | exact h | (obtain ⟨t, h⟩ := h; exact h)
      | own C => cases r2; exact fun u h => by first | exact h | (obtain ⟨t, h⟩ := h; exact h)
theorem kit_E {K : PySem.W.Frag} {t : Value} {C : Addr} {b : Bool} (hd : PySem.W.hasDictIn K C = true) (h1 : PySem.W.typeIn K (.ref C) = some (.type "type")) (h : PySem.W.subIn K t (.ref C) = some b) (hn : (t == .ref C) = false) : KitG K t (.ref C) b := by
  refine ⟨?_⟩
  unfold PySem.W.kitOne
  rw [if_neg (by rw [hn]; exact Bool.false_ne_true)]
  obtain ⟨cd, hc, _⟩ := PySem.W.any_some hd
  show (if ((PySem.W.clsIn K C).isSome && PySem.W.typeIn K (.ref C) == some (.type "type")) = true then PySem.W.subIn K t (.ref C) else none) = some b
  rw [if_pos (by rw [hc, h1] <;> rfl)]
  exact h
end OZ
/-! an own list of lists is looked at for a while: the value told holds no such list -/
namespace OZ
open PySem L2 PySem.Spec PyProof.Rows
mutual
def avD : Da → Bool
  | .non => true | .bl _ => true | .int _ => true | .str _ => true
  | .lst ds => ds.all flD
  | .tup ds => avDs ds
  | _ => false
def avDs : List Da → Bool
  | [] => true
  | d :: ds => avD d && avDs ds
end
/-- not flat: its value is an object -/
def hvD : Da → Bool
  | .lst _ => true | .tup _ => true | .dct _ => true | .obj _ _ => true | _ => false
theorem hv_ref {K : PySem.W.Frag} {G : Hp} {v : V} {d : Da} (h : hvD d = true) (r : Rep K G v d) : ∃ b, v = .ref b := by
  cases r <;> first | exact ⟨_, rfl⟩ | cases h
theorem fl_noref {K : PySem.W.Frag} {G : Hp} {b : Addr} {d : Da} (h : flD d = true) (r : Rep K G (.ref b) d) : False := by
  cases r <;> cases h
def butP (G : Hp) (p : Addr) : Hp := fun b => if b = p then none else G b
theorem butP_ne {G : Hp} {p b : Addr} (h : b ≠ p) : butP G p b = G b := if_neg h
theorem rd_but {G : Hp} {p a : Addr} {u : HO} (ne : a ≠ p) (r : Rd G a u) : Rd (butP G p) a u := r.elim (fun r => .inl (by rw [butP_ne ne]; exact r)) fun ⟨o, r⟩ => .inr ⟨o, by rw [butP_ne ne]; exact r⟩
theorem reps_flat' {K : PySem.W.Frag} {G G' : Hp} : ∀ {vs : List V} {ds : List Da}, ds.all flD = true → Reps K G vs ds → Reps K G' vs ds
  | _, _, _, .nil => .nil
  | _, _, h, .cons a b => by
    simp only [List.all_cons, Bool.and_eq_true] at h
    exact .cons (flD_rep h.1 a) (reps_flat' h.2 b)
mutual
theorem avD_rep {K : PySem.W.Frag} {G : Hp} {p b0 : Addr} {vs0 : List V} (hp : G p = some (.lst (.ref b0 :: vs0))) : ∀ {d : Da} {v : V}, avD d = true → Rep K G v d → Rep K (butP G p) v d
  | .non, _, _, .non => .non
  | .bl _, _, _, .bl b => .bl b
  | .int _, _, _, .int b => .int b
  | .str _, _, _, .str b => .str b
  | .lst ds, _, h, r => by
    cases r with
    | lst q r =>
      rename_i a vs
      have h : ds.all flD = true := by unfold avD at h; exact h
      have ne : a ≠ p := fun z => by
        subst z
        rw [hp] at q
        cases q
        cases r with
        | cons x y => simp only [List.all_cons, Bool.and_eq_true] at h; exact fl_noref h.1 x
      exact .lst (by rw [butP_ne ne]; exact q) (reps_flat' h r)
  | .tup ds, _, h, r => by
    cases r with
    | tup q r =>
      rename_i a vs
      have h : avDs ds = true := by unfold avD at h; exact h
      refine .tup ?_ (avDs_reps hp h r)
      rcases q with q | q
      · refine .inl (rd_but (fun z => ?_) q)
        subst z
        rcases q with q | ⟨o, q⟩ <;> rw [hp] at q <;> cases q
      · exact .inr q
  | .ty _, _, h, _ => by unfold avD at h; cases h
  | .ref _, _, h, _ => by unfold avD at h; cases h
  | .dct _, _, h, _ => by unfold avD at h; cases h
  | .obj _ _, _, h, _ => by unfold avD at h; cases h
  | .exc _ _ _, _, h, _ => by unfold avD at h; cases h
theorem avDs_reps {K : PySem.W.Frag} {G : Hp} {p b0 : Addr} {vs0 : List V} (hp : G p = some (.lst (.ref b0 :: vs0))) : ∀ {ds : List Da} {vs : List V}, avDs ds = true → Reps K G vs ds → Reps K (butP G p) vs ds
  | [], _, _, .nil => .nil
  | d :: ds, _, h, .cons a b => by
    have h : (avD d && avDs ds) = true := by unfold avDs at h; exact h
    rw [Bool.and_eq_true] at h
    exact .cons (avD_rep hp h.1 a) (avDs_reps hp h.2 b)
end
section
variable {M : Mode} {X : Cx} {KE : Kx} {e : Expr} {sl : List Sl} {P : Da → Nat → Prop} {m i : Nat} {q : Option Addr} {x : Da} {xs : List Da}
theorem evd_bor2 (hi : sl[i]? = some (.mm q (.lst (x :: xs)))) (hv : hvD x = true) (h : EvD M X (fun C fs m => flF fs = true ∧ KE C fs m) e (sl.set i (.v (.lst (x :: xs)))) (fun z m' => avD z = true ∧ P z m') m) : EvD M X KE e sl P m := by
  intro G0 H0 G H σ W Q ok so wi po
  obtain ⟨a, u, e1, hu, ga, nx, h0, rm, so2⟩ := sok_pub so hi rfl
  refine h G0 H0 _ H σ W Q (ok.pub hu ga nx h0) so2 (wis_bor wi hu ga (repm_xd rm hu)) fun v z m' G' H' ⟨fl, p⟩ ok' r => ?_
  obtain ⟨vs, hh, rs⟩ := rm
  cases rs with
  | cons r1 r2 =>
    obtain ⟨b, rfl⟩ := hv_ref hv r1
    rw [hu] at hh
    cases hh
    have hp : G' a = some (.lst (.ref b :: _)) := ok'.le _ _ upd_same
    refine po v z m' (butP G' a) H' p ⟨fun c o hc => ?_, ok'.inv, fun c xx => ?_, fun c o hc => ?_, ok'.keep, fun c o hc n gc => ?_⟩ (avD_rep hp fl r)
    · by_cases z : c = a
      · subst z; unfold butP at hc; rw [if_pos rfl] at hc; cases hc
      · rw [butP_ne z] at hc; exact ok'.sub _ _ hc
    · by_cases z : c = a
      · subst z; exact if_pos rfl
      · rw [butP_ne z]; exact ok'.off _ xx
    · have z : c ≠ a := fun z => by subst z; rw [ga] at hc; cases hc
      rw [butP_ne z]
      exact ok'.le _ _ (by rw [upd_ne z]; exact hc)
    · by_cases z : c = a
      · subst z; exact if_pos rfl
      · rw [butP_ne z]; exact ok'.new c o hc n (by rw [upd_ne z]; exact gc)
end
theorem avDs_flat : ∀ {ds : List Da}, ds.all flD = true → avDs ds = true
  | [], _ => rfl
  | d :: ds, h => by
    simp only [List.all_cons, Bool.and_eq_true] at h
    unfold avDs
    rw [avDs_flat h.2, Bool.and_true]
    cases d <;> first | rfl | (cases h.1)
end OZ

namespace OS
open PySem L2 PySem.Spec PyProof.Rows
/-! ### a def called where an exception may be handled: nothing leaves it -/
structure RoomC (k : Nat) (A : Around) : Prop where
  dp : A.depth + 3 * k + 5 < recursionLimit
  un : A.units + 16 * k + 200 < cLine
theorem RoomC.deeper {k : Nat} {A : Around} (r : RoomC (k + 1) A) (env : Env) : RoomC k (A.deeper env) :=
  ⟨by have := r.dp; show A.depth + 1 + 3 * k + 5 < _; omega, by have := r.un; show A.units + 3 + 16 * k + 200 < _; omega⟩
theorem RoomC.depth {k : Nat} {A : Around} (r : RoomC k A) : A.depth < recursionLimit := by have := r.dp; omega
abbrev cxC (P : Program) (w : World) (K : PySem.W.Frag) (mg : Str → Option Value) (base : Heap) (N : List Str) (qual : Str) (scope : Scope) (f : Addr) (cd : Value) (A : Around) (outer : List Env) (s : Shared) (H : Hp) (E : XK) : Cx :=
  { cxOf CX0 P w K mg base N qual scope f cd A outer s H E with calm := false }
structure FnC (P : Program) (w : World) (K : PySem.W.Frag) (mg : Str → Option Value) (base : Heap) (k : Nat) (f : Addr) (fd : FuncData) (ps : List Str) (sp : Sp) : Prop where
  len : ∀ vs H Q E, sp vs H Q E → vs.length = ps.length
  run : ∀ (A : Around) (outer : List Env) (s : Shared) (H : Hp) (args : Args) (us : List Value) (vs : List V) (Q : VK) (E : XK), RoomC k A → Env0 P w K mg base A outer s H → BindsTo s fd args (ps.zip us) → Vals vs us → sp vs H Q E → codeAny (model P w) A (.call (.ref f) args) (CR CX0 outer P w H s Q E) s
section
variable {P : Program} {w : World} {K : PySem.W.Frag} {mg : Str → Option Value} {base : Heap} {x qual : Str} {st : Stmt} {f : Addr} {fd : FuncData} {N ps : List Str} {k : Nat} {sp : Sp}
theorem inv_startC {scope : Scope} {cd : Value} {A : Around} {outer : List Env} {s s1 : Shared} {H : Hp} {E : XK} {us : List Value} {vs : List V} (S : FnScope N ps scope) (e0 : Env0 P w K mg base A outer s H) (hl : vs.length = ps.length) (r : Vals vs us)
    (x : InCallC s s.heap.objs.size (bindL (PyProof.Rows.envOfC qual scope s.heap.objs.size f cd).kindOf (ps.zip us) fun _ => none) (cellsFrom (s.heap.objs.size + 1) scope.names []) (bindC (PyProof.Rows.envOfC qual scope s.heap.objs.size f cd).kindOf (ps.zip us) fun _ => none) s1) :
    Inv (cxC P w K mg base N qual scope f cd A outer s H E) [] (L2.start N vs) H s1 := by
  have e1 : Env0 P w K mg base { A with handled := none } outer s H := ⟨e0.frames, e0.mod, e0.bs, e0.bsz, e0.funs, e0.frf, e0.hok, e0.bare⟩
  have J := inv_start (CX := CX0) (A := { A with handled := none }) (E := E) S rfl e1 hl r x
  exact ⟨⟨J.ok.mod, J.ok.kind, J.ok.glob, J.ok.blt, J.ok.above, J.ok.inj, J.ok.has, J.ok.cab, fun z => Bool.noConfusion z, Around.frames_deeper e0.frames, J.ok.stk, J.ok.exf, J.ok.bs, J.ok.bsz, J.ok.noex, J.ok.exfs, J.ok.funs, J.ok.frf⟩,
    J.os, J.bare, J.base, J.loc, J.cell, J.free, J.freeC, J.pin, J.hok, J.len⟩
theorem Fun.okC (F : Fun K x qual st f fd) (S : FnScope N ps (defScope st)) (len : ∀ vs H Q E, sp vs H Q E → vs.length = ps.length)
    (hbody : ∀ (cdv : Value) (A : Around) (outer : List Env) (s : Shared) (H : Hp) (vs : List V) (Q : VK) (E : XK), RoomC k (A.deeper (PyProof.Rows.envOfC qual (defScope st) s.heap.objs.size f cdv)) → sp vs H Q E →
      ∃ t, PSs (cxC P w K mg base N qual (defScope st) f cdv A outer s H E) (defBody st) t ∧ t { nx := fun _ H' => Q .non H', rt := Q } (L2.start N vs) H) : FnC P w K mg base (k + 1) f fd ps sp := by
  obtain ⟨oc, od, kV, doc, pm, an, cdv, ct, osl, rfl, lk, hcd⟩ := F.ex
  refine ⟨len, fun A outer s H args us vs Q E hr e0 hb r hsp => ?_⟩
  have hl := len vs H Q E hsp
  have KX := PySem.W.Frag.In.keeps e0.mod.kin fun b o e => (e0.bs b o e).left
  have lim := Heap.NoLimit.keeps e0.mod.nolimit fun b o e => (e0.bs b o e).left
  have hkind : ∀ y ∈ ps.zip us, List.lookup y.1 (defScope st).names = some NameKind.local ∨ List.lookup y.1 (defScope st).names = some NameKind.cell ∧ (List.lookup y.1 (cellsFrom (s.heap.objs.size + 1) (defScope st).names [])).isSome = true := by
    rintro ⟨n, v⟩ hy
    rcases S.par n (List.of_mem_zip hy).left with q | q
    · exact .inl q
    · exact .inr ⟨q, PySem.W.cellsFrom_some (defScope st).names (s.heap.objs.size + 1) [] (Or.inl q)⟩
  refine codeAny_call_function (RoomC.depth hr) (KX f _ lk) rfl S.co S.gen rfl (PySem.W.codeRec_of KX hcd) (hb (model P w) A.in1 _ _ ?_)
  refine wpAny_newFunctionEnv_cells S.kind hkind fun env he s1 x => ?_
  subst he
  refine ⟨Heap.NoLimit.keeps lim x.toInCall.keep, codeAny_func ?_⟩
  obtain ⟨t, ht, hq⟩ := hbody cdv A outer s H vs Q E (RoomC.deeper hr (PyProof.Rows.envOfC qual (defScope st) s.heap.objs.size f cdv)) hsp
  have I := inv_startC (E := E) S e0 hl r x
  refine wpAny_mono (ht.run [] s1 (L2.start N vs) H { nx := fun _ H' => Q V.non H', rt := Q } I hq) (fun fl s' hs => ?_) fun e s' hs => hs
  have fin : ∀ {σ' : L2.St} {H' : Hp} {v : V} {u : Value}, Inv (cxC P w K mg base N qual (defScope st) f cdv A outer s H E) [] σ' H' s' → RelV v u → Q v H' → CR CX0 outer P w H s Q E (.ok (.ret u)) s' := fun {σ' H' v u} J rv q => ⟨v, H', J.os, J.bare, J.base, J.hok, rv, q⟩
  cases fl with
  | next => obtain ⟨σ', H', J, q⟩ := hs; exact fin (v := .non) (u := .none) J rfl q
  | brk => obtain ⟨_, _, _, q⟩ := hs; exact False.elim q
  | cont => obtain ⟨_, _, _, q⟩ := hs; exact False.elim q
  | ret u => obtain ⟨v, σ', H', J, rv, q⟩ := hs; exact fin J rv q
end
end OS
namespace OZ
open PySem L2 PySem.Spec PyProof.Rows
/-- a def that may be called while an error is handled; nothing leaves it -/
structure FnGC (M : Mode) (B : Bd) (k : Nat) (f : Addr) (n : Nat) (F : FD) : Prop where
  ex : ∃ (fd : FuncData) (ps : List Str), OS.FnC B.P B.w B.K B.mg B.base k f fd ps (spD M B.K n F) ∧ Binds B.K fd ps [] ∧ n = ps.length
structure CallGC (M : Mode) (B : Bd) (k : Nat) (x : Str) (n : Nat) (F : FD) : Prop where
  ex : ∃ f : Addr, B.mg x = some (.ref f) ∧ PySem.W.keepIn B.K (.ref f) = true ∧ FnGC M B k f n F
section
variable {B : Bd} {M : Mode} {x qual : Str} {st : Stmt} {f : Addr} {fd : FuncData} {N ps : List Str} {k n : Nat} {F : FD}
theorem fnGC_ok (Fn : Fun B.K x qual st f fd) (S : FnScope N ps (defScope st)) (hn : n = ps.length) (hb : Binds B.K fd ps [])
    (h : ∀ (X : Cx) (ds : List Da) (KR : Da → Nat → Prop) (KE : Kx) (m : Nat), (∃ cdv A outer s H E, X = OS.cxC B.P B.w B.K B.mg B.base N qual (defScope st) f cdv A outer s H E) → Ctx X N (defScope st) B → OS.RoomC k X.A → ds.length = n → F ds KR KE m →
      StD M X (fun _ => K0) (defBody st) (startD N ds) { nx := fun _ m' => KR .non m', rt := KR } m) : FnGC M B (k + 1) f n F := by
  refine ⟨fd, ps, OS.Fun.okC Fn S (fun vs H Q E q => q.1.trans hn) (fun cdv A outer s H vs Q E hr q => ?_), hb, hn⟩
  obtain ⟨hl, G, m, ds, KR, KE, ok, r, hF, po, _⟩ := q
  refine ⟨_, pss_wp, ?_⟩
  refine h (OS.cxC B.P B.w B.K B.mg B.base N qual (defScope st) f cdv A outer s H E) ds KR KE m ⟨cdv, A, outer, s, H, E, rfl⟩ ⟨rfl, rfl, S.nd, rfl⟩ hr (r.length.symm.trans hl) hF G H G H (L2.start N vs) (fun _ _ _ _ => False) _ ok (sok_start r) ⟨takes0, fun _ _ _ _ _ _ _ _ z => z.elim⟩ ⟨?_, ?_, ?_, ?_, ?_⟩
  · exact fun σ sl m' G' H' q o _ => po .non .non m' G' H' q o .non
  · exact fun v d m' G' H' q o rr => po v d m' G' H' q o rr
  · exact fun _ _ _ _ _ z => z.elim
  · exact fun _ _ _ _ _ z => z.elim
  · exact fun _ _ _ _ _ z => z.elim
end
section
variable {M : Mode} {X : Cx} {KE : Kx} {P : Da → Nat → Prop} {m k n j : Nat} {f : Addr} {F : FD} {ds : List Da} {x : Str} {e : Expr} {es : List Expr} {sl : List Sl} {pos p : Pos}
theorem FnGC.callP (C : FnGC pureM (bdOf X) k f n F) (hr : OS.RoomC k X.A) (hl : ds.length = n) (h : F ds (fun d _ => P d m) K0 0) : CallD M X KE (.ref f) ds P m := by
  obtain ⟨fd, ps, Fo, hb, hn⟩ := C.ex
  intro G H σ W Q vs ok wi r po pins s us I rv
  have b := hb s us I.kIn (by rw [List.append_nil, ← rv.length, r.length, hl, hn])
  rw [List.append_nil] at b
  refine wpAny_call (codeAny_mono (Fo.run X.A X.stack s H ⟨us, []⟩ us vs Q E0 hr I.env0 b rv ⟨r.length.trans hl, G, 0, ds, _, _, ok.toPure, r, h, fun v d m' G' H' p o rr => po v d m G' H' p (ok.lift o) rr, fun C fs d m' G' H' p o x => p.elim⟩) fun r s' hq => ?_)
  cases r with
  | error e => exact False.elim hq
  | ok fl =>
    cases fl with
    | ret u => exact I.after hq
    | next => exact False.elim hq
    | brk => exact False.elim hq
    | cont => exact False.elim hq
theorem evd_callC {N : List Str} {sc : Scope} {B : Bd} (cx : Ctx X N sc B) (C : CallGC pureM B k x n F) (hr : OS.RoomC k X.A) (h : EvA M X KE (e :: es) sl (fun ds m1 => ds.length = n ∧ F ds (fun d _ => P d m1) K0 0) m) (hg : GlS sc x := by with_unfolding_all rfl) (hdb : (x == ("__debug__" : Str)) = false := by with_unfolding_all decide)
    (he : starEach (e :: es) X.env = (false, eval e X.env) :: starEach es X.env := by with_unfolding_all rfl) (hpl : (backTo pos (starEach es X.env)).any (·.1) = false := by with_unfolding_all rfl) : EvD M X KE (.Call (.Name x p) (e :: es) [] pos) sl P m := by
  have eb := cx.b
  subst eb
  obtain ⟨f, hm, hkp, c⟩ := C.ex
  exact evd_callF cx hm hkp (eva_imp h fun ds m1 q => c.callP hr q.1 q.2) hg hdb he hpl
theorem roomH_suite {X : Cx} {a : Addr} {pn : List (Addr × Obj)} {N : List Str} {sc : Scope} {B : Bd} {k j : Nat} (_ : Ctx (X.suite a pn) N sc B) (hr : Room j X.A) (h : k ≤ j := by decide) : OS.RoomC k (X.suite a pn).A := ⟨(hr.mono h).dp, (hr.mono h).un⟩
end
end OZ

/-! x.name(y.name2(..)) where x and y are the run's own -/
namespace OZ
open PySem L2 PySem.Spec PyProof.Rows
section
variable {M : Mode} {X : Cx} {KE : Ks} {e : Expr} {es : List Expr} {sl : List Sl} {D : Kn} {m : Nat} {pos pos2 spos p py p2 p3 : Pos} {x y : Str} {N : List Str} {sc : Scope} {B : Bd}
variable {T T2 id id2 : String} {name name2 : Str} {r r2 : V → List V → Hp → VK → Prop} {d0 dy : Da} {i j : Nat}
theorem st1_ownOwn (cx : Ctx X N sc B) (hx : EnvAt N sl x i (.m d0)) (C : OwnC X T name id r) (ty : TyM T d0) (hy : EnvAt N sl y j (.m dy)) (C2 : OwnC X T2 name2 id2 r2) (ty2 : TyM T2 dy)
    (h : EvA M X (KE sl) (e :: es) sl (fun ds m1 => ∃ res d1, OwnR X r2 dy ds res d1 ∧ ∃ j' sl1, EnvSet N sl y j' (.m d1) sl1 ∧ EnvAt N sl1 x i (.m d0) ∧ ∃ res' d1', OwnR X r d0 [res] res' d1' ∧ ∃ i' sl', EnvSet N sl1 x i' (.m d1') sl' ∧ D.nx sl' m1) m)
    (hv : Vis sc x := by with_unfolding_all first | exact Or.inl rfl | exact Or.inr (Or.inl rfl) | exact Or.inr (Or.inr rfl)) (hd : (x == ("__debug__" : Str)) = false := by with_unfolding_all decide) (hcd : (x == ("__classdict__" : Str)) = false := by with_unfolding_all decide)
    (hvy : Vis sc y := by with_unfolding_all first | exact Or.inl rfl | exact Or.inr (Or.inl rfl) | exact Or.inr (Or.inr rfl)) (hdy : (y == ("__debug__" : Str)) = false := by with_unfolding_all decide) (hcdy : (y == ("__classdict__" : Str)) = false := by with_unfolding_all decide)
    (hbase : attributeBase (.Name x p) name X.env (eval (.Name x p) X.env) = eval (.Name x p) X.env := by with_unfolding_all rfl)
    (hbase2 : attributeBase (.Name y py) name2 X.env (eval (.Name y py) X.env) = eval (.Name y py) X.env := by with_unfolding_all rfl)
    (hfew : ((backTo pos (starEach [.Call (.Attribute (.Name y py) name2 p3) (e :: es) [] pos2] X.env)).all (fun x => !x.1) && (backToKw pos (keywordEach [] X.env)).all (fun x => x.1.isSome)
      && decide (([.Call (.Attribute (.Name y py) name2 p3) (e :: es) [] pos2] : List Expr).length + ([] : List Keyword).length + (if ([] : List Keyword).isEmpty then 0 else 1) < 30)) = true := by with_unfolding_all rfl)
    (hfew2 : ((backTo pos2 (starEach (e :: es) X.env)).all (fun x => !x.1) && (backToKw pos2 (keywordEach [] X.env)).all (fun x => x.1.isSome)
      && decide ((e :: es).length + ([] : List Keyword).length + (if ([] : List Keyword).isEmpty then 0 else 1) < 30)) = true := by with_unfolding_all rfl)
    (hline : (p2.endLine == pos.line) = true := by with_unfolding_all rfl) (hline2 : (p3.endLine == pos2.line) = true := by with_unfolding_all rfl)
    (hst : starEach [.Call (.Attribute (.Name y py) name2 p3) (e :: es) [] pos2] X.env = (false, eval (.Call (.Attribute (.Name y py) name2 p3) (e :: es) [] pos2) X.env) :: starEach [] X.env := by with_unfolding_all rfl)
    (hst2 : starEach (e :: es) X.env = (false, eval e X.env) :: starEach es X.env := by with_unfolding_all rfl)
    (hplain : (backTo pos (starEach [] X.env)).any (·.1) = false := by with_unfolding_all rfl) (hplain2 : (backTo pos2 (starEach es X.env)).any (·.1) = false := by with_unfolding_all rfl)
    (hs : swapsWith (.Call (.Attribute (.Name x p) name p2) [.Call (.Attribute (.Name y py) name2 p3) (e :: es) [] pos2] [] pos) none spos.line X.env = pure false := by with_unfolding_all rfl) :
    St1 M X KE (.Expr (.Call (.Attribute (.Name x p) name p2) [.Call (.Attribute (.Name y py) name2 p3) (e :: es) [] pos2] [] pos) spos) sl D m := by
  intro G0 H0 G H σ W E ok so wi po
  refine wpS.of (ps_expr pe_wp hs) ?_
  refine wpE.of (pe_bm C.pa C.slot C.hty C.hm (pe_var (by rw [cx.n]; exact hx.name) (cx.vis hv) hd hcd) (pa_cons pe_wp pa_nil hst) hbase hfew hline hst hplain) ?_
  obtain ⟨o, e1, ad, rfl, zz, g, h0, n, rm⟩ := paired_get so.rel hx.slot
  refine ⟨_, e1, ty _ _ _ _ rm, ?_⟩
  refine own_e (R := fun res d1 m1 => ∃ j' sl1, EnvSet N sl y j' (.m d1) sl1 ∧ EnvAt N sl1 x i (.m d0) ∧ ∃ res' d1', OwnR X r d0 [res] res' d1' ∧ ∃ i' sl', EnvSet N sl1 x i' (.m d1') sl' ∧ D.nx sl' m1) cx hy C2 ty2 h hvy hdy hcdy hbase2 hfew2 hline2 hst2 hplain2 ok so (wi.at ok so) fun v res d1 m1 G' H' ⟨j', sl1, es1, hx1, res', d1', own, i', sl', es2, q⟩ ok' so' rr => ?_
  rw [← envset_eq (cx.n ▸ cx.nd) hy.name es1] at so'
  obtain ⟨o', e2, ad', hh, zz', g', h0', n', rm'⟩ := paired_get so'.rel hx1.slot
  rw [e1] at e2
  cases e2
  cases hh
  refine own G' H' ad [v] _ ok'.sub rm' (.cons rr .nil) fun w v2 r1 r2 => ?_
  obtain ⟨k1, k2⟩ := own_step ok' so' hx1.slot e1 r1
  exact po.nx σ _ m1 G' _ q k1 (envset_eq (cx.n ▸ cx.nd) hx1.name es2 ▸ k2)
end
end OZ

/-! a comprehension whose list is the run's own -/
namespace OZ
open PySem L2 PySem.Spec PyProof.Rows
section
variable {M : Mode} {X : Cx} {KE : Kx} {tg iter elt : Expr} {ifs : List Expr} {scope : Scope} {sl sw : List Sl} {P : Da → Nat → Prop} {m j : Nat} {pos : Pos} {N : List Str} {sc : Scope} {B : Bd} {own : List (Str × Nat)}
theorem evn_lc (cx : Ctx X N sc B) (hr : Room j X.A) (ot : OwnT N tg own) (wp : WipeS N own sl sw) (h : IterD M X KE tg iter sl (fun ds m1 => ds.length < sizeLine ∧ CompD (lcStep M X scope N sc B j (own.map (·.2)) tg ifs elt sw) ds (fun r m2 => P (.lst r) m2) m1) m)
    (hb : blkC N sc scope own = true := by with_unfolding_all decide +kernel) (hc : X.calm = true := by with_unfolding_all rfl) (hs : ∀ x, foldedSetIterable iter X.env x = pure x := by with_unfolding_all (intro _; rfl)) : EvN M X KE (.ListComp elt [⟨tg, iter, ifs, 0⟩] scope pos) sl P m := by
  intro G0 H0 G H σ W Q ok so wi po
  refine wpE.of (pe_lc (own := own) (wi := wpI X tg iter) (g := gBlk X scope tg) (tt := tBlk X scope ifs) (te := eBlk X scope elt) hc cx.nd pi_wp ?_ ?_ ?_ ?_ hs) ?_
  · rw [cx.n, cx.s]; exact blkOk_by hb
  · exact fun s Hb C cl fp => ⟨fun pins s' σ H v u Q I r q => q s Hb C cl fp pins s' u I r⟩
  · intro s Hb C cl fp
    match ifs with
    | [] => exact pts_nil
    | [c] => exact pts_one ⟨fun pins s' σ H Q I q => q s Hb C cl fp pins s' I⟩
    | _ :: _ :: _ => exact ⟨fun pins s' σ H Q I q => q.elim⟩
  · exact fun s Hb C cl fp => ⟨fun pins s' σ H Q I q => q s Hb C cl fp pins s' I⟩
  · refine h G0 H0 G H σ W _ ok so wi fun J ds m1 G1 H1 q o1 wk => fun D hD => ?_
    refine lc_run cx hr hc wp ok so o1 wk q.1 q.2 D hD fun out m' G' H' p k g h0 nx ⟨acc, e, r⟩ => ?_
    exact po D (.lst out) m' G' H' p k ⟨g, h0, nx, ⟨acc, e, r⟩⟩
end
section
variable {M : Mode} {X : Cx} {KE : Ks} {e : Expr} {sl : List Sl} {D : Kn} {m : Nat} {pos p : Pos} {x : Str} {N : List Str} {sc : Scope} {B : Bd}
/-- x += e, over integers -/
theorem st1_augI {i0 : Nat} {a : Int} (cx : Ctx X N sc B) (hx : EnvAt N sl x i0 (.v (.int a))) (h : EvD M X (KE sl) e sl (fun d m1 => ∃ b, d = .int b ∧ ∃ i sl', EnvSet N sl x i (.v (.int (a + b))) sl' ∧ D.nx sl' m1) m)
    (hl : Loc sc x := by with_unfolding_all first | exact Or.inl rfl | exact Or.inr rfl) (hf : X.fn x = true ∨ X.env.scope.names.lookup x = some .local := by with_unfolding_all first | exact Or.inl rfl | exact Or.inr rfl) : St1 M X KE (.AugAssign (.Name x p) .Add e pos) sl D m := by
  intro G0 H0 G H σ W E ok so wi po
  refine wpS.of (ps_aug (i := i0) cx.nd (by rw [cx.n]; exact hx.name) (cx.loc hl) pe_wp ip_add hf) ?_
  obtain ⟨o, e1, v, rfl, rv⟩ := paired_get so.rel hx.slot
  cases rv.int_inv
  refine ⟨.int a, e1, ?_⟩
  refine h G0 H0 G H σ W _ ok so (wi.at ok so) fun y d m1 G1 H1 p o1 ry => ?_
  obtain ⟨b, rfl, i, sl', es, q⟩ := p
  cases ry.int_inv
  refine ⟨a, b, rfl, rfl, ?_⟩
  have so1 := so.step o1
  refine po.nx _ sl' m1 G1 H1 q (ok.trans o1) ?_
  rw [envset_eq (cx.n ▸ cx.nd) hx.name es]
  exact so1.setV i0 (.int _)
end
end OZ

/-! a def whose result is the run's own: a new list or dict -/
namespace OZ
open PySem L2 PySem.Spec PyProof.Rows
def spDN (M : Mode) (K : PySem.W.Frag) (n : Nat) (F : FD) : Sp := fun vs H Q E => vs.length = n ∧ ∃ G m ds KR KE, Ok M G H G H m ∧ Reps K G vs ds ∧ F ds KR KE m ∧ (∀ ad d m' G' H', KR d m' → Ok M G H G' H' m' → New K M H G' H' ad d → Q (.ref ad) H') ∧
  (∀ C fs d m' G' H', KE C fs m' → Ok M G H G' H' m' → XRep K G' H' d fs → E (.ref C) d H')
structure FnGN (M : Mode) (B : Bd) (k : Nat) (f : Addr) (n : Nat) (F : FD) : Prop where
  ex : ∃ (CX : CXT) (fd : FuncData) (ps : List Str), FnOk B.P B.w B.K B.mg B.base CX k f fd ps (spDN M B.K n F) ∧ Binds B.K fd ps [] ∧ (CX = CX0 ∨ CX = L2.CX B.P B.w) ∧ n = ps.length
structure CallGN (M : Mode) (B : Bd) (k : Nat) (x : Str) (n : Nat) (F : FD) : Prop where
  ex : ∃ f : Addr, B.mg x = some (.ref f) ∧ PySem.W.keepIn B.K (.ref f) = true ∧ FnGN M B k f n F
theorem New.lift {K : PySem.W.Frag} {M : Mode} {G0 H0 G H G' H' : Hp} {m k : Nat} {ad : Addr} {d : Da} (a : Ok M G0 H0 G H m) (b : Ok pureM G H G' H' k) (n : New K pureM H G' H' ad d) : New K M H G' H' ad d := by
  have hn : H ad = none := n.h0.elim id fun z => z.elim
  refine ⟨n.g, .inl hn, fun z => ?_, n.r⟩
  obtain ⟨c1, c2⟩ := M.clo m H H' a.inv fun c u x e => (b.keep c u e (fun h => h)).1
  obtain ⟨u, e⟩ := M.there m H ad a.inv (c2 _ z)
  rw [hn] at e; cases e
section
variable {M : Mode} {X : Cx} {KE : Kx} {P : Da → Nat → Prop} {m k n j : Nat} {f : Addr} {F : FD} {ds : List Da} {x : Str} {e : Expr} {es : List Expr} {sl : List Sl} {pos p : Pos}
theorem FnGN.call (C : FnGN M (bdOf X) k f n F) (hr : Room j X.A) (hl : ds.length = n) (h : F ds P KE m) (hk : k ≤ j := by with_unfolding_all decide) : CallDN M X KE (.ref f) ds P m := by
  obtain ⟨CX, fd, ps, Fo, hb, hc, _⟩ := C.ex
  intro G H σ W Q vs ok wi r po pins s us I rv
  exact run_fnS (E := WE W) Fo (hr.mono hk) hb (passes_any wi.tk hc σ) I rv ⟨r.length.trans hl, G, m, ds, P, KE, ok, r, h, po, fun C fs d m' G' H' => wi.ex C fs d m' G' H'⟩
theorem FnGN.callP (C : FnGN pureM (bdOf X) k f n F) (hr : Room j X.A) (hl : ds.length = n) (h : F ds (fun d _ => P d m) (fun C fs _ => KE C fs m) 0) (hk : k ≤ j := by with_unfolding_all decide) : CallDN M X KE (.ref f) ds P m := by
  obtain ⟨CX, fd, ps, Fo, hb, hc, _⟩ := C.ex
  intro G H σ W Q vs ok wi r po pins s us I rv
  exact run_fnS (E := WE W) Fo (hr.mono hk) hb (passes_any wi.tk hc σ) I rv ⟨r.length.trans hl, G, 0, ds, _, _, ok.toPure, r, h, fun ad d m' G' H' p o rr => po ad d m G' H' p (ok.lift o) (rr.lift ok o), fun C fs d m' G' H' p o x => wi.ex C fs d m G' H' p (ok.lift o) x⟩
theorem evn_callF {N : List Str} {sc : Scope} {B : Bd} {f : Addr} (cx : Ctx X N sc B) (hm : B.mg x = some (.ref f)) (hk : PySem.W.keepIn X.K (.ref f) = true) (h : EvA M X KE (e :: es) sl (fun ds m1 => CallDN M X KE (.ref f) ds P m1) m) (hg : GlS sc x := by with_unfolding_all rfl) (hdb : (x == ("__debug__" : Str)) = false := by with_unfolding_all decide)
    (he : starEach (e :: es) X.env = (false, eval e X.env) :: starEach es X.env := by with_unfolding_all rfl) (hpl : (backTo pos (starEach es X.env)).any (·.1) = false := by with_unfolding_all rfl) : EvN M X KE (.Call (.Name x p) (e :: es) [] pos) sl P m := by
  intro G0 H0 G H σ W Q ok so wi po pins s I
  refine wpAny_Call_Name_kw (ld_glob I (cx.gl hg) (cx.mg hm) ?_ hdb)
  refine PySem.W.callWith_K (h₀ := X.base) I.ok.mod.kin hk (h.run ok so wi I (fun us s1 vs ds m1 G1 H1 p1 k1 o1 so1 wi1 r1 I1 rv1 => ?_) pos) he hpl
  exact ⟨I1.kIn, p1 G1 H1 σ W Q vs k1.here wi1 r1 (fun ad d m' G' H' q o n => po ad d m' G' H' q (o1.trans o) (n.back o1)) pins s1 us I1 rv1⟩
/-- a call of a def by its name, whose result is the run's own -/
theorem evn_call {N : List Str} {sc : Scope} {B : Bd} (cx : Ctx X N sc B) (C : CallGN M B k x n F) (hr : Room j X.A) (h : EvA M X KE (e :: es) sl (fun ds m1 => ds.length = n ∧ F ds P KE m1) m) (hk : k ≤ j := by with_unfolding_all decide) (hg : GlS sc x := by with_unfolding_all rfl) (hdb : (x == ("__debug__" : Str)) = false := by with_unfolding_all decide)
    (he : starEach (e :: es) X.env = (false, eval e X.env) :: starEach es X.env := by with_unfolding_all rfl) (hpl : (backTo pos (starEach es X.env)).any (·.1) = false := by with_unfolding_all rfl) : EvN M X KE (.Call (.Name x p) (e :: es) [] pos) sl P m := by
  have eb := cx.b
  subst eb
  obtain ⟨f, hm, hkp, c⟩ := C.ex
  exact evn_callF cx hm hkp (eva_imp h fun ds m1 q => c.call hr q.1 q.2 hk) hg hdb he hpl
theorem evn_callP {N : List Str} {sc : Scope} {B : Bd} (cx : Ctx X N sc B) (C : CallGN pureM B k x n F) (hr : Room j X.A) (h : EvA M X KE (e :: es) sl (fun ds m1 => ds.length = n ∧ F ds (fun d _ => P d m1) (fun C fs _ => KE C fs m1) 0) m) (hk : k ≤ j := by with_unfolding_all decide) (hg : GlS sc x := by with_unfolding_all rfl) (hdb : (x == ("__debug__" : Str)) = false := by with_unfolding_all decide)
    (he : starEach (e :: es) X.env = (false, eval e X.env) :: starEach es X.env := by with_unfolding_all rfl) (hpl : (backTo pos (starEach es X.env)).any (·.1) = false := by with_unfolding_all rfl) : EvN M X KE (.Call (.Name x p) (e :: es) [] pos) sl P m := by
  have eb := cx.b
  subst eb
  obtain ⟨f, hm, hkp, c⟩ := C.ex
  exact evn_callF cx hm hkp (eva_imp h fun ds m1 q => c.callP hr q.1 q.2 hk) hg hdb he hpl
theorem spDN_of {M : Mode} {K : PySem.W.Frag} {n : Nat} {F : FD} (hF : ∀ ds KR KE m, F ds KR KE m → F ds (fun d m => KR d m ∧ notDct d = true) KE m) {vs : List V} {H : Hp} {Q : VK} {E : XK} (h : spD M K n F vs H Q E) : spDN M K n F vs H Q E := by
  obtain ⟨hl, G, m, ds, KR, KE, ok, r, f, po, px⟩ := h
  refine ⟨hl, G, m, ds, _, KE, ok, r, hF _ _ _ _ f, fun ad d m' G' H' q o nw => ?_, px⟩
  obtain ⟨u, hu⟩ := nw.r.there
  exact po _ d m' _ H' q.1 (o.pub hu nw.g nw.nx nw.h0) (repM_rep hu nw.g nw.r q.2)
theorem fnOk_toD {P : Program} {w : World} {K : PySem.W.Frag} {mg : Str → Option Value} {base : Heap} {CX : CXT} {fd : FuncData} {ps : List Str} (hF : ∀ ds KR KE m, F ds KR KE m → F ds (fun d m => KR d m ∧ notDct d = true) KE m) (Fo : FnOk P w K mg base CX k f fd ps (spDN M K n F)) : FnOk P w K mg base CX k f fd ps (spD M K n F) :=
  ⟨fun vs H Q E q => Fo.len vs H Q E (spDN_of hF q), fun A outer s H args us vs Q E hr e0 hb r q => Fo.run A outer s H args us vs Q E hr e0 hb r (spDN_of hF q)⟩
end
section
variable {B : Bd} {M : Mode} {x qual : Str} {st : Stmt} {f : Addr} {fd : FuncData} {N ps : List Str} {k n : Nat} {F : FD}
theorem fnOkN_X (Fn : Fun B.K x qual st f fd) (S : FnScope N ps (defScope st)) (hn : n = ps.length)
    (h : ∀ (X : Cx) (ds : List Da) (KR : Da → Nat → Prop) (KE : Kx) (m : Nat), (∃ cdv A outer s H E, X = cxOf (L2.CX B.P B.w) B.P B.w B.K B.mg B.base N qual (defScope st) f cdv A outer s H E) → Ctx X N (defScope st) B → Room k X.A → ds.length = n → F ds KR KE m →
      StD M X (fun _ => KE) (defBody st) (startD N ds) { nx := fun _ _ => False, rt := fun _ _ => False, rn := KR } m) : FnOk B.P B.w B.K B.mg B.base (L2.CX B.P B.w) (k + 1) f fd ps (spDN M B.K n F) := by
  refine Fn.okX S (fun vs H Q E q => q.1.trans hn) (fun cdv A outer s H vs Q E hr q => ?_)
  obtain ⟨hl, G, m, ds, KR, KE, ok, r, hF, po, px⟩ := q
  refine ⟨_, pss_wp, ?_⟩
  refine h (cxOf (L2.CX B.P B.w) B.P B.w B.K B.mg B.base N qual (defScope st) f cdv A outer s H E) ds KR KE m ⟨cdv, A, outer, s, H, E, rfl⟩ ⟨rfl, rfl, S.nd, rfl⟩ hr (r.length.symm.trans hl) hF G H G H (L2.start N vs) (fun cls d _ H => E cls d H) _ ok (sok_start r) ⟨takes_of rfl rfl rfl rfl, fun C fs d σ sl m' G' H' q o _ x => px C fs d m' G' H' q o x⟩ ⟨?_, ?_, ?_, ?_, ?_⟩
  · exact fun _ _ _ _ _ z => z.elim
  · exact fun _ _ _ _ _ z => z.elim
  · exact fun _ _ _ _ _ z => z.elim
  · exact fun _ _ _ _ _ z => z.elim
  · exact fun ad d m' G' H' q o n => po ad d m' G' H' q o n
theorem fnGN_okX (Fn : Fun B.K x qual st f fd) (S : FnScope N ps (defScope st)) (hn : n = ps.length) (hb : Binds B.K fd ps [])
    (h : ∀ (X : Cx) (ds : List Da) (KR : Da → Nat → Prop) (KE : Kx) (m : Nat), (∃ cdv A outer s H E, X = cxOf (L2.CX B.P B.w) B.P B.w B.K B.mg B.base N qual (defScope st) f cdv A outer s H E) → Ctx X N (defScope st) B → Room k X.A → ds.length = n → F ds KR KE m →
      StD M X (fun _ => KE) (defBody st) (startD N ds) { nx := fun _ _ => False, rt := fun _ _ => False, rn := KR } m) : FnGN M B (k + 1) f n F := ⟨L2.CX B.P B.w, fd, ps, fnOkN_X Fn S hn h, hb, .inr rfl, hn⟩
theorem fnGN_ok (Fn : Fun B.K x qual st f fd) (S : FnScope N ps (defScope st)) (hn : n = ps.length) (hb : Binds B.K fd ps [])
    (h : ∀ (X : Cx) (ds : List Da) (KR : Da → Nat → Prop) (KE : Kx) (m : Nat), (∃ cdv A outer s H E, X = (cxOf CX0 B.P B.w B.K B.mg B.base N qual (defScope st) f cdv A outer s H E).nox) → Ctx X N (defScope st) B → Room k X.A → ds.length = n → F ds KR KE m →
      StD M X (fun _ => K0) (defBody st) (startD N ds) { nx := fun _ _ => False, rt := fun _ _ => False, rn := KR } m) : FnGN M B (k + 1) f n F := by
  refine ⟨CX0, fd, ps, Fn.ok S (fun vs H Q E q => q.1.trans hn) (fun cdv A outer s H vs Q E hr q => ?_), hb, .inl rfl, hn⟩
  obtain ⟨hl, G, m, ds, KR, KE, ok, r, hF, po, _⟩ := q
  refine ⟨_, pss_wp, ?_⟩
  refine h (cxOf CX0 B.P B.w B.K B.mg B.base N qual (defScope st) f cdv A outer s H E).nox ds KR KE m ⟨cdv, A, outer, s, H, E, rfl⟩ ⟨rfl, rfl, S.nd, rfl⟩ hr (r.length.symm.trans hl) hF G H G H (L2.start N vs) (fun _ _ _ _ => False) _ ok (sok_start r) ⟨takes0, fun _ _ _ _ _ _ _ _ z => z.elim⟩ ⟨?_, ?_, ?_, ?_, ?_⟩
  · exact fun _ _ _ _ _ z => z.elim
  · exact fun _ _ _ _ _ z => z.elim
  · exact fun _ _ _ _ _ z => z.elim
  · exact fun _ _ _ _ _ z => z.elim
  · exact fun ad d m' G' H' q o n => po ad d m' G' H' q o n
end
end OZ

/-! ### texts: f-strings, join, str of an int, startswith -/
namespace OZ
open PySem L2 PySem.Spec PyProof.Rows
section
variable {M : Mode} {X : Cx} {KE : Kx} {a b e f o : Expr} {es rest : List Expr} {sl : List Sl} {P : Da → Nat → Prop} {m j k : Nat} {pos p apos cpos : Pos} {N : List Str} {sc : Scope} {B : Bd} {C : Addr} {F : FD} {fs : List (Str × Da)}
/-- a value as it stands in an f-string -/
def FmtD (M : Mode) (X : Cx) (KE : Kx) (d : Da) (P : Da → Nat → Prop) (m : Nat) : Prop :=
  ∀ (G H : Hp) (σ : L2.St) (W : WX) (Q : VK) (v : V), Ok M G H G H m → Wis M X KE G H σ W → Rep X.K G v d → Post M X.K G H P Q → ∀ pins s u, Inv X pins σ H s → RelV v u → wpAny (model X.prog X.w) X.A (formatField u Str.empty) (EP X pins σ Q) X.xe s
theorem evd_fmt (h : EvD M X KE e sl (fun d m1 => FmtD M X KE d P m1) m) : EvD M X KE (.FormattedValue e (-1) none pos) sl P m := by
  intro G0 H0 G H σ W Q ok so wi po pins s I
  refine wpAny_FormattedValue_plain (h.run ok so wi I fun u s1 v d m1 G1 H1 p1 k1 o1 so1 wi1 r1 I1 rv1 => ?_)
  exact p1 G1 H1 σ W Q v k1.here wi1 r1 (po.step o1) pins s1 u I1 rv1
theorem fmt_str {z : Str} (hz : z.length ≤ sizeLine) (k : P (.str z) m) : FmtD M X KE (.str z) P m := fun G H σ W Q v ok wi r po pins s u I rv => by
  cases r.str_inv
  obtain ⟨t, rfl⟩ := rv
  exact wpAny_formatField_str ⟨.str z, H, I, ⟨t, rfl⟩, po _ _ m G H k ok (.str z)⟩ ⟨.str z, H, I.tok _, ⟨_, rfl⟩, po _ _ m G H k ok (.str z)⟩ hz
theorem fmt_int {i : Int} (hz : i.natAbs.log2 < 1920) (k : P (.str (toString i)) m) : FmtD M X KE (.int i) P m := fun G H σ W Q v ok wi r po pins s u I rv => by
  cases r.int_inv
  obtain ⟨t, rfl⟩ := rv
  exact wpAny_formatField_int hz ⟨.str (toString i), H, I.tok _, ⟨_, rfl⟩, po _ _ m G H k ok (.str _)⟩
/-- an object of an own class with its own __str__ -/
structure FmtO (K : PySem.W.Frag) (C : Addr) : Prop where
  fm : PySem.W.findIn K (.ref C) "__format__" = some (some (.builtin "object.__format__"))
  mr : PySem.W.mroIn K C (.type "object") = some true
theorem fmt_obj (cx : Ctx X N sc B) (fo : FmtO B.K C) (c : SpecG M B k C "__str__" 1 F) (hr : Room j X.A) (h : F [.obj C fs] (fun d m1 => ∃ z, d = .str z ∧ P (.str z) m1) KE m) (hk : k + 1 ≤ j := by with_unfolding_all decide) : FmtD M X KE (.obj C fs) P m := by
  have eb := cx.b
  subst eb
  obtain ⟨g, o, fg⟩ := c.ex
  intro G H σ W Q v ok wi r1 po pins s u I ru
  have r10 := r1
  obtain ⟨a, dx, vs, rfl, ea, _⟩ := r1.obj_inv
  cases ru
  obtain ⟨mA, J, _⟩ := ins_get I.hok (ok.sub _ _ ea)
  obtain ⟨od, J, _⟩ := J.look
  have sb : Sub X k X.A.in1 := Sub.in1 (n := k) ⟨hr.mono hk, rfl⟩
  refine PySem.W.kfo_fieldS (by have := sb.room.units0; exact this) I.kIn J fo.fm fo.mr o.at_ o.fn (run_atD fg sb (Nat.le_refl _) rfl h ok wi (.cons r10 .nil) (I.tok _) OS.v1 fun v d m' G' H' u s' p o2 rr I' rv => ?_)
  obtain ⟨z, rfl, p⟩ := p
  cases rr
  obtain ⟨t, rfl⟩ := id rv
  exact ⟨.str z, H', I', ⟨t, rfl⟩, po _ _ m' G' H' p o2 (.str z)⟩
/-- the parts of an f-string, one behind the other -/
def JnD (M : Mode) (X : Cx) (KE : Kx) : List Expr → Str → List Sl → (Str → Nat → Prop) → Nat → Prop
  | [], acc, _, P, m => P acc m
  | e :: es, acc, sl, P, m => EvD M X KE e sl (fun d m1 => ∃ y, d = .str y ∧ (acc ++ y).length ≤ sizeLine ∧ JnD M X KE es (acc ++ y) sl P m1) m
theorem jnd_run : ∀ {es : List Expr} {acc : Str} {P : Str → Nat → Prop} {m : Nat} {G0 H0 G H : Hp} {σ : L2.St} {W : WX} {Q : Str → Hp → Prop}, JnD M X KE es acc sl P m → Ok M G0 H0 G H m → SOk X.K M H0 G H σ sl → Wis M X KE G H σ W → (∀ z m' G' H', P z m' → Ok M G H G' H' m' → Q z H') → tJs (es.map (wpE X)) acc σ H Q
  | [], acc, P, m, G0, H0, G, H, σ, W, Q, h, ok, so, wi, po => po acc m G H h ok.here
  | e :: es, acc, P, m, G0, H0, G, H, σ, W, Q, h, ok, so, wi, po => by
    show wpE X e σ H _
    refine h G0 H0 G H σ W _ ok so wi ?_
    rintro v d m1 G1 H1 ⟨y, rfl, hl, p1⟩ o1 r1
    cases r1.str_inv
    exact ⟨y, rfl, hl, jnd_run p1 (ok.trans o1) (so.step o1) (wi.step o1) fun z m' G' H' pz oz => po z m' G' H' pz (o1.trans oz)⟩
theorem pj_wp : ∀ es : List Expr, PJ X es (es.map (wpE X))
  | [] => .nil
  | _ :: es => .cons pe_wp (pj_wp es)
theorem evd_joined {v1 v2 : Expr} (h : JnD M X KE (v1 :: v2 :: rest) Str.empty sl (fun z m1 => P (.str z) m1) m) : EvD M X KE (.JoinedStr (v1 :: v2 :: rest) pos) sl P m := fun G0 H0 G H σ W Q ok so wi po =>
  wpE.of (pe_joined (pj_wp _)) (jnd_run h ok so wi fun z m' G' H' p o => po _ _ m' G' H' p o (.str z))
theorem evd_joined1 (h : EvD M X KE e sl P m) : EvD M X KE (.JoinedStr [e] pos) sl P m := fun G0 H0 G H σ W Q ok so wi po => wpE.of (pe_joined1 pe_wp) (h G0 H0 G H σ W Q ok so wi po)
theorem jn_nil {acc : Str} {P : Str → Nat → Prop} (h : P acc m) : JnD M X KE [] acc sl P m := h
theorem jn_cons {acc : Str} {P : Str → Nat → Prop} (h : EvD M X KE e sl (fun d m1 => ∃ y, d = .str y ∧ (acc ++ y).length ≤ sizeLine ∧ JnD M X KE es (acc ++ y) sl P m1) m) : JnD M X KE (e :: es) acc sl P m := h
theorem cd_strI {i : Int} (hz : i.natAbs.log2 < 1920) (k : P (.str (toString i)) m) : CallD M X KE (.type "str") [.int i] P m := .of call_str_int fun G H _ vs ok r po => by
  obtain ⟨v, rfl, r1⟩ := reps1 r
  cases r1.int_inv
  exact ⟨i, rfl, hz, po _ _ m G H k ok (.str _)⟩
/-- a.join(ys) -/
theorem evd_join (h : EvD M X KE o sl (fun d m0 => ∃ z, d = .str z ∧ EvD M X KE e sl (fun y m1 => ∃ (t : Bool) (ys : List Str), y = sqd t (ys.map Da.str) ∧ (ys.map (·.length)).sum + ys.length * z.length ≤ 16777216 ∧ P (.str (Txt.join z ys)) m1) m0) m)
    (hs : starEach [e] X.env = [(false, eval e X.env)] := by with_unfolding_all rfl) (hbase : attributeBase o "join" X.env (eval o X.env) = eval o X.env := by with_unfolding_all rfl) (hline : (apos.endLine == pos.line) = true := by with_unfolding_all rfl) : EvD M X KE (.Call (.Attribute o "join" apos) [e] [] pos) sl P m := fun G0 H0 G H σ W Q ok so wi po => by
  refine wpE.of (pe_join pe_wp pe_wp hs hbase hline) ?_
  refine h G0 H0 G H σ W _ ok so wi ?_
  rintro v d m1 G1 H1 ⟨z, rfl, p1⟩ o1 r1
  cases r1.str_inv
  refine ⟨⟨_, rfl⟩, p1 G0 H0 G1 H1 σ W _ (ok.trans o1) (so.step o1) (wi.step o1) ?_⟩
  rintro w d2 m2 G2 H2 ⟨t, ys, rfl, hl, p2⟩ o2 r2
  cases t with
  | false =>
    obtain ⟨q, us, rfl, eq, tt⟩ := r2.lst_inv
    rw [reps_strs tt] at eq
    exact ⟨z, q, ys, rfl, rfl, .inl (sq_l (o2.sub _ _ eq)), hl, po _ _ m2 G2 H2 p2 (o1.trans o2) (.str _)⟩
  | true =>
    obtain ⟨q, us, rfl, eq, tt⟩ := r2.tup_inv
    rw [reps_strs tt] at eq
    exact ⟨z, q, ys, rfl, rfl, .inr (sqT_same o2.sub eq), hl, po _ _ m2 G2 H2 p2 (o1.trans o2) (.str _)⟩
/-- a.startswith(b) -/
theorem evd_starts (h : EvD M X KE o sl (fun d m0 => ∃ z, d = .str z ∧ EvD M X KE e sl (fun y m1 => ∃ w, y = .str w ∧ P (.bl (Txt.startswith z w)) m1) m0) m)
    (hs : starEach [e] X.env = [(false, eval e X.env)] := by with_unfolding_all rfl) (hbase : attributeBase o "startswith" X.env (eval o X.env) = eval o X.env := by with_unfolding_all rfl) (hline : (apos.endLine == pos.line) = true := by with_unfolding_all rfl) : EvD M X KE (.Call (.Attribute o "startswith" apos) [e] [] pos) sl P m := fun G0 H0 G H σ W Q ok so wi po => by
  refine wpE.of (pe_m1 F.slot_str_startswith F.type_str_startswith mt_startswith pe_wp pe_wp hs hbase hline) ?_
  refine h G0 H0 G H σ W _ ok so wi ?_
  rintro v d m1 G1 H1 ⟨z, rfl, p1⟩ o1 r1
  cases r1.str_inv
  refine ⟨⟨_, rfl⟩, p1 G0 H0 G1 H1 σ W _ (ok.trans o1) (so.step o1) (wi.step o1) ?_⟩
  rintro w d2 m2 G2 H2 ⟨z2, rfl, p2⟩ o2 r2
  cases r2.str_inv
  exact ⟨z, z2, rfl, rfl, po _ _ m2 G2 H2 p2 (o1.trans o2) (.bl _)⟩
end
end OZ

namespace OS
open PySem L2
def top (i : Nat) : Stmt := PySem.Challenge.pw_oneshard_k11_line_text_and_holds.main.body.getD i (.Pass ⟨0, 0, 0, 0⟩)
abbrev sBadName_init : Stmt := inClass (top 2) 0
abbrev sDuplicateName_init : Stmt := inClass (top 3) 0
abbrev sUnknownName_init : Stmt := inClass (top 4) 0
abbrev sOutOfRange_init : Stmt := inClass (top 5) 0
abbrev s_valid_name : Stmt := top 11
abbrev s_check_form : Stmt := top 17
abbrev s_equation_text : Stmt := top 18
abbrev sEquation_init : Stmt := inClass (top 19) 1
abbrev sEquation_form : Stmt := inClass (top 19) 2
abbrev sEquation_names : Stmt := inClass (top 19) 3
abbrev sEquation_holds : Stmt := inClass (top 19) 4
abbrev sEquation_eq : Stmt := inClass (top 19) 5
abbrev sEquation_str : Stmt := inClass (top 19) 6
abbrev sCongruence_init : Stmt := inClass (top 20) 1
abbrev sCongruence_form : Stmt := inClass (top 20) 2
abbrev sCongruence_modulus : Stmt := inClass (top 20) 3
abbrev sCongruence_names : Stmt := inClass (top 20) 4
abbrev sCongruence_holds : Stmt := inClass (top 20) 5
abbrev sCongruence_eq : Stmt := inClass (top 20) 6
abbrev sCongruence_str : Stmt := inClass (top 20) 7
abbrev sUnlike_init : Stmt := inClass (top 21) 1
abbrev sUnlike_first : Stmt := inClass (top 21) 2
abbrev sUnlike_second : Stmt := inClass (top 21) 3
abbrev sUnlike_names : Stmt := inClass (top 21) 4
abbrev sUnlike_holds : Stmt := inClass (top 21) 5
abbrev sUnlike_eq : Stmt := inClass (top 21) 6
abbrev sUnlike_str : Stmt := inClass (top 21) 7
abbrev s_decimal : Stmt := top 25
abbrev s_signed : Stmt := top 26
abbrev s_term : Stmt := top 27
abbrev sForm_init : Stmt := inClass (top 28) 0
abbrev sForm_coefficients : Stmt := inClass (top 28) 1
abbrev sForm_constant : Stmt := inClass (top 28) 2
abbrev sForm_getitem : Stmt := inClass (top 28) 3
abbrev sForm_contains : Stmt := inClass (top 28) 4
abbrev sForm_iter : Stmt := inClass (top 28) 5
abbrev sForm_len : Stmt := inClass (top 28) 6
abbrev sForm_eq : Stmt := inClass (top 28) 7
abbrev sForm_neg : Stmt := inClass (top 28) 8
abbrev sForm_add : Stmt := inClass (top 28) 9
abbrev sForm_radd : Stmt := inClass (top 28) 10
abbrev sForm_sub : Stmt := inClass (top 28) 11
abbrev sForm_rsub : Stmt := inClass (top 28) 12
abbrev sForm_mul : Stmt := inClass (top 28) 13
abbrev sForm_rmul : Stmt := inClass (top 28) 14
abbrev sForm_call : Stmt := inClass (top 28) 15
abbrev sForm_str : Stmt := inClass (top 28) 16
abbrev sStart : Stmt := top 30
abbrev sTake : Stmt := top 31
abbrev l_name : Stmt := top 32
abbrev l_names : Stmt := top 33
abbrev l_row : Stmt := top 34
abbrev l_made : Stmt := top 35
abbrev l_added : Stmt := top 36
abbrev l_row_names : Stmt := top 37
abbrev l_text : Stmt := top 38
abbrev l_row_text : Stmt := top 39
abbrev l_holds : Stmt := top 40
abbrev l_expected : Stmt := top 41
abbrev l_asked : Stmt := top 42
abbrev sLaw : Stmt := top 43
abbrev n_sBadName_init : List Str := ["self", "name"]
theorem c_sBadName_init : FnScope n_sBadName_init ["self", "name"] (defScope sBadName_init) := ⟨rfl, rfl, rfl, by decide +kernel, rfl, by decide +kernel, by decide +kernel⟩
abbrev n_sDuplicateName_init : List Str := ["self", "name"]
theorem c_sDuplicateName_init : FnScope n_sDuplicateName_init ["self", "name"] (defScope sDuplicateName_init) := ⟨rfl, rfl, rfl, by decide +kernel, rfl, by decide +kernel, by decide +kernel⟩
abbrev n_sUnknownName_init : List Str := ["self", "name"]
theorem c_sUnknownName_init : FnScope n_sUnknownName_init ["self", "name"] (defScope sUnknownName_init) := ⟨rfl, rfl, rfl, by decide +kernel, rfl, by decide +kernel, by decide +kernel⟩
abbrev n_sOutOfRange_init : List Str := ["self", "value"]
theorem c_sOutOfRange_init : FnScope n_sOutOfRange_init ["self", "value"] (defScope sOutOfRange_init) := ⟨rfl, rfl, rfl, by decide +kernel, rfl, by decide +kernel, by decide +kernel⟩
abbrev n_s_valid_name : List Str := ["text", "character"]
theorem c_s_valid_name : FnScope n_s_valid_name ["text"] (defScope s_valid_name) := ⟨rfl, rfl, rfl, by decide +kernel, rfl, by decide +kernel, by decide +kernel⟩
abbrev n_s_check_form : List Str := ["form", "coefficient"]
theorem c_s_check_form : FnScope n_s_check_form ["form"] (defScope s_check_form) := ⟨rfl, rfl, rfl, by decide +kernel, rfl, by decide +kernel, by decide +kernel⟩
abbrev n_s_equation_text : List Str := ["form"]
theorem c_s_equation_text : FnScope n_s_equation_text ["form"] (defScope s_equation_text) := ⟨rfl, rfl, rfl, by decide +kernel, rfl, by decide +kernel, by decide +kernel⟩
abbrev n_sEquation_init : List Str := ["self", "form"]
theorem c_sEquation_init : FnScope n_sEquation_init ["self", "form"] (defScope sEquation_init) := ⟨rfl, rfl, rfl, by decide +kernel, rfl, by decide +kernel, by decide +kernel⟩
abbrev n_sEquation_form : List Str := ["self"]
theorem c_sEquation_form : FnScope n_sEquation_form ["self"] (defScope sEquation_form) := ⟨rfl, rfl, rfl, by decide +kernel, rfl, by decide +kernel, by decide +kernel⟩
abbrev n_sEquation_names : List Str := ["self"]
theorem c_sEquation_names : FnScope n_sEquation_names ["self"] (defScope sEquation_names) := ⟨rfl, rfl, rfl, by decide +kernel, rfl, by decide +kernel, by decide +kernel⟩
abbrev n_sEquation_holds : List Str := ["self", "values"]
theorem c_sEquation_holds : FnScope n_sEquation_holds ["self", "values"] (defScope sEquation_holds) := ⟨rfl, rfl, rfl, by decide +kernel, rfl, by decide +kernel, by decide +kernel⟩
abbrev n_sEquation_eq : List Str := ["self", "other"]
theorem c_sEquation_eq : FnScope n_sEquation_eq ["self", "other"] (defScope sEquation_eq) := ⟨rfl, rfl, rfl, by decide +kernel, rfl, by decide +kernel, by decide +kernel⟩
abbrev n_sEquation_str : List Str := ["self"]
theorem c_sEquation_str : FnScope n_sEquation_str ["self"] (defScope sEquation_str) := ⟨rfl, rfl, rfl, by decide +kernel, rfl, by decide +kernel, by decide +kernel⟩
abbrev n_sCongruence_init : List Str := ["self", "form", "modulus"]
theorem c_sCongruence_init : FnScope n_sCongruence_init ["self", "form", "modulus"] (defScope sCongruence_init) := ⟨rfl, rfl, rfl, by decide +kernel, rfl, by decide +kernel, by decide +kernel⟩
abbrev n_sCongruence_form : List Str := ["self"]
theorem c_sCongruence_form : FnScope n_sCongruence_form ["self"] (defScope sCongruence_form) := ⟨rfl, rfl, rfl, by decide +kernel, rfl, by decide +kernel, by decide +kernel⟩
abbrev n_sCongruence_modulus : List Str := ["self"]
theorem c_sCongruence_modulus : FnScope n_sCongruence_modulus ["self"] (defScope sCongruence_modulus) := ⟨rfl, rfl, rfl, by decide +kernel, rfl, by decide +kernel, by decide +kernel⟩
abbrev n_sCongruence_names : List Str := ["self"]
theorem c_sCongruence_names : FnScope n_sCongruence_names ["self"] (defScope sCongruence_names) := ⟨rfl, rfl, rfl, by decide +kernel, rfl, by decide +kernel, by decide +kernel⟩
abbrev n_sCongruence_holds : List Str := ["self", "values"]
theorem c_sCongruence_holds : FnScope n_sCongruence_holds ["self", "values"] (defScope sCongruence_holds) := ⟨rfl, rfl, rfl, by decide +kernel, rfl, by decide +kernel, by decide +kernel⟩
abbrev n_sCongruence_eq : List Str := ["self", "other"]
theorem c_sCongruence_eq : FnScope n_sCongruence_eq ["self", "other"] (defScope sCongruence_eq) := ⟨rfl, rfl, rfl, by decide +kernel, rfl, by decide +kernel, by decide +kernel⟩
abbrev n_sCongruence_str : List Str := ["self"]
theorem c_sCongruence_str : FnScope n_sCongruence_str ["self"] (defScope sCongruence_str) := ⟨rfl, rfl, rfl, by decide +kernel, rfl, by decide +kernel, by decide +kernel⟩
abbrev n_sUnlike_init : List Str := ["self", "first", "second", "name"]
theorem c_sUnlike_init : FnScope n_sUnlike_init ["self", "first", "second"] (defScope sUnlike_init) := ⟨rfl, rfl, rfl, by decide +kernel, rfl, by decide +kernel, by decide +kernel⟩
abbrev n_sUnlike_first : List Str := ["self"]
theorem c_sUnlike_first : FnScope n_sUnlike_first ["self"] (defScope sUnlike_first) := ⟨rfl, rfl, rfl, by decide +kernel, rfl, by decide +kernel, by decide +kernel⟩
abbrev n_sUnlike_second : List Str := ["self"]
theorem c_sUnlike_second : FnScope n_sUnlike_second ["self"] (defScope sUnlike_second) := ⟨rfl, rfl, rfl, by decide +kernel, rfl, by decide +kernel, by decide +kernel⟩
abbrev n_sUnlike_names : List Str := ["self"]
theorem c_sUnlike_names : FnScope n_sUnlike_names ["self"] (defScope sUnlike_names) := ⟨rfl, rfl, rfl, by decide +kernel, rfl, by decide +kernel, by decide +kernel⟩
abbrev n_sUnlike_holds : List Str := ["self", "values", "name"]
theorem c_sUnlike_holds : FnScope n_sUnlike_holds ["self", "values"] (defScope sUnlike_holds) := ⟨rfl, rfl, rfl, by decide +kernel, rfl, by decide +kernel, by decide +kernel⟩
abbrev n_sUnlike_eq : List Str := ["self", "other"]
theorem c_sUnlike_eq : FnScope n_sUnlike_eq ["self", "other"] (defScope sUnlike_eq) := ⟨rfl, rfl, rfl, by decide +kernel, rfl, by decide +kernel, by decide +kernel⟩
abbrev n_sUnlike_str : List Str := ["self"]
theorem c_sUnlike_str : FnScope n_sUnlike_str ["self"] (defScope sUnlike_str) := ⟨rfl, rfl, rfl, by decide +kernel, rfl, by decide +kernel, by decide +kernel⟩
abbrev n_s_decimal : List Str := ["number", "pieces", "piece"]
theorem c_s_decimal : FnScope n_s_decimal ["number"] (defScope s_decimal) := ⟨rfl, rfl, rfl, by decide +kernel, rfl, by decide +kernel, by decide +kernel⟩
abbrev n_s_signed : List Str := ["number", "text"]
theorem c_s_signed : FnScope n_s_signed ["number", "text"] (defScope s_signed) := ⟨rfl, rfl, rfl, by decide +kernel, rfl, by decide +kernel, by decide +kernel⟩
abbrev n_s_term : List Str := ["name", "coefficient"]
theorem c_s_term : FnScope n_s_term ["name", "coefficient"] (defScope s_term) := ⟨rfl, rfl, rfl, by decide +kernel, rfl, by decide +kernel, by decide +kernel⟩
abbrev n_sForm_init : List Str := ["self", "coefficients", "constant", "name", "names"]
theorem c_sForm_init : FnScope n_sForm_init ["self", "coefficients", "constant"] (defScope sForm_init) := ⟨rfl, rfl, rfl, by decide +kernel, rfl, by decide +kernel, by decide +kernel⟩
abbrev n_sForm_coefficients : List Str := ["self"]
theorem c_sForm_coefficients : FnScope n_sForm_coefficients ["self"] (defScope sForm_coefficients) := ⟨rfl, rfl, rfl, by decide +kernel, rfl, by decide +kernel, by decide +kernel⟩
abbrev n_sForm_constant : List Str := ["self"]
theorem c_sForm_constant : FnScope n_sForm_constant ["self"] (defScope sForm_constant) := ⟨rfl, rfl, rfl, by decide +kernel, rfl, by decide +kernel, by decide +kernel⟩
abbrev n_sForm_getitem : List Str := ["self", "name"]
theorem c_sForm_getitem : FnScope n_sForm_getitem ["self", "name"] (defScope sForm_getitem) := ⟨rfl, rfl, rfl, by decide +kernel, rfl, by decide +kernel, by decide +kernel⟩
abbrev n_sForm_contains : List Str := ["self", "name"]
theorem c_sForm_contains : FnScope n_sForm_contains ["self", "name"] (defScope sForm_contains) := ⟨rfl, rfl, rfl, by decide +kernel, rfl, by decide +kernel, by decide +kernel⟩
abbrev n_sForm_iter : List Str := ["self"]
theorem c_sForm_iter : FnScope n_sForm_iter ["self"] (defScope sForm_iter) := ⟨rfl, rfl, rfl, by decide +kernel, rfl, by decide +kernel, by decide +kernel⟩
abbrev n_sForm_len : List Str := ["self"]
theorem c_sForm_len : FnScope n_sForm_len ["self"] (defScope sForm_len) := ⟨rfl, rfl, rfl, by decide +kernel, rfl, by decide +kernel, by decide +kernel⟩
abbrev n_sForm_eq : List Str := ["self", "other"]
theorem c_sForm_eq : FnScope n_sForm_eq ["self", "other"] (defScope sForm_eq) := ⟨rfl, rfl, rfl, by decide +kernel, rfl, by decide +kernel, by decide +kernel⟩
abbrev n_sForm_neg : List Str := ["self"]
theorem c_sForm_neg : FnScope n_sForm_neg ["self"] (defScope sForm_neg) := ⟨rfl, rfl, rfl, by decide +kernel, rfl, by decide +kernel, by decide +kernel⟩
abbrev n_sForm_add : List Str := ["self", "other", "total", "name", "coefficient"]
theorem c_sForm_add : FnScope n_sForm_add ["self", "other"] (defScope sForm_add) := ⟨rfl, rfl, rfl, by decide +kernel, rfl, by decide +kernel, by decide +kernel⟩
abbrev n_sForm_radd : List Str := ["self", "other"]
theorem c_sForm_radd : FnScope n_sForm_radd ["self", "other"] (defScope sForm_radd) := ⟨rfl, rfl, rfl, by decide +kernel, rfl, by decide +kernel, by decide +kernel⟩
abbrev n_sForm_sub : List Str := ["self", "other"]
theorem c_sForm_sub : FnScope n_sForm_sub ["self", "other"] (defScope sForm_sub) := ⟨rfl, rfl, rfl, by decide +kernel, rfl, by decide +kernel, by decide +kernel⟩
abbrev n_sForm_rsub : List Str := ["self", "other"]
theorem c_sForm_rsub : FnScope n_sForm_rsub ["self", "other"] (defScope sForm_rsub) := ⟨rfl, rfl, rfl, by decide +kernel, rfl, by decide +kernel, by decide +kernel⟩
abbrev n_sForm_mul : List Str := ["self", "other", "multiplied", "name", "coefficient"]
theorem c_sForm_mul : FnScope n_sForm_mul ["self", "other"] (defScope sForm_mul) := ⟨rfl, rfl, rfl, by decide +kernel, rfl, by decide +kernel, by decide +kernel⟩
abbrev n_sForm_rmul : List Str := ["self", "other"]
theorem c_sForm_rmul : FnScope n_sForm_rmul ["self", "other"] (defScope sForm_rmul) := ⟨rfl, rfl, rfl, by decide +kernel, rfl, by decide +kernel, by decide +kernel⟩
abbrev n_sForm_call : List Str := ["self", "values", "total", "name", "coefficient"]
theorem c_sForm_call : FnScope n_sForm_call ["self", "values"] (defScope sForm_call) := ⟨rfl, rfl, rfl, by decide +kernel, rfl, by decide +kernel, by decide +kernel⟩
abbrev n_sForm_str : List Str := ["self", "pieces", "name", "coefficient", "joined", "sign", "unsigned"]
theorem c_sForm_str : FnScope n_sForm_str ["self"] (defScope sForm_str) := ⟨rfl, rfl, rfl, by decide +kernel, rfl, by decide +kernel, by decide +kernel⟩
abbrev n_l_name : List Str := ["_law_state", "_law_chars", "_law_size", "_law_name_here", "_law_k"]
theorem c_l_name : FnScope n_l_name ["_law_state"] (defScope l_name) := ⟨rfl, rfl, rfl, by decide +kernel, rfl, by decide +kernel, by decide +kernel⟩
abbrev n_l_names : List Str := ["_law_state", "_law_count", "_law_names_here", "_law_k", "_law_name_here", "_law_other"]
theorem c_l_names : FnScope n_l_names ["_law_state", "_law_count"] (defScope l_names) := ⟨rfl, rfl, rfl, by decide +kernel, rfl, by decide +kernel, by decide +kernel⟩
abbrev n_l_row : List Str := ["_law_state", "_law_names_here", "_law_plan", "_law_parts", "_law_name_here", "_law_constant", "_law_first", "_law_second"]
theorem c_l_row : FnScope n_l_row ["_law_state", "_law_names_here"] (defScope l_row) := ⟨rfl, rfl, rfl, by decide +kernel, rfl, by decide +kernel, by decide +kernel⟩
abbrev n_l_made : List Str := ["_law_row_here"]
theorem c_l_made : FnScope n_l_made ["_law_row_here"] (defScope l_made) := ⟨rfl, rfl, rfl, by decide +kernel, rfl, by decide +kernel, by decide +kernel⟩
abbrev n_l_added : List Str := ["_law_state", "_law_row_here", "_law_total", "_law_rest", "_law_name_here", "_law_k"]
theorem c_l_added : FnScope n_l_added ["_law_state", "_law_row_here"] (defScope l_added) := ⟨rfl, rfl, rfl, by decide +kernel, rfl, by decide +kernel, by decide +kernel⟩
abbrev n_l_row_names : List Str := ["_law_row_here", "_law_name_here"]
theorem c_l_row_names : FnScope n_l_row_names ["_law_row_here"] (defScope l_row_names) := ⟨rfl, rfl, rfl, by decide +kernel, rfl, by decide +kernel, by decide +kernel⟩
abbrev n_l_text : List Str := ["_law_parts", "_law_constant", "_law_text_here", "_law_name_here", "_law_term"]
theorem c_l_text : FnScope n_l_text ["_law_parts", "_law_constant"] (defScope l_text) := ⟨rfl, rfl, rfl, by decide +kernel, rfl, by decide +kernel, by decide +kernel⟩
abbrev n_l_row_text : List Str := ["_law_row_here", "_law_text_here"]
theorem c_l_row_text : FnScope n_l_row_text ["_law_row_here"] (defScope l_row_text) := ⟨rfl, rfl, rfl, by decide +kernel, rfl, by decide +kernel, by decide +kernel⟩
abbrev n_l_holds : List Str := ["_law_line", "_law_values", "e"]
theorem c_l_holds : FnScope n_l_holds ["_law_line", "_law_values"] (defScope l_holds) := ⟨rfl, rfl, rfl, by decide +kernel, rfl, by decide +kernel, by decide +kernel⟩
abbrev n_l_expected : List Str := ["_law_row_here", "_law_values", "_law_needed", "_law_name_here", "_law_lacking", "_law_total"]
theorem c_l_expected : FnScope n_l_expected ["_law_row_here", "_law_values"] (defScope l_expected) := ⟨rfl, rfl, rfl, by decide +kernel, rfl, by decide +kernel, by decide +kernel⟩
abbrev n_l_asked : List Str := ["_law_line", "_law_row_here", "_law_values", "_law_kept", "_law_told"]
theorem c_l_asked : FnScope n_l_asked ["_law_line", "_law_row_here", "_law_values"] (defScope l_asked) := ⟨rfl, rfl, rfl, by decide +kernel, rfl, by decide +kernel, by decide +kernel⟩
abbrev n_sLaw : List Str := ["_law_script", "_law_state", "_law_names_here", "_law_row_here", "_law_plan", "_law_values", "_law_name_here", "_law_total", "_law_constant", "_law_k", "_law_line", "_law_spot"]
theorem c_sLaw : FnScope n_sLaw ["_law_script"] (defScope sLaw) := ⟨rfl, rfl, rfl, by decide +kernel, rfl, by decide +kernel, by decide +kernel⟩
end OS

namespace OS
open PySem L2
/-- but for st and cl all that was tracked is as it was -/
def Kb (st cl : Addr) (H H' : Hp) : Prop := ∀ b o, H b = some o → b ≠ st → b ≠ cl → H' b = some o
/-- the drawing state: its cells at cl, at most m draws so far -/
structure StAt (H : Hp) (st cl : Addr) (m : Nat) : Prop where
  ob : ∃ p c : Int, H st = some (.lst [.ref cl, .int p, .int c]) ∧ 0 ≤ c ∧ c ≤ m
  cs : ∃ ns : List Int, H cl = some (.lst (ns.map V.int)) ∧ ns.length ≤ 63
  ne : st ≠ cl
structure Bi (mg : Str → Option Value) : Prop where
  len : mg "len" = none
  int : mg "int" = none
  max : mg "max" = none
  abs : mg "abs" = none
def spTake : Sp := fun vs H Q _ => ∃ (st cl : Addr) (m : Nat) (lim : Int), vs = [.ref st, .int lim] ∧ StAt H st cl m ∧ m ≤ 1000000000 ∧ 0 < lim ∧ lim < 1073741824 ∧
  ∀ (n : Int) (H' : Hp), 0 ≤ n → n < lim → StAt H' st cl (m + 1) → Kb st cl H H' → Q (.int n) H'
theorem fmod_in {i j : Int} (h : 0 < j) : 0 ≤ i.fmod j ∧ i.fmod j < j := ⟨Int.fmod_nonneg_of_pos _ h, Int.fmod_lt_of_pos _ h⟩
theorem getD_int {ns : List Int} {k : Int} (h0 : 0 ≤ k) (h1 : k < (ns.length : Int)) : ∃ z : Int, (ns.map V.int)[k.toNat]? = some (V.int z) ∧ ns[k.toNat]? = some z := by
  have hk : k.toNat < ns.length := by omega
  refine ⟨ns[k.toNat], ?_, List.getElem?_eq_getElem hk⟩
  rw [List.getElem?_map, List.getElem?_eq_getElem hk]
  rfl
theorem ixN_in {n : Nat} {k : Int} (h0 : 0 ≤ k) (h1 : k < (n : Int)) : ixN n k = some k.toNat := by
  unfold ixN
  rw [if_pos h0, if_pos h1]
theorem atI_in {α : Type} {xs : List α} {k : Int} {v : α} (h0 : 0 ≤ k) (h : xs[k.toNat]? = some v) : atI xs k = some v := by
  have := atI_nat h
  rwa [Int.toNat_of_nonneg h0] at this
section
variable {P : Program} {w : World} {K : PySem.W.Frag} {mg : Str → Option Value} {base : Heap}
abbrev nTake : List Str := ["_law_state", "_law_limit", "_law_cells", "_law_at", "_law_cell", "_law_number"]
theorem scTake : FnScope nTake ["_law_state", "_law_limit"] (defScope sTake) := ⟨rfl, rfl, rfl, by decide +kernel, rfl, by decide +kernel, by decide +kernel⟩
theorem ok_take {f : Addr} {fd : FuncData} (F : Fun K "_law_take" "_law_take" sTake f fd) (T : Bi mg) : FnOk P w K mg base CX0 1 f fd ["_law_state", "_law_limit"] spTake := by
  refine F.ok scTake (fun vs H Q E h => ?_) (fun cdv A outer s H vs Q E hr h => ?_)
  · obtain ⟨st, cl, m, lim, rfl, _⟩ := h
    rfl
  · obtain ⟨st, cl, m, lim, rfl, S, hm, hl0, hl1, k⟩ := h
    obtain ⟨⟨p, c, hst, hc0, hc1⟩, ⟨ns, hcl, hn⟩, hne⟩ := S
    refine ⟨_, pss_cons (ps_set (i := 2) scTake.nd rfl (Or.inl rfl) (pe_ix ix_list (pv 0) pe_int fun _ _ => rfl))
      (pss_cons (ps_asg (pe_op op_add (pe_ix ix_list (pv 0) pe_int fun _ _ => rfl) pe_int) (pg_sub (pv 0) pe_int set_list))
      (pss_cons (ps_set (i := 3) scTake.nd rfl (Or.inl rfl) (pe_op op_modN (pe_callTy call_int1 (by rfl) T.int (by decide +kernel) (pa_cons (pe_ix ix_list (pv 0) pe_int fun _ _ => rfl) pa_nil))
          (pe_callB (call_max2 rfl) (by rfl) T.max (by decide +kernel) (pa_cons pe_int (pa_cons (pe_callB call_len_seq (by rfl) T.len PySem.boot_len (pa_cons (pv 2) pa_nil)) pa_nil)))))
      (pss_cons (ps_set (i := 4) scTake.nd rfl (Or.inl rfl) pe_int)
      (pss_cons (ps_if (pt_truth (pv 2) (by intro _; rfl)) (pss_one (ps_set (i := 4) scTake.nd rfl (Or.inl rfl) (pe_ix ix_list (pv 2) (pv 3) fun _ _ => rfl))) pss_nil)
      (pss_cons (ps_if (pt_cmpR op_ge (pe_callB call_abs (by rfl) T.abs (by decide +kernel) (pa_cons (pv 4) pa_nil)) (pe_op op_pow pe_int pe_int) (nomark _))
        (pss_cons (ps_asg (pe_op op_fdivN (pe_callB call_abs (by rfl) T.abs (by decide +kernel) (pa_cons (pv 4) pa_nil)) (pv 1)) (pg_sub (pv 2) (pv 3) set_list))
          (pss_one (ps_ret (pe_op op_modN (pe_callB call_abs (by rfl) T.abs (by decide +kernel) (pa_cons (pv 4) pa_nil)) (pv 1))))) pss_nil)
      (pss_cons (ps_asg (pe_op op_add (pe_ix ix_list (pv 0) pe_int fun _ _ => rfl) pe_int) (pg_sub (pv 0) pe_int set_list))
      (pss_cons (ps_set (i := 5) scTake.nd rfl (Or.inl rfl) (pe_op op_modN (pe_op op_pow (pe_callTy call_int1 (by rfl) T.int (by decide +kernel) (pa_cons (pe_op op_add (pe_op op_add (pe_op op_mul (pe_op op_modN (pe_callTy call_int1 (by rfl) T.int (by decide +kernel) (pa_cons (pv 4) pa_nil)) pe_int) pe_int) (pe_op op_mul (pe_ix ix_list (pv 0) pe_int fun _ _ => rfl) pe_int)) pe_int) pa_nil)) pe_int) pe_int))
      (pss_cons (ps_set (i := 5) scTake.nd rfl (Or.inl rfl) (pe_op op_modN (pe_op op_pow (pe_callTy call_int1 (by rfl) T.int (by decide +kernel) (pa_cons (pe_op op_add (pe_op op_add (pe_op op_mul (pv 5) pe_int) (pe_op op_mul (pe_ix ix_list (pv 0) pe_int fun _ _ => rfl) pe_int)) pe_int) pa_nil)) pe_int) pe_int))
      (pss_one (ps_ret (pe_op op_modN (pe_op op_fdivN (pv 5) pe_int) (pv 1)))))))))))), ?_⟩
    have a0 : atI [V.ref cl, V.int p, V.int c] 0 = some (V.ref cl) := rfl
    refine ⟨_, rfl, st, _, _, _, rfl, rfl, SqL.of hst, a0, ?_⟩
    -- state[2] = state[2] + 1
    refine ⟨_, rfl, st, _, _, V.int c, rfl, rfl, SqL.of hst, rfl, _, _, rfl, rfl, ?_⟩
    refine ⟨_, rfl, st, _, _, 2, rfl, rfl, hst, rfl, ?_⟩
    have h1 : ∀ o, (upd H st o) cl = some (.lst (ns.map V.int)) := fun o => by rw [upd_ne hne.symm]; exact hcl
    -- at = int(state[1]) % max(1, len(cells))
    refine ⟨_, rfl, st, _, _, V.int p, rfl, rfl, SqL.of upd_same, rfl, .inl ⟨_, rfl, ?_⟩⟩
    refine ⟨_, rfl, cl, ns.map V.int, rfl, .inl (SqL.of (h1 _)), _, _, rfl, ?_⟩
    have hL : (((ns.map V.int).length : Nat) : Int) = (ns.length : Int) := by rw [List.length_map]
    rw [hL]
    have hmx : ∃ mx : Int, (if (ns.length : Int) > 1 then (ns.length : Int) else 1) = mx ∧ 0 < mx ∧ (0 < ns.length → mx ≤ ns.length) := by
      refine ⟨_, rfl, ?_, fun _ => ?_⟩
      · split <;> omega
      · split <;> omega
    obtain ⟨mx, emx, mx0, mx1⟩ := hmx
    rw [emx]
    refine ⟨_, _, rfl, rfl, (by omega), ?_⟩
    obtain ⟨ka, kb⟩ := fmod_in (i := p) mx0
    obtain ⟨at_, hat⟩ : ∃ a, a = p.fmod mx := ⟨_, rfl⟩
    rw [← hat] at ka kb
    -- cell = 0; if cells: cell = cells[at]
    refine ⟨_, rfl, _, .inl ⟨_, SqL.of (h1 _), rfl⟩, ?_⟩
    show if (!(ns.map V.int).isEmpty) = true then _ else _
    have hE : (!(ns.map V.int).isEmpty) = decide (0 < ns.length) := by cases ns <;> simp
    rw [hE]
    rw [show (fun i j => V.int (Int.fmod i j)) p mx = V.int at_ by rw [hat]]
    have h10 : ((10 : Int) ^ (18 : Int).toNat) = 1000000000000000000 := by decide
    by_cases hp : 0 < ns.length
    all_goals first
      | have hp' : 0 < ns.length := hp
        rw [decide_eq_true hp]
        refine iteT ?_
        obtain ⟨z, hz1, hz2⟩ := getD_int (ns := ns) (k := at_) ka (by have := mx1 hp; omega)
        refine ⟨_, rfl, _, rfl, cl, _, _, V.int z, rfl, rfl, SqL.of (h1 _), atI_in ka hz1, ?_⟩
        have hz : z = 0 ∨ at_ < (ns.length : Int) := .inr (by have := mx1 hp; omega)
      | have hp' : ¬ 0 < ns.length := hp
        rw [decide_eq_false hp]
        refine iteF ?_
        obtain ⟨z, ez⟩ : ∃ z : Int, z = 0 := ⟨0, rfl⟩
        rw [show (some (V.int 0) : Option V) = some (V.int z) by rw [ez]]
        have hz : z = 0 ∨ at_ < (ns.length : Int) := .inl ez
    all_goals
      refine ⟨_, rfl, _, rfl, _, _, rfl, rfl, ⟨by decide, by decide, by decide⟩, _, _, rfl, rfl, _, rfl, ?_⟩
      rw [h10]
      obtain ⟨az, haz⟩ : ∃ az, az = (if z < 0 then -z else z) := ⟨_, rfl⟩
      have haz0 : 0 ≤ az := by rw [haz]; split <;> omega
      rw [← haz]
      refine ite2 (fun hb => ?_) (fun hb => ?_)
      · have hb' : (1000000000000000000 : Int) ≤ az := of_decide_eq_true hb
        have hat2 : at_ < (ns.length : Int) := by
          rcases hz with h | h
          · subst h; rw [haz] at hb'; simp at hb'
          · exact h
        refine ⟨_, rfl, _, rfl, _, rfl, _, _, rfl, rfl, ⟨by omega, by omega⟩, ?_⟩
        refine ⟨_, rfl, _, rfl, cl, _, _, at_.toNat, rfl, rfl, h1 _, ixN_in ka (by rw [List.length_map]; exact hat2), ?_⟩
        refine ⟨_, rfl, _, rfl, _, rfl, _, _, rfl, rfl, (by omega), ?_⟩
        rw [← haz]
        obtain ⟨k0, k1⟩ := fmod_in (i := az) hl0
        refine k _ _ k0 k1 ⟨⟨p, c + 1, ?_, by omega, by push_cast; omega⟩, ⟨ns.set at_.toNat (az.fdiv lim), ?_, by rw [List.length_set]; exact hn⟩, hne⟩ ?_
        · rw [upd_ne hne, upd_same]
          rfl
        · rw [upd_same, List.map_set]
        · intro b o e hb1 hb2
          rw [upd_ne hb2, upd_ne hb1]
          exact e
      · -- state[1] = state[1] + 1
        refine ⟨_, rfl, st, _, _, V.int p, rfl, rfl, SqL.of upd_same, rfl, _, _, rfl, rfl, ?_⟩
        refine ⟨_, rfl, st, _, _, 1, rfl, rfl, upd_same, rfl, ?_⟩
        -- number
        have r1 : ∀ i : Int, 0 ≤ i.fmod 2147483647 ∧ i.fmod 2147483647 < 2147483647 := fun i => fmod_in (by decide)
        obtain ⟨y1, hy1⟩ : ∃ y, y = z.fmod 2147483647 := ⟨_, rfl⟩
        obtain ⟨q1, q2⟩ := r1 z
        rw [← hy1] at q1 q2
        refine ⟨_, rfl, .inl ⟨_, rfl, ?_⟩⟩
        refine ⟨_, _, rfl, rfl, (by show (_ : Int) ≠ 0; decide), ?_⟩
        rw [show (fun i j => V.int (Int.fmod i j)) z 2147483647 = V.int y1 by rw [hy1]]
        refine ⟨_, _, rfl, rfl, .inl ⟨by omega, by omega⟩, ?_⟩
        refine ⟨_, rfl, st, _, _, V.int (c + 1), rfl, rfl, SqL.of upd_same, rfl, _, _, rfl, rfl, .inl ⟨by omega, by omega⟩, ?_⟩
        refine ⟨_, _, rfl, rfl, _, _, rfl, rfl, .inl ⟨_, rfl, ?_⟩⟩
        refine ⟨_, _, rfl, rfl, ⟨by decide, by decide, ?_⟩, ?_⟩
        · show (y1 * 48271 + (c + 1) * 69621 + 11).natAbs < 2 ^ 64
          omega
        refine ⟨_, _, rfl, rfl, (by show (_ : Int) ≠ 0; decide), ?_⟩
        obtain ⟨q3, q4⟩ := r1 ((y1 * 48271 + (c + 1) * 69621 + 11) ^ (5 : Int).toNat)
        obtain ⟨y2, hy2⟩ : ∃ y, y = ((y1 * 48271 + (c + 1) * 69621 + 11) ^ (5 : Int).toNat).fmod 2147483647 := ⟨_, rfl⟩
        rw [← hy2] at q3 q4
        refine ⟨_, rfl, _, _, rfl, rfl, .inl ⟨?_, ?_⟩, ?_⟩
        · show -(2 ^ 64) < (((y1 * 48271 + (c + 1) * 69621 + 11) ^ (5 : Int).toNat).fmod 2147483647)
          rw [← hy2]; omega
        · show (((y1 * 48271 + (c + 1) * 69621 + 11) ^ (5 : Int).toNat).fmod 2147483647) < 2 ^ 64
          rw [← hy2]; omega
        refine ⟨_, rfl, st, _, _, V.int (c + 1), rfl, rfl, SqL.of upd_same, rfl, _, _, rfl, rfl, .inl ⟨by omega, by omega⟩, ?_⟩
        refine ⟨_, _, rfl, rfl, _, _, rfl, rfl, .inl ⟨_, rfl, ?_⟩⟩
        refine ⟨_, _, rfl, rfl, ⟨by decide, by decide, ?_⟩, ?_⟩
        · show ((((y1 * 48271 + (c + 1) * 69621 + 11) ^ (5 : Int).toNat).fmod 2147483647) * 16807 + (c + 1) * 40692 + 7).natAbs < 2 ^ 64
          rw [← hy2]; omega
        refine ⟨_, _, rfl, rfl, (by show (_ : Int) ≠ 0; decide), ?_⟩
        refine ⟨_, rfl, _, _, rfl, rfl, ⟨by decide, by decide⟩, _, rfl, _, _, rfl, rfl, (by omega), ?_⟩
        obtain ⟨k0, k1⟩ := fmod_in (i := (((((((y1 * 48271 + (c + 1) * 69621 + 11) ^ (5 : Int).toNat).fmod 2147483647) * 16807 + (c + 1) * 40692 + 7) ^ (5 : Int).toNat).fmod 2147483629).fdiv 16)) hl0
        refine k _ _ k0 k1 ⟨⟨p + 1, c + 1, ?_, by omega, by push_cast; omega⟩, ⟨ns, ?_, hn⟩, hne⟩ ?_
        · rw [upd_same]
          rfl
        · rw [upd_ne hne.symm, upd_ne hne.symm]
          exact hcl
        · intro b o e hb1 hb2
          rw [upd_ne hb1, upd_ne hb1]
          exact e
def spStart (K : PySem.W.Frag) : Sp := fun vs H Q _ => ∃ (a : Addr) (ns : List Int), vs = [.ref a] ∧ SqL K H a (ns.map V.int) ∧ ns.length ≤ 63 ∧
  ∀ (st cl : Addr) (H' : Hp), StAt H' st cl 0 → Same H H' → H st = none → H cl = none → Q (.ref st) H'
abbrev nStart : List Str := ["_law_script", "_law_cell"]
theorem scStart : FnScope nStart ["_law_script"] (defScope sStart) := ⟨rfl, rfl, rfl, by decide +kernel, rfl, by decide +kernel, by decide +kernel⟩
theorem ok_start {f : Addr} {fd : FuncData} (F : Fun K "_law_start" "_law_start" sStart f fd) (T : Bi mg) : FnOk P w K mg base CX0 1 f fd ["_law_script"] (spStart K) := by
  refine F.ok scStart (fun vs H Q E h => ?_) (fun cdv A outer s H vs Q E hr h => ?_)
  · obtain ⟨a, ns, rfl, _⟩ := h
    rfl
  · obtain ⟨a, ns, rfl, hS, hn, k⟩ := h
    refine ⟨_, pss_one (ps_ret (pe_lst (pa_cons (pe_lc (own := [("_law_cell", 1)]) (g := gName 1) (tt := tYes) rfl scStart.nd (pi_list (pv 0)) (blkOk_by (own := [("_law_cell", 1)]) (N := nStart) (sc := defScope sStart) (by decide +kernel))
        (fun _ _ _ _ _ => pg_name (i := 1) scStart.nd rfl (Or.inl rfl)) (fun _ _ _ _ _ => pts_nil) (fun _ _ _ _ _ => pe_callTy call_int1 (by rfl) T.int (by decide +kernel) (pa_cons (pv 1) pa_nil)))
      (pa_cons pe_int (pa_cons pe_int pa_nil))))), ?_⟩
    refine ⟨_, rfl, a, rfl, ⟨_, hS⟩, fun D hD => lc_list (K := K) (a := a) (xs := ns.map V.int) (fun i H' => Same H H' ∧ H' D = some (.lst ((ns.take i).map V.int))) ⟨?_, ?_⟩ (fun i H' _ h => h.1.seq hS) ?_ ?_⟩
    · intro b o e
      rw [upd_ne (ne_of_none e hD)]
      exact e
    · rw [upd_same]
      rfl
    · intro i x H' hi ⟨s1, s2⟩
      obtain ⟨z, hz, rfl⟩ : ∃ z, ns[i]? = some z ∧ x = V.int z := by
        rw [List.getElem?_map] at hi
        cases e : ns[i]? with
        | none => rw [e] at hi; cases hi
        | some z => rw [e] at hi; exact ⟨z, rfl, (Option.some.inj hi).symm⟩
      have hil : i < ns.length := (List.getElem?_eq_some_iff.mp hz).1
      refine ⟨rfl, ?_⟩
      refine ⟨_, rfl, .inl ⟨_, rfl, _, s2, ?_, ?_, ?_⟩⟩
      · rw [List.length_map, List.length_take]
        exact small1000 (by omega)
      · intro b o e
        rw [upd_ne (ne_of_none e hD)]
        exact s1 b o e
      · rw [upd_same, List.take_succ, hz]
        simp
    · intro H' ⟨s1, s2⟩
      rw [List.length_map, List.take_length] at s2
      refine ⟨by show 3 ≤ sizeLine; decide, fun st hst => ?_⟩
      have hne : st ≠ D := (ne_of_none s2 hst).symm
      refine k st D _ ⟨⟨0, 0, upd_same, by decide, by decide⟩, ⟨ns, by rw [upd_ne hne.symm]; exact s2, hn⟩, hne⟩ ?_ ?_ hD
      · intro b o e
        rw [upd_ne (ne_of_none (s1 b o e) hst)]
        exact s1 b o e
      · exact s1.free hst
end
end OS

/-! ### drawing, over data -/
namespace OS
open PySem L2 OZ
def takeM (st cl : Addr) : Mode where
  X := fun _ b => b = st ∨ b = cl
  S := fun m H => StAt H st cl m
  clo := fun m H H' S h => by
    refine ⟨⟨?_, ?_, S.ne⟩, fun b x => x⟩
    · obtain ⟨p, c, e, r⟩ := S.ob
      exact ⟨p, c, h st _ (.inl rfl) e, r⟩
    · obtain ⟨ns, e, r⟩ := S.cs
      exact ⟨ns, h cl _ (.inr rfl) e, r⟩
  there := fun m H b S x => by
    rcases x with rfl | rfl
    · obtain ⟨p, c, e, r⟩ := S.ob; exact ⟨_, e⟩
    · obtain ⟨ns, e, r⟩ := S.cs; exact ⟨_, e⟩
def FTake (st : Addr) : FD := fun ds KR _ m => ∃ lim, ds = [.ref st, .int lim] ∧ m ≤ 1000000000 ∧ 0 < lim ∧ lim < 1073741824 ∧ ∀ n, 0 ≤ n → n < lim → KR (.int n) (m + 1)
theorem FTake.use {st : Addr} {lim : Int} {KR : Da → Nat → Prop} {KE : Kx} {m : Nat} (hm : m ≤ 1000000000) (h0 : 0 < lim) (h1 : lim < 1073741824) (k : ∀ n, 0 ≤ n → n < lim → KR (.int n) (m + 1)) : FTake st [.ref st, .int lim] KR KE m := ⟨lim, rfl, hm, h0, h1, k⟩
theorem take_ok {B : Bd} {st cl f : Addr} {fd : FuncData} (F : Fun B.K "_law_take" "_law_take" sTake f fd) (T : Bi B.mg) (hm : B.mg "_law_take" = some (.ref f)) (hb : Binds B.K fd ["_law_state", "_law_limit"] []) : CallG (takeM st cl) B 1 "_law_take" 2 (FTake st) := by
  refine ⟨f, hm, F.kp, CX0, fd, _, (ok_take F T).imp fun vs H Q E q => ?_, hb, .inl rfl, rfl⟩
  obtain ⟨_, G, m, ds, KR, KE, ok, r, ⟨lim, rfl, h1, h2, h3, k⟩, po, _⟩ := q
  obtain ⟨a, b, rfl, ra, rb⟩ := reps2 r
  cases ra.ref_inv
  cases rb.int_inv
  refine ⟨st, cl, m, lim, rfl, ok.inv, h1, h2, h3, fun n H' n0 n1 S kb => ?_⟩
  have g : ∀ c o, G c = some o → c ≠ st ∧ c ≠ cl := fun c o e =>
    ⟨fun z => (by rw [z, ok.off _ (.inl rfl)] at e; cases e), fun z => (by rw [z, ok.off _ (.inr rfl)] at e; cases e)⟩
  refine po (.int n) (.int n) (m + 1) G H' (k n n0 n1) ⟨fun c o e => kb c o (ok.sub _ _ e) (g c o e).1 (g c o e).2, S, ok.off, Same.refl _, fun c o e n => ⟨kb c o e (fun z => n (.inl z)) fun z => n (.inr z), n⟩, fun c o _ _ z => z⟩ (.int n)
end OS

namespace OS
open PySem L2 OZ
/-- the law, behind the start of its drawing -/
theorem law_take {B : Bd} {f fS : Addr} {fd dS : FuncData} {k : Nat} {N : List Str} {rest : List Stmt} {p1 p2 p3 p4 p5 : Pos} (Fn : Fun B.K "law" "law" sLaw f fd) (S : FnScope ("_law_script" :: "_law_state" :: N) ["_law_script"] (defScope sLaw))
    (hb : defBody sLaw = .Assign [.Name "_law_state" p1] (.Call (.Name "_law_start" p2) [.Name "_law_script" p3] [] p4) p5 :: rest)
    (ES : FnOk B.P B.w B.K B.mg B.base CX0 1 fS dS ["_law_script"] (spStart B.K)) (mS : B.mg "_law_start" = some (.ref fS)) (kS : PySem.W.keepIn B.K (.ref fS) = true) (bS : Binds B.K dS ["_law_script"] [])
    (hg : (defScope sLaw).names.lookup ("_law_start" : Str) = some .globalImplicit) (hv : (defScope sLaw).names.lookup ("_law_script" : Str) = some .local) (hst : Loc (defScope sLaw) "_law_state")
    (hsw : ∀ X : Cx, X.env.scope = defScope sLaw → swapsWith (.Call (.Name "_law_start" p2) [.Name "_law_script" p3] [] p4) (some (.Name "_law_state" p1)) p5.line X.env = pure false)
    (h : ∀ (X : Cx) (st cl : Addr), (∃ cdv A outer s H E, X = (cxOf CX0 B.P B.w B.K B.mg B.base ("_law_script" :: "_law_state" :: N) "law" (defScope sLaw) f cdv A outer s H E).nox) → Ctx X ("_law_script" :: "_law_state" :: N) (defScope sLaw) B → Room k X.A →
      OZ.StD (takeM st cl) X (fun _ => K0) rest (.un :: .v (.ref st) :: List.replicate N.length .un) { nx := fun _ _ => False, rt := fun d _ => d = .bl true } 0) (hk : 1 ≤ k) :
    FnOk B.P B.w B.K B.mg B.base CX0 (k + 1) f fd ["_law_script"] (OZ.spLaw B.K) := by
  refine Fn.ok S (fun vs H Q E q => ?_) (fun cdv A outer s H vs Q E hr q => ?_)
  · obtain ⟨a, ns, rfl, _⟩ := q
    rfl
  · obtain ⟨a, ns, rfl, hS, hn, kk⟩ := q
    rw [hb]
    refine ⟨_, pss_cons (ps_set (hf := .inl rfl) (i := 1) S.nd rfl hst (pe_call ES (hr.mono hk) hg mS kS bS .nil pass0 (pa_cons (pe_var (i := 0) rfl (.inl hv)) pa_nil)) (hsw _ rfl)) pss_wp, ?_⟩
    refine ⟨_, rfl, a, ns, rfl, hS, hn, fun st cl H' sa s' e1 e2 => ?_⟩
    refine h (cxOf CX0 B.P B.w B.K B.mg B.base ("_law_script" :: "_law_state" :: N) "law" (defScope sLaw) f cdv A outer s H E).nox st cl ⟨cdv, A, outer, s, H, E, rfl⟩ ⟨rfl, rfl, S.nd, rfl⟩ hr (fun _ => none) H' (fun _ => none) H' _ (fun _ _ _ _ => False) _
      ⟨(fun _ _ z => nomatch z), sa, fun _ _ => rfl, Same.refl _, fun _ _ e n => ⟨e, n⟩, fun _ _ _ _ z => z⟩ ?_ ⟨takes0, fun _ _ _ _ _ _ _ _ z => z.elim⟩ ⟨fun _ _ _ _ _ z => z.elim, ?_, fun _ _ _ _ _ z => z.elim, fun _ _ _ _ _ z => z.elim, fun _ _ _ _ _ z => z.elim⟩
    · have e : ∀ n : Nat, Paired (RelSl B.K (takeM st cl) H' (fun _ => none) H') (List.replicate n none) (List.replicate n .un) := fun n => by
        induction n with
        | zero => exact .nil
        | succ n ih => rw [List.replicate_succ, List.replicate_succ]; exact .cons trivial ih
      refine ⟨?_, fun i j a ⟨q, d, hd⟩ => ?_⟩
      · show Paired _ (some (V.ref a) :: some (V.ref st) :: List.replicate _ none) _
        refine .cons trivial (.cons ⟨_, rfl, .ref st⟩ ?_)
        have : ("_law_script" :: "_law_state" :: N : List Str).length - [V.ref a].length - 1 = N.length := by simp
        exact e N.length
      · have hm : Sl.mm q d ∈ (Sl.un :: Sl.v (.ref st) :: List.replicate N.length .un) := List.mem_of_getElem? hd
        simp at hm
    · rintro v d m G H2 rfl ok r
      cases r.bl_inv
      exact kk H2
end OS

section
open PySem L2 OZ
-- MACROS
local macro_rules | `(tactic| fail "zn") => `(tactic| (repeat (first | with_reducible exact EnvAt.here | with_reducible apply EnvAt.there)))
local macro_rules | `(tactic| fail "zs") => `(tactic| (repeat (first | with_reducible exact EnvSet.here | with_reducible apply EnvSet.there)))
local macro_rules | `(tactic| fail "zo") => `(tactic| with_unfolding_all first | decide | omega)
local macro_rules | `(tactic| fail "za") => `(tactic| with_reducible assumption)
local macro_rules | `(tactic| fail "zdp") => `(tactic| first | exact Nat.le_of_ble_eq_true (by with_unfolding_all rfl) | exact dpt_le (Nat.le_trans (dpts_le _ 9 (fun _ => Nat.le_of_ble_eq_true (by with_unfolding_all rfl)) _) (Nat.le_of_ble_eq_true rfl)) | exact dpt_leT (Nat.le_trans (dpts_le _ 9 (fun _ => Nat.le_of_ble_eq_true (by with_unfolding_all rfl)) _) (Nat.le_of_ble_eq_true rfl)))
local macro_rules | `(tactic| fail "zpl") => `(tactic| with_unfolding_all first | rfl | exact plDs_map _ (fun _ => rfl) _ | (simp only [OZ.plD, OZ.plDs, Bool.and_true, Bool.true_and, Bool.and_eq_true] <;> decide +kernel))
local macro_rules | `(tactic| fail "zop") => `(tactic| first
  | with_reducible refine opd_add ?_
  | with_reducible refine opd_sub ?_
  | with_reducible refine opd_lt ?_
  | with_reducible refine opd_le ?_
  | with_reducible refine opd_gt ?_
  | with_reducible refine opd_ge ?_
  | with_reducible refine opd_eqI ?_
  | with_reducible refine opd_neI ?_
  | with_reducible refine opd_eqS ?_
  | with_reducible refine opd_neS ?_
  | with_reducible refine opd_eqB ?_
  | with_reducible refine opd_neB ?_
  | with_reducible refine opd_mul (by first | exact cmul_l (by fail "zo") (by fail "zo") | exact cmul_r (by fail "zo") (by fail "zo")) ?_
  | with_reducible refine opd_mod (by fail "zo") ?_
  | with_reducible refine opd_fdiv (by exact cdiv_s (by fail "zo") (by fail "zo")) ?_
  | with_reducible refine opd_pow (by exact cpow_s (by fail "zo") (by fail "zo") (by fail "zo") (by fail "zo")) ?_
  | ((with_reducible first | show OpD _ _ _ (compareOp .Eq) (.tup _) (.tup _) _ _ | show OpD _ _ _ (compareOp .Eq) (.lst _) (.lst _) _ _); with_reducible refine opd_eq (L2.Room.units (by fail "za")) (by fail "zpl") (by fail "zpl") (by fail "zdp") (by fail "zdp") ?_)
  | ((with_reducible first | show OpD _ _ _ (compareOp .NotEq) (.tup _) (.tup _) _ _ | show OpD _ _ _ (compareOp .NotEq) (.lst _) (.lst _) _ _); with_reducible refine opd_ne (L2.Room.units (by fail "za")) (by fail "zpl") (by fail "zpl") (by fail "zdp") (by fail "zdp") ?_)
  | with_reducible refine opd_shr (by fail "zo") ?_
  | with_reducible refine opd_cat (by fail "zsz") ?_
  | with_reducible refine opd_catT (by fail "zsz") ?_
  | ((with_reducible show OpD _ _ _ (compareOp .Eq) (.obj _ _) (.obj _ _) _ _); with_reducible refine opd_eqG (by fail "za") (by fail "za") (by fail "za") ?_)
  | ((with_reducible show OpD _ _ _ (compareOp .NotEq) (.obj _ _) (.obj _ _) _ _); with_reducible refine opd_neG (by fail "za") (by fail "za") (by fail "za") ?_)
  | ((with_reducible show OpD _ _ _ (binaryOp .Mult) (.obj _ _) (.obj _ _) _ _); with_reducible refine opd_mulG (by fail "za") (by fail "za") (by fail "za") (by fail "za") ?_)
  | ((with_reducible show OpD _ _ _ (binaryOp .Add) (.obj _ _) (.obj _ _) _ _); with_reducible refine opd_addG (by fail "za") (by fail "za") (by fail "za") (by fail "za") ?_)
  | ((with_reducible show OpD _ _ _ (binaryOp .Sub) (.obj _ _) (.obj _ _) _ _); with_reducible refine opd_subG (by fail "za") (by fail "za") (by fail "za") (by fail "za") ?_)
  | with_reducible refine opd_inKS (by fail "za") ?_
  | with_reducible refine opd_ninKS (by fail "za") ?_
  | ((with_reducible show OpD _ _ _ (binaryOp .Mult) (.obj _ _) (.int _) _ _); with_reducible refine opd_mulOI (by fail "za") (by fail "za") (by fail "za") (by fail "za") ?_)
  | ((with_reducible show OpD _ _ _ (binaryOp .Add) (.obj _ _) (.int _) _ _); with_reducible refine opd_addOI (by fail "za") (by fail "za") (by fail "za") (by fail "za") ?_)
  | ((with_reducible show OpD _ _ _ (binaryOp .Sub) (.obj _ _) (.int _) _ _); with_reducible refine opd_subOI (by fail "za") (by fail "za") (by fail "za") (by fail "za") ?_)
  | with_reducible refine opd_inC ?_
  | with_reducible refine opd_ninC ?_
  | with_reducible refine opd_is ?_
  | with_reducible refine opd_isnot ?_)
local macro_rules | `(tactic| fail "zbn") => `(tactic| first
  | ((with_reducible show EvD _ _ _ (.Call (.Name "len" _) _ _ _) _ _ _); with_reducible refine evd_callB (by fail "za") (Bn.len (by fail "za")) ?_)
  | ((with_reducible show EvD _ _ _ (.Call (.Name "abs" _) _ _ _) _ _ _); with_reducible refine evd_callB (by fail "za") (Bn.abs (by fail "za")) ?_)
  | ((with_reducible show EvD _ _ _ (.Call (.Name "max" _) _ _ _) _ _ _); with_reducible refine evd_callB (by fail "za") (Bn.max (by fail "za")) ?_)
  | ((with_reducible show EvD _ _ _ (.Call (.Name "min" _) _ _ _) _ _ _); with_reducible refine evd_callB (by fail "za") (Bn.min (by fail "za")) ?_)
  | ((with_reducible show EvD _ _ _ (.Call (.Name "sum" _) _ _ _) _ _ _); with_reducible refine evd_callB (by fail "za") (Bn.sum (by fail "za")) ?_)
  | ((with_reducible show EvD _ _ _ (.Call (.Name "any" _) _ _ _) _ _ _); with_reducible refine evd_callB (by fail "za") (Bn.any (by fail "za")) ?_)
  | ((with_reducible show EvD _ _ _ (.Call (.Name "all" _) _ _ _) _ _ _); with_reducible refine evd_callB (by fail "za") (Bn.all (by fail "za")) ?_)
  | ((with_reducible show EvD _ _ _ (.Call (.Name "sorted" _) _ _ _) _ _ _); with_reducible refine evd_callB (by fail "za") (Bn.sorted (by fail "za")) ?_)
  | ((with_reducible show EvD _ _ _ (.Call (.Name "isinstance" _) _ _ _) _ _ _); with_reducible refine evd_callB (by fail "za") (Bn.isinstance (by fail "za")) ?_)
  | ((with_reducible show EvD _ _ _ (.Call (.Name "divmod" _) _ _ _) _ _ _); with_reducible refine evd_callB (by fail "za") (Bn.divmod (by fail "za")) ?_)
  | ((with_reducible show EvD _ _ _ (.Call (.Name "int" _) _ _ _) _ _ _); with_reducible refine evd_callTy (by fail "za") (Bn.int (by fail "za")) ?_)
  | ((with_reducible show EvD _ _ _ (.Call (.Name "tuple" _) _ _ _) _ _ _); with_reducible refine evd_callTy (by fail "za") (Bn.tuple (by fail "za")) ?_)
  | ((with_reducible show EvD _ _ _ (.Call (.Name "list" _) _ _ _) _ _ _); with_reducible refine evd_callTy (by fail "za") (Bn.list (by fail "za")) ?_)
  | ((with_reducible show EvD _ _ _ (.Call (.Name "str" _) _ _ _) _ _ _); with_reducible refine evd_callTy (by fail "za") (Bn.str (by fail "za")) ?_)
  | ((with_reducible show EvD _ _ _ (.Call (.Name "dict" _) _ _ _) _ _ _); with_reducible refine evd_callTy (by fail "za") (Bn.dict (by fail "za")) ?_)
  | ((with_reducible show EvD _ _ _ (.Call (.Name "set" _) _ _ _) _ _ _); with_reducible refine evd_callTy (by fail "za") (Bn.set (by fail "za")) ?_))
local macro_rules | `(tactic| fail "zty") => `(tactic| with_reducible first | exact TyDa.int _ | exact TyDa.bl _ | exact TyDa.str _ | exact TyDa.non | exact TyDa.tup _ | exact TyDa.lst _ | exact TyDa.dct _ | exact TyDa.obj _ (by assumption))
local macro_rules | `(tactic| fail "zcls") => `(tactic| with_reducible first | exact ClsDa.ty _ | exact ClsDa.own _)
local macro_rules | `(tactic| fail "zcall") => `(tactic| first
  | ((with_reducible show EvD _ _ _ (.Call (.Name "len" _) [.Name _ _] [] _) _ _ _); first | with_reducible refine evd_lenB (by fail "za") (by fail "zn") (by fail "zs") ?_ | with_reducible refine evd_lenBK (by fail "za") (by fail "zn") (by fail "zs") ?_)
  | ((with_reducible show EvD _ _ _ (.Call (.Name _ _) (_ :: _) [] _) _ _ _); first
    | with_reducible refine evd_call (by fail "za") (by fail "za") (by fail "za") ?_
    | with_reducible refine evd_callP (by fail "za") (by fail "za") (by fail "za") ?_
    | fail "zbn"
    | with_reducible refine evd_inst (by fail "za") (by fail "za") (by fail "za") ?_
    | with_reducible refine evd_callF (by fail "za") (by fail "za") (by with_unfolding_all assumption) ?_)
  | ((with_reducible show EvD _ _ _ (.Call (.Subscript _ _ _) (_ :: _) [] _) _ _ _); with_reducible refine evd_inst (by fail "za") (by fail "za") (by fail "za") ?_)
  | ((with_reducible show EvD _ _ _ (.Call (.Attribute _ "get" _) [_, _] [] _) _ _ _); first | with_reducible refine evd_get2Own (by fail "za") (by fail "za") (by fail "zn") ?_ | with_reducible refine evd_get2 (by fail "za") ?_)
  | ((with_reducible show EvD _ _ _ (.Call (.Attribute _ "bit_length" _) [] [] _) _ _ _); with_reducible refine evd_bits ?_)
  | ((with_reducible show EvD _ _ _ (.Call (.Attribute _ "join" _) [_] [] _) _ _ _); with_reducible refine evd_join ?_)
  | ((with_reducible show EvD _ _ _ (.Call (.Attribute _ "startswith" _) [_] [] _) _ _ _); with_reducible refine evd_starts ?_)
  | ((with_reducible show EvD _ _ _ (.Call (.Attribute _ _ _) [_] [] _) _ _ _); first
    | with_reducible refine evd_cmeth (n := 1) (ks := []) (by fail "za") (by fail "za") (by fail "za") ?_
    | with_reducible refine evd_methN (by fail "za") (by fail "za") ?_)
  | ((with_reducible show EvD _ _ _ (.Call (.Attribute _ _ _) [_] [_] _) _ _ _); first
    | with_reducible refine evd_cmeth (n := 1) (ks := [_]) (by fail "za") (by fail "za") (by fail "za") ?_
    | with_reducible refine evd_methX (ks := [_]) (by fail "za") (by fail "za") ?_)
  | ((with_reducible show EvD _ _ _ (.Call (.Attribute _ _ _) [_, _] [] _) _ _ _); first
    | with_reducible refine evd_cmeth (n := 2) (ks := []) (by fail "za") (by fail "za") (by fail "za") ?_
    | with_reducible refine evd_methN (by fail "za") (by fail "za") ?_)
  | ((with_reducible show EvD _ _ _ (.Call (.Attribute _ _ _) [_, _] [_] _) _ _ _); first
    | with_reducible refine evd_cmeth (n := 2) (ks := [_]) (by fail "za") (by fail "za") (by fail "za") ?_
    | with_reducible refine evd_methX (ks := [_]) (by fail "za") (by fail "za") ?_)
  | ((with_reducible show EvD _ _ _ (.Call (.Attribute _ _ _) [_, _, _] [] _) _ _ _); first
    | with_reducible refine evd_cmeth (n := 3) (ks := []) (by fail "za") (by fail "za") (by fail "za") ?_
    | with_reducible refine evd_methN (by fail "za") (by fail "za") ?_)
  | ((with_reducible show EvD _ _ _ (.Call (.Attribute _ _ _) [_, _, _] [_] _) _ _ _); first
    | with_reducible refine evd_cmeth (n := 3) (ks := [_]) (by fail "za") (by fail "za") (by fail "za") ?_
    | with_reducible refine evd_methX (ks := [_]) (by fail "za") (by fail "za") ?_)
  | ((with_reducible show EvD _ _ _ (.Call (.Attribute _ _ _) [] [] _) _ _ _); first
    | with_reducible refine evd_cmeth0 (ks := []) (by fail "za") (by fail "za") (by fail "za") ?_
    | with_reducible refine evd_meth0X (ks := []) (by fail "za") (by fail "za") ?_)
  | ((with_reducible show EvD _ _ _ (.Call (.Name _ _) (_ :: _) [_] _) _ _ _); first | with_reducible refine evd_callK (ks := [_]) (by fail "za") (by fail "za") (by fail "za") ?_ | with_reducible refine evd_mkX (ks := [_]) (by fail "za") (by fail "za") (by fail "za") (by fail "za") (by fail "za") ?_)
  | ((with_reducible show EvD _ _ _ (.Call (.Name _ _) [] [] _) _ _ _); first
    | with_reducible refine evd_call0 (by fail "za") (by fail "za") (by fail "za") ?_
    | with_reducible refine evd_callP0 (by fail "za") (by fail "za") (by fail "za") ?_))
local macro_rules | `(tactic| fail "zev") => `(tactic| first
  | ((with_reducible show EvD _ _ _ (.Name _ _) _ _ _); first
    | with_reducible refine evd_name (by fail "za") (by fail "zn") ?_
    | with_reducible refine evd_glob (by fail "za") (by fail "za") ?_
    | with_reducible refine evd_gint (by fail "za") (by fail "za") ?_
    | with_reducible refine evd_gstr (by fail "za") (by fail "za") ?_
    | ((with_reducible show EvD _ _ _ (.Name "int" _) _ _ _); with_reducible refine evd_ty (by fail "za") (Bn.int (by fail "za")) ?_)
    | ((with_reducible show EvD _ _ _ (.Name "bool" _) _ _ _); with_reducible refine evd_ty (by fail "za") (Bn.bool (by fail "za")) ?_)
    | ((with_reducible show EvD _ _ _ (.Name "tuple" _) _ _ _); with_reducible refine evd_ty (by fail "za") (Bn.tuple (by fail "za")) ?_)
    | ((with_reducible show EvD _ _ _ (.Name "list" _) _ _ _); with_reducible refine evd_ty (by fail "za") (Bn.list (by fail "za")) ?_)
    | ((with_reducible show EvD _ _ _ (.Name "dict" _) _ _ _); with_reducible refine evd_ty (by fail "za") (Bn.dict (by fail "za")) ?_)
    | ((with_reducible show EvD _ _ _ (.Name "str" _) _ _ _); with_reducible refine evd_ty (by fail "za") (Bn.str (by fail "za")) ?_))
  | with_reducible refine evd_int ?_
  | with_reducible refine evd_str ?_
  | with_reducible refine evd_bl ?_
  | with_reducible refine evd_non ?_
  | ((with_reducible show EvD _ _ _ (.BinOp _ _ _ _) _ _ _); with_reducible refine evd_op ?_)
  | ((with_reducible show EvD _ _ _ (.JoinedStr (_ :: _ :: _) _) _ _ _); with_reducible refine evd_joined ?_)
  | ((with_reducible show EvD _ _ _ (.JoinedStr [_] _) _ _ _); with_reducible refine evd_joined1 ?_)
  | ((with_reducible show EvD _ _ _ (.FormattedValue _ _ _ _) _ _ _); refine evd_fmt ?_)
  | ((with_reducible show EvD _ _ _ (.Compare _ [_] [_] _) _ _ _); with_reducible refine evd_cmp ?_)
  | ((with_reducible show EvD _ _ _ (.Compare _ [_, _] [_, _] _) _ _ _); with_reducible refine evd_chain ?_)
  | ((with_reducible show EvD _ _ _ (.Call _ _ _ _) _ _ _); fail "zcall")
  | ((with_reducible show EvD _ _ _ (.Subscript _ (.Slice none none (some _) _) _) _ _ _); with_reducible refine evd_revL ?_)
  | ((with_reducible show EvD _ _ _ (.Subscript _ (.Slice _ _ none _) _) _ _ _); with_reducible refine evd_slice ?_)
  | ((with_reducible show EvD _ _ _ (.Subscript (.Name _ _) _ _) _ _ _); first | with_reducible refine evd_ixOwnK (by fail "za") (by fail "za") (by fail "zn") ?_ | with_reducible refine evd_ixOwn (by fail "za") (by fail "zn") ?_ | with_reducible refine evd_ix ?_)
  | ((with_reducible show EvD _ _ _ (.Subscript _ _ _) _ _ _); with_reducible refine evd_ix ?_)
  | ((with_reducible show EvD _ _ _ (.Attribute _ _ _) _ _ _); first
    | with_reducible refine evd_xfB (by fail "za") (by fail "za") (by fail "za") ?_
    | with_reducible refine evd_attrB (by fail "za") (by fail "zn") (by fail "zs") ?_
    | with_reducible refine evd_attr (by fail "za") (by fail "za") ?_)
  | ((with_reducible show EvD _ _ _ (.Tuple _ _ _) _ _ _); with_reducible refine evd_tuple ?_)
  | ((with_reducible show EvD _ _ _ (.List _ _) _ _ _); with_reducible refine evd_list ?_)
  | ((with_reducible show EvD _ _ _ (.Dict [_] [_] _) _ _ _); with_reducible refine evn_d (evn_disp1 ?_))
  | ((with_reducible show EvD _ _ _ (.Dict [_, _] [_, _] _) _ _ _); with_reducible refine evn_d (evn_disp2 ?_))
  | ((with_reducible show EvD _ _ _ (.Dict [] [] _) _ _ _); with_reducible refine evn_d (evn_dict0 ?_))
  | ((with_reducible show EvD _ _ _ (.UnaryOp _ _ _) _ _ _); first | ((with_reducible show EvD _ _ _ (.UnaryOp .Not _ _) _ _ _); with_reducible refine evd_notV ?_) | with_reducible refine evd_un ?_)
  | ((with_reducible show EvD _ _ _ (.IfExp _ _ _ _) _ _ _); with_reducible refine evd_if ?_)
  | ((with_reducible show EvD _ _ _ (.BoolOp _ _ _) _ _ _); first | with_reducible refine evd_and1 ?_ | with_reducible refine evd_and ?_ | with_reducible refine evd_or ?_))
local macro_rules | `(tactic| fail "zcd") => `(tactic| with_reducible first
  | refine cd_int ?_
  | with_reducible refine cd_intB ?_
  | with_reducible refine cd_lenS (by fail "za") ?_
  | with_reducible refine cd_strI (by fail "za") ?_
  | with_reducible refine cd_lenK ?_
  | with_reducible refine cd_dictD ?_
  | with_reducible refine cd_lenQ ?_
  | with_reducible refine cd_tupQ ?_
  | with_reducible refine cd_lstQ ?_
  | with_reducible refine cd_lenL ?_
  | with_reducible refine cd_lenT ?_
  | with_reducible refine cd_tupL ?_
  | with_reducible refine cd_tupT ?_
  | with_reducible refine cd_tupK ?_
  | with_reducible refine cd_lstL ?_
  | with_reducible refine cd_lstT ?_
  | with_reducible refine cd_abs ?_)
local macro_rules | `(tactic| fail "zcd2") => `(tactic| first
  | ((with_reducible show CallD _ _ _ (.builtin "max") [.int _, .int _] _ _); with_reducible refine cd_max2 ?_)
  | ((with_reducible show CallD _ _ _ (.builtin "min") [.int _, .int _] _ _); with_reducible refine cd_min2 ?_))
local macro_rules | `(tactic| fail "zet") => `(tactic| first
  | ((with_reducible show EvT _ _ _ (.Name _ _) _ _ _); with_reducible refine evt_nameB (by fail "za") (by fail "zn") (by fail "zs") ?_)
  | ((with_reducible show EvT _ _ _ (.Compare (.Name _ _) [_] [_] _) _ _ _); first | with_reducible refine evt_cmpLB (by fail "za") (by fail "zn") (by fail "zs") ?_ | with_reducible refine evt_cmpLBK (by fail "za") (by fail "zn") (by fail "zs") ?_)
  | ((with_reducible show EvT _ _ _ (.Compare _ [_] [.Name _ _] _) _ _ _); first | with_reducible refine evt_cmpRB (by fail "za") (by fail "zn") (by fail "zs") ?_ | with_reducible refine evt_cmpRBK (by fail "za") (by fail "zn") (by fail "zs") ?_)
  | ((with_reducible show EvT _ _ _ (.Compare _ [_] [_] _) _ _ _); with_reducible refine evt_cmp ?_)
  | ((with_reducible show EvT _ _ _ (.Compare _ [_, _] [_, _] _) _ _ _); with_reducible refine evt_chainD ?_)
  | ((with_reducible show EvT _ _ _ (.UnaryOp .Not _ _) _ _ _); with_reducible refine evt_not ?_)
  | ((with_reducible show EvT _ _ _ (.BoolOp _ _ _) _ _ _); with_reducible refine evt_w ?_)
  | ((with_reducible show EvT _ _ _ _ _ _ _); with_reducible refine evt_tru ?_)
  | ((with_reducible show EvW _ _ _ _ _ _ _); first | with_reducible refine evw_and1 ?_ | with_reducible refine evw_or1 ?_ | with_reducible refine evw_and ?_ | with_reducible refine evw_or ?_))
local macro_rules | `(tactic| fail "zif") => `(tactic| first
  | ((with_reducible first | show if isNonD _ = true then _ else _ | show if (!isNonD _) = true then _ else _ | show if (!List.isEmpty _) = true then _ else _); first | with_reducible refine zeT (by with_unfolding_all rfl) ?_ | with_reducible refine zeF (by with_unfolding_all rfl) ?_)
  | with_reducible refine zt ?_
  | with_reducible refine zf ?_
  | with_reducible refine zntt ?_
  | with_reducible refine znff ?_
  | with_reducible refine zdqT (by fail "zpl") ?_
  | with_reducible refine zdqF (by fail "zpl") ?_
  | with_reducible refine zifT (by fail "zo") ?_
  | with_reducible refine zifF (by fail "zo") ?_
  | with_reducible refine zifnT (by fail "zo") ?_
  | with_reducible refine zifnF (by fail "zo") ?_)
local macro_rules | `(tactic| fail "zi") => `(tactic| (repeat (first | with_reducible exact IdxAt.here | with_reducible apply IdxAt.there)))
local macro_rules | `(tactic| fail "zsz") => `(tactic| with_unfolding_all first | (with_reducible assumption) | exact Nat.lt_of_lt_of_le (by simp only [List.length_append, List.length_cons, List.length_nil, List.length_map, List.length_take, List.length_drop, List.length_reverse]; omega) OZ.big_size | exact Nat.le_trans (by simp only [List.length_append, List.length_cons, List.length_nil, List.length_map, List.length_take, List.length_drop, List.length_reverse]; omega) OZ.big_size)
local macro_rules | `(tactic| fail "ztg") => `(tactic| with_reducible first
  | refine Tg.name (by fail "zs") (by with_unfolding_all first | exact Or.inl rfl | exact Or.inr rfl) (by with_unfolding_all first | exact Or.inl rfl | exact Or.inr rfl)
  | refine Tg.two (by fail "ztg") (by fail "ztg")
  | refine Tg.three (by fail "ztg") (by fail "ztg") (by fail "ztg"))
local macro_rules | `(tactic| fail "zst") => `(tactic| first
  | ((with_reducible first | show St1 _ _ _ (.Assign [.Tuple [.Name _ _, .Name _ _] _ _] _ _) _ _ _ | show St1 _ _ _ (.Assign [.Tuple [.Name _ _, .Name _ _, .Name _ _] _ _] _ _) _ _ _); with_reducible refine st1_tgt (by fail "za") ?_)
  | ((with_reducible show St1 _ _ _ (.Assign [.Subscript (.Name _ _) _ _] _ _) _ _ _); first | with_reducible refine st1_setIx (by fail "za") (by fail "zn") ?_ | with_reducible refine st1_setIxK (by fail "za") (by fail "za") (by fail "zn") (by fail "zsz") ?_)
  | ((with_reducible show St1 _ _ _ (.Assign [.Name _ _] (.Call (.Attribute (.Name _ _) "pop" _) [_] [] _) _) _ _ _); first | with_reducible refine st1_setOwn (by fail "za") (by fail "zn") oc_dpop tym_dctM (by fail "zi") ?_ | with_reducible refine st1_setOwn (by fail "za") (by fail "zn") oc_popAt tym_lst (by fail "zi") ?_)
  | ((with_reducible show St1 _ _ _ (.Expr (.Call (.Attribute (.Name _ _) "pop" _) [_] [] _) _) _ _ _); first | with_reducible refine st1_own (by fail "za") (by fail "zn") oc_dpop tym_dctM ?_ | with_reducible refine st1_own (by fail "za") (by fail "zn") oc_popAt tym_lst ?_)
  | ((with_reducible show St1 _ _ _ (.Assign [.Name _ _] (.Dict [] [] _) _) _ _ _); with_reducible refine st1_setNewH (by fail "za") (by fail "za") (by fail "zi") (evn_dict0 ?_))
  | ((with_reducible show St1 _ _ _ (.Assign [.Name _ _] (.Call (.Name "dict" _) [_] [] _) _) _ _ _); with_reducible refine st1_setNewH (by fail "za") (by fail "za") (by fail "zi") (evn_callTy (by fail "za") (Bn.dict (by fail "za")) ?_))
  | ((with_reducible show St1 _ _ _ (.Assign [.Name _ _] (.Call (.Name "list" _) [_] [] _) _) _ _ _); with_reducible refine st1_setNewH (by fail "za") (by fail "za") (by fail "zi") (evn_callTy (by fail "za") (Bn.list (by fail "za")) ?_))
  | ((with_reducible show St1 _ _ _ (.For (.Tuple _ _ _) (.Call (.Name "enumerate" _) [_] [] _) _ [] _) _ _ _); with_reducible refine st1_for (by fail "za") (iter_enumE (by fail "za") (Bn.enumerate (by fail "za")) ?_))
  | ((with_reducible show St1 _ _ _ (.For (.Tuple _ _ _) (.Call (.Name "enumerate" _) [_, _] [] _) _ [] _) _ _ _); with_reducible refine st1_for (by fail "za") (iter_enumF (by fail "za") (Bn.enumerate (by fail "za")) ?_))
  | ((with_reducible show St1 _ _ _ (.For (.Tuple _ _ _) (.Call (.Name "zip" _) [_, _] [] _) _ [] _) _ _ _); with_reducible refine st1_for (by fail "za") (iter_zipE (by fail "za") (Bn.zip (by fail "za")) ?_))
  | ((with_reducible show St1 _ _ _ (.For (.Tuple _ _ _) (.Call (.Attribute _ "items" _) [] [] _) _ [] _) _ _ _); with_reducible refine st1_for (by fail "za") (iter_items ?_))
  | ((with_reducible show St1 _ _ _ (.Assign [.Name _ _] (.BinOp _ .Mult _ _) _) _ _ _); with_reducible refine st1_setNewH (by fail "za") (by fail "za") (by fail "zi") (evn_rep ?_))
  | ((with_reducible show St1 _ _ _ (.Assign [.Name _ _] (.BinOp _ .Add _ _) _) _ _ _); with_reducible refine st1_setNewH (by fail "za") (by fail "za") (by fail "zi") (evn_cat ?_))
  | ((with_reducible show St1 _ _ _ (.Assign [.Name _ _] (.Call (.Name _ _) (_ :: _) [] _) _) _ _ _); first | with_reducible refine st1_setNewH (by fail "za") (by fail "za") (by fail "zi") (evn_call (by fail "za") (by fail "za") (by fail "za") ?_) | with_reducible refine st1_setNewH (by fail "za") (by fail "za") (by fail "zi") (evn_callP (by fail "za") (by fail "za") (by fail "za") ?_))
  | ((with_reducible show St1 _ _ _ (.Assign [.Name _ _] (.List _ _) _) _ _ _); with_reducible refine st1_setNewH (by fail "za") (by fail "za") (by fail "zi") (evn_list ?_))
  | ((with_reducible show St1 _ _ _ (.Expr (.Call (.Attribute (.Name _ _) "append" _) [_] [] _) _) _ _ _); with_reducible refine st1_own (by fail "za") (by fail "zn") oc_append tym_lst ?_)
  | ((with_reducible show St1 _ _ _ (.For _ (.Name _ _) _ [] _) _ _ _); with_reducible refine st1_for (by fail "za") (iter_seq ?_))
  | ((with_reducible show St1 _ _ _ (.For _ (.Subscript _ _ _) _ [] _) _ _ _); with_reducible refine st1_for (by fail "za") (iter_seq ?_))
  | ((with_reducible show St1 _ _ _ (.For _ (.Attribute _ _ _) _ [] _) _ _ _); with_reducible refine st1_for (by fail "za") (iter_seq ?_))
  | ((with_reducible show St1 _ _ _ (.For _ (.Call (.Name "range" _) [_] [] _) _ [] _) _ _ _); with_reducible refine st1_for (by fail "za") (iter_range (by fail "za") (Bn.range (by fail "za")) ?_))
  | ((with_reducible show St1 _ _ _ (.For _ (.Call (.Name "range" _) [_, _] [] _) _ [] _) _ _ _); with_reducible refine st1_for (by fail "za") (iter_range2 (by fail "za") (Bn.range (by fail "za")) ?_))
  | ((with_reducible show St1 _ _ _ (.For _ (.Call (.Name _ _) _ _ _) _ [] _) _ _ _); with_reducible refine st1_for (by fail "za") (iter_seq ?_))
  | ((with_reducible show St1 _ _ _ (.Assign _ _ _) _ _ _); with_reducible refine st1_set (by fail "za") ?_)
  | ((with_reducible show St1 _ _ _ (.If _ _ _ _) _ _ _); with_reducible refine st1_if ?_)
  | ((with_reducible show St1 _ _ _ (.Return _ _) _ _ _); first | with_reducible refine st1_ret ?_ | with_reducible refine st1_retN ?_)
  | ((with_reducible show St1 _ _ _ (.Expr _ _) _ _ _); with_reducible refine st1_expr ?_)
  | ((with_reducible show St1 _ _ _ (.Pass _) _ _ _); with_reducible refine st1_pass ?_)
  | ((with_reducible show St1 _ _ _ (.Raise _ _ _) _ _ _); with_reducible refine st1_raise (by fail "za") (by fail "za") (by fail "za") ?_)
  | ((with_reducible show StD _ _ _ [] _ _ _); first | (with_reducible refine std_pubH (by fail "za") (by with_unfolding_all rfl) ?_; dsimp only [List.set_cons_succ, List.set_cons_zero]) | with_reducible refine std_nil ?_)
  | ((with_reducible show StD _ _ _ _ _ _ _); first | with_reducible refine std_cons ?_ | refine std_cons ?_))
local macro_rules | `(tactic| fail "z1") => `(tactic| first
  | ((with_reducible first | show StD _ _ _ _ (List.set _ _ _) _ _ | show EvD _ _ _ _ (List.set _ _ _) _ _ | show EvT _ _ _ _ (List.set _ _ _) _ _); dsimp only [List.set_cons_succ, List.set_cons_zero])
  | fail "zev"
  | ((with_reducible show OpD _ _ _ _ _ _ _ _); fail "zop")
  | ((with_reducible show CallDN _ _ _ _ _ _ _); first | with_reducible refine cdn_dictD ?_ | with_reducible refine cdn_listL ?_ | with_reducible refine cdn_listT ?_)
  | ((with_reducible show UnD _ _ _ _ _ _ _); first | with_reducible refine und_neg ?_ | with_reducible refine und_negO (by fail "za") (by fail "za") (by fail "za") ?_)
  | ((with_reducible first | show IxD _ _ _ (.tup _) (.int (OfNat.ofNat _)) _ _ | show IxD _ _ _ (.tup _) (.int (-(OfNat.ofNat _))) _ _); with_reducible refine ixd_tup (by with_unfolding_all rfl) ?_)
  | ((with_reducible first | show IxD _ _ _ (.lst _) (.int (OfNat.ofNat _)) _ _ | show IxD _ _ _ (.lst _) (.int (-(OfNat.ofNat _))) _ _); with_reducible refine ixd_lst (by with_unfolding_all rfl) ?_)
  | ((with_reducible show JnD _ _ _ _ _ _ _ _); first | with_reducible refine jn_nil ?_ | with_reducible refine jn_cons ?_)
  | ((with_reducible show FmtD _ _ _ (.str _) _ _); with_reducible refine fmt_str (by fail "za") ?_)
  | ((with_reducible show FmtD _ _ _ (.int _) _ _); with_reducible refine fmt_int (by fail "za") ?_)
  | ((with_reducible show FmtD _ _ _ (.obj _ _) _ _); with_reducible refine fmt_obj (by fail "za") (by fail "za") (by fail "za") (by fail "za") ?_)
  | with_reducible refine key_str ?_
  | with_reducible refine key_int ?_
  | with_reducible refine enud_sqd ?_
  | with_reducible refine seqd_sqd ?_
  | with_reducible refine enud_lst ?_
  | with_reducible refine enud_tup ?_
  | with_reducible refine seqd_lst ?_
  | with_reducible refine seqd_tup ?_
  | with_reducible refine seqd_str ?_
  | with_reducible refine seqd_dct ?_
  | with_reducible refine evp_none ?_
  | with_reducible refine evp_some ?_
  | ((with_reducible show EvA _ _ _ [] _ _ _); with_reducible refine eva_nil ?_)
  | ((with_reducible show EvK _ _ _ [] _ _ _); with_reducible refine evk_nil ?_)
  | ((with_reducible show EvK _ _ _ _ _ _ _); with_reducible refine evk_cons ?_)
  | ((with_reducible show EvA _ _ _ _ _ _ _); with_reducible refine eva_cons ?_)
  | fail "zet"
  | fail "zst"
  | ((with_reducible show CallD _ _ _ (.ref _) _ _ _); with_reducible refine calld_make (by fail "za") (by fail "za") (by fail "za") (by with_unfolding_all rfl) ?_)
  | ((with_reducible show CallD _ _ _ (.builtin "isinstance") [_, _] _ _); with_reducible refine cd_isi (by fail "za") (by fail "zty") (by fail "zcls") (by fail "za") ?_)
  | ((with_reducible show CallD _ _ _ (.builtin "len") [.obj _ _] _ _); with_reducible refine cd_lenO (by fail "za") (by fail "za") (by fail "za") ?_)
  | ((with_reducible show CallD _ _ _ _ _ _ _); first | fail "zcd" | fail "zcd2")
  | ((with_reducible show ∃ sl' is, Tg _ _ _ _ _ _ sl' is ∧ _); with_reducible refine ⟨_, _, by fail "ztg", ?_⟩)
  | ((with_reducible show ∃ res d1, OwnR _ rAppend _ _ res d1 ∧ _); with_reducible refine ⟨_, _, own_append (by fail "zsz"), ?_⟩)
  | (with_reducible refine ⟨_, _, by fail "zs", ?_⟩)
  | (with_reducible refine ⟨_, rfl, rfl, ?_⟩)
  | ((with_reducible show AttrD _ _ _ _ _ _ _); first
    | with_reducible refine AttrD.prop (by fail "za") (by with_unfolding_all decide) ?_
    | with_reducible refine AttrD.propP (by fail "za") (by with_unfolding_all decide) ?_
    | with_reducible refine AttrD.con (by fail "za") (by fail "za") (by with_unfolding_all rfl) ?_
    | with_reducible refine AttrD.cls (by fail "za") ?_
    | with_reducible refine AttrD.fld (by fail "za") (by fail "za") (by with_unfolding_all rfl) ?_)
  | ((with_reducible show MethN _ _ _ _ _ _ _ _ _ _); first
    | with_reducible refine MethN.mk (by fail "za") (by with_unfolding_all decide) (by with_unfolding_all rfl) ?_
    | with_reducible refine MethN.pure (by fail "za") (by with_unfolding_all decide) (by with_unfolding_all rfl) ?_
    | with_reducible refine MethN.fld (by fail "za") (by fail "za") (by with_unfolding_all rfl) (by fail "za") (by with_unfolding_all decide) ?_
    | with_reducible refine MethN.fldP (by fail "za") (by fail "za") (by with_unfolding_all rfl) (by fail "za") (by with_unfolding_all decide) ?_)
  | ((with_reducible show MethD _ _ _ _ _ _ _ _ _ _ _); first
    | with_reducible refine MethD.mk (by fail "za") (by with_unfolding_all decide) (by with_unfolding_all rfl) ?_
    | with_reducible refine MethD.pure (by fail "za") (by with_unfolding_all decide) (by with_unfolding_all rfl) ?_)
  | ((with_reducible show ∃ fs v, Da.exc _ _ _ = _ ∧ _); with_reducible refine ⟨_, _, (by with_unfolding_all rfl), (by with_unfolding_all rfl), ?_⟩)
  | ((with_reducible show ∃ C fs v, _ = Da.obj C fs ∧ _); with_reducible refine ⟨_, _, _, (by with_unfolding_all rfl), by fail "za", by fail "za", (by with_unfolding_all rfl), ?_⟩)
  | fail "zif"
  | with_reducible refine tru_bl ?_
  | with_reducible refine tru_int ?_
  | with_reducible refine tru_non ?_
  | with_reducible refine tru_lst ?_
  | with_reducible refine tru_tup ?_
  | (with_reducible refine ⟨_, rfl, ?_⟩)
  | ((with_reducible show _ ≤ sizeLine ∧ _); with_reducible refine And.intro (Nat.le_of_ble_eq_true (by with_unfolding_all rfl)) ?_)
  | ((with_reducible show flD _ = true ∧ _); refine And.intro (by with_unfolding_all rfl) ?_)
  | (with_reducible refine And.intro rfl ?_)
  | (with_reducible refine And.intro (by fail "zo") ?_))
local macro_rules | `(tactic| fail "go") => `(tactic| (repeat fail "z1"))
local macro_rules | `(tactic| fail "zj") => `(tactic| first | omega | exact ⟨_, rfl, by omega⟩ | exact ⟨_, _, rfl, by omega⟩ | exact ⟨_, _, _, rfl, by omega⟩ | exact ⟨_, _, _, _, rfl, by omega⟩)
local macro_rules | `(tactic| extract_lets $a:ident $b:ident $c:ident) => `(tactic| (fail "go"; (first | refine OS.FDraw.use (by omega) (by omega) (by omega) fun $a $b $c => ?_ | refine OS.FTake.use (by omega) (by omega) (by omega) fun $a $b $c => ?_); fail "go"))
-- END MACROS

namespace OS
open PySem L2 PySem.Spec PyProof.Rows
/-! ### texts in their order -/
theorem ltc_irr : ∀ a : List Nat, ltCps a a = false
  | [] => rfl
  | a :: r => by simp [ltCps, ltc_irr r]
theorem ltc_trans : ∀ {a b c : List Nat}, ltCps a b = true → ltCps b c = true → ltCps a c = true
  | [], [], _, h, _ => by simp [ltCps] at h
  | [], _ :: _, [], _, h => by simp [ltCps] at h
  | [], _ :: _, _ :: _, _, _ => rfl
  | _ :: _, [], _, h, _ => by simp [ltCps] at h
  | _ :: _, _ :: _, [], _, h => by simp [ltCps] at h
  | a :: r, b :: s, c :: t, h1, h2 => by
    simp only [ltCps, Bool.or_eq_true, decide_eq_true_eq, Bool.and_eq_true, beq_iff_eq] at h1 h2 ⊢
    rcases h1 with h1 | ⟨h1, h1'⟩ <;> rcases h2 with h2 | ⟨h2, h2'⟩
    · left; omega
    · left; omega
    · left; omega
    · right; exact ⟨by omega, ltc_trans h1' h2'⟩
theorem ltc_tot : ∀ a b : List Nat, a ≠ b → ltCps a b = true ∨ ltCps b a = true
  | [], [], h => absurd rfl h
  | [], _ :: _, _ => .inl rfl
  | _ :: _, [], _ => .inr rfl
  | a :: r, b :: t, h => by
    simp only [ltCps, Bool.or_eq_true, decide_eq_true_eq, Bool.and_eq_true, beq_iff_eq]
    rcases Nat.lt_trichotomy a b with q | q | q
    · exact .inl (.inl q)
    · subst q
      rcases ltc_tot r t (fun e => h (by rw [e])) with z | z
      · exact .inl (.inr ⟨rfl, z⟩)
      · exact .inr (.inr ⟨rfl, z⟩)
    · exact .inr (.inl q)
def Lt (a b : Str) : Prop := ltCps a.cps.toList b.cps.toList = true
theorem Lt.irr {a : Str} : ¬ Lt a a := fun h => by
  unfold Lt at h
  rw [ltc_irr] at h
  cases h
theorem Lt.trans {a b c : Str} (h : Lt a b) (k : Lt b c) : Lt a c := ltc_trans h k
theorem Str.ext_list {a b : Str} (h : a.cps.toList = b.cps.toList) : a = b := by
  cases a with | mk x => cases b with | mk y =>
    have : x = y := by rw [← Array.toArray_toList (xs := x), ← Array.toArray_toList (xs := y)]; exact congrArg List.toArray h
    rw [this]
theorem Lt.tot {a b : Str} (h : a ≠ b) : Lt a b ∨ Lt b a := ltc_tot _ _ fun e => h (Str.ext_list e)
/-- strictly rising -/
def Asc (l : List Str) : Prop := l.Pairwise Lt
theorem rising_asc : ∀ (l : List Str) (p : Str), risingS p l = true → (p :: l).Nodup → Asc (p :: l)
  | [], p, _, _ => List.pairwise_singleton _ _
  | x :: r, p, h, nd => by
    have h : (!ltCps x.cps.toList p.cps.toList && risingS x r) = true := h
    rw [Bool.and_eq_true] at h
    obtain ⟨h1, h2⟩ := h
    have nd2 : (x :: r).Nodup := (List.nodup_cons.mp nd).2
    have ih : Asc (x :: r) := rising_asc r x h2 nd2
    have hpx : Lt p x := by
      have hne : p ≠ x := fun e => (List.nodup_cons.mp nd).1 (by rw [e]; exact List.mem_cons_self)
      rcases Lt.tot hne with z | z
      · exact z
      · unfold Lt at z
        rw [z] at h1
        cases h1
    refine List.pairwise_cons.mpr ⟨fun y hy => ?_, ih⟩
    rcases List.mem_cons.mp hy with e | e
    · rw [e]; exact hpx
    · exact hpx.trans ((List.pairwise_cons.mp ih).1 y e)
theorem sorted_asc {l : List Str} (h : sortedS l = true) (nd : l.Nodup) : Asc l := by
  cases l with
  | nil => exact List.Pairwise.nil
  | cons x r => exact rising_asc r x h nd
theorem asc_unique : ∀ {l m : List Str}, Asc l → Asc m → (∀ x, x ∈ l ↔ x ∈ m) → l = m
  | [], [], _, _, _ => rfl
  | [], y :: m, _, _, h => absurd ((h y).mpr List.mem_cons_self) (by simp)
  | x :: l, [], _, _, h => absurd ((h x).mp List.mem_cons_self) (by simp)
  | x :: l, y :: m, hl, hm, h => by
    obtain ⟨l1, l2⟩ := List.pairwise_cons.mp hl
    obtain ⟨m1, m2⟩ := List.pairwise_cons.mp hm
    have e : x = y := by
      rcases List.mem_cons.mp ((h x).mp List.mem_cons_self) with e | e
      · exact e
      · rcases List.mem_cons.mp ((h y).mpr List.mem_cons_self) with f | f
        · exact f.symm
        · exact absurd ((m1 x e).trans (l1 y f)) Lt.irr
    subst e
    rw [asc_unique l2 m2 fun z => ?_]
    constructor
    · intro hz
      rcases List.mem_cons.mp ((h z).mp (List.mem_cons_of_mem _ hz)) with q | q
      · exact absurd (q ▸ l1 z hz) Lt.irr
      · exact q
    · intro hz
      rcases List.mem_cons.mp ((h z).mpr (List.mem_cons_of_mem _ hz)) with q | q
      · exact absurd (q ▸ m1 z hz) Lt.irr
      · exact q
/-! ### coefficients -/
abbrev Cf := List (Str × Int)
def lookO (kvs : Cf) (k : Str) : Option Int := (kvs.find? fun e => decide (e.1 = k)).map (·.2)
/-- the coefficient of a name, 0 where it is not there -/
def look (kvs : Cf) (k : Str) : Int := (lookO kvs k).getD 0
/-- as the pairs of a dict -/
def dk (kvs : Cf) : List (Key × V) := kvs.map fun e => (Sum.inr e.1, V.int e.2)
theorem lookO_cons (e : Str × Int) (r : Cf) (k : Str) : lookO (e :: r) k = if e.1 = k then some e.2 else lookO r k := by
  unfold lookO
  rw [List.find?_cons]
  by_cases h : e.1 = k <;> simp [h]
theorem valV_dk (k : Str) : ∀ kvs : Cf, valV (dk kvs) (Sum.inr k : Key) = (lookO kvs k).map V.int
  | [] => rfl
  | e :: r => by
    have ih := valV_dk k r
    rw [lookO_cons]
    by_cases h : e.1 = k
    · rw [if_pos h]
      show valV ((Sum.inr e.1, V.int e.2) :: dk r) _ = _
      rw [valV_pos (by rw [h])]
      rfl
    · rw [if_neg h]
      show valV ((Sum.inr e.1, V.int e.2) :: dk r) _ = _
      rw [valV_neg (fun q => h (Sum.inr.inj q))]
      exact ih
theorem lookO_mem : ∀ {kvs : Cf} {k : Str} {v : Int}, lookO kvs k = some v → (k, v) ∈ kvs
  | [], k, v, h => by cases h
  | e :: r, k, v, h => by
    rw [lookO_cons] at h
    by_cases q : e.1 = k
    · rw [if_pos q] at h
      cases h
      rw [← q]
      exact List.mem_cons_self
    · rw [if_neg q] at h
      exact List.mem_cons_of_mem _ (lookO_mem h)
theorem lookO_none : ∀ {kvs : Cf} {k : Str}, lookO kvs k = none ↔ k ∉ kvs.map (·.1)
  | [], k => by simp [lookO]
  | e :: r, k => by
    rw [lookO_cons, List.map_cons, List.mem_cons]
    by_cases q : e.1 = k
    · rw [if_pos q]
      constructor
      · intro h; cases h
      · intro h; exact absurd (Or.inl q.symm) h
    · rw [if_neg q, lookO_none]
      constructor
      · rintro h (z | z)
        · exact q z.symm
        · exact h z
      · intro h z; exact h (Or.inr z)
theorem lookO_of_mem : ∀ {kvs : Cf} {k : Str} {v : Int}, (kvs.map (·.1)).Nodup → (k, v) ∈ kvs → lookO kvs k = some v
  | [], k, v, _, h => by cases h
  | e :: r, k, v, nd, h => by
    rw [List.map_cons] at nd
    obtain ⟨n1, n2⟩ := List.nodup_cons.mp nd
    rw [lookO_cons]
    rcases List.mem_cons.mp h with q | q
    · rw [← q, if_pos rfl]
    · rw [if_neg (fun z => n1 (by rw [z]; exact List.mem_map.mpr ⟨_, q, rfl⟩)), lookO_of_mem n2 q]
theorem look_none {kvs : Cf} {k : Str} (h : k ∉ kvs.map (·.1)) : look kvs k = 0 := by
  unfold look
  rw [lookO_none.mpr h]
  rfl
theorem asc_nodup {l : List Str} (h : Asc l) : l.Nodup := List.Pairwise.imp (fun {a b} h e => by subst e; exact Lt.irr h) h
/-- the coefficients of a form: names strictly rising, none 0 -/
structure Can (cs : Cf) : Prop where
  asc : Asc (cs.map (·.1))
  nz : ∀ e ∈ cs, e.2 ≠ 0
theorem Can.nd {cs : Cf} (h : Can cs) : (cs.map (·.1)).Nodup := asc_nodup h.asc
theorem Can.mem_iff {cs : Cf} (h : Can cs) (k : Str) : k ∈ cs.map (·.1) ↔ look cs k ≠ 0 := by
  constructor
  · intro hk
    obtain ⟨e, he, rfl⟩ := List.mem_map.mp hk
    have : lookO cs e.1 = some e.2 := lookO_of_mem h.nd he
    unfold look
    rw [this]
    exact h.nz e he
  · intro hk
    cases Classical.em (k ∈ cs.map (·.1)) with
    | inl z => exact z
    | inr z => exact absurd (look_none z) hk
theorem Can.eq_map {cs : Cf} (h : Can cs) : cs = (cs.map (·.1)).map fun k => (k, look cs k) := by
  rw [List.map_map]
  conv => lhs; rw [← List.map_id cs]
  refine List.map_congr_left fun e he => ?_
  show e = (e.1, look cs e.1)
  unfold look
  rw [lookO_of_mem h.nd (k := e.1) (v := e.2) he]
  rfl
theorem Can.unique {cs ds : Cf} (h : Can cs) (k : Can ds) (e : ∀ x, look cs x = look ds x) : cs = ds := by
  have hm : cs.map (·.1) = ds.map (·.1) := asc_unique h.asc k.asc fun x => by rw [h.mem_iff, k.mem_iff, e]
  rw [h.eq_map, k.eq_map, hm]
  refine List.map_congr_left fun x _ => ?_
  rw [e]
/-- the names of ys whose coefficient is not 0 -/
def pick (g : Str → Int) (ys : List Str) : Cf := (ys.filter fun k => decide (g k ≠ 0)).map fun k => (k, g k)
theorem pick_names (g : Str → Int) (ys : List Str) : (pick g ys).map (·.1) = ys.filter fun k => decide (g k ≠ 0) := by
  unfold pick
  rw [List.map_map]
  exact List.map_id _
theorem pick_can {g : Str → Int} {ys : List Str} (h : Asc ys) : Can (pick g ys) := by
  refine ⟨?_, ?_⟩
  · rw [pick_names]
    exact List.Pairwise.filter _ h
  · intro e he
    unfold pick at he
    obtain ⟨k, hk, rfl⟩ := List.mem_map.mp he
    exact of_decide_eq_true (List.mem_filter.mp hk).2
theorem pick_look {g : Str → Int} {ys : List Str} (h : Asc ys) (hs : ∀ k, g k ≠ 0 → k ∈ ys) (k : Str) : look (pick g ys) k = g k := by
  cases Classical.em (g k = 0) with
  | inl z =>
    rw [z]
    refine look_none ?_
    rw [pick_names]
    intro m
    exact of_decide_eq_true (List.mem_filter.mp m).2 z
  | inr z =>
    have : lookO (pick g ys) k = some (g k) := lookO_of_mem (pick_can h).nd (List.mem_map.mpr ⟨k, List.mem_filter.mpr ⟨hs k z, decide_eq_true z⟩, rfl⟩)
    unfold look
    rw [this]
    rfl
theorem pick_snoc (g : Str → Int) (ys : List Str) (y : Str) : pick g (ys ++ [y]) = if g y ≠ 0 then pick g ys ++ [(y, g y)] else pick g ys := by
  unfold pick
  rw [List.filter_append]
  by_cases h : g y = 0
  · rw [if_neg (fun z => z h)]
    simp [h]
  · rw [if_pos h]
    simp [h]
theorem dk_snoc (cs : Cf) (k : Str) (v : Int) : dk (cs ++ [(k, v)]) = dk cs ++ [(Sum.inr k, V.int v)] := by
  unfold dk
  rw [List.map_append]
  rfl
theorem dk_put_new {cs : Cf} {k : Str} {v : Int} (h : k ∉ cs.map (·.1)) : putK (dk cs) (Sum.inr k : Key) (V.int v) = dk (cs ++ [(k, v)]) := by
  rw [putK_new _ (by rw [valV_dk, lookO_none.mpr h]; rfl), dk_snoc]
theorem dk_len (cs : Cf) : (dk cs).length = cs.length := List.length_map _
/-- d[k] = v -/
def putC (cs : Cf) (k : Str) (v : Int) : Cf := if k ∈ cs.map (·.1) then cs.map (fun e => if e.1 = k then (e.1, v) else e) else cs ++ [(k, v)]
theorem dk_put (cs : Cf) (k : Str) (v : Int) : putK (dk cs) (Sum.inr k : Key) (V.int v) = dk (putC cs k v) := by
  unfold putC
  by_cases h : k ∈ cs.map (·.1)
  · rw [if_pos h]
    unfold putK
    have ha : ((dk cs).any fun kv => decide (kv.1 = (Sum.inr k : Key))) = true := by
      obtain ⟨e, he, q⟩ := List.mem_map.mp h
      exact List.any_eq_true.mpr ⟨(Sum.inr e.1, V.int e.2), List.mem_map.mpr ⟨e, he, rfl⟩, decide_eq_true (by rw [← q])⟩
    rw [if_pos ha]
    unfold dk
    rw [List.map_map, List.map_map]
    refine List.map_congr_left fun e _ => ?_
    by_cases q : e.1 = k
    · simp [q]
    · have q' : ¬ (Sum.inr e.1 : Key) = Sum.inr k := fun z => q (Sum.inr.inj z)
      simp [q, q']
  · rw [if_neg h, dk_put_new h]
theorem putC_look (cs : Cf) (k : Str) (v : Int) (j : Str) : lookO (putC cs k v) j = if j = k then some v else lookO cs j := by
  have e1 := valV_dk j (putC cs k v)
  rw [← dk_put, valV_put, valV_dk] at e1
  by_cases h : j = k
  · rw [if_pos h]
    rw [if_pos (by rw [h])] at e1
    cases q : lookO (putC cs k v) j with
    | none => rw [q] at e1; cases e1
    | some z => rw [q] at e1; cases e1; rfl
  · rw [if_neg h]
    rw [if_neg (fun z => h (Sum.inr.inj z))] at e1
    cases q : lookO (putC cs k v) j with
    | none => rw [q] at e1; cases q2 : lookO cs j with
      | none => rfl
      | some z => rw [q2] at e1; cases e1
    | some z => rw [q] at e1; cases q2 : lookO cs j with
      | none => rw [q2] at e1; cases e1
      | some y => rw [q2] at e1; cases e1; rfl
theorem putC_names (cs : Cf) (k : Str) (v : Int) : (putC cs k v).map (·.1) = if k ∈ cs.map (·.1) then cs.map (·.1) else cs.map (·.1) ++ [k] := by
  unfold putC
  by_cases h : k ∈ cs.map (·.1)
  · rw [if_pos h, if_pos h, List.map_map]
    refine List.map_congr_left fun e _ => ?_
    show (if e.1 = k then (e.1, v) else e).1 = e.1
    split <;> rfl
  · rw [if_neg h, if_neg h, List.map_append]
    rfl
theorem putC_nd {cs : Cf} {k : Str} {v : Int} (h : (cs.map (·.1)).Nodup) : ((putC cs k v).map (·.1)).Nodup := by
  rw [putC_names]
  by_cases q : k ∈ cs.map (·.1)
  · rw [if_pos q]; exact h
  · rw [if_neg q]; exact nd_snoc h q
theorem putC_len (cs : Cf) (k : Str) (v : Int) : (putC cs k v).length ≤ cs.length + 1 := by
  have := congrArg List.length (putC_names cs k v)
  rw [List.length_map] at this
  rw [this]
  split
  · rw [List.length_map]; omega
  · rw [List.length_append, List.length_map]; exact Nat.le_refl _
theorem putC_mem {cs : Cf} {k : Str} {v : Int} {e : Str × Int} (h : e ∈ putC cs k v) : e = (k, v) ∨ e ∈ cs := by
  unfold putC at h
  by_cases q : k ∈ cs.map (·.1)
  · rw [if_pos q] at h
    obtain ⟨f, hf, rfl⟩ := List.mem_map.mp h
    by_cases z : f.1 = k
    · rw [if_pos z, z]; exact Or.inl rfl
    · rw [if_neg z]; exact Or.inr hf
  · rw [if_neg q] at h
    rcases List.mem_append.mp h with z | z
    · exact Or.inr z
    · exact Or.inl (List.mem_singleton.mp z)
end OS

namespace OS
open PySem L2
abbrev lowL : Str := "abcdefghijklmnopqrstuvwxyz"
abbrev digL : Str := "0123456789"
def chOk (c : Nat) : Bool := decide (c ∈ lowL.cps.toList) || decide (c ∈ digL.cps.toList)
/-- what a name is, over a text's signs -/
def good (z : Str) : Bool :=
  if z = "mod" then false else if z.cps.toList.length < 1 ∨ 6 < z.cps.toList.length then false
  else if z.cps.toList.headD 0 ∈ lowL.cps.toList then z.cps.toList.all chOk else false
theorem Str.len_list (z : Str) : z.length = z.cps.toList.length := by
  show z.cps.size = _
  rw [Array.length_toList]
end OS

namespace OS
open PySem L2 OZ
/-! ### names -/
def FValid : FD := fun ds KR _ m => ∃ z : Str, ds = [.str z] ∧ z.length ≤ 1000 ∧ KR (.bl (good z)) m
section
variable {B : Bd} {C CE f : Addr} {fd : FuncData}
theorem valid_ok {t1 t2 t3 t4 : Tok} (Fn : Fun B.K "valid_name" "valid_name" s_valid_name f fd) (hb : Binds B.K fd ["text"] []) (T : Bn B) (gM : B.mg "MOST_CHARACTERS" = some (.int 6 t1)) (gL : B.mg "LETTERS" = some (.str "abcdefghijklmnopqrstuvwxyz" t2)) (gD : B.mg "DIGITS" = some (.str "0123456789" t3)) (gR : B.mg "RESERVED" = some (.str "mod" t4)) : FnG pureM B 1 f 1 FValid := by
  refine fnG_ok Fn c_s_valid_name rfl hb ?_
  rintro X ds KR KE m ⟨cdv, A, outer, s, H, E, rfl⟩ cx hr hl ⟨z, rfl, hz, k⟩
  have hs : z.length ≤ sizeLine := Nat.le_trans hz (Nat.le_of_ble_eq_true rfl)
  have hln := Str.len_list z
  show StD _ _ _ _ [.v (.str z), .un] _ _
  fail "go"
  refine zif (fun e => ?_) fun e => ?_
  · fail "go"
    rwa [show good z = false by unfold good; rw [if_pos e]] at k
  fail "go"
  have kb : ¬ (1 ≤ z.length ∧ z.length ≤ 6) → KR (.bl false) m := fun h => by
    rwa [show good z = false by unfold good; rw [if_neg e, if_pos (by omega)]] at k
  refine zif (fun h1 => ?_) fun h1 => ?_
  rotate_left
  · fail "go"
    exact kb (by omega)
  fail "go"
  refine zifn (fun h2 => ?_) fun h2 => ?_
  · fail "go"
    exact kb (by omega)
  fail "go"
  obtain ⟨c0, l0, hl0⟩ : ∃ c0 l0, z.cps.toList = c0 :: l0 := by
    cases q : z.cps.toList with
    | nil => rw [q] at hln; simp at hln; omega
    | cons c l => exact ⟨c, l, rfl⟩
  refine ixd_str (c := c0) hs (atI_pos (by decide) (by rw [hl0]; rfl)) ?_
  have gd : good z = (if c0 ∈ lowL.cps.toList then z.cps.toList.all chOk else false) := by
    unfold good
    rw [if_neg e, if_neg (by omega), hl0]
    rfl
  rw [gd] at k
  fail "go"
  refine zifn (fun h3 => ?_) fun h3 => ?_
  · fail "go"
    rwa [if_neg h3] at k
  rw [if_pos h3] at k
  fail "go"
  refine evd_lc (own := [("character", 1)]) cx hr (.name (by fail "zi")) (.cons .nil (by fail "zs")) ?_
  refine iter_seq ?_
  fail "go"
  refine And.intro (by unfold chrsD; rw [List.length_map]; exact Nat.lt_of_le_of_lt (show z.cps.toList.length ≤ 1000 by omega) (Nat.le_of_ble_eq_true rfl)) ?_
  refine compd_mapL (fun c => Da.str ⟨#[c]⟩) (fun c => .bl (chOk c)) (by fail "zi") rfl (.head _) ?_ ?_
  · rintro c hc P kk s0 H0 C0 cl0 fp0 cx' hr'
    show EvD _ _ _ _ [.v (.str z), .v (.str ⟨#[c]⟩)] _ _
    fail "go"
    have kk : P (.bl (decide (c ∈ lowL.cps.toList) || decide (c ∈ digL.cps.toList))) m := kk
    refine zif (fun h => ?_) fun h => ?_
    · rwa [decide_eq_true h, Bool.true_or] at kk
    · rw [decide_eq_false h, Bool.false_or] at kk
      fail "go"
      exact kk
  fail "go"
  rw [show (z.cps.toList.map fun c => Da.bl (chOk c)) = (z.cps.toList.map chOk).map Da.bl by rw [List.map_map]; rfl]
  refine cd_all ?_
  rw [List.all_map]
  exact k
end
end OS

namespace OS
open PySem L2 OZ
/-! ### forms -/
def dcC (cs : Cf) : List (Key × Da) := cs.map fun e => ((Sum.inr e.1 : Key), Da.int e.2)
abbrev formD (C : Addr) (cs : Cf) (c : Int) : Da := .obj C [("_coefficients", .dct (dcC cs)), ("_constant", .int c)]
theorem dcC_look (k : Str) : ∀ cs : Cf, OZ.look (Sum.inr k : Key) (dcC cs) = (lookO cs k).map Da.int
  | [] => rfl
  | e :: r => by
    have ih := dcC_look k r
    rw [lookO_cons]
    by_cases h : e.1 = k
    · rw [if_pos h]
      subst h
      show (if (Sum.inr e.1 : Key) = Sum.inr e.1 then some (Da.int e.2) else OZ.look (Sum.inr e.1 : Key) (dcC r)) = _
      rw [if_pos rfl]
      rfl
    · rw [if_neg h, ← ih]
      show (if (Sum.inr e.1 : Key) = Sum.inr k then some (Da.int e.2) else OZ.look (Sum.inr k : Key) (dcC r)) = _
      rw [if_neg (fun q => h (Sum.inr.inj q))]
theorem dcC_keys (cs : Cf) : (dcC cs).map (·.1) = (cs.map (·.1)).map Sum.inr := by
  unfold dcC
  rw [List.map_map, List.map_map]
  rfl
theorem dcC_keysD (cs : Cf) : keysD (dcC cs) = (cs.map (·.1)).map Da.str := by
  unfold keysD dcC
  rw [List.map_map, List.map_map]
  rfl
theorem dcC_items (cs : Cf) : itemsD (dcC cs) = cs.map fun e => .tup [.str e.1, .int e.2] := by
  unfold itemsD dcC
  rw [List.map_map]
  rfl
theorem dcC_vals (cs : Cf) : valsD (dcC cs) = (cs.map (·.2)).map Da.int := by
  unfold valsD dcC
  rw [List.map_map, List.map_map]
  rfl
theorem dcC_any (k : Str) : ∀ cs : Cf, ((dcC cs).any fun kv => decide (kv.1 = (Sum.inr k : Key))) = decide (k ∈ cs.map (·.1))
  | [] => by simp [dcC]
  | e :: r => by
    have ih := dcC_any k r
    show (decide ((Sum.inr e.1 : Key) = Sum.inr k) || (dcC r).any fun kv => decide (kv.1 = (Sum.inr k : Key))) = _
    rw [ih, List.map_cons, Bool.eq_iff_iff, Bool.or_eq_true, decide_eq_true_eq, decide_eq_true_eq, decide_eq_true_eq, List.mem_cons]
    exact or_congr ⟨fun h => (Sum.inr.inj h).symm, fun h => congrArg Sum.inr h.symm⟩ Iff.rfl
theorem dcC_put (cs : Cf) (k : Str) (v : Int) : putD (dcC cs) (Sum.inr k : Key) (.int v) = dcC (putC cs k v) := by
  unfold putD putC
  rw [dcC_any]
  by_cases h : k ∈ cs.map (·.1)
  · rw [if_pos (decide_eq_true h), if_pos h]
    unfold dcC
    rw [List.map_map, List.map_map]
    refine List.map_congr_left fun a ha => ?_
    show (if (Sum.inr a.1 : Key) = Sum.inr k then ((Sum.inr a.1 : Key), Da.int v) else (Sum.inr a.1, Da.int a.2)) = ((Sum.inr (if a.1 = k then (a.1, v) else a).1 : Key), Da.int (if a.1 = k then (a.1, v) else a).2)
    by_cases q : a.1 = k
    · rw [if_pos (congrArg Sum.inr q), if_pos q]
    · rw [if_neg (fun z => q (Sum.inr.inj z)), if_neg q]
  · rw [if_neg (by rw [decide_eq_false h]; exact Bool.false_ne_true), if_neg h]
    unfold dcC
    rw [List.map_append]
    rfl
theorem dcC_len (cs : Cf) : (dcC cs).length = cs.length := List.length_map _
theorem kcc : ¬ (("_coefficients" : Str) = "_constant") := by decide +kernel
theorem put_cf (x : Da) : putDa "_coefficients" x [] = ([("_coefficients", x)] : List (Str × Da)) := rfl
theorem put_ct (x y : Da) : putDa "_constant" y [("_coefficients", x)] = ([("_coefficients", x), ("_constant", y)] : List (Str × Da)) := by
  unfold putDa
  rw [if_neg kcc]
  rfl
/-- Form.__init__ -/
def FFInit (CB : Addr) : FI := fun ds KR KE m => ∃ (kvs : Cf) (c : Int), ds = [.dct (dcC kvs), .int c] ∧ (kvs.map (·.1)).Nodup ∧ kvs.length < 64 ∧ (∀ e ∈ kvs, e.1.length ≤ 1000) ∧
  ((∀ e ∈ kvs, good e.1 = true) → ∀ cs, Can cs → cs.length ≤ kvs.length → (∀ k, look cs k = look kvs k) → KR [("_coefficients", .dct (dcC cs)), ("_constant", .int c)] m) ∧
  (∀ (i : Nat) (e : Str × Int), kvs[i]? = some e → (∀ (j : Nat) (e' : Str × Int), j < i → kvs[j]? = some e' → good e'.1 = true) → good e.1 = false → KE CB [("name", .str e.1)] m)
theorem pick_len (g : Str → Int) (ys : List Str) : (pick g ys).length ≤ ys.length := by
  unfold pick
  rw [List.length_map]
  exact List.length_filter_le _ _
section
variable {B : Bd} {C CB f : Addr} {fd : FuncData}
theorem finit_ok (Fn : FunD B.K "__init__" "Form.__init__" (defArgs sForm_init) (defBody sForm_init) (defScope sForm_init) [.int 0] [] f fd) (T : Bn B) (cl : Cls B.K C) (nF : NoAttr B.K C "_coefficients") (nT : NoAttr B.K C "_constant") (U : ErrG B 1 "BadName" CB "name") (EV : CallG pureM B 1 "valid_name" 1 FValid) :
    FnOk B.P B.w B.K B.mg B.base (L2.CX B.P B.w) 3 f fd ["self", "coefficients", "constant"] (spI pureM B.K C 2 (FFInit CB)) := by
  refine fnID_ok Fn c_sForm_init rfl ?_
  rintro X ds KR KE m a ⟨cdv, A, outer, s, H, E, rfl⟩ cx hr hl ⟨kvs, c, rfl, nd, h64, hln, k1, k2⟩
  show StD _ _ _ _ [.mm (some a) (.obj C []), .v (.dct (dcC kvs)), .v (.int c), .un, .un] _ _
  fail "go"
  rw [dcC_keysD]
  refine for_inv cx (i := 3) (fun i sl' m' => ∃ s3, m' = m ∧ (∀ j e, j < i → kvs[j]? = some e → good e.1 = true) ∧ sl' = [.mm (some a) (.obj C []), .v (.dct (dcC kvs)), .v (.int c), s3, .un]) (by fail "zi") ⟨.un, rfl, fun j e h => absurd h (by omega), rfl⟩ (by rintro i sl m ⟨s3, _, _, rfl⟩; rfl) ?_ ?_
  · rintro i d sl m2 hi ⟨s3, rfl, hg, rfl⟩
    rw [List.map_map, List.getElem?_map] at hi
    obtain ⟨e, he, rfl⟩ : ∃ e, kvs[i]? = some e ∧ Da.str e.1 = d := by
      cases q : kvs[i]? with
      | none => rw [q] at hi; cases hi
      | some e => rw [q] at hi; cases hi; exact ⟨e, rfl, rfl⟩
    show StD _ _ _ _ [_, _, _, .v (.str e.1), _] _ _
    fail "go"
    refine ⟨e.1, rfl, hln e (List.mem_of_getElem? he), ?_⟩
    cases hge : good e.1 with
    | true =>
      fail "go"
      refine ⟨_, rfl, fun j e' hj hj' => ?_, rfl⟩
      by_cases q : j = i
      · subst q; rw [he] at hj'; cases hj'; exact hge
      · exact hg j e' (by omega) hj'
    | false =>
      fail "go"
      exact k2 i e he hg hge
  rintro sl m2 ⟨s3, rfl, hg, rfl⟩
  have hgood : ∀ e ∈ kvs, good e.1 = true := fun e he => by
    obtain ⟨j, hj, e2⟩ := List.mem_iff_getElem.mp he
    exact hg j e (by simpa using hj) (by rw [List.getElem?_eq_getElem hj, e2])
  have k1 := k1 hgood
  fail "go"
  refine cd_sortD (xs := kvs.map (·.1)) (dcC_keys kvs) (by rw [List.length_map]; exact h64) fun ys perm srt => ?_
  have ynd : ys.Nodup := perm.nodup_iff.mpr nd
  have yasc : Asc ys := sorted_asc srt ynd
  have ylen : ys.length = kvs.length := by rw [perm.length_eq, List.length_map]
  fail "go"
  refine st1_setF cx (by fail "zn") cl nF ?_
  refine evn_d ?_
  refine evn_dc (own := [("name", 3)]) cx hr (.name (by fail "zi")) (.cons .nil (by fail "zs")) ?_
  refine iter_seq ?_
  fail "go"
  refine And.intro (by rw [List.length_map, ylen]; exact Nat.lt_of_lt_of_le h64 (Nat.le_of_ble_eq_true rfl)) ?_
  have hlk : ∀ y ∈ ys, OZ.look (Sum.inr y : Key) (dcC kvs) = some (.int (look kvs y)) := fun y hy => by
    rw [dcC_look]
    have hm : y ∈ kvs.map (·.1) := perm.mem_iff.mp hy
    cases q : lookO kvs y with
    | none => exact absurd hm (lookO_none.mp q)
    | some v => unfold look; rw [q]; rfl
  refine compk_if (fun n acc m' => m' = m2 ∧ acc = dcC (pick (look kvs) (ys.take n))) (by fail "zi") rfl (.head _) ⟨rfl, rfl⟩ ?_ ?_
  · rintro n d acc m3 hd ⟨rfl, rfl⟩ s0 H0 C0 cl0 fp0 cx' hr'
    rw [List.getElem?_map] at hd
    obtain ⟨y, hy, rfl⟩ : ∃ y, ys[n]? = some y ∧ d = .str y := by
      cases q : ys[n]? with
      | none => rw [q] at hd; cases hd
      | some y => rw [q] at hd; cases hd; exact ⟨y, rfl, rfl⟩
    have hym := List.mem_of_getElem? hy
    have tk : ys.take (n + 1) = ys.take n ++ [y] := by rw [List.take_succ, hy]; rfl
    show EvT _ _ _ _ [.mm (some a) (.obj C []), .v (.dct (dcC kvs)), .v (.int c), .v (.str y), .v (.lst (ys.map Da.str))] _ _
    fail "go"
    refine ixd_dct (k := Sum.inr y) (by have := L2.Room.units hr'; omega) (hlk y hym) ?_
    fail "go"
    refine zifn (fun e => ?_) fun e => ?_
    · intro s1 H1 C1 cl1 fp1 cx1 hr1
      show EvD _ _ _ _ [.mm (some a) (.obj C []), .v (.dct (dcC kvs)), .v (.int c), .v (.str y), .v (.lst (ys.map Da.str))] _ _
      fail "go"
      intro s2 H2 C2 cl2 fp2 cx2 hr2
      show EvD _ _ _ _ [.mm (some a) (.obj C []), .v (.dct (dcC kvs)), .v (.int c), .v (.str y), .v (.lst (ys.map Da.str))] _ _
      fail "go"
      refine ixd_dct (k := Sum.inr y) (by have := L2.Room.units hr2; omega) (hlk y hym) ?_
      refine ⟨rfl, ?_⟩
      rw [tk, pick_snoc, if_pos e, dcC_put]
      have nin : y ∉ (pick (look kvs) (ys.take n)).map (·.1) := fun h => by
        rw [pick_names] at h
        have h1 := (List.mem_filter.mp h).1
        have : (ys.take n ++ [y]).Nodup := by rw [← tk]; exact ynd.sublist (List.take_sublist _ _)
        rw [List.nodup_append] at this
        exact this.2.2 y h1 y (by simp) rfl
      unfold putC
      rw [if_neg nin]
    · refine ⟨rfl, ?_⟩
      rw [tk, pick_snoc, if_neg (by simpa using e)]
  rintro r m3 ⟨rfl, rfl⟩
  rw [List.length_map, List.take_length]
  have hc : Can (pick (look kvs) ys) := pick_can yasc
  have hlk2 : ∀ k, look (pick (look kvs) ys) k = look kvs k := fun k => pick_look yasc (fun j hj => by
    refine perm.mem_iff.mpr ?_
    by_cases q : j ∈ kvs.map (·.1)
    · exact q
    · exact absurd (look_none q) hj) k
  fail "go"
  refine st1_setF cx (by fail "zn") cl nT ?_
  fail "go"
  rw [put_cf, put_ct]
  refine ⟨by simp, ?_⟩
  fail "go"
  exact k1 _ hc (by have := pick_len (look kvs) ys; omega) hlk2
end
end OS

namespace OS
open PySem L2
def mulC (cs : Cf) (k : Int) : Cf := cs.map fun e => (e.1, e.2 * k)
theorem mulC_names (cs : Cf) (k : Int) : (mulC cs k).map (·.1) = cs.map (·.1) := by
  unfold mulC
  rw [List.map_map]
  rfl
theorem mulC_look (k : Int) : ∀ (cs : Cf) (x : Str), look (mulC cs k) x = look cs x * k
  | [], x => by simp [look, lookO, mulC]
  | e :: r, x => by
    have ih := mulC_look k r x
    unfold look at ih ⊢
    show (lookO ((e.1, e.2 * k) :: mulC r k) x).getD 0 = _
    rw [lookO_cons, lookO_cons]
    by_cases h : e.1 = x
    · rw [if_pos h, if_pos h]; rfl
    · rw [if_neg h, if_neg h]; exact ih
def addC : Cf → Cf → Cf
  | cs, [] => cs
  | cs, e :: r => addC (putC cs e.1 (look cs e.1 + e.2)) r
theorem addC_snoc : ∀ (cs ds : Cf) (e : Str × Int), addC cs (ds ++ [e]) = putC (addC cs ds) e.1 (look (addC cs ds) e.1 + e.2)
  | cs, [], e => rfl
  | cs, x :: r, e => addC_snoc (putC cs x.1 (look cs x.1 + x.2)) r e
theorem addC_nd : ∀ {ds cs : Cf}, (cs.map (·.1)).Nodup → ((addC cs ds).map (·.1)).Nodup
  | [], _, h => h
  | e :: r, cs, h => addC_nd (ds := r) (cs := putC cs e.1 (look cs e.1 + e.2)) (putC_nd h)
theorem addC_len : ∀ (ds cs : Cf), (addC cs ds).length ≤ cs.length + ds.length
  | [], cs => Nat.le_refl _
  | e :: r, cs => by
    have h1 := addC_len r (putC cs e.1 (look cs e.1 + e.2))
    have h2 := putC_len cs e.1 (look cs e.1 + e.2)
    show (addC (putC cs e.1 (look cs e.1 + e.2)) r).length ≤ cs.length + (r.length + 1)
    omega
theorem addC_gd {P : Str → Prop} : ∀ {ds cs : Cf}, (∀ e ∈ cs, P e.1) → (∀ e ∈ ds, P e.1) → ∀ e ∈ addC cs ds, P e.1
  | [], _, h, _, e, he => h e he
  | x :: r, cs, h, k, e, he => addC_gd (ds := r) (fun y hy => by
      rcases putC_mem hy with q | q
      · rw [q]; exact k x List.mem_cons_self
      · exact h y q) (fun y hy => k y (List.mem_cons_of_mem _ hy)) e he
theorem putC_look2 (cs : Cf) (k : Str) (v : Int) (j : Str) : look (putC cs k v) j = if j = k then v else look cs j := by
  unfold look
  rw [putC_look]
  by_cases h : j = k
  · rw [if_pos h, if_pos h]; rfl
  · rw [if_neg h, if_neg h]
theorem addC_look : ∀ {ds : Cf} (cs : Cf), (ds.map (·.1)).Nodup → ∀ x, look (addC cs ds) x = look cs x + look ds x
  | [], cs, _, x => by
    have : look ([] : Cf) x = 0 := rfl
    rw [this, Int.add_zero]
    rfl
  | e :: r, cs, nd, x => by
    have nd' : (e.1 :: r.map (·.1)).Nodup := nd
    obtain ⟨h1, h2⟩ := List.nodup_cons.mp nd'
    show look (addC (putC cs e.1 (look cs e.1 + e.2)) r) x = _
    rw [addC_look _ h2, putC_look2]
    have e1 : look (e :: r) x = if e.1 = x then e.2 else look r x := by
      unfold look
      rw [lookO_cons]
      by_cases q : e.1 = x
      · rw [if_pos q, if_pos q]; rfl
      · rw [if_neg q, if_neg q]
    rw [e1]
    by_cases q : x = e.1
    · rw [if_pos q, if_pos q.symm, q, look_none h1]
      omega
    · rw [if_neg q, if_neg (fun z => q z.symm)]
def eqC : Cf → Cf → Bool
  | [], _ => true
  | e :: r, ds => match lookO ds e.1 with
    | none => false
    | some v => decide (e.2 = v) && eqC r ds
theorem nd_sub : ∀ {l m : List Str}, l.Nodup → (∀ x ∈ l, x ∈ m) → l.length ≤ m.length
  | [], _, _, _ => Nat.zero_le _
  | a :: l, m, nd, s => by
    obtain ⟨h1, h2⟩ := List.nodup_cons.mp nd
    have ha := s a List.mem_cons_self
    have ih := nd_sub (l := l) (m := m.erase a) h2 fun x hx => (List.mem_erase_of_ne (fun e => h1 (by rw [← e]; exact hx))).mpr (s x (List.mem_cons_of_mem _ hx))
    rw [List.length_erase_of_mem ha] at ih
    have : 0 < m.length := List.length_pos_of_mem ha
    rw [List.length_cons]
    omega
theorem eqC_self {ds : Cf} (nd : (ds.map (·.1)).Nodup) : ∀ {cs : Cf}, (∀ e ∈ cs, e ∈ ds) → eqC cs ds = true
  | [], _ => rfl
  | e :: r, h => by
    unfold eqC
    rw [lookO_of_mem nd (k := e.1) (v := e.2) (h e List.mem_cons_self)]
    show (decide (e.2 = e.2) && eqC r ds) = true
    rw [eqC_self nd fun x hx => h x (List.mem_cons_of_mem _ hx)]
    simp
theorem eqC_all {ds : Cf} : ∀ {cs : Cf}, eqC cs ds = true → ∀ e ∈ cs, lookO ds e.1 = some e.2
  | [], _, e, he => by cases he
  | x :: r, h, e, he => by
    unfold eqC at h
    cases hq : lookO ds x.1 with
    | none => rw [hq] at h; cases h
    | some v =>
      rw [hq] at h
      obtain ⟨h1, h2⟩ := Bool.and_eq_true_iff.mp h
      rcases List.mem_cons.mp he with q | q
      · rw [q, hq, of_decide_eq_true h1]
      · exact eqC_all h2 e q
theorem eqC_can {cs ds : Cf} (h : Can cs) (k : Can ds) : (cs.length == ds.length && eqC cs ds) = decide (cs = ds) := by
  by_cases e : cs = ds
  · subst e
    rw [eqC_self h.nd fun _ h => h]
    simp
  · rw [decide_eq_false e]
    refine Bool.eq_false_iff.mpr fun q => e ?_
    obtain ⟨hl, hq⟩ := Bool.and_eq_true_iff.mp q
    have hl : cs.length = ds.length := by simpa using hl
    have ha := eqC_all hq
    have hsub : ∀ x ∈ cs.map (·.1), x ∈ ds.map (·.1) := by
      intro x hx
      obtain ⟨y, hy, rfl⟩ := List.mem_map.mp hx
      exact List.mem_map.mpr ⟨_, lookO_mem (ha y hy), rfl⟩
    refine h.unique k fun x => ?_
    by_cases hx : x ∈ cs.map (·.1)
    · obtain ⟨y, hy, rfl⟩ := List.mem_map.mp hx
      unfold look
      rw [ha y hy, lookO_of_mem h.nd (k := y.1) (v := y.2) hy]
    · rw [look_none hx]
      have hn : x ∉ ds.map (·.1) := by
        intro hd
        have := nd_sub (l := x :: cs.map (·.1)) (m := ds.map (·.1)) (List.nodup_cons.mpr ⟨hx, h.nd⟩) fun z hz => by
          rcases List.mem_cons.mp hz with w | w
          · rw [w]; exact hd
          · exact hsub z w
        rw [List.length_cons, List.length_map, List.length_map] at this
        omega
      rw [look_none hn]
theorem hits_dk {A : Around} {s : Shared} {ds : Cf} {vb : List (Key × Value)} (rb : KV (dk ds) vb) : ∀ {cs : Cf} {va : List (Key × Value)}, KV (dk cs) va → PySem.W.KeqHits A s vb va (eqC cs ds)
  | [], va, ra => by
    unfold KV dk at ra
    cases ra
    exact .nil
  | e :: r, va, ra => by
    unfold KV at ra
    have ra' : Paired _ ((Sum.inr e.1, V.int e.2) :: dk r) va := ra
    cases ra' with
    | @cons _ q _ qs h t =>
      obtain ⟨h1, h2⟩ := h
      obtain ⟨k, v⟩ := q
      have h1' : (Sum.inr e.1 : Key) = k := h1
      have rv := rb.val (Sum.inr e.1 : Key)
      rw [valV_dk] at rv
      unfold eqC
      subst h1'
      cases hq : lookO ds e.1 with
      | none =>
        rw [hq] at rv
        exact .miss (RelO.none_of rv)
      | some z =>
        rw [hq] at rv
        obtain ⟨y, hy, ry⟩ := RelO.some_of rv
        obtain ⟨t1, rfl⟩ := (show ∃ t, v = Value.int e.2 t from h2)
        obtain ⟨t2, rfl⟩ := (show ∃ t, y = Value.int z t from ry)
        have hb := SeqAt.EqAt.int_int (A := A) (s := s) e.2 t1 z t2
        rw [show (e.2 == z) = decide (e.2 = z) from rfl] at hb
        exact .hit hy hb (hits_dk rb t)
theorem neg_len {cs ds : Cf} (h : Can cs) (k : Can ds) (e : ∀ x, look ds x = - look cs x) : ds.length = cs.length := by
  have h1 : ds.map (·.1) = cs.map (·.1) := asc_unique k.asc h.asc fun x => by
    rw [k.mem_iff, h.mem_iff, e]
    omega
  have := congrArg List.length h1
  rwa [List.length_map, List.length_map] at this
end OS

namespace OS
open PySem L2 OZ PySem.Spec PyProof.Rows
theorem repk_dcC {K : PySem.W.Frag} {G : Hp} : ∀ {cs : Cf} {kvs : List (Key × V)}, RepK K G kvs (dcC cs) → kvs = dk cs
  | [], _, h => by cases h; rfl
  | e :: r, _, h => by
    cases h with
    | cons h1 h2 =>
      cases h1
      rw [repk_dcC h2]
      rfl
/-- a form among data -/
structure FormOk (cs : Cf) : Prop where
  can : Can cs
  len : cs.length < 64
  gd : ∀ e ∈ cs, good e.1 = true
section
variable {M : Mode} {X : Cx} {KE : Kx} {P : Da → Nat → Prop} {m j : Nat} {cs ds : Cf}
theorem opd_eqCf (hr : Room j X.A) (hc : Can cs) (hd : Can ds) (k : P (.bl (decide (cs = ds))) m) : OpD M X KE (compareOp .Eq) (.dct (dcC cs)) (.dct (dcC ds)) P m := by
  intro G H σ W Q x y ok wi r1 r2 po pins s v u I rx ry
  obtain ⟨a, oa, va, rfl, ea, ka⟩ := r1.dct_inv
  obtain ⟨b, ob, vb, rfl, eb, kb⟩ := r2.dct_inv
  obtain rfl : v = Value.ref a := rx
  obtain rfl : u = Value.ref b := ry
  cases repk_dcC ka
  cases repk_dcC kb
  obtain ⟨_, _, ya, wa, ra, da⟩ := (show ObjOk X.prog X.w H s.heap a (.frz oa (.dK (dk cs))) from I.hok a _ (ok.sub _ _ ea))
  obtain ⟨_, _, yb, wb, rb, db⟩ := (show ObjOk X.prog X.w H s.heap b (.frz ob (.dK (dk ds))) from I.hok b _ (ok.sub _ _ eb))
  have la : wa.length = cs.length := by rw [← Paired.length ra, dk_len]
  have lb : wb.length = ds.length := by rw [← Paired.length rb, dk_len]
  have hu : X.A.units < cLine := by have := L2.Room.units hr; omega
  refine PySem.W.keq_eq (knd := mixKind X.prog X.w) ya yb da db hu (fun _ => hits_dk rb ra) (fin_bl I (po _ (.bl (decide (cs = ds))) m G H k ok (.bl _)) (by rw [la, lb, eqC_can hc hd]))
end
end OS

namespace OS
open PySem L2 OZ PySem.Spec PyProof.Rows
/-- a name is found among the coefficients -/
def has (cs : Cf) (z : Str) : Bool := (lookO cs z).isSome
def FCoef (C : Addr) : FD := fun ds KR _ m => ∃ cs c, ds = [formD C cs c] ∧ cs.length < 64 ∧ KR (.dct (dcC cs)) m
def FConst (C : Addr) : FD := fun ds KR _ m => ∃ cs c, ds = [formD C cs c] ∧ KR (.int c) m
def FLenF (C : Addr) : FD := fun ds KR _ m => ∃ cs c, ds = [formD C cs c] ∧ KR (.int ((cs.length : Nat) : Int)) m
def FHas (C : Addr) : FD := fun ds KR _ m => ∃ cs c z, ds = [formD C cs c, .str z] ∧ KR (.bl (has cs z)) m
def FGet (C : Addr) : FD := fun ds KR _ m => ∃ cs c z, ds = [formD C cs c, .str z] ∧ KR (.int (look cs z)) m
def FEqF (C : Addr) : FD := fun ds KR _ m => ∃ cs c es e, ds = [formD C cs c, formD C es e] ∧ Can cs ∧ Can es ∧ KR (.bl (decide (cs = es) && decide (c = e))) m
section
variable {B : Bd} {C f : Addr} {fd : FuncData}
theorem fcoef_ok (Fn : Fun B.K "coefficients" "Form.coefficients" sForm_coefficients f fd) (T : Bn B) (cl : Cls B.K C) (nF : NoAttr B.K C "_coefficients") : FnOk B.P B.w B.K B.mg B.base CX0 1 f fd ["self"] (spD pureM B.K 1 (FCoef C)) := by
  refine fn0_ok Fn c_sForm_coefficients rfl ?_
  rintro X ds KR KE m ⟨cdv, A, outer, s', H, E, rfl⟩ cx hr hl ⟨cs, c, rfl, _, k⟩
  show StD _ _ _ _ [.v (formD C cs c)] _ _
  fail "go"
  exact k
theorem fconst_ok (Fn : Fun B.K "constant" "Form.constant" sForm_constant f fd) (cl : Cls B.K C) (nT : NoAttr B.K C "_constant") : FnOk B.P B.w B.K B.mg B.base CX0 1 f fd ["self"] (spD pureM B.K 1 (FConst C)) := by
  refine fn0_ok Fn c_sForm_constant rfl ?_
  rintro X ds KR KE m ⟨cdv, A, outer, s', H, E, rfl⟩ cx hr hl ⟨cs, c, rfl, k⟩
  show StD _ _ _ _ [.v (formD C cs c)] _ _
  fail "go"
  exact k
theorem flen_ok (Fn : Fun B.K "__len__" "Form.__len__" sForm_len f fd) (hb : Binds B.K fd ["self"] []) (T : Bn B) (cl : Cls B.K C) (nF : NoAttr B.K C "_coefficients") : FnG pureM B 1 f 1 (FLenF C) := by
  refine fnG_ok Fn c_sForm_len rfl hb ?_
  rintro X ds KR KE m ⟨cdv, A, outer, s', H, E, rfl⟩ cx hr hl ⟨cs, c, rfl, k⟩
  show StD _ _ _ _ [.v (formD C cs c)] _ _
  fail "go"
  rw [dcC_len]
  exact k
theorem fhas_ok (Fn : Fun B.K "__contains__" "Form.__contains__" sForm_contains f fd) (hb : Binds B.K fd ["self", "name"] []) (T : Bn B) (cl : Cls B.K C) (nF : NoAttr B.K C "_coefficients") : FnG pureM B 1 f 2 (FHas C) := by
  refine fnG_ok Fn c_sForm_contains rfl hb ?_
  rintro X ds KR KE m ⟨cdv, A, outer, s', H, E, rfl⟩ cx hr hl ⟨cs, c, z, rfl, k⟩
  show StD _ _ _ _ [.v (formD C cs c), .v (.str z)] _ _
  fail "go"
  rw [dcC_look, Option.isSome_map]
  exact k
theorem fget_ok (Fn : Fun B.K "__getitem__" "Form.__getitem__" sForm_getitem f fd) (hb : Binds B.K fd ["self", "name"] []) (T : Bn B) (cl : Cls B.K C) (nF : NoAttr B.K C "_coefficients") : FnG pureM B 1 f 2 (FGet C) := by
  refine fnG_ok Fn c_sForm_getitem rfl hb ?_
  rintro X ds KR KE m ⟨cdv, A, outer, s', H, E, rfl⟩ cx hr hl ⟨cs, c, z, rfl, k⟩
  show StD _ _ _ _ [.v (formD C cs c), .v (.str z)] _ _
  fail "go"
  rw [dcC_look]
  unfold look at k
  cases q : lookO cs z with
  | none => rw [q] at k; exact k
  | some v => rw [q] at k; exact k
theorem feq_ok (Fn : Fun B.K "__eq__" "Form.__eq__" sForm_eq f fd) (hb : Binds B.K fd ["self", "other"] []) (T : Bn B) (mC : B.mg "Form" = some (.ref C)) (cl : Cls B.K C) (nF : NoAttr B.K C "_coefficients") (nT : NoAttr B.K C "_constant") (ty : TyC B.K C) (kt : KitG B.K (.ref C) (.ref C) true) : FnG pureM B 2 f 2 (FEqF C) := by
  refine fnG_ok Fn c_sForm_eq rfl hb ?_
  rintro X ds KR KE m ⟨cdv, A, outer, s, H, E, rfl⟩ cx hr hl ⟨cs, c, es, e, rfl, hc, he, k⟩
  show StD _ _ _ _ [.v (formD C cs c), .v (formD C es e)] _ _
  fail "go"
  refine opd_eqCf hr hc he ?_
  cases q : decide (cs = es) with
  | true =>
    rw [q] at k
    fail "go"
    exact k
  | false =>
    rw [q] at k
    fail "go"
    exact k
end
end OS

namespace OS
open PySem L2 OZ PySem.Spec PyProof.Rows
/-! parts of a form as a law draws them: names that are good, small numbers -/
structure OkP (n : Nat) (ws : Cf) : Prop where
  nd : (ws.map (·.1)).Nodup
  len : ws.length ≤ n
  gd : ∀ e ∈ ws, good e.1 = true
  sm : ∀ e ∈ ws, -20 ≤ e.2 ∧ e.2 ≤ 20
theorem OkP.mono {n k : Nat} {ws : Cf} (h : OkP n ws) (l : n ≤ k) : OkP k ws := ⟨h.nd, Nat.le_trans h.len l, h.gd, h.sm⟩
theorem OkP.put {n : Nat} {ws : Cf} {k : Str} {v : Int} (h : OkP n ws) (g : good k = true) (l : -20 ≤ v) (u : v ≤ 20) : OkP (n + 1) (putC ws k v) :=
  ⟨putC_nd h.nd, Nat.le_trans (putC_len ws k v) (Nat.succ_le_succ h.len), fun e he => by rcases putC_mem he with rfl | he; exact g; exact h.gd e he, fun e he => by rcases putC_mem he with rfl | he; exact ⟨l, u⟩; exact h.sm e he⟩
theorem OkP.puts {n : Nat} {ws : Cf} {k : Str} {v : Int} (h : OkP n ws) (hk : k ∈ ws.map (·.1)) (l : -20 ≤ v) (u : v ≤ 20) : OkP n (putC ws k v) := by
  have gk : good k = true := by obtain ⟨e, he, rfl⟩ := List.mem_map.mp hk; exact h.gd e he
  obtain ⟨a, _, c, d⟩ := h.put gk l u
  refine ⟨a, ?_, c, d⟩
  have := congrArg List.length (putC_names ws k v)
  rw [if_pos hk, List.length_map, List.length_map] at this
  rw [this]
  exact h.len
theorem OkP.look {n : Nat} {ws : Cf} (h : OkP n ws) (k : Str) : -20 ≤ look ws k ∧ look ws k ≤ 20 := by
  cases q : lookO ws k with
  | none => unfold OS.look; rw [q]; exact ⟨by decide, by decide⟩
  | some v => unfold OS.look; rw [q]; exact h.sm _ (lookO_mem q)
def delC (ws : Cf) (k : Str) : Cf := ws.filter fun e => decide (e.1 ≠ k)
theorem dcC_del (ws : Cf) (k : Str) : delD (dcC ws) (Sum.inr k : Key) = dcC (delC ws k) := by
  unfold delD dcC delC
  rw [List.filter_map]
  congr 1
  refine List.filter_congr fun e _ => ?_
  show decide ((Sum.inr e.1 : Key) ≠ Sum.inr k) = decide (e.1 ≠ k)
  rw [Bool.eq_iff_iff, decide_eq_true_eq, decide_eq_true_eq]
  exact ⟨fun h q => h (congrArg Sum.inr q), fun h q => h (Sum.inr.inj q)⟩
theorem OkP.del {n : Nat} {ws : Cf} {k : Str} (h : OkP n ws) : OkP n (delC ws k) :=
  ⟨h.nd.sublist (List.Sublist.map _ List.filter_sublist), Nat.le_trans (List.length_filter_le _ _) h.len, fun e he => h.gd e (List.mem_filter.mp he).1, fun e he => h.sm e (List.mem_filter.mp he).1⟩
theorem dcC_small {n : Nat} {ws : Cf} (h : OkP n ws) (l : n ≤ 1000) : (dcC ws).length < sizeLine := by
  rw [dcC_len]
  exact Nat.lt_of_le_of_lt (Nat.le_trans h.len l) (Nat.le_of_ble_eq_true rfl)
theorem deq_lnil (ds : List Da) : deq (.lst ds) (.lst []) = ds.isEmpty := by
  cases ds <;> rfl
theorem putC_mem_self (ws : Cf) (k : Str) (v : Int) : k ∈ (putC ws k v).map (·.1) := by
  rw [putC_names]
  split
  · assumption
  · simp
theorem look_self (ws : Cf) (k : Str) (v : Int) : OZ.look (Sum.inr k : Key) (dcC (putC ws k v)) = some (.int v) := by
  rw [dcC_look, putC_look, if_pos rfl]
  rfl
theorem lookD_getD (ws : Cf) (k : Str) : (OZ.look (Sum.inr k : Key) (dcC ws)).getD (.int 0) = .int (look ws k) := by
  rw [dcC_look]
  unfold look
  cases lookO ws k <;> rfl
end OS

namespace OS
open PySem L2 OZ PySem.Spec PyProof.Rows
theorem good_len {z : Str} (h : good z = true) : z.length ≤ 6 ∧ 1 ≤ z.length := by
  unfold good at h
  have := Str.len_list z
  by_cases h1 : z = "mod"
  · rw [if_pos h1] at h; cases h
  · rw [if_neg h1] at h
    by_cases h2 : z.cps.toList.length < 1 ∨ 6 < z.cps.toList.length
    · rw [if_pos h2] at h; cases h
    · omega
theorem FormOk.of {kvs es : Cf} (gd : ∀ e ∈ kvs, good e.1 = true) (h64 : kvs.length < 64) (hc : Can es) (hl : es.length ≤ kvs.length) (he : ∀ x, look es x = look kvs x) : FormOk es := by
  refine ⟨hc, by omega, fun e hm => ?_⟩
  have h1 : look es e.1 ≠ 0 := (hc.mem_iff e.1).mp (List.mem_map.mpr ⟨e, hm, rfl⟩)
  rw [he] at h1
  by_cases q : e.1 ∈ kvs.map (·.1)
  · obtain ⟨y, hy, hyx⟩ := List.mem_map.mp q
    rw [← hyx]
    exact gd y hy
  · exact absurd (look_none q) h1
theorem init_use {CB : Addr} {kvs : Cf} {c : Int} {KR : List (Str × Da) → Nat → Prop} {KE : Kx} {m : Nat} (nd : (kvs.map (·.1)).Nodup) (h64 : kvs.length < 64) (gd : ∀ e ∈ kvs, good e.1 = true)
    (k : ∀ es, FormOk es → es.length ≤ kvs.length → (∀ x, look es x = look kvs x) → KR [("_coefficients", .dct (dcC es)), ("_constant", .int c)] m) : FFInit CB [.dct (dcC kvs), .int c] KR KE m := by
  refine ⟨kvs, c, rfl, nd, h64, fun e h => by have := good_len (gd e h); omega, fun _ es hc hl he => k es (.of gd h64 hc hl he) hl he, fun i e h _ hb => ?_⟩
  have := gd e (List.mem_of_getElem? h)
  rw [this] at hb
  cases hb
theorem mulC_len (cs : Cf) (k : Int) : (mulC cs k).length = cs.length := List.length_map _
def FMulF (C : Addr) : FD := fun ds KR _ m => ∃ cs c k, ds = [formD C cs c, .int k] ∧ FormOk cs ∧ (k.natAbs < 10 ^ 18 ∨ ((∀ e ∈ cs, e.2.natAbs < 10 ^ 18) ∧ c.natAbs < 10 ^ 18)) ∧
  ∀ es, FormOk es → (∀ x, look es x = look cs x * k) → KR (formD C es (c * k)) m
def FNegF (C : Addr) : FD := fun ds KR _ m => ∃ cs c, ds = [formD C cs c] ∧ FormOk cs ∧ ∀ es, FormOk es → (∀ x, look es x = - look cs x) → KR (formD C es (-c)) m
def FAddF (C : Addr) : FD := fun ds KR _ m => ∃ cs c, FormOk cs ∧ ((∃ i, ds = [formD C cs c, .int i] ∧ KR (formD C cs (c + i)) m) ∨
  ∃ es e, ds = [formD C cs c, formD C es e] ∧ FormOk es ∧ cs.length + es.length < 64 ∧ ∀ rs, FormOk rs → (∀ x, look rs x = look cs x + look es x) → KR (formD C rs (c + e)) m)
def FRadd (C : Addr) : FD := fun ds KR _ m => ∃ cs c i, ds = [formD C cs c, .int i] ∧ FormOk cs ∧ KR (formD C cs (c + i)) m
def FSubF (C : Addr) : FD := fun ds KR _ m => ∃ cs c, FormOk cs ∧ ((∃ i, ds = [formD C cs c, .int i] ∧ KR (formD C cs (c - i)) m) ∨
  ∃ es e, ds = [formD C cs c, formD C es e] ∧ FormOk es ∧ cs.length + es.length < 64 ∧ ∀ rs, FormOk rs → (∀ x, look rs x = look cs x - look es x) → KR (formD C rs (c - e)) m)
def FRsub (C : Addr) : FD := fun ds KR _ m => ∃ cs c i, ds = [formD C cs c, .int i] ∧ FormOk cs ∧ ∀ es, FormOk es → (∀ x, look es x = - look cs x) → KR (formD C es (i - c)) m
theorem cmul_of {a k c : Int} (h : k.natAbs < 10 ^ 18 ∨ (a.natAbs < 10 ^ 18 ∧ c.natAbs < 10 ^ 18)) : CMul a k := by
  rcases h with h | ⟨h, _⟩
  · exact cmul_r (by omega) (by omega)
  · exact cmul_l (by omega) (by omega)
section
variable {B : Bd} {C CB f : Addr} {fd : FuncData}
theorem fmul_ok (Fn : Fun B.K "__mul__" "Form.__mul__" sForm_mul f fd) (hb : Binds B.K fd ["self", "other"] []) (T : Bn B) (mC : B.mg "Form" = some (.ref C)) (kC : PySem.W.keepIn B.K (.ref C) = true) (cl : Cls B.K C) (nF : NoAttr B.K C "_coefficients") (nT : NoAttr B.K C "_constant") (kII : KitG B.K (.type "int") (.type "int") true)
    (mk : MakeG pureM B 3 C 2 [] (fun ds _ => ds) (FFInit CB)) : FnG pureM B 5 f 2 (FMulF C) := by
  refine fnG_okX Fn c_sForm_mul rfl hb ?_
  rintro X ds KR KE m ⟨cdv, A, outer, s, H, E, rfl⟩ cx hr hl ⟨cs, c, k, rfl, hf, hs, kk⟩
  show StD _ _ _ _ [.v (formD C cs c), .v (.int k), .un, .un, .un] _ _
  fail "go"
  with_reducible refine st1_setDc (own := [("name", 3), ("coefficient", 4)]) cx hr (.two (.name (by fail "zi")) (.name (by fail "zi"))) (.cons (.cons .nil (by fail "zs")) (by fail "zs")) ?_ (hN := by with_unfolding_all exact ⟨2, rfl⟩)
  refine iter_items ?_
  fail "go"
  rw [dcC_items]
  refine And.intro (by rw [List.length_map]; exact Nat.lt_of_lt_of_le hf.len (Nat.le_of_ble_eq_true rfl)) ?_
  refine compk_two (fun n acc m' => m' = m ∧ acc = dcC (mulC (cs.take n) k)) (by fail "zi") (by fail "zi") rfl (by simp) (by simp) ⟨rfl, rfl⟩ ?_ ?_
  · rintro n d acc m2 hd ⟨rfl, rfl⟩
    rw [List.getElem?_map] at hd
    obtain ⟨e, he, rfl⟩ : ∃ e, cs[n]? = some e ∧ d = .tup [.str e.1, .int e.2] := by
      cases q : cs[n]? with
      | none => rw [q] at hd; cases hd
      | some e => rw [q] at hd; cases hd; exact ⟨e, rfl, rfl⟩
    refine ⟨_, _, rfl, ?_⟩
    intro s1 H1 C1 cl1 fp1 cx1 hr1
    show EvD _ _ _ _ [.v (formD C cs c), .v (.int k), .un, .v (.str e.1), .v (.int e.2)] _ _
    fail "go"
    intro s2 H2 C2 cl2 fp2 cx2 hr2
    show EvD _ _ _ _ [.v (formD C cs c), .v (.int k), .un, .v (.str e.1), .v (.int e.2)] _ _
    fail "go"
    refine opd_mul (cmul_of (hs.imp id fun h => ⟨h.1 e (List.mem_of_getElem? he), h.2⟩)) ?_
    refine ⟨rfl, ?_⟩
    have tk : cs.take (n + 1) = cs.take n ++ [e] := by rw [List.take_succ, he]; rfl
    have nin : e.1 ∉ (mulC (cs.take n) k).map (·.1) := fun h => by
      rw [mulC_names] at h
      have : ((cs.take n ++ [e]).map (·.1)).Nodup := by rw [← tk]; exact hf.can.nd.sublist ((List.take_sublist _ _).map _)
      rw [List.map_append, List.nodup_append] at this
      exact this.2.2 e.1 h e.1 (by simp) rfl
    rw [dcC_put, tk]
    unfold putC
    rw [if_neg nin]
    unfold mulC
    rw [List.map_append]
    rfl
  rintro r m2 ⟨rfl, rfl⟩
  rw [List.length_map, List.take_length]
  refine ⟨_, _, by fail "zs", ?_⟩
  show StD _ _ _ _ [.v (formD C cs c), .v (.int k), .m (.dct (dcC (mulC cs k))), .un, .un] _ _
  refine std_pub (i := 2) rfl ?_
  show StD _ _ _ _ [.v (formD C cs c), .v (.int k), .v (.dct (dcC (mulC cs k))), .un, .un] _ _
  fail "go"
  refine opd_mul (cmul_of (hs.imp id fun h => ⟨h.2, h.2⟩)) ?_
  fail "go"
  refine init_use (by rw [mulC_names]; exact hf.can.nd) (by rw [mulC_len]; exact hf.len) (fun e he => ?_) fun es ho hl he => ?_
  · obtain ⟨y, hy, rfl⟩ := List.mem_map.mp he
    exact hf.gd y hy
  exact kk es ho fun x => by rw [he, mulC_look]
end
end OS

namespace OS
open PySem L2 OZ PySem.Spec PyProof.Rows
theorem dcC_getD (cs : Cf) (k : Str) : (OZ.look (Sum.inr k : Key) (dcC cs)).getD (.int 0) = .int (look cs k) := by
  rw [dcC_look]
  unfold look
  cases lookO cs k <;> rfl
section
variable {B : Bd} {C CB f : Addr} {fd : FuncData}
theorem fneg_ok (Fn : Fun B.K "__neg__" "Form.__neg__" sForm_neg f fd) (hb : Binds B.K fd ["self"] []) (T : Bn B) (SM : SpecG pureM B 5 C "__mul__" 2 (FMulF C)) (BM : BinI B.K C .Mult) : FnG pureM B 6 f 1 (FNegF C) := by
  refine fnG_okX Fn c_sForm_neg rfl hb ?_
  rintro X ds KR KE m ⟨cdv, A, outer, s, H, E, rfl⟩ cx hr hl ⟨cs, c, rfl, hf, kk⟩
  show StD _ _ _ _ [.v (formD C cs c)] _ _
  fail "go"
  refine ⟨cs, c, -1, rfl, hf, .inl (by decide), fun es ho he => ?_⟩
  fail "go"
  rw [show c * -1 = -c by omega]
  exact kk es ho fun x => by rw [he]; omega
theorem frmul_ok (Fn : Fun B.K "__rmul__" "Form.__rmul__" sForm_rmul f fd) (hb : Binds B.K fd ["self", "other"] []) (T : Bn B) (SM : SpecG pureM B 5 C "__mul__" 2 (FMulF C)) (BM : BinI B.K C .Mult) : FnG pureM B 6 f 2 (FMulF C) := by
  refine fnG_okX Fn c_sForm_rmul rfl hb ?_
  rintro X ds KR KE m ⟨cdv, A, outer, s, H, E, rfl⟩ cx hr hl ⟨cs, c, k, rfl, hf, hs, kk⟩
  show StD _ _ _ _ [.v (formD C cs c), .v (.int k)] _ _
  fail "go"
  exact ⟨cs, c, k, rfl, hf, hs, kk⟩
theorem fradd_ok (Fn : Fun B.K "__radd__" "Form.__radd__" sForm_radd f fd) (hb : Binds B.K fd ["self", "other"] []) (T : Bn B) (SA : SpecG pureM B 5 C "__add__" 2 (FAddF C)) (BA : BinI B.K C .Add) : FnG pureM B 6 f 2 (FRadd C) := by
  refine fnG_okX Fn c_sForm_radd rfl hb ?_
  rintro X ds KR KE m ⟨cdv, A, outer, s, H, E, rfl⟩ cx hr hl ⟨cs, c, k, rfl, hf, kk⟩
  show StD _ _ _ _ [.v (formD C cs c), .v (.int k)] _ _
  fail "go"
  exact ⟨cs, c, hf, .inl ⟨k, rfl, kk⟩⟩
theorem frsub_ok (Fn : Fun B.K "__rsub__" "Form.__rsub__" sForm_rsub f fd) (hb : Binds B.K fd ["self", "other"] []) (T : Bn B) (SA : SpecG pureM B 5 C "__add__" 2 (FAddF C)) (SN : SpecG pureM B 6 C "__neg__" 1 (FNegF C)) (BA : BinI B.K C .Add) : FnG pureM B 7 f 2 (FRsub C) := by
  refine fnG_okX Fn c_sForm_rsub rfl hb ?_
  rintro X ds KR KE m ⟨cdv, A, outer, s, H, E, rfl⟩ cx hr hl ⟨cs, c, k, rfl, hf, kk⟩
  show StD _ _ _ _ [.v (formD C cs c), .v (.int k)] _ _
  fail "go"
  refine ⟨cs, c, rfl, hf, fun es ho he => ?_⟩
  fail "go"
  refine ⟨es, -c, ho, .inl ⟨k, rfl, ?_⟩⟩
  rw [show -c + k = k - c by omega]
  exact kk es ho he
theorem fsub_ok (Fn : Fun B.K "__sub__" "Form.__sub__" sForm_sub f fd) (hb : Binds B.K fd ["self", "other"] []) (T : Bn B) (SA : SpecG pureM B 5 C "__add__" 2 (FAddF C)) (SN : SpecG pureM B 6 C "__neg__" 1 (FNegF C)) (BA : BinI B.K C .Add) (sf : PySem.W.selfFirst B.K C = true) : FnG pureM B 7 f 2 (FSubF C) := by
  refine fnG_okX Fn c_sForm_sub rfl hb ?_
  rintro X ds KR KE m ⟨cdv, A, outer, s, H, E, rfl⟩ cx hr hl ⟨cs, c, hf, hh⟩
  rcases hh with ⟨i, rfl, kk⟩ | ⟨es, e, rfl, he, h64, kk⟩
  · show StD _ _ _ _ [.v (formD C cs c), .v (.int i)] _ _
    fail "go"
    refine ⟨cs, c, hf, .inl ⟨-i, rfl, ?_⟩⟩
    rw [show c + -i = c - i by omega]
    exact kk
  · show StD _ _ _ _ [.v (formD C cs c), .v (formD C es e)] _ _
    fail "go"
    refine ⟨es, e, rfl, he, fun ns hn hns => ?_⟩
    fail "go"
    refine ⟨cs, c, hf, .inr ⟨ns, -e, rfl, hn, by have := neg_len he.can hn.can hns; omega, fun rs hr2 hrs => ?_⟩⟩
    fail "go"
    rw [show c + -e = c - e by omega]
    exact kk rs hr2 fun x => by rw [hrs, hns]; omega
theorem fadd_ok (Fn : Fun B.K "__add__" "Form.__add__" sForm_add f fd) (hb : Binds B.K fd ["self", "other"] []) (T : Bn B) (mC : B.mg "Form" = some (.ref C)) (kC : PySem.W.keepIn B.K (.ref C) = true) (cl : Cls B.K C) (nF : NoAttr B.K C "_coefficients") (nT : NoAttr B.K C "_constant") (ty : TyC B.K C)
    (kII : KitG B.K (.type "int") (.type "int") true) (kCI : KitG B.K (.ref C) (.type "int") false) (kCC : KitG B.K (.ref C) (.ref C) true) (mk : MakeG pureM B 3 C 2 [] (fun ds _ => ds) (FFInit CB)) : FnG pureM B 5 f 2 (FAddF C) := by
  refine fnG_okX Fn c_sForm_add rfl hb ?_
  rintro X ds KR KE m ⟨cdv, A, outer, s, H, E, rfl⟩ cx hr hl ⟨cs, c, hf, hh⟩
  have hT : OwnHint "total" := trivial
  rcases hh with ⟨i, rfl, kk⟩ | ⟨es, e, rfl, he, h64, kk⟩
  · show StD _ _ _ _ [.v (formD C cs c), .v (.int i), .un, .un, .un] _ _
    fail "go"
    refine init_use hf.can.nd hf.len hf.gd fun rs ho hl hrs => ?_
    rw [ho.can.unique hf.can hrs]
    exact kk
  · show StD _ _ _ _ [.v (formD C cs c), .v (formD C es e), .un, .un, .un] _ _
    fail "go"
    rw [dcC_items]
    refine for_inv2 cx (fun n sl' m' => ∃ s3 s4, m' = m ∧ sl' = [.v (formD C cs c), .v (formD C es e), .m (.dct (dcC (addC cs (es.take n)))), s3, s4]) (by fail "zi") (by fail "zi") ⟨.un, .un, rfl, rfl⟩ (by rintro n sl m ⟨_, _, _, rfl⟩; rfl) ?_ ?_
    · rintro n d sl m2 hd ⟨s3, s4, rfl, rfl⟩
      rw [List.getElem?_map] at hd
      obtain ⟨y, hy, rfl⟩ : ∃ e, es[n]? = some e ∧ d = .tup [.str e.1, .int e.2] := by
        cases q : es[n]? with
        | none => rw [q] at hd; cases hd
        | some e => rw [q] at hd; cases hd; exact ⟨e, rfl, rfl⟩
      refine ⟨_, _, rfl, ?_⟩
      show StD _ _ _ _ [.v (formD C cs c), .v (formD C es e), .m (.dct (dcC (addC cs (es.take n)))), .v (.str y.1), .v (.int y.2)] _ _
      fail "go"
      refine st1_setIxK cx hr (by fail "zn") (by rw [dcC_len]; exact Nat.lt_of_le_of_lt (Nat.le_trans (addC_len _ _) (show cs.length + (es.take n).length ≤ 100 by rw [List.length_take]; omega)) (Nat.lt_of_lt_of_le (by decide) (Nat.le_of_ble_eq_true (n := 1000) rfl))) ?_
      fail "go"
      rw [dcC_getD]
      fail "go"
      have tk : es.take (n + 1) = es.take n ++ [y] := by rw [List.take_succ, hy]; rfl
      refine ⟨.v (.str y.1), .v (.int y.2), rfl, ?_⟩
      rw [dcC_put, tk, addC_snoc]
    rintro sl m2 ⟨s3, s4, rfl, rfl⟩
    rw [List.length_map, List.take_length]
    show StD _ _ _ _ [.v (formD C cs c), .v (formD C es e), .m (.dct (dcC (addC cs es))), s3, s4] _ _
    refine std_pub (i := 2) rfl ?_
    show StD _ _ _ _ [.v (formD C cs c), .v (formD C es e), .v (.dct (dcC (addC cs es))), s3, s4] _ _
    fail "go"
    have hlen := addC_len es cs
    refine init_use (addC_nd hf.can.nd) (by omega) (fun z hz => addC_gd (P := fun x => good x = true) hf.gd he.gd z hz) fun rs ho hl hrs => ?_
    exact kk rs ho fun x => by rw [hrs, addC_look _ he.can.nd]
end
end OS

namespace OS
open PySem L2 OZ PySem.Spec PyProof.Rows
/-- the first name that lacks -/
def lacks (cs : Cf) (ws : Cf) : Option Str := (cs.map (·.1)).find? fun n => decide (lookO ws n = none)
/-- the sum of the products -/
def prods (cs : Cf) (ws : Cf) : Int := (cs.map fun e => e.2 * look ws e.1).sum
theorem lacks_snoc_none {cs ws : Cf} {e : Str × Int} : lacks (cs ++ [e]) ws = (lacks cs ws).or (if lookO ws e.1 = none then some e.1 else none) := by
  unfold lacks
  rw [List.map_append, List.find?_append]
  congr 1
  show List.find? _ [e.1] = _
  rw [List.find?_cons]
  by_cases h : lookO ws e.1 = none
  · rw [if_pos h]; simp [h]
  · rw [if_neg h]; simp [h]
theorem prods_snoc {cs ws : Cf} {e : Str × Int} : prods (cs ++ [e]) ws = prods cs ws + e.2 * look ws e.1 := by
  unfold prods
  rw [List.map_append, List.sum_append]
  simp
theorem lacks_mono : ∀ {cs ws : Cf} {n : Str} (i : Nat), lacks (cs.take i) ws = some n → lacks cs ws = some n := by
  intro cs ws n i h
  have : lacks (cs.take i ++ cs.drop i) ws = some n := by
    unfold lacks at h ⊢
    rw [List.map_append, List.find?_append, h]
    rfl
  rwa [List.take_append_drop] at this
def Mid (n : Int) : Prop := n.natAbs < 2 ^ 200
theorem mid_log {a : Int} (h : Mid a) : a.natAbs.log2 < 200 := by
  unfold Mid at h
  by_cases z : a.natAbs = 0
  · rw [z]; decide
  · exact (Nat.log2_lt z).mpr h
theorem mid_mul {a b : Int} (h : Mid a) (k : Mid b) : CMulW a b := by
  have := mid_log h
  have := mid_log k
  unfold CMulW
  omega
def FCallF (C CU : Addr) : FD := fun ds KR KE m => ∃ cs c ws, ds = [formD C cs c, .dct (dcC ws)] ∧ cs.length < 64 ∧ (∀ e ∈ cs, Mid e.2) ∧ (∀ x, Mid (look ws x)) ∧
  (lacks cs ws = none → KR (.int (c + prods cs ws)) m) ∧ (∀ n, lacks cs ws = some n → KE CU [("name", .str n)] m)
section
variable {B : Bd} {C CU f : Addr} {fd : FuncData}
theorem fcall_ok (Fn : Fun B.K "__call__" "Form.__call__" sForm_call f fd) (hb : Binds B.K fd ["self", "values"] []) (T : Bn B) (cl : Cls B.K C) (nF : NoAttr B.K C "_coefficients") (nT : NoAttr B.K C "_constant") (U : ErrG B 1 "UnknownName" CU "name") : FnG pureM B 3 f 2 (FCallF C CU) := by
  refine fnG_okX Fn c_sForm_call rfl hb ?_
  rintro X ds KR KE m ⟨cdv, A, outer, s, H, E, rfl⟩ cx hr hl ⟨cs, c, ws, rfl, h64, hc, hw, k1, k2⟩
  show StD _ _ _ _ [.v (formD C cs c), .v (.dct (dcC ws)), .un, .un, .un] _ _
  fail "go"
  rw [dcC_items]
  refine for_inv2 cx (fun n sl' m' => ∃ s3 s4, m' = m ∧ lacks (cs.take n) ws = none ∧ sl' = [.v (formD C cs c), .v (.dct (dcC ws)), .v (.int (c + prods (cs.take n) ws)), s3, s4]) (by fail "zi") (by fail "zi") ⟨.un, .un, rfl, rfl, by simp [prods]⟩ (by rintro n sl m ⟨_, _, _, _, rfl⟩; rfl) ?_ ?_
  · rintro n d sl m2 hd ⟨s3, s4, rfl, hq, rfl⟩
    rw [List.getElem?_map] at hd
    obtain ⟨y, hy, rfl⟩ : ∃ e, cs[n]? = some e ∧ d = .tup [.str e.1, .int e.2] := by
      cases q : cs[n]? with
      | none => rw [q] at hd; cases hd
      | some e => rw [q] at hd; cases hd; exact ⟨e, rfl, rfl⟩
    have tk : cs.take (n + 1) = cs.take n ++ [y] := by rw [List.take_succ, hy]; rfl
    refine ⟨_, _, rfl, ?_⟩
    show StD _ _ _ _ [.v (formD C cs c), .v (.dct (dcC ws)), .v (.int (c + prods (cs.take n) ws)), .v (.str y.1), .v (.int y.2)] _ _
    fail "go"
    rw [dcC_look, Option.isSome_map]
    cases q : lookO ws y.1 with
    | none =>
      rw [if_pos (by rfl)]
      fail "go"
      refine k2 y.1 (lacks_mono (n + 1) ?_)
      rw [tk, lacks_snoc_none, hq, q]
      rfl
    | some v =>
      rw [if_neg (by simp)]
      fail "go"
      refine ixd_dctS (d := .int v) hr (by rw [dcC_look, q]; rfl) ?_
      fail "go"
      have hv : look ws y.1 = v := by unfold look; rw [q]; rfl
      refine opd_mulW (mid_mul (hc y (List.mem_of_getElem? hy)) (hv ▸ hw y.1)) ?_
      fail "go"
      refine ⟨.v (.str y.1), .v (.int y.2), rfl, ?_, ?_⟩
      · rw [tk, lacks_snoc_none, hq, q]
        rfl
      · rw [tk, prods_snoc, hv, Int.add_assoc]
  rintro sl m2 ⟨s3, s4, rfl, hq, rfl⟩
  rw [List.length_map, List.take_length] at hq ⊢
  have k1 := k1 hq
  fail "go"
  exact k1
end
end OS

namespace OS
open PySem L2
/-! ### texts of numbers, terms, forms: the mathematics -/
def sg (n : Int) : Str := if n < 0 then " - " else " + "
def dec (n : Int) : Str := toString n
def aint (n : Int) : Int := if n < 0 then -n else n
def term (z : Str) (v : Int) : Str := sg v ++ (if aint v = 1 then z else dec (aint v) ++ (Str.ofString "*") ++ z)
theorem log2_lt {i : Int} (h : i.natAbs < 10 ^ 64) : i.natAbs.log2 < 1920 := by
  by_cases h0 : i.natAbs = 0
  · rw [h0]; decide
  · refine (Nat.log2_lt h0).mpr (Nat.lt_of_lt_of_le h ?_)
    decide +kernel
theorem Str.empty_app (z : Str) : Str.empty ++ z = z := Str.ext_list (by
  show (TL.tl (Str.empty ++ z)) = _
  rw [TL.tl_append]
  rfl)
theorem Str.app_assoc (a b c : Str) : (a ++ b) ++ c = a ++ (b ++ c) := Str.ext_list (by
  show (TL.tl ((a ++ b) ++ c)) = TL.tl (a ++ (b ++ c))
  rw [TL.tl_append, TL.tl_append, TL.tl_append, TL.tl_append, List.append_assoc])
theorem len_app (x y : Str) : (x ++ y).length = x.length + y.length := by
  have e : (TL.tl (x ++ y)).length = (TL.tl x).length + (TL.tl y).length := by rw [TL.tl_append, List.length_append]
  rw [Str.len_list, Str.len_list, Str.len_list]
  exact e
theorem sg_len (n : Int) : (sg n).length = 3 := by
  unfold sg
  split <;> decide +kernel
theorem numL_len {n : Nat} (h : n < 10 ^ 64) : (TL.numL n).length ≤ 64 := by
  unfold TL.numL
  rw [List.length_map]
  exact (Nat.length_toDigits_le_iff (by decide) (by decide)).mpr h
theorem dec_len {n : Int} (h0 : 0 ≤ n) (h : n < 10 ^ 64) : (dec n).length ≤ 64 := by
  obtain ⟨m, rfl⟩ : ∃ m : Nat, n = (m : Int) := ⟨n.toNat, by omega⟩
  have hm : m < 10 ^ 64 := by omega
  rw [Str.len_list]
  show (TL.tl (Str.ofString (toString ((m : Nat) : Int)))).length ≤ 64
  rw [TL.tl_num]
  exact numL_len hm
def pieces (cs : Cf) (c : Int) : List Str := cs.map (fun e => term e.1 e.2) ++ (if c ≠ 0 ∨ cs = [] then [sg c ++ dec (aint c)] else [])
def joinedT (cs : Cf) (c : Int) : Str := Str.join (Str.ofString "") (pieces cs c)
/-- the text of a form -/
def ftext (cs : Cf) (c : Int) : Str := (if Txt.startswith (joinedT cs c) (Str.ofString " - ") = true then (Str.ofString "-") else (Str.ofString "")) ++ cutS (joinedT cs c) (some 3) none
/-- numbers that are written at once -/
structure Small (cs : Cf) (c : Int) : Prop where
  cs : ∀ e ∈ cs, aint e.2 < 10 ^ 64
  c : aint c < 10 ^ 64
theorem sum_le : ∀ (ys : List Str), (∀ y ∈ ys, y.length ≤ 100) → (ys.map (·.length)).sum ≤ 100 * ys.length
  | [], _ => Nat.le_refl _
  | y :: ys, h => by
    rw [List.map_cons, List.sum_cons, List.length_cons]
    have := sum_le ys fun z hz => h z (List.mem_cons_of_mem _ hz)
    have := h y List.mem_cons_self
    omega
theorem join_len : ∀ (ys : List Str), (Str.join (Str.ofString "") ys).length = (ys.map (·.length)).sum
  | [] => rfl
  | [y] => by simp [Str.join]
  | y :: z :: r => by
    show (y ++ (Str.ofString "") ++ Str.join (Str.ofString "") (z :: r)).length = _
    rw [len_app, len_app, join_len (z :: r)]
    have : (Str.ofString "").length = 0 := by decide +kernel
    rw [this]
    simp only [List.map_cons, List.sum_cons]
    omega
theorem aint0 (n : Int) : 0 ≤ aint n := by unfold aint; split <;> omega
theorem term_len {z : Str} {n : Int} (hz : z.length ≤ 10) (h : aint n < 10 ^ 64) : (term z n).length ≤ 100 := by
  unfold term
  rw [len_app, sg_len]
  split
  · omega
  · rw [len_app, len_app]
    have := dec_len (aint0 n) h
    have e : (Str.ofString "*").length = 1 := by decide +kernel
    omega
theorem pieces_len {cs : Cf} {c : Int} (S : Small cs c) (hl : cs.length < 64) (hg : ∀ e ∈ cs, good e.1 = true) : (∀ y ∈ pieces cs c, y.length ≤ 100) ∧ (pieces cs c).length ≤ 64 := by
  constructor
  · intro y hy
    unfold pieces at hy
    rcases List.mem_append.mp hy with h | h
    · obtain ⟨e, he, rfl⟩ := List.mem_map.mp h
      exact term_len (by have := (good_len (hg e he)).1; omega) (S.cs e he)
    · split at h
      · rw [List.mem_singleton.mp h, len_app, sg_len]
        have := dec_len (aint0 c) S.c
        omega
      · cases h
  · unfold pieces
    rw [List.length_append, List.length_map]
    split
    · show cs.length + 1 ≤ 64
      omega
    · show cs.length + 0 ≤ 64
      omega
theorem cut3 (j : Str) : TL.tl (cutS j none (some 3)) = (TL.tl j).take 3 := by
  show ((j.cps.toList.drop (HT.sIx j.length 0 none)).take (HT.sIx j.length j.length (some ((3 : Nat) : Int)) - HT.sIx j.length 0 none)) = _
  rw [HT.sIx_none, HT.sIx_nat, List.drop_zero, Nat.sub_zero]
  by_cases h : 3 ≤ j.length
  · rw [Nat.min_eq_left h]
  · rw [Nat.min_eq_right (by omega), List.take_of_length_le (by rw [← Str.len_list]; exact Nat.le_refl _), List.take_of_length_le (by have := Str.len_list j; show j.cps.toList.length ≤ 3; omega)]
theorem sw_cut (j y : Str) (hy : y.length = 3) : Txt.startswith j y = decide (cutS j none (some 3) = y) := by
  have hly : (TL.tl y).length = 3 := by rw [← hy]; exact (Str.len_list y).symm
  have hne : TL.tl y ≠ [] := fun e => by rw [e] at hly; cases hly
  have e1 : (cutS j none (some 3) = y) ↔ (TL.tl j).take 3 = TL.tl y := by
    rw [← cut3]
    exact ⟨fun e => by rw [e], fun e => Str.ext_list e⟩
  have e2 : Txt.startswith j y = true ↔ (TL.tl j).take 3 = TL.tl y := by
    show (decide (0 + y.length ≤ j.length) && PySem.Builtin.Str.subAt j y 0) = true ↔ _
    have := TL.at_iff (x := j) hne 0
    rw [List.drop_zero] at this
    rw [Bool.and_eq_true, decide_eq_true_eq]
    refine Iff.trans this ?_
    show (((TL.tl j).take (TL.tl y).length) == TL.tl y) = true ↔ _
    rw [hly, beq_iff_eq]
  by_cases h : cutS j none (some 3) = y
  · rw [decide_eq_true h]
    exact e2.mpr (e1.mp h)
  · rw [decide_eq_false h]
    cases q : Txt.startswith j y with
    | false => rfl
    | true => exact absurd (e1.mpr (e2.mp q)) h
theorem join_snoc : ∀ (l : List Str) (x : Str), Str.join (Str.ofString "") (l ++ [x]) = Str.join (Str.ofString "") l ++ x
  | [], x => (Str.empty_app x).symm
  | [y], x => by
    show y ++ (Str.ofString "") ++ x = y ++ x
    rw [Str.app_assoc, show (Str.ofString "") ++ x = x from Str.empty_app x]
  | y :: z :: r, x => by
    show y ++ (Str.ofString "") ++ Str.join (Str.ofString "") ((z :: r) ++ [x]) = (y ++ (Str.ofString "") ++ Str.join (Str.ofString "") (z :: r)) ++ x
    rw [join_snoc (z :: r) x, Str.app_assoc, Str.app_assoc, Str.app_assoc]
/-- the same as pieces, without the lone zero -/
def pieces2 (cs : Cf) (c : Int) : List Str := cs.map (fun e => term e.1 e.2) ++ (if c ≠ 0 then [sg c ++ dec (aint c)] else [])
theorem pieces2_eq {cs : Cf} {c : Int} (h : ¬ (cs = [] ∧ c = 0)) : pieces cs c = pieces2 cs c := by
  unfold pieces pieces2
  by_cases hc : c = 0
  · rw [if_neg (show ¬ c ≠ 0 from fun z => z hc), if_neg (by rintro (z | z); exact z hc; exact h ⟨z, hc⟩)]
  · rw [if_pos (show c ≠ 0 from hc), if_pos (Or.inl hc)]
theorem join_ne {l : List Str} {x : Str} (h : x ∈ l) (hx : 0 < x.length) : Str.join (Str.ofString "") l ≠ Str.ofString "" := by
  intro e
  have e2 : (Str.join (Str.ofString "") l).length = 0 := by rw [e]; decide +kernel
  rw [join_len] at e2
  have : ∀ (l : List Str), x ∈ l → x.length ≤ (l.map (·.length)).sum := by
    intro l
    induction l with
    | nil => intro h; cases h
    | cons y r ih =>
      intro h
      rw [List.map_cons, List.sum_cons]
      rcases List.mem_cons.mp h with q | q
      · rw [q]; omega
      · have := ih q; omega
  have := this l h
  omega
theorem pieces2_ne {cs : Cf} {c : Int} (h : ¬ (cs = [] ∧ c = 0)) : Str.join (Str.ofString "") (pieces2 cs c) ≠ Str.ofString "" := by
  by_cases hc : c = 0
  · cases cs with
    | nil => exact absurd ⟨rfl, hc⟩ h
    | cons e r =>
      refine join_ne (x := term e.1 e.2) ?_ ?_
      · unfold pieces2
        exact List.mem_append_left _ List.mem_cons_self
      · unfold term
        rw [len_app, sg_len]
        omega
  · refine join_ne (x := sg c ++ dec (aint c)) ?_ ?_
    · unfold pieces2
      rw [if_pos (show c ≠ 0 from hc)]
      exact List.mem_append_right _ List.mem_cons_self
    · rw [len_app, sg_len]
      omega
theorem ftext_zero : ftext [] 0 = Str.ofString "0" := by decide +kernel
theorem ftext_cut {cs : Cf} {c : Int} (h : ¬ (cs = [] ∧ c = 0)) {T : Str} (hT : T = Str.join (Str.ofString "") (pieces2 cs c)) :
    ftext cs c = if cutS T none (some 3) = Str.ofString " - " then (Str.ofString "-") ++ cutS T (some 3) none else cutS T (some 3) none := by
  have hj : joinedT cs c = T := by unfold joinedT; rw [pieces2_eq h, hT]
  unfold ftext
  rw [hj, sw_cut T _ (by decide +kernel)]
  by_cases q : cutS T none (some 3) = Str.ofString " - "
  · rw [decide_eq_true q, if_pos rfl, if_pos q]
  · rw [decide_eq_false q, if_neg Bool.false_ne_true, if_neg q]
    exact Str.empty_app _
end OS

namespace OS
open PySem L2 OZ PySem.Spec PyProof.Rows
/-- the first number of a form that is too large for a line -/
def tooBig (cs : Cf) (c : Int) : Option Int := ((cs.map (·.2)).find? fun k => decide (20 < k.natAbs)).or (if 1000 < c.natAbs then some c else none)
def FCheck (C CR : Addr) : FD := fun ds KR KE m => ∃ cs c, ds = [formD C cs c] ∧ cs.length < 64 ∧ (tooBig cs c = none → KR .non m) ∧ (∀ v, tooBig cs c = some v → KE CR [("value", .int v)] m)
abbrev eqnD (CE C : Addr) (cs : Cf) (c : Int) : Da := .obj CE [("_form", formD C cs c)]
abbrev congD (CG C : Addr) (cs : Cf) (c q : Int) : Da := .obj CG [("_form", formD C cs c), ("_modulus", .int q)]
abbrev unlD (CU : Addr) (a b : Str) : Da := .obj CU [("_first", .str a), ("_second", .str b)]
def FEqnInit (C CR : Addr) : FI := fun ds KR KE m => ∃ cs c, ds = [formD C cs c] ∧ cs.length < 64 ∧ (tooBig cs c = none → KR [("_form", formD C cs c)] m) ∧ (∀ v, tooBig cs c = some v → KE CR [("value", .int v)] m)
def FCongInit (C CR : Addr) : FI := fun ds KR KE m => ∃ cs c q, ds = [formD C cs c, .int q] ∧ cs.length < 64 ∧ (tooBig cs c = none → 2 ≤ q → q ≤ 40 → KR [("_form", formD C cs c), ("_modulus", .int q)] m) ∧ (∀ v, tooBig cs c = some v → KE CR [("value", .int v)] m) ∧ (tooBig cs c = none → ¬ (2 ≤ q ∧ q ≤ 40) → KE CR [("value", .int q)] m)
def FUnlInit (CB CD : Addr) : FI := fun ds KR KE m => ∃ a b : Str, ds = [.str a, .str b] ∧ a.length ≤ 1000 ∧ b.length ≤ 1000 ∧ (good a = true → good b = true → a ≠ b → KR [("_first", .str a), ("_second", .str b)] m) ∧
  (good a = false → KE CB [("name", .str a)] m) ∧ (good a = true → good b = false → KE CB [("name", .str b)] m) ∧ (good a = true → a = b → KE CD [("name", .str a)] m)
theorem put_one (a : Str) (x : Da) : putDa a x [] = ([(a, x)] : List (Str × Da)) := rfl
theorem put_two {a b : Str} (h : ¬ a = b) (x y : Da) : putDa b y [(a, x)] = ([(a, x), (b, y)] : List (Str × Da)) := by
  unfold putDa
  rw [if_neg h]
  rfl
section
variable {B : Bd} {C CR CB CD CE CG CU f : Addr} {fd : FuncData}
theorem check_ok {t1 t2 : Tok} (Fn : Fun B.K "_check_form" "_check_form" s_check_form f fd) (hb : Binds B.K fd ["form"] []) (T : Bn B) (g1 : B.mg "MOST_COEFFICIENT" = some (.int 20 t1)) (g2 : B.mg "MOST_CONSTANT" = some (.int 1000 t2)) (U : ErrG B 1 "OutOfRange" CR "value")
    (PF : PropG pureM B 1 C "coefficients" (FCoef C)) (PC : PropG pureM B 1 C "constant" (FConst C)) : FnG pureM B 3 f 1 (FCheck C CR) := by
  refine fnG_okX Fn c_s_check_form rfl hb ?_
  rintro X ds KR KE m ⟨cdv, A, outer, s, H, E, rfl⟩ cx hr hl ⟨cs, c, rfl, h64, k1, k2⟩
  show StD _ _ _ _ [.v (formD C cs c), .un] _ _
  fail "go"
  refine st1_for cx (iter_values ?_)
  fail "go"
  refine ⟨cs, c, rfl, h64, ?_⟩
  refine ⟨_, rfl, ?_⟩
  rw [dcC_vals, List.map_map]
  refine for_inv cx (i := 1) (fun n sl' m' => ∃ s3, m' = m ∧ ((cs.take n).map (·.2)).find? (fun k => decide (20 < k.natAbs)) = none ∧ sl' = [.v (formD C cs c), s3]) (by fail "zi") ⟨.un, rfl, rfl, rfl⟩ (by rintro n sl m ⟨_, _, _, rfl⟩; rfl) ?_ ?_
  · rintro n d sl m2 hd ⟨s3, rfl, hq, rfl⟩
    rw [List.getElem?_map] at hd
    obtain ⟨y, hy, rfl⟩ : ∃ e, cs[n]? = some e ∧ d = .int e.2 := by
      cases q : cs[n]? with
      | none => rw [q] at hd; cases hd
      | some e => rw [q] at hd; cases hd; exact ⟨e, rfl, rfl⟩
    have tk : cs.take (n + 1) = cs.take n ++ [y] := by rw [List.take_succ, hy]; rfl
    have sp : cs = cs.take n ++ y :: cs.drop (n + 1) := by
      have := List.take_append_drop (n + 1) cs
      rw [tk, List.append_assoc] at this
      exact this.symm
    show StD _ _ _ _ [.v (formD C cs c), .v (.int y.2)] _ _
    fail "go"
    refine zif (fun e => ?_) fun e => ?_
    · fail "go"
      refine k2 y.2 ?_
      unfold tooBig
      rw [sp, List.map_append, List.find?_append, hq, List.map_cons, List.find?_cons, decide_eq_true (show 20 < y.2.natAbs by omega)]
      rfl
    · fail "go"
      refine ⟨_, rfl, ?_, rfl⟩
      rw [tk, List.map_append, List.find?_append, hq]
      rw [Option.none_or]
      show List.find? _ [y.2] = none
      rw [List.find?_cons, decide_eq_false (show ¬ 20 < y.2.natAbs by omega)]
      rfl
  rintro sl m2 ⟨s3, rfl, hq, rfl⟩
  rw [List.length_map, List.take_length] at hq
  have tb : tooBig cs c = if 1000 < c.natAbs then some c else none := by
    unfold tooBig
    rw [hq]
    rfl
  fail "go"
  refine ⟨cs, c, rfl, ?_⟩
  fail "go"
  refine zif (fun e => ?_) fun e => ?_
  · fail "go"
    refine ⟨cs, c, rfl, ?_⟩
    fail "go"
    refine k2 c ?_
    rw [tb, if_pos (by omega)]
  · fail "go"
    refine k1 ?_
    rw [tb, if_neg (by omega)]
theorem einit_ok (Fn : Fun B.K "__init__" "Equation.__init__" sEquation_init f fd) (hb : Binds B.K fd ["self", "form"] []) (cl : Cls B.K CE) (nF : NoAttr B.K CE "_form") (EC : CallG pureM B 3 "_check_form" 1 (FCheck C CR)) :
    FnOk B.P B.w B.K B.mg B.base (L2.CX B.P B.w) 5 f fd ["self", "form"] (spI pureM B.K CE 1 (FEqnInit C CR)) := by
  refine fnI_ok Fn c_sEquation_init rfl ?_
  rintro X ds KR KE m a ⟨cdv, A, outer, s, H, E, rfl⟩ cx hr hl ⟨cs, c, rfl, h64, k1, k2⟩
  show StD _ _ _ _ [.mm (some a) (.obj CE []), .v (formD C cs c)] _ _
  fail "go"
  refine ⟨cs, c, rfl, h64, fun hq => ?_, k2⟩
  have k1 := k1 hq
  fail "go"
  refine st1_setF cx (by fail "zn") cl nF ?_
  fail "go"
  exact k1
theorem cinit_ok {t1 t2 : Tok} (Fn : Fun B.K "__init__" "Congruence.__init__" sCongruence_init f fd) (hb : Binds B.K fd ["self", "form", "modulus"] []) (g1 : B.mg "LEAST_MODULUS" = some (.int 2 t1)) (g2 : B.mg "MOST_MODULUS" = some (.int 40 t2)) (U : ErrG B 1 "OutOfRange" CR "value") (cl : Cls B.K CG) (nF : NoAttr B.K CG "_form") (nM : NoAttr B.K CG "_modulus") (EC : CallG pureM B 3 "_check_form" 1 (FCheck C CR)) :
    FnOk B.P B.w B.K B.mg B.base (L2.CX B.P B.w) 5 f fd ["self", "form", "modulus"] (spI pureM B.K CG 2 (FCongInit C CR)) := by
  refine fnI_ok Fn c_sCongruence_init rfl ?_
  rintro X ds KR KE m a ⟨cdv, A, outer, s, H, E, rfl⟩ cx hr hl ⟨cs, c, q, rfl, h64, k1, k2, k3⟩
  show StD _ _ _ _ [.mm (some a) (.obj CG []), .v (formD C cs c), .v (.int q)] _ _
  fail "go"
  refine ⟨cs, c, rfl, h64, fun hq => ?_, k2⟩
  have k1 := k1 hq
  have k3 := k3 hq
  fail "go"
  refine zif (fun e1 => ?_) fun e1 => ?_
  · fail "go"
    refine zifn (fun e2 => ?_) fun e2 => ?_
    · fail "go"
      exact k3 (by omega)
    · fail "go"
      refine st1_setF cx (by fail "zn") cl nF ?_
      fail "go"
      refine st1_setF cx (by fail "zn") cl nM ?_
      fail "go"
      rw [put_one, put_two (by decide +kernel)]
      refine ⟨by simp, ?_⟩
      fail "go"
      exact k1 e1 (by omega)
  · fail "go"
    exact k3 (by omega)
theorem uinit_ok (Fn : Fun B.K "__init__" "Unlike.__init__" sUnlike_init f fd) (hb : Binds B.K fd ["self", "first", "second"] []) (UB : ErrG B 1 "BadName" CB "name") (UD : ErrG B 1 "DuplicateName" CD "name") (cl : Cls B.K CU) (nF : NoAttr B.K CU "_first") (nS : NoAttr B.K CU "_second") (EV : CallG pureM B 1 "valid_name" 1 FValid) :
    FnOk B.P B.w B.K B.mg B.base (L2.CX B.P B.w) 3 f fd ["self", "first", "second"] (spI pureM B.K CU 2 (FUnlInit CB CD)) := by
  refine fnI_ok Fn c_sUnlike_init rfl ?_
  rintro X ds KR KE m p ⟨cdv, A, outer, s, H, E, rfl⟩ cx hr hl ⟨a, b, rfl, ha, hb2, k1, k2, k3, k4⟩
  show StD _ _ _ _ [.mm (some p) (.obj CU []), .v (.str a), .v (.str b), .un] _ _
  fail "go"
  refine st1_for cx (iter_seq ?_)
  fail "go"
  refine for_inv cx (i := 3) (fun n sl' m' => ∃ s3, m' = m ∧ (1 ≤ n → good a = true) ∧ (2 ≤ n → good b = true) ∧ sl' = [.mm (some p) (.obj CU []), .v (.str a), .v (.str b), s3]) (by fail "zi") ⟨.un, rfl, by omega, by omega, rfl⟩ (by rintro n sl m ⟨_, _, _, _, rfl⟩; rfl) ?_ ?_
  · rintro n d sl m2 hd ⟨s3, rfl, h1, h2, rfl⟩
    obtain ⟨z, hz, rfl, hk⟩ : ∃ z : Str, z.length ≤ 1000 ∧ Da.str z = d ∧ (good z = false → KE CB [("name", .str z)] m2) ∧ (good z = true → (1 ≤ n + 1 → good a = true) ∧ (2 ≤ n + 1 → good b = true)) := by
      match n, hd with
      | 0, hd => cases hd; exact ⟨a, ha, rfl, k2, fun g => ⟨fun _ => g, fun h => absurd h (by omega)⟩⟩
      | 1, hd => cases hd; exact ⟨b, hb2, rfl, k3 (h1 (by omega)), fun g => ⟨fun _ => h1 (by omega), fun _ => g⟩⟩
      | n + 2, hd => cases hd
    show StD _ _ _ _ [.mm (some p) (.obj CU []), .v (.str a), .v (.str b), .v (.str z)] _ _
    fail "go"
    refine ⟨z, rfl, hz, ?_⟩
    cases q : good z with
    | true =>
      fail "go"
      exact ⟨_, rfl, (hk.2 q).1, (hk.2 q).2, rfl⟩
    | false =>
      fail "go"
      exact hk.1 q
  rintro sl m2 ⟨s3, rfl, h1, h2, rfl⟩
  have g1 : good a = true := h1 (by simp)
  have g2 : good b = true := h2 (by simp)
  fail "go"
  refine zif (fun e => ?_) fun e => ?_
  · fail "go"
    exact k4 g1 e
  · fail "go"
    refine st1_setF cx (by fail "zn") cl nF ?_
    fail "go"
    refine st1_setF cx (by fail "zn") cl nS ?_
    fail "go"
    rw [put_one, put_two (by decide +kernel)]
    refine ⟨by simp, ?_⟩
    fail "go"
    exact k1 g1 g2 e
end
end OS

namespace OS
open PySem L2 OZ PySem.Spec PyProof.Rows
def namesD (cs : Cf) : Da := .tup ((cs.map (·.1)).map Da.str)
def FEForm (CE C : Addr) : FD := fun ds KR _ m => ∃ cs c, ds = [eqnD CE C cs c] ∧ KR (formD C cs c) m
def FENames (CE C : Addr) : FD := fun ds KR _ m => ∃ cs c, ds = [eqnD CE C cs c] ∧ cs.length < 64 ∧ KR (namesD cs) m
def FEEq (CE C : Addr) : FD := fun ds KR _ m => ∃ cs c es e, ds = [eqnD CE C cs c, eqnD CE C es e] ∧ Can cs ∧ Can es ∧ KR (.bl (decide (cs = es) && decide (c = e))) m
def FEHolds (CE C CU : Addr) : FD := fun ds KR KE m => ∃ cs c ws, ds = [eqnD CE C cs c, .dct (dcC ws)] ∧ cs.length < 64 ∧ (∀ e ∈ cs, Mid e.2) ∧ (∀ x, Mid (look ws x)) ∧
  (lacks cs ws = none → KR (.bl (decide (c + prods cs ws = 0))) m) ∧ (∀ n, lacks cs ws = some n → KE CU [("name", .str n)] m)
def FCForm (CG C : Addr) : FD := fun ds KR _ m => ∃ cs c q, ds = [congD CG C cs c q] ∧ KR (formD C cs c) m
def FCMod (CG C : Addr) : FD := fun ds KR _ m => ∃ cs c q, ds = [congD CG C cs c q] ∧ KR (.int q) m
def FCNames (CG C : Addr) : FD := fun ds KR _ m => ∃ cs c q, ds = [congD CG C cs c q] ∧ cs.length < 64 ∧ KR (namesD cs) m
def FCEq (CG C : Addr) : FD := fun ds KR _ m => ∃ cs c q es e r, ds = [congD CG C cs c q, congD CG C es e r] ∧ Can cs ∧ Can es ∧ KR (.bl (decide (cs = es) && decide (c = e) && decide (q = r))) m
def FCHolds (CG C CU : Addr) : FD := fun ds KR KE m => ∃ cs c q ws, ds = [congD CG C cs c q, .dct (dcC ws)] ∧ 0 < q ∧ cs.length < 64 ∧ (∀ e ∈ cs, Mid e.2) ∧ (∀ x, Mid (look ws x)) ∧
  (lacks cs ws = none → KR (.bl (decide ((c + prods cs ws) % q = 0))) m) ∧ (∀ n, lacks cs ws = some n → KE CU [("name", .str n)] m)
def FUFirst (CU : Addr) : FD := fun ds KR _ m => ∃ a b, ds = [unlD CU a b] ∧ KR (.str a) m
def FUSecond (CU : Addr) : FD := fun ds KR _ m => ∃ a b, ds = [unlD CU a b] ∧ KR (.str b) m
def FUNames (CU : Addr) : FD := fun ds KR _ m => ∃ a b, ds = [unlD CU a b] ∧ KR (.tup [.str a, .str b]) m
def FUEq (CU : Addr) : FD := fun ds KR _ m => ∃ a b c d, ds = [unlD CU a b, unlD CU c d] ∧ KR (.bl (decide (a = c) && decide (b = d))) m
section
variable {B : Bd} {C CR CE CG CU f : Addr} {fd : FuncData}
theorem eform_ok (Fn : Fun B.K "form" "Equation.form" sEquation_form f fd) (cl : Cls B.K CE) (nF : NoAttr B.K CE "_form") : FnOk B.P B.w B.K B.mg B.base CX0 1 f fd ["self"] (spD pureM B.K 1 (FEForm CE C)) := by
  refine fn0_ok Fn c_sEquation_form rfl ?_
  rintro X ds KR KE m ⟨cdv, A, outer, s', H, E, rfl⟩ cx hr hl ⟨cs, c, rfl, k⟩
  show StD _ _ _ _ [.v (eqnD CE C cs c)] _ _
  fail "go"
  exact k
theorem enames_ok (Fn : Fun B.K "names" "Equation.names" sEquation_names f fd) (T : Bn B) (cl : Cls B.K CE) (nF : NoAttr B.K CE "_form") (PF : PropG pureM B 1 C "coefficients" (FCoef C)) : FnOk B.P B.w B.K B.mg B.base CX0 3 f fd ["self"] (spD pureM B.K 1 (FENames CE C)) := by
  refine fn0_ok Fn c_sEquation_names rfl ?_
  rintro X ds KR KE m ⟨cdv, A, outer, s', H, E, rfl⟩ cx hr hl ⟨cs, c, rfl, h64, k⟩
  show StD _ _ _ _ [.v (eqnD CE C cs c)] _ _
  fail "go"
  refine ⟨cs, c, rfl, h64, ?_⟩
  fail "go"
  rw [dcC_keysD]
  exact k
theorem eeq_ok (Fn : Fun B.K "__eq__" "Equation.__eq__" sEquation_eq f fd) (hb : Binds B.K fd ["self", "other"] []) (T : Bn B) (mC : B.mg "Equation" = some (.ref CE)) (cl : Cls B.K CE) (nF : NoAttr B.K CE "_form") (ty : TyC B.K CE) (kt : KitG B.K (.ref CE) (.ref CE) true) (EQ : EqG pureM B 2 C (FEqF C)) : FnG pureM B 3 f 2 (FEEq CE C) := by
  refine fnG_ok Fn c_sEquation_eq rfl hb ?_
  rintro X ds KR KE m ⟨cdv, A, outer, s, H, E, rfl⟩ cx hr hl ⟨cs, c, es, e, rfl, hc, he, k⟩
  show StD _ _ _ _ [.v (eqnD CE C cs c), .v (eqnD CE C es e)] _ _
  fail "go"
  exact ⟨cs, c, es, e, rfl, hc, he, _, rfl, k⟩
theorem cform_ok (Fn : Fun B.K "form" "Congruence.form" sCongruence_form f fd) (cl : Cls B.K CG) (nF : NoAttr B.K CG "_form") : FnOk B.P B.w B.K B.mg B.base CX0 1 f fd ["self"] (spD pureM B.K 1 (FCForm CG C)) := by
  refine fn0_ok Fn c_sCongruence_form rfl ?_
  rintro X ds KR KE m ⟨cdv, A, outer, s', H, E, rfl⟩ cx hr hl ⟨cs, c, q, rfl, k⟩
  show StD _ _ _ _ [.v (congD CG C cs c q)] _ _
  fail "go"
  exact k
theorem cmod_ok (Fn : Fun B.K "modulus" "Congruence.modulus" sCongruence_modulus f fd) (cl : Cls B.K CG) (nF : NoAttr B.K CG "_modulus") : FnOk B.P B.w B.K B.mg B.base CX0 1 f fd ["self"] (spD pureM B.K 1 (FCMod CG C)) := by
  refine fn0_ok Fn c_sCongruence_modulus rfl ?_
  rintro X ds KR KE m ⟨cdv, A, outer, s', H, E, rfl⟩ cx hr hl ⟨cs, c, q, rfl, k⟩
  show StD _ _ _ _ [.v (congD CG C cs c q)] _ _
  fail "go"
  exact k
theorem cnames_ok (Fn : Fun B.K "names" "Congruence.names" sCongruence_names f fd) (T : Bn B) (cl : Cls B.K CG) (nF : NoAttr B.K CG "_form") (PF : PropG pureM B 1 C "coefficients" (FCoef C)) : FnOk B.P B.w B.K B.mg B.base CX0 3 f fd ["self"] (spD pureM B.K 1 (FCNames CG C)) := by
  refine fn0_ok Fn c_sCongruence_names rfl ?_
  rintro X ds KR KE m ⟨cdv, A, outer, s', H, E, rfl⟩ cx hr hl ⟨cs, c, q, rfl, h64, k⟩
  show StD _ _ _ _ [.v (congD CG C cs c q)] _ _
  fail "go"
  refine ⟨cs, c, rfl, h64, ?_⟩
  fail "go"
  rw [dcC_keysD]
  exact k
theorem ceq_ok (Fn : Fun B.K "__eq__" "Congruence.__eq__" sCongruence_eq f fd) (hb : Binds B.K fd ["self", "other"] []) (T : Bn B) (mC : B.mg "Congruence" = some (.ref CG)) (cl : Cls B.K CG) (nF : NoAttr B.K CG "_form") (nM : NoAttr B.K CG "_modulus") (ty : TyC B.K CG) (kt : KitG B.K (.ref CG) (.ref CG) true) (EQ : EqG pureM B 2 C (FEqF C)) : FnG pureM B 3 f 2 (FCEq CG C) := by
  refine fnG_ok Fn c_sCongruence_eq rfl hb ?_
  rintro X ds KR KE m ⟨cdv, A, outer, s, H, E, rfl⟩ cx hr hl ⟨cs, c, q, es, e, r, rfl, hc, he, k⟩
  show StD _ _ _ _ [.v (congD CG C cs c q), .v (congD CG C es e r)] _ _
  fail "go"
  refine ⟨cs, c, es, e, rfl, hc, he, ?_⟩
  refine ⟨_, rfl, ?_⟩
  cases h : decide (cs = es) && decide (c = e) with
  | true =>
    rw [h] at k
    fail "go"
    exact k
  | false =>
    rw [h] at k
    fail "go"
    exact k
theorem ufirst_ok (Fn : Fun B.K "first" "Unlike.first" sUnlike_first f fd) (cl : Cls B.K CU) (nF : NoAttr B.K CU "_first") : FnOk B.P B.w B.K B.mg B.base CX0 1 f fd ["self"] (spD pureM B.K 1 (FUFirst CU)) := by
  refine fn0_ok Fn c_sUnlike_first rfl ?_
  rintro X ds KR KE m ⟨cdv, A, outer, s', H, E, rfl⟩ cx hr hl ⟨a, b, rfl, k⟩
  show StD _ _ _ _ [.v (unlD CU a b)] _ _
  fail "go"
  exact k
theorem usecond_ok (Fn : Fun B.K "second" "Unlike.second" sUnlike_second f fd) (cl : Cls B.K CU) (nS : NoAttr B.K CU "_second") : FnOk B.P B.w B.K B.mg B.base CX0 1 f fd ["self"] (spD pureM B.K 1 (FUSecond CU)) := by
  refine fn0_ok Fn c_sUnlike_second rfl ?_
  rintro X ds KR KE m ⟨cdv, A, outer, s', H, E, rfl⟩ cx hr hl ⟨a, b, rfl, k⟩
  show StD _ _ _ _ [.v (unlD CU a b)] _ _
  fail "go"
  exact k
theorem unames_ok (Fn : Fun B.K "names" "Unlike.names" sUnlike_names f fd) (cl : Cls B.K CU) (nF : NoAttr B.K CU "_first") (nS : NoAttr B.K CU "_second") : FnOk B.P B.w B.K B.mg B.base CX0 1 f fd ["self"] (spD pureM B.K 1 (FUNames CU)) := by
  refine fn0_ok Fn c_sUnlike_names rfl ?_
  rintro X ds KR KE m ⟨cdv, A, outer, s', H, E, rfl⟩ cx hr hl ⟨a, b, rfl, k⟩
  show StD _ _ _ _ [.v (unlD CU a b)] _ _
  fail "go"
  exact k
theorem ueq_ok (Fn : Fun B.K "__eq__" "Unlike.__eq__" sUnlike_eq f fd) (hb : Binds B.K fd ["self", "other"] []) (T : Bn B) (mC : B.mg "Unlike" = some (.ref CU)) (cl : Cls B.K CU) (nF : NoAttr B.K CU "_first") (nS : NoAttr B.K CU "_second") (ty : TyC B.K CU) (kt : KitG B.K (.ref CU) (.ref CU) true) : FnG pureM B 2 f 2 (FUEq CU) := by
  refine fnG_ok Fn c_sUnlike_eq rfl hb ?_
  rintro X ds KR KE m ⟨cdv, A, outer, s, H, E, rfl⟩ cx hr hl ⟨a, b, c, d, rfl, k⟩
  show StD _ _ _ _ [.v (unlD CU a b), .v (unlD CU c d)] _ _
  fail "go"
  cases h : decide (a = c) with
  | true =>
    rw [h] at k
    fail "go"
    exact k
  | false =>
    rw [h] at k
    fail "go"
    exact k
end
end OS

namespace OS
open PySem L2 OZ PySem.Spec PyProof.Rows
section
variable {B : Bd} {C CR CE CG CU f : Addr} {fd : FuncData}
theorem eholds_ok (Fn : Fun B.K "holds" "Equation.holds" sEquation_holds f fd) (hb : Binds B.K fd ["self", "values"] []) (T : Bn B) (cl : Cls B.K CE) (nF : NoAttr B.K CE "_form") (CC : InstG pureM B 3 C 1 (FCallF C CU)) : FnG pureM B 4 f 2 (FEHolds CE C CU) := by
  refine fnG_okX Fn c_sEquation_holds rfl hb ?_
  rintro X ds KR KE m ⟨cdv, A, outer, s, H, E, rfl⟩ cx hr hl ⟨cs, c, ws, rfl, h64, h1, h2, k1, k2⟩
  show StD _ _ _ _ [.v (eqnD CE C cs c), .v (.dct (dcC ws))] _ _
  fail "go"
  refine ⟨cs, c, ws, rfl, h64, h1, h2, fun hq => ?_, k2⟩
  fail "go"
  exact k1 hq
theorem cholds_ok (Fn : Fun B.K "holds" "Congruence.holds" sCongruence_holds f fd) (hb : Binds B.K fd ["self", "values"] []) (T : Bn B) (cl : Cls B.K CG) (nF : NoAttr B.K CG "_form") (nM : NoAttr B.K CG "_modulus") (CC : InstG pureM B 3 C 1 (FCallF C CU)) : FnG pureM B 4 f 2 (FCHolds CG C CU) := by
  refine fnG_okX Fn c_sCongruence_holds rfl hb ?_
  rintro X ds KR KE m ⟨cdv, A, outer, s, H, E, rfl⟩ cx hr hl ⟨cs, c, q, ws, rfl, hq0, h64, h1, h2, k1, k2⟩
  show StD _ _ _ _ [.v (congD CG C cs c q), .v (.dct (dcC ws))] _ _
  fail "go"
  refine ⟨cs, c, ws, rfl, h64, h1, h2, fun hq => ?_, k2⟩
  fail "go"
  exact k1 hq
end
end OS

namespace OS
open PySem L2 OZ PySem.Spec PyProof.Rows
/-! what lines say of values -/
def FUHolds (CU CN : Addr) : FD := fun ds KR KE m => ∃ a b ws, ds = [unlD CU a b, .dct (dcC ws)] ∧
  (lookO ws a ≠ none → lookO ws b ≠ none → KR (.bl (decide (look ws a ≠ look ws b))) m) ∧ (lookO ws a = none → KE CN [("name", .str a)] m) ∧ (lookO ws a ≠ none → lookO ws b = none → KE CN [("name", .str b)] m)
theorem look_has {ws : Cf} {a : Str} (h : lookO ws a ≠ none) : OZ.look (Sum.inr a : Key) (dcC ws) = some (.int (look ws a)) := by
  rw [dcC_look]
  cases q : lookO ws a with
  | none => exact absurd q h
  | some v => unfold look; rw [q]; rfl
theorem look_some (ws : Cf) (a : Str) : (OZ.look (Sum.inr a : Key) (dcC ws)).isSome = (lookO ws a).isSome := by
  rw [dcC_look]
  cases lookO ws a <;> rfl
section
variable {B : Bd} {CU CN f : Addr} {fd : FuncData}
theorem uholds_ok (Fn : Fun B.K "holds" "Unlike.holds" sUnlike_holds f fd) (hb : Binds B.K fd ["self", "values"] []) (T : Bn B) (cl : Cls B.K CU) (nF : NoAttr B.K CU "_first") (nS : NoAttr B.K CU "_second") (U : ErrG B 1 "UnknownName" CN "name") (PN : PropG pureM B 1 CU "names" (FUNames CU)) : FnG pureM B 4 f 2 (FUHolds CU CN) := by
  refine fnG_okX Fn c_sUnlike_holds rfl hb ?_
  rintro X ds KR KE m ⟨cdv, A, outer, s, H, E, rfl⟩ cx hr hl ⟨a, b, ws, rfl, k1, k2, k3⟩
  show StD _ _ _ _ [.v (unlD CU a b), .v (.dct (dcC ws)), .un] _ _
  fail "go"
  refine ⟨a, b, rfl, ?_⟩
  fail "go"
  refine for_inv cx (i := 2) (fun n sl' m' => ∃ s3, m' = m ∧ (1 ≤ n → lookO ws a ≠ none) ∧ (2 ≤ n → lookO ws b ≠ none) ∧ sl' = [.v (unlD CU a b), .v (.dct (dcC ws)), s3]) (by fail "zi") ⟨.un, rfl, by omega, by omega, rfl⟩ (by rintro n sl m ⟨_, _, _, _, rfl⟩; rfl) ?_ ?_
  · rintro n d sl m2 hd ⟨s3, rfl, h1, h2, rfl⟩
    obtain ⟨z, rfl, hk, hk2⟩ : ∃ z : Str, Da.str z = d ∧ (lookO ws z = none → KE CN [("name", .str z)] m2) ∧ (lookO ws z ≠ none → (1 ≤ n + 1 → lookO ws a ≠ none) ∧ (2 ≤ n + 1 → lookO ws b ≠ none)) := by
      match n, hd with
      | 0, hd => cases hd; exact ⟨a, rfl, k2, fun g => ⟨fun _ => g, fun h => absurd h (by omega)⟩⟩
      | 1, hd => cases hd; exact ⟨b, rfl, k3 (h1 (by omega)), fun g => ⟨fun _ => h1 (by omega), fun _ => g⟩⟩
      | n + 2, hd => cases hd
    show StD _ _ _ _ [.v (unlD CU a b), .v (.dct (dcC ws)), .v (.str z)] _ _
    fail "go"
    rw [look_some]
    by_cases q : lookO ws z = none
    · rw [show (lookO ws z).isSome = false by rw [q]; rfl]
      fail "go"
      exact hk q
    · rw [show (lookO ws z).isSome = true by simpa [Option.isSome_iff_ne_none] using q]
      fail "go"
      exact ⟨_, rfl, (hk2 q).1, (hk2 q).2, rfl⟩
  rintro sl m2 ⟨s3, rfl, h1, h2, rfl⟩
  have g1 := h1 (by simp)
  have g2 := h2 (by simp)
  fail "go"
  refine ixd_dctS hr (look_has g1) ?_
  fail "go"
  refine ixd_dctS hr (look_has g2) ?_
  fail "go"
  simpa using k1 g1 g2
end
end OS

namespace OS
open PySem L2 OZ PySem.Spec PyProof.Rows
/-! ### a line of any kind -/
inductive Ln where
  | eqn (cs : Cf) (c : Int) | cong (cs : Cf) (c q : Int) | unl (a b : Str)
def Ln.d (CE CG CU C : Addr) : Ln → Da
  | .eqn cs c => eqnD CE C cs c | .cong cs c q => congD CG C cs c q | .unl a b => unlD CU a b
def Ln.nms : Ln → List Str
  | .eqn cs _ => cs.map (·.1) | .cong cs _ _ => cs.map (·.1) | .unl a b => [a, b]
/-- a line that can be made -/
def Ln.fit : Ln → Prop
  | .eqn cs c => FormOk cs ∧ tooBig cs c = none | .cong cs c q => FormOk cs ∧ tooBig cs c = none ∧ 2 ≤ q ∧ q ≤ 40 | .unl a b => good a = true ∧ good b = true ∧ a ≠ b
/-- what a line says of values that have all its names -/
def Ln.tells (ws : Cf) : Ln → Bool
  | .eqn cs c => decide (c + prods cs ws = 0) | .cong cs c q => decide ((c + prods cs ws) % q = 0) | .unl a b => decide (look ws a ≠ look ws b)
def Ln.lack (l : Ln) (ws : Cf) : Option Str := l.nms.find? fun n => decide (lookO ws n = none)
theorem tooBig_mid {cs : Cf} {c : Int} (h : tooBig cs c = none) (hc : Can cs) : ∀ e ∈ cs, Mid e.2 := by
  unfold tooBig at h
  rw [Option.or_eq_none_iff, List.find?_eq_none] at h
  intro e he
  have := h.1 e.2 (List.mem_map.mpr ⟨e, he, rfl⟩)
  simp at this
  unfold Mid
  exact Nat.lt_of_le_of_lt this (by decide)
theorem Ln.nms_len {l : Ln} (h : l.fit) : l.nms.length < 64 := by
  cases l with
  | eqn cs c => show (cs.map (·.1)).length < 64; rw [List.length_map]; exact h.1.len
  | cong cs c q => show (cs.map (·.1)).length < 64; rw [List.length_map]; exact h.1.len
  | unl a b => show 2 < 64; omega
theorem Ln.nms_good {l : Ln} (h : l.fit) : ∀ n ∈ l.nms, good n = true := by
  cases l with
  | eqn cs c => intro n hn; obtain ⟨e, he, rfl⟩ := List.mem_map.mp hn; exact h.1.gd e he
  | cong cs c q => intro n hn; obtain ⟨e, he, rfl⟩ := List.mem_map.mp hn; exact h.1.gd e he
  | unl a b => intro n hn; rcases List.mem_cons.mp hn with rfl | hn; exact h.1; rw [List.mem_singleton.mp hn]; exact h.2.1
structure LnN (B : Bd) (CE CG CU C : Addr) : Prop where
  ne : PropG pureM B 3 CE "names" (FENames CE C)
  ng : PropG pureM B 3 CG "names" (FCNames CG C)
  nu : PropG pureM B 1 CU "names" (FUNames CU)
section
variable {M : Mode} {X : Cx} {KE : Kx} {B : Bd} {CE CG CU C CN : Addr} {P : Da → Nat → Prop} {m j : Nat}
/-- line.names -/
theorem attr_names (L : LnN B CE CG CU C) (hj : 4 ≤ j) {l : Ln} (hl : l.fit) (h : P (.tup (l.nms.map Da.str)) m) : AttrD M B j "names" P m (l.d CE CG CU C) := by
  cases l with
  | eqn cs c => exact .propP L.ne hj ⟨cs, c, rfl, hl.1.len, h⟩
  | cong cs c q => exact .propP L.ng hj ⟨cs, c, q, rfl, hl.1.len, h⟩
  | unl a b => exact .propP L.nu (by omega) ⟨a, b, rfl, h⟩
end
end OS

namespace OS
open PySem L2 OZ PySem.Spec PyProof.Rows
structure LnP (B : Bd) (CE CG CU C CN : Addr) : Prop where
  n : LnN B CE CG CU C
  he : MethG pureM B 4 CE "holds" 1 [] (fun ds _ => ds) (FEHolds CE C CN)
  hg : MethG pureM B 4 CG "holds" 1 [] (fun ds _ => ds) (FCHolds CG C CN)
  hu : MethG pureM B 4 CU "holds" 1 [] (fun ds _ => ds) (FUHolds CU CN)
section
variable {M : Mode} {X : Cx} {KE : Kx} {B : Bd} {CE CG CU C CN : Addr} {P : Da → Nat → Prop} {m j : Nat}
/-- line.holds(values) -/
theorem meth_holds (L : LnP B CE CG CU C CN) (hj : 4 ≤ j) {A : (List Da → Nat → Prop) → Nat → Prop} (mono : ∀ (K K' : List Da → Nat → Prop) m, (∀ ds m, K ds m → K' ds m) → A K m → A K' m) {l : Ln} (hl : l.fit)
    (h : A (fun ds m2 => ∃ ws, ds = [.dct (dcC ws)] ∧ (∀ x, Mid (look ws x)) ∧ (l.lack ws = none → P (.bl (l.tells ws)) m2) ∧ (∀ n, l.lack ws = some n → KE CN [("name", .str n)] m2)) m) : MethN M X KE B j "holds" A P m (l.d CE CG CU C) := by
  cases l with
  | eqn cs c =>
    refine MethN.pure L.he hj rfl (mono _ _ _ (fun ds m2 q => ?_) h)
    obtain ⟨ws, rfl, hm, k1, k2⟩ := q
    exact ⟨rfl, cs, c, ws, rfl, hl.1.len, tooBig_mid hl.2 hl.1.can, hm, k1, k2⟩
  | cong cs c q =>
    refine MethN.pure L.hg hj rfl (mono _ _ _ (fun ds m2 z => ?_) h)
    obtain ⟨ws, rfl, hm, k1, k2⟩ := z
    have := hl.2.2.1
    exact ⟨rfl, cs, c, q, ws, rfl, by omega, hl.1.len, tooBig_mid hl.2.1 hl.1.can, hm, k1, k2⟩
  | unl a b =>
    refine MethN.pure L.hu hj rfl (mono _ _ _ (fun ds m2 z => ?_) h)
    obtain ⟨ws, rfl, hm, k1, k2⟩ := z
    refine ⟨rfl, a, b, ws, rfl, fun h1 h2 => k1 ?_, fun h1 => k2 a ?_, fun h1 h2 => k2 b ?_⟩
    · unfold Ln.lack Ln.nms
      simp [h1, h2]
    · unfold Ln.lack Ln.nms
      simp [h1]
    · unfold Ln.lack Ln.nms
      simp [h1, h2]
end
end OS

namespace OS
open PySem L2 OZ PySem.Spec PyProof.Rows
/-! ### the texts of forms -/
theorem jlen {a b : Str} {n k : Nat} (ha : a.length ≤ n) (hb : b.length ≤ k) (h : n + k ≤ 100000 := by decide) : (a ++ b).length ≤ sizeLine := by
  rw [len_app]
  exact Nat.le_trans (show _ ≤ 100000 by omega) big_size
theorem slen {a : Str} {n : Nat} (ha : a.length ≤ n) (h : n ≤ 100000 := by decide) : a.length ≤ sizeLine := Nat.le_trans (Nat.le_trans ha h) big_size
theorem bl_str {z w : Str} {n : Nat} (h : z.length = w.length) (hw : w.length ≤ n) : z.length ≤ n := by omega
theorem ltsz {n : Nat} (h : n ≤ 1000) : n < sizeLine := Nat.lt_of_lt_of_le (show n < 100000 by omega) big_size
def FDec : FD := fun ds KR _ m => ∃ n : Int, ds = [.int n] ∧ 0 ≤ n ∧ n < 10 ^ 64 ∧ KR (.str (dec n)) m
def FSgn : FD := fun ds KR _ m => ∃ (n : Int) (z : Str), ds = [.int n, .str z] ∧ z.length ≤ 1000 ∧ KR (.str (sg n ++ z)) m
def FTerm : FD := fun ds KR _ m => ∃ (z : Str) (n : Int), ds = [.str z, .int n] ∧ z.length ≤ 10 ∧ aint n < 10 ^ 64 ∧ KR (.str (term z n)) m
def FFStr (C : Addr) : FD := fun ds KR _ m => ∃ (cs : Cf) (c : Int), ds = [formD C cs c] ∧ Small cs c ∧ cs.length < 64 ∧ (∀ e ∈ cs, good e.1 = true) ∧ KR (.str (ftext cs c)) m
section
variable {B : Bd} {C f : Addr} {fd : FuncData}
theorem dec_ok {pc : Int} {t : Tok} (Fn : Fun B.K "_decimal" "_decimal" s_decimal f fd) (hb : Binds B.K fd ["number"] []) (T : Bn B) (mP : B.mg "PIECE" = some (.int pc t)) (hpc : (10 : Int) ^ 64 = pc) : FnG pureM B 1 f 1 FDec := by
  refine fnG_ok Fn c_s_decimal rfl hb ?_
  rintro X ds KR KE m ⟨cdv, A, outer, s, H, E, rfl⟩ cx hr hl ⟨n, rfl, h0, h1, k⟩
  have oh : OwnHint "pieces" := trivial
  show StD _ _ _ _ [.v (.int n), .un, .un] _ _
  rw [hpc] at h1
  have hz : n.natAbs.log2 < 1920 := log2_lt (by rw [← hpc] at h1; omega)
  refine std_cut (fun sl' m' => m' = m ∧ sl' = [.v (.int n), .m (.lst []), .un]) ?_ ?_
  · fail "go"
    exact rfl
  rintro sl m1 ⟨rfl, rfl⟩
  refine std_cut (fun sl' m' => m' = m1 ∧ sl' = [.v (.int n), .m (.lst []), .un]) ?_ ?_
  · refine st1_while (fun _ sl' m' => m' = m1 ∧ sl' = [.v (.int n), .m (.lst []), .un]) ⟨0, rfl, rfl⟩ ?_
    rintro _ sl m2 ⟨rfl, rfl⟩
    fail "go"
    exact rfl
  rintro sl m2 ⟨rfl, rfl⟩
  refine std_cut (fun sl' m' => m' = m2 ∧ sl' = [.v (.int n), .m (.lst [.str (toString n)]), .un]) ?_ ?_
  · fail "go"
    exact rfl
  rintro sl m3 ⟨rfl, rfl⟩
  refine std_pub (i := 1) rfl ?_
  show StD _ _ _ _ [.v (.int n), .v (.lst [.str (toString n)]), .un] _ _
  fail "go"
  refine ⟨false, [dec n], rfl, ?_, ?_⟩
  · have := dec_len h0 (by rw [hpc]; exact h1)
    simp only [List.map_cons, List.map_nil, List.sum_cons, List.sum_nil, List.length_cons, List.length_nil]
    rw [show (("" : Str)).length = 0 by decide +kernel]
    omega
  rw [TL.join_eq]
  exact k
theorem sgn_ok (Fn : Fun B.K "_signed" "_signed" s_signed f fd) (hb : Binds B.K fd ["number", "text"] []) (T : Bn B) : FnG pureM B 1 f 2 FSgn := by
  refine fnG_ok Fn c_s_signed rfl hb ?_
  rintro X ds KR KE m ⟨cdv, A, outer, s, H, E, rfl⟩ cx hr hl ⟨n, z, rfl, hz, k⟩
  have hzs : z.length ≤ sizeLine := slen hz
  have l3 : ∀ n, (sg n).length ≤ 3 := fun n => Nat.le_of_eq (sg_len n)
  have hl : (sg n ++ z).length ≤ sizeLine := jlen (l3 n) hz
  show StD _ _ _ _ [.v (.int n), .v (.str z)] _ _
  fail "go"
  refine zif (fun e => ?_) fun e => ?_
  · rw [show sg n = (" - " : Str) from if_pos e] at k hl
    fail "go"
    refine ⟨by rw [Str.empty_app]; exact hl, ?_⟩
    fail "go"
    rw [Str.empty_app]
    exact k
  · rw [show sg n = (" + " : Str) from if_neg e] at k hl
    fail "go"
    refine ⟨by rw [Str.empty_app]; exact hl, ?_⟩
    fail "go"
    rw [Str.empty_app]
    exact k
theorem term_ok (Fn : Fun B.K "_term" "_term" s_term f fd) (hb : Binds B.K fd ["name", "coefficient"] []) (T : Bn B) (ES : CallG pureM B 1 "_signed" 2 FSgn) (ED : CallG pureM B 1 "_decimal" 1 FDec) : FnG pureM B 2 f 2 FTerm := by
  refine fnG_ok Fn c_s_term rfl hb ?_
  rintro X ds KR KE m ⟨cdv, A, outer, s, H, E, rfl⟩ cx hr hl ⟨z, n, rfl, hz, hn, k⟩
  have ha : (if n < 0 then -n else n) = aint n := rfl
  have hzs : z.length ≤ sizeLine := slen (n := 10) hz
  have hd := dec_len (aint0 n) hn
  have hds : (dec (aint n)).length ≤ sizeLine := slen hd
  have hst : ("*" : Str).length = 1 := by decide +kernel
  unfold term at k
  show StD _ _ _ _ [.v (.str z), .v (.int n)] _ _
  fail "go"
  rw [ha]
  refine zif (fun e => ?_) fun e => ?_
  · rw [if_pos e] at k
    fail "go"
    exact ⟨n, z, rfl, by omega, k⟩
  · rw [if_neg e] at k
    fail "go"
    rw [ha]
    refine ⟨aint n, rfl, aint0 n, hn, ?_⟩
    fail "go"
    refine ⟨by rw [Str.empty_app]; exact hds, ?_⟩
    fail "go"
    refine ⟨by rw [Str.empty_app]; exact jlen hd (Nat.le_of_eq hst), ?_⟩
    fail "go"
    refine ⟨by rw [Str.empty_app]; exact jlen (n := 65) (by rw [len_app]; omega) hz, ?_⟩
    fail "go"
    rw [Str.empty_app]
    exact ⟨n, _, rfl, by rw [len_app, len_app]; omega, k⟩
end
end OS

namespace OS
open PySem L2 OZ PySem.Spec PyProof.Rows
section
variable {B : Bd} {C f : Addr} {fd : FuncData}
theorem fstr_ok (Fn : Fun B.K "__str__" "Form.__str__" sForm_str f fd) (hb : Binds B.K fd ["self"] []) (T : Bn B) (cl : Cls B.K C) (nF : NoAttr B.K C "_coefficients") (nT : NoAttr B.K C "_constant") (ES : CallG pureM B 1 "_signed" 2 FSgn) (ED : CallG pureM B 1 "_decimal" 1 FDec) (ET : CallG pureM B 2 "_term" 2 FTerm) : FnG pureM B 3 f 1 (FFStr C) := by
  refine fnG_ok Fn c_sForm_str rfl hb ?_
  rintro X ds KR KE m ⟨cdv, A, outer, s, H, E, rfl⟩ cx hr hl ⟨cs, c, rfl, sm, c64, hg, k⟩
  show StD _ _ _ _ [.v (formD C cs c), .un, .un, .un, .un, .un, .un] _ _
  have oh : OwnHint "pieces" := trivial
  refine std_cons ?_
  with_reducible refine st1_setLcM (own := [("name", 2), ("coefficient", 3)]) cx hr (.two (.name (by fail "zi")) (.name (by fail "zi"))) (.cons (.cons .nil (by fail "zs")) (by fail "zs")) ?_ (hN := by with_unfolding_all exact ⟨1, rfl⟩)
  refine iter_items ?_
  fail "go"
  rw [dcC_items]
  refine And.intro (by rw [List.length_map]; exact ltsz (show cs.length ≤ 1000 by omega)) ?_
  refine compd_mapL2 (fun e : Str × Int => .str e.1) (fun e => .int e.2) (fun e => .str (term e.1 e.2)) (by fail "zi") (by fail "zi") rfl (by simp) (by simp) ?_ ?_
  · rintro e he P kk s0 H0 C0 cl0 fp0 cx' hr'
    show EvD _ _ _ _ [.v (formD C cs c), .un, .v (.str e.1), .v (.int e.2), .un, .un, .un] _ _
    fail "go"
    exact ⟨e.1, e.2, rfl, by have := (good_len (hg e he)).1; omega, sm.cs e he, kk⟩
  refine ⟨_, _, by fail "zs", ?_⟩
  rw [show (cs.map fun e : Str × Int => Da.str (term e.1 e.2)) = (cs.map fun e => term e.1 e.2).map Da.str by rw [List.map_map]; rfl]
  have hdec := dec_len (aint0 c) sm.c
  refine std_cut (fun sl' m' => m' = m ∧ sl' = [.v (formD C cs c), .m (.lst ((pieces cs c).map Da.str)), .un, .un, .un, .un, .un]) ?_ ?_
  · have app : (pieces cs c = cs.map (fun e => term e.1 e.2) ++ [sg c ++ dec (aint c)]) → ((cs.map fun e => term e.1 e.2).map Da.str ++ [Da.str (sg c ++ dec (aint c))]) = (pieces cs c).map Da.str := fun h => by rw [h, List.map_append]; rfl
    have hsz : ((cs.map fun e => term e.1 e.2).map Da.str).length < sizeLine := by rw [List.length_map, List.length_map]; exact ltsz (show cs.length ≤ 1000 by omega)
    show St1 _ _ _ _ [.v (formD C cs c), .m (.lst ((cs.map fun e => term e.1 e.2).map Da.str)), .un, .un, .un, .un, .un] _ _
    have ha : (if c < 0 then -c else c) = aint c := rfl
    fail "go"
    refine zifn (fun e => ?_) fun e => ?_
    · fail "go"
      rw [ha]
      refine ⟨aint c, rfl, aint0 c, sm.c, ?_⟩
      fail "go"
      refine ⟨c, _, rfl, by omega, ?_⟩
      fail "go"
      rw [app (by unfold pieces; rw [if_pos (.inl e)])]
    · subst e
      cases cs with
      | nil =>
        fail "go"
        refine zeT rfl ?_
        fail "go"
        refine ⟨0, rfl, by decide, by decide, ?_⟩
        fail "go"
        refine ⟨0, _, rfl, by decide +kernel, ?_⟩
        fail "go"
        exact rfl
      | cons e r =>
        fail "go"
        refine zeF rfl ?_
        fail "go"
        rw [show pieces (e :: r) 0 = (e :: r).map (fun e => term e.1 e.2) by unfold pieces; rw [if_neg (by simp), List.append_nil]]
  rintro sl m1 ⟨rfl, rfl⟩
  refine std_pub (i := 1) rfl ?_
  show StD _ _ _ _ [.v (formD C cs c), .v (.lst ((pieces cs c).map Da.str)), .un, .un, .un, .un, .un] _ _
  obtain ⟨pl1, pl2⟩ := pieces_len sm c64 hg
  have hsum := sum_le _ pl1
  have hjl : (joinedT cs c).length ≤ 6400 := by unfold joinedT; rw [join_len]; omega
  have hjs : (joinedT cs c).length ≤ sizeLine := slen hjl
  have hcl : (cutS (joinedT cs c) (some 3) none).length ≤ 6400 := by
    rw [Str.len_list]
    show (((joinedT cs c).cps.toList.drop _).take _).length ≤ 6400
    rw [List.length_take, List.length_drop, ← Str.len_list]
    omega
  have hcs : (cutS (joinedT cs c) (some 3) none).length ≤ sizeLine := slen hcl
  unfold ftext at k
  fail "go"
  refine ⟨false, pieces cs c, rfl, ?_, ?_⟩
  · rw [show ((("" : Str)).length) = 0 by decide +kernel]
    omega
  rw [TL.join_eq]
  show ∃ i sl', EnvSet _ _ _ i (.v (.str (joinedT cs c))) sl' ∧ _
  refine ⟨_, _, by fail "zs", ?_⟩
  show StD _ _ _ _ [.v (formD C cs c), .v (.lst ((pieces cs c).map Da.str)), .un, .un, .v (.str (joinedT cs c)), .un, .un] _ _
  fail "go"
  have l1 : ("-" : Str).length ≤ sizeLine := by decide +kernel
  have l2 : ("" : Str).length ≤ sizeLine := by decide +kernel
  cases hst : Txt.startswith (joinedT cs c) (" - " : Str) with
  | true =>
    rw [show Txt.startswith (joinedT cs c) (Str.ofString " - ") = true from hst, if_pos rfl] at k
    fail "go"
    refine sld_str hjs ?_
    fail "go"
    refine ⟨by rw [Str.empty_app]; exact jlen (n := 1) (by decide +kernel) hcl, ?_⟩
    fail "go"
    rw [Str.empty_app]
    exact k
  | false =>
    rw [show Txt.startswith (joinedT cs c) (Str.ofString " - ") = false from hst, if_neg Bool.false_ne_true] at k
    fail "go"
    refine sld_str hjs ?_
    fail "go"
    refine ⟨by rw [Str.empty_app]; exact jlen (n := 1) (by decide +kernel) hcl, ?_⟩
    fail "go"
    rw [Str.empty_app]
    exact k
end
end OS

namespace OS
open PySem L2 OZ PySem.Spec PyProof.Rows
/-! ### the texts of lines -/
theorem ftext_len {cs : Cf} {c : Int} (sm : Small cs c) (c64 : cs.length < 64) (hg : ∀ e ∈ cs, good e.1 = true) : (ftext cs c).length ≤ 6401 := by
  obtain ⟨pl1, pl2⟩ := pieces_len sm c64 hg
  have hsum := sum_le _ pl1
  have hjl : (joinedT cs c).length ≤ 6400 := by unfold joinedT; rw [join_len]; omega
  have hcl : (cutS (joinedT cs c) (some 3) none).length ≤ 6400 := by
    rw [Str.len_list]
    show (((joinedT cs c).cps.toList.drop _).take _).length ≤ 6400
    rw [List.length_take, List.length_drop, ← Str.len_list]
    omega
  unfold ftext
  rw [len_app]
  have l1 : (Str.ofString "-").length = 1 := by decide +kernel
  have l2 : (Str.ofString "").length = 0 := by decide +kernel
  split <;> omega
def intT (i : Int) : Str := toString i
theorem smallT : ∀ i : Fin 2001, (intT ((i.val : Int) - 1000)).length ≤ 65 := by decide +kernel
theorem intT_len {i : Int} (h : i.natAbs ≤ 1000) : (intT i).length ≤ 65 := by
  have := smallT ⟨(i + 1000).toNat, by omega⟩
  rwa [show (((⟨(i + 1000).toNat, by omega⟩ : Fin 2001).val : Int) - 1000) = i by show ((i + 1000).toNat : Int) - 1000 = i; omega] at this
theorem int_log {i : Int} (h : i.natAbs ≤ 1000) : i.natAbs.log2 < 1920 := log2_lt (Nat.lt_of_le_of_lt h (by decide))
def eqnT (cs : Cf) (c : Int) : Str := ftext cs 0 ++ (" = " : Str) ++ intT (-c)
def Ln.text : Ln → Str
  | .eqn cs c => eqnT cs c | .cong cs c q => eqnT cs c ++ (" (mod " : Str) ++ intT q ++ (")" : Str) | .unl a b => a ++ (" != " : Str) ++ b
theorem tb_parts {cs : Cf} {c : Int} (h : tooBig cs c = none) : (∀ e ∈ cs, e.2.natAbs ≤ 20) ∧ c.natAbs ≤ 1000 := by
  unfold tooBig at h
  rw [Option.or_eq_none_iff, List.find?_eq_none] at h
  refine ⟨fun e he => ?_, ?_⟩
  · have := h.1 e.2 (List.mem_map.mpr ⟨e, he, rfl⟩)
    simpa using this
  · by_cases q : c.natAbs ≤ 1000
    · exact q
    · have := h.2
      rw [if_pos (by omega)] at this
      cases this
theorem tb_small {cs : Cf} {c : Int} (h : tooBig cs c = none) : Small cs 0 := ⟨fun e he => by
  have := (tb_parts h).1 e he
  have e2 : aint e.2 ≤ 20 := by unfold aint; split <;> omega
  exact Int.lt_of_le_of_lt e2 (by decide), by decide⟩
theorem eqnT_len {cs : Cf} {c : Int} (ok : FormOk cs) (h : tooBig cs c = none) : (eqnT cs c).length ≤ 6469 := by
  unfold eqnT
  rw [len_app, len_app]
  have := ftext_len (tb_small h) ok.len ok.gd
  have := intT_len (i := -c) (by have := (tb_parts h).2; omega)
  have l1 : (" = " : Str).length = 3 := by decide +kernel
  omega
def FEqT (C : Addr) : FD := fun ds KR _ m => ∃ (cs : Cf) (c : Int), ds = [formD C cs c] ∧ FormOk cs ∧ tooBig cs c = none ∧ KR (.str (eqnT cs c)) m
def FEStr (CE C : Addr) : FD := fun ds KR _ m => ∃ (cs : Cf) (c : Int), ds = [eqnD CE C cs c] ∧ FormOk cs ∧ tooBig cs c = none ∧ KR (.str (eqnT cs c)) m
def FCStr (CG C : Addr) : FD := fun ds KR _ m => ∃ (cs : Cf) (c q : Int), ds = [congD CG C cs c q] ∧ FormOk cs ∧ tooBig cs c = none ∧ q.natAbs ≤ 1000 ∧ KR (.str (Ln.text (.cong cs c q))) m
def FUStr (CU : Addr) : FD := fun ds KR _ m => ∃ (a b : Str), ds = [unlD CU a b] ∧ a.length ≤ 1000 ∧ b.length ≤ 1000 ∧ KR (.str (Ln.text (.unl a b))) m
section
variable {B : Bd} {C CE CG CU f : Addr} {fd : FuncData}
theorem eqT_ok (Fn : Fun B.K "_equation_text" "_equation_text" s_equation_text f fd) (hb : Binds B.K fd ["form"] []) (T : Bn B) (PC : PropG pureM B 1 C "constant" (FConst C)) (SS : SpecG pureM B 7 C "__sub__" 2 (FSubF C)) (BS : BinI B.K C .Sub) (ST : SpecG pureM B 3 C "__str__" 1 (FFStr C)) (fo : FmtO B.K C) : FnG pureM B 9 f 1 (FEqT C) := by
  refine fnG_ok Fn c_s_equation_text rfl hb ?_
  rintro X ds KR KE m ⟨cdv, A, outer, s, H, E, rfl⟩ cx hr hl ⟨cs, c, rfl, ok, tb, k⟩
  have hc := (tb_parts tb).2
  have hl1 := ftext_len (tb_small tb) ok.len ok.gd
  have hl2 := intT_len (i := -c) (by omega)
  have hlg := int_log (i := -c) (by omega)
  have l3 : (" = " : Str).length = 3 := by decide +kernel
  show StD _ _ _ _ [.v (formD C cs c)] _ _
  fail "go"
  refine ⟨cs, c, rfl, ?_⟩
  fail "go"
  refine ⟨cs, c, ok, .inl ⟨c, rfl, ?_⟩⟩
  rw [Int.sub_self]
  fail "go"
  refine ⟨cs, 0, rfl, tb_small tb, ok.len, ok.gd, ?_⟩
  fail "go"
  refine ⟨by rw [Str.empty_app]; exact slen hl1, ?_⟩
  fail "go"
  refine ⟨by rw [Str.empty_app]; exact jlen (k := 3) hl1 (by decide +kernel), ?_⟩
  fail "go"
  refine ⟨cs, c, rfl, ?_⟩
  fail "go"
  refine ⟨by rw [Str.empty_app]; exact jlen (n := 6404) (k := 65) (by rw [len_app]; omega) hl2, ?_⟩
  fail "go"
  rw [Str.empty_app]
  exact k
theorem estr_ok (Fn : Fun B.K "__str__" "Equation.__str__" sEquation_str f fd) (hb : Binds B.K fd ["self"] []) (T : Bn B) (cl : Cls B.K CE) (nF : NoAttr B.K CE "_form") (EQ : CallG pureM B 9 "_equation_text" 1 (FEqT C)) : FnG pureM B 10 f 1 (FEStr CE C) := by
  refine fnG_ok Fn c_sEquation_str rfl hb ?_
  rintro X ds KR KE m ⟨cdv, A, outer, s, H, E, rfl⟩ cx hr hl ⟨cs, c, rfl, ok, tb, k⟩
  have hl1 : (eqnT cs c).length ≤ sizeLine := slen (eqnT_len ok tb)
  show StD _ _ _ _ [.v (eqnD CE C cs c)] _ _
  fail "go"
  refine ⟨cs, c, rfl, ok, tb, ?_⟩
  fail "go"
  exact k
theorem cstr_ok (Fn : Fun B.K "__str__" "Congruence.__str__" sCongruence_str f fd) (hb : Binds B.K fd ["self"] []) (T : Bn B) (cl : Cls B.K CG) (nF : NoAttr B.K CG "_form") (nM : NoAttr B.K CG "_modulus") (EQ : CallG pureM B 9 "_equation_text" 1 (FEqT C)) : FnG pureM B 10 f 1 (FCStr CG C) := by
  refine fnG_ok Fn c_sCongruence_str rfl hb ?_
  rintro X ds KR KE m ⟨cdv, A, outer, s, H, E, rfl⟩ cx hr hl ⟨cs, c, q, rfl, ok, tb, hq, k⟩
  have hl0 := eqnT_len ok tb
  have hl1 : (eqnT cs c).length ≤ sizeLine := slen hl0
  have hl2 := intT_len hq
  have hlg := int_log hq
  have l5 : (" (mod " : Str).length = 6 := by decide +kernel
  have l6 : (")" : Str).length = 1 := by decide +kernel
  show StD _ _ _ _ [.v (congD CG C cs c q)] _ _
  fail "go"
  refine ⟨cs, c, rfl, ok, tb, ?_⟩
  fail "go"
  refine ⟨by rw [Str.empty_app]; exact hl1, ?_⟩
  fail "go"
  refine ⟨by rw [Str.empty_app]; exact jlen (k := 6) hl0 (by omega), ?_⟩
  fail "go"
  refine ⟨by rw [Str.empty_app]; exact jlen (n := 6475) (by rw [len_app]; omega) hl2, ?_⟩
  fail "go"
  refine ⟨by rw [Str.empty_app]; exact jlen (n := 6540) (k := 1) (by rw [len_app, len_app]; show _ + (intT q).length ≤ _; omega) (by omega), ?_⟩
  fail "go"
  rw [Str.empty_app]
  exact k
theorem ustr_ok (Fn : Fun B.K "__str__" "Unlike.__str__" sUnlike_str f fd) (hb : Binds B.K fd ["self"] []) (T : Bn B) (cl : Cls B.K CU) (nF : NoAttr B.K CU "_first") (nS : NoAttr B.K CU "_second") : FnG pureM B 1 f 1 (FUStr CU) := by
  refine fnG_ok Fn c_sUnlike_str rfl hb ?_
  rintro X ds KR KE m ⟨cdv, A, outer, s, H, E, rfl⟩ cx hr hl ⟨a, b, rfl, ha, hb2, k⟩
  have hl1 : a.length ≤ sizeLine := slen ha
  have hl2 : b.length ≤ sizeLine := slen hb2
  have l4 : (" != " : Str).length = 4 := by decide +kernel
  show StD _ _ _ _ [.v (unlD CU a b)] _ _
  fail "go"
  refine ⟨by rw [Str.empty_app]; exact hl1, ?_⟩
  fail "go"
  refine ⟨by rw [Str.empty_app]; exact jlen (k := 4) ha (by omega), ?_⟩
  fail "go"
  refine ⟨by rw [Str.empty_app]; exact jlen (n := 1004) (by rw [len_app]; omega) hb2, ?_⟩
  fail "go"
  rw [Str.empty_app]
  exact k
structure LnT (B : Bd) (CE CG CU C : Addr) : Prop where
  e : SpecG pureM B 10 CE "__str__" 1 (FEStr CE C)
  g : SpecG pureM B 10 CG "__str__" 1 (FCStr CG C)
  u : SpecG pureM B 1 CU "__str__" 1 (FUStr CU)
/-- str(line) -/
theorem cd_strLn {M : Mode} {X : Cx} {KE : Kx} {P : Da → Nat → Prop} {m j : Nat} {N : List Str} {sc : Scope} (cx : Ctx X N sc B) (L : LnT B CE CG CU C) (hr : Room j X.A) (hj : 12 ≤ j) {l : Ln} (hl : l.fit) (h : P (.str l.text) m) : CallD M X KE (.type "str") [l.d CE CG CU C] P m := by
  cases l with
  | eqn cs c => exact cd_strO cx (SpecG.lift L.e) hr ⟨cs, c, rfl, hl.1, hl.2, _, rfl, h⟩ (by omega)
  | cong cs c q => exact cd_strO cx (SpecG.lift L.g) hr ⟨cs, c, q, rfl, hl.1, hl.2.1, by have := hl.2.2; omega, _, rfl, h⟩ (by omega)
  | unl a b => exact cd_strO cx (SpecG.lift L.u) hr ⟨a, b, rfl, by have := (good_len hl.1).1; omega, by have := (good_len hl.2.1).1; omega, _, rfl, h⟩ (by omega)
end
end OS

namespace OS
open PySem L2 OZ PySem.Spec PyProof.Rows
theorem deq_str (a b : Str) : deq (.str a) (.str b) = decide (a = b) := by simp [deq]
theorem inD_str (z : Str) (ns : List Str) : inD (.str z) (ns.map Da.str) = decide (z ∈ ns) := by
  induction ns with
  | nil => simp [inD]
  | cons a r ih =>
    unfold inD at ih ⊢
    rw [List.map_cons, List.any_cons, ih, deq_str, Bool.eq_iff_iff, Bool.or_eq_true, decide_eq_true_eq, decide_eq_true_eq, decide_eq_true_eq, List.mem_cons]
    exact or_congr eq_comm Iff.rfl
theorem fl_strs (ns : List Str) : (ns.map Da.str).all flD = true := by
  induction ns with
  | nil => rfl
  | cons a r ih => simpa [flD] using ih
end OS

namespace OS
open PySem L2 OZ
abbrev chS : Str := "abcdefghijklmnopqrstuvwxyz0123456789"
theorem chS_len : chS.cps.toList.length = 36 := by decide +kernel
theorem chS_low : ∀ j : Fin 26, chS.cps.toList[j.val]'(by rw [chS_len]; omega) ∈ lowL.cps.toList := by decide +kernel
theorem chS_ok : ∀ j : Fin 36, chOk (chS.cps.toList[j.val]'(by rw [chS_len]; exact j.isLt)) = true := by decide +kernel
theorem good_of {z : Str} {c : Nat} {r : List Nat} (e : z.cps.toList = c :: r) (hl : r.length ≤ 5) (hc : c ∈ lowL.cps.toList) (hr : ∀ x ∈ r, chOk x = true) (hm : z ≠ "mod") : good z = true := by
  unfold good
  rw [if_neg hm, e, if_neg (by simp; omega)]
  show (if c ∈ lowL.cps.toList then _ else _) = true
  rw [if_pos hc, List.all_cons]
  rw [show chOk c = true by unfold chOk; rw [decide_eq_true hc]; rfl, Bool.true_and]
  exact List.all_eq_true.mpr hr
theorem sapp (a b : Str) : (a ++ b : Str).cps.toList = a.cps.toList ++ b.cps.toList := by
  show (a.cps ++ b.cps).toList = _
  rw [Array.toList_append]
def FNameL (st : Addr) : FD := fun ds KR _ m => ds = [.ref st] ∧ m ≤ 900000000 ∧ ∀ z m', good z = true → m' ≤ m + 10 → KR (.str z) m'
section
variable {B : Bd} {st cl f : Addr} {fd : FuncData}
theorem namel_ok (Fn : Fun B.K "_law_name" "_law_name" l_name f fd) (hb : Binds B.K fd ["_law_state"] []) (T : Bn B) (ET : CallG (takeM st cl) B 1 "_law_take" 2 (FTake st)) : FnG (takeM st cl) B 2 f 1 (FNameL st) := by
  refine fnG_ok Fn c_l_name rfl hb ?_
  rintro X ds KR KE m ⟨cdv, A, outer, s, H, E, rfl⟩ cx hr hl ⟨rfl, hm, k⟩
  show StD _ _ _ _ [.v (.ref st), .un, .un, .un, .un] _ _
  fail "go"
  refine FTake.use (by omega) (by decide) (by decide) fun p p0 p1 => ?_
  fail "go"
  refine FTake.use (by omega) (by decide) (by decide) fun a a0 a1 => ?_
  fail "go"
  have hch := chS_len
  have ha : a.toNat < chS.cps.toList.length := by omega
  refine ixd_str (c := chS.cps.toList[a.toNat]) (Nat.le_trans (show (chS : Str).length ≤ 1000 by decide +kernel) (Nat.le_of_ble_eq_true rfl)) (atI_pos a0 (List.getElem?_eq_getElem ha)) ?_
  have hlow : chS.cps.toList[a.toNat] ∈ lowL.cps.toList := chS_low ⟨a.toNat, by omega⟩
  fail "go"
  refine for_inv cx (i := 4) (fun n sl' m' => ∃ (z : Str) (r : List Nat) (s4 : Sl), m' ≤ m + 2 + n ∧ z.cps.toList = chS.cps.toList[a.toNat] :: r ∧ r.length = n ∧ n ≤ 5 ∧ (∀ x ∈ r, chOk x = true) ∧ sl' = [.v (.ref st), .v (.str chS), .v (.int p), .v (.str z), s4]) (by fail "zi") ⟨⟨#[_]⟩, [], .un, by omega, rfl, rfl, by omega, by simp, rfl⟩ (by rintro n sl m ⟨_, _, _, _, _, _, _, _, rfl⟩; rfl) ?_ ?_
  · rintro n d sl m2 hd ⟨z, r, s4, hm2, hz, hrl, hn, hok, rfl⟩
    obtain ⟨hn1, rfl⟩ := intsD_get hd
    show StD _ _ _ _ [.v (.ref st), .v (.str chS), .v (.int p), .v (.str z), _] _ _
    fail "go"
    refine FTake.use (by omega) (by decide) (by decide) fun q q0 q1 => ?_
    fail "go"
    have hq : q.toNat < chS.cps.toList.length := by omega
    refine ixd_str (c := chS.cps.toList[q.toNat]) (Nat.le_trans (show (chS : Str).length ≤ 1000 by decide +kernel) (Nat.le_of_ble_eq_true rfl)) (atI_pos q0 (List.getElem?_eq_getElem hq)) ?_
    have hzl := Str.len_list z
    have hzl2 : z.cps.toList.length = n + 1 := by rw [hz, List.length_cons, hrl]
    refine opd_addS (Nat.le_trans (show z.length + (⟨#[chS.cps.toList[q.toNat]]⟩ : Str).length ≤ 1000 by rw [hzl, hzl2]; show n + 1 + 1 ≤ 1000; omega) (Nat.le_of_ble_eq_true rfl)) ?_
    fail "go"
    refine ⟨_, r ++ [chS.cps.toList[q.toNat]], _, by omega, ?_, by simp [hrl], by omega, ?_, rfl⟩
    · rw [sapp, hz]
      rfl
    · intro x hx
      rcases List.mem_append.mp hx with h | h
      · exact hok x h
      · rw [List.mem_singleton.mp h]
        exact chS_ok ⟨q.toNat, by omega⟩
  rintro sl m2 ⟨z, r, s4, hm2, hz, hrl, _, hok, rfl⟩
  rw [intsD_len] at hrl hm2
  fail "go"
  refine zif (fun e => ?_) fun e => ?_
  · fail "go"
    exact k _ _ (by decide +kernel) (by omega)
  · fail "go"
    exact k _ _ (good_of hz (by omega) hlow hok e) (by omega)
end
end OS

namespace OS
open PySem L2 OZ PySem.Spec PyProof.Rows
theorem good_parts {z : Str} (h : good z = true) : ∃ c r, z.cps.toList = c :: r ∧ r.length ≤ 5 ∧ c ∈ lowL.cps.toList ∧ (∀ x ∈ r, chOk x = true) ∧ z ≠ "mod" := by
  unfold good at h
  split at h
  · cases h
  rename_i h0
  split at h
  · cases h
  rename_i h1
  split at h
  rotate_left
  · cases h
  rename_i h2
  cases q : z.cps.toList with
  | nil => rw [q] at h1; simp at h1
  | cons c r =>
    rw [q] at h h1 h2
    rw [List.all_cons, Bool.and_eq_true] at h
    refine ⟨c, r, rfl, by simp at h1; omega, h2, List.all_eq_true.mp h.2, h0⟩
theorem good_cut1 {z : Str} (h : good z = true) : good (cutS z none (some 5) ++ ("1" : Str)) = true := by
  obtain ⟨c, r, e, hl, hc, hr, _⟩ := good_parts h
  have e2 : (cutS z none (some 5)).cps.toList = c :: r.take 4 := by
    unfold cutS
    rw [e]
    show ((List.drop (HT.sIx z.length 0 none) (c :: r)).take (HT.sIx z.length z.length (some 5) - HT.sIx z.length 0 none)) = _
    rw [HT.sIx_none, show ((5 : Int)) = ((5 : Nat) : Int) from rfl, HT.sIx_nat, List.drop_zero, Nat.sub_zero, Str.len_list, e, List.length_cons]
    by_cases g : r.length ≤ 4
    · rw [Nat.min_eq_right (by omega), List.take_of_length_le (by simp), List.take_of_length_le g]
    · rw [Nat.min_eq_left (by omega)]
      rfl
  have e3 : (cutS z none (some 5) ++ ("1" : Str)).cps.toList = c :: (r.take 4 ++ [49]) := by
    rw [sapp, e2]; rfl
  refine good_of e3 (by simp; omega) hc (fun x hx => ?_) fun q => ?_
  · rcases List.mem_append.mp hx with g | g
    · exact hr x (List.mem_of_mem_take g)
    · rw [List.mem_singleton.mp g]; decide +kernel
  · rw [q] at e3
    have : ("mod" : Str).cps.toList = [109, 111, 100] := by decide +kernel
    rw [this] at e3
    have h3 := congrArg List.getLast? (List.cons.inj e3).2
    rw [List.getLast?_append] at h3
    simp at h3
theorem atI_last {α : Type} {xs : List α} (h : xs ≠ []) : ∃ y, y ∈ xs ∧ atI xs (-1) = some y := by
  have h0 : 0 < xs.length := List.length_pos_iff.mpr h
  refine ⟨xs[xs.length - 1]'(by omega), List.getElem_mem _, ?_⟩
  unfold atI ixN
  rw [if_neg (by omega), if_pos (by omega)]
  show xs[(-1 + (xs.length : Int)).toNat]? = _
  rw [show (-1 + (xs.length : Int)).toNat = xs.length - 1 by omega]
  exact List.getElem?_eq_getElem _
abbrev qNms : List Str := ["q0", "q1", "q2", "q3", "q4", "q5", "q6"]
theorem free_name {ns : List Str} (h : ns.length < 7) : ∃ z r, qNms.filter (fun q => !decide (q ∈ ns)) = z :: r ∧ z ∉ ns ∧ good z = true := by
  cases q : qNms.filter (fun q => !decide (q ∈ ns)) with
  | nil =>
    exfalso
    have hs : qNms ⊆ ns := fun a ha => by
      have := List.filter_eq_nil_iff.mp q a ha
      simpa using this
    have := List.Nodup.length_le_of_subset (l₁ := qNms) (by decide +kernel) hs
    simp at this
    omega
  | cons z r =>
    have hz : z ∈ qNms.filter (fun q => !decide (q ∈ ns)) := by rw [q]; exact .head _
    obtain ⟨h1, h2⟩ := List.mem_filter.mp hz
    refine ⟨z, r, rfl, by simpa using h2, ?_⟩
    have : ∀ z ∈ qNms, good z = true := by decide +kernel
    exact this z h1
theorem cut_len (z : Str) (lo hi : Option Int) : (cutS z lo hi).length ≤ z.length := by
  have e : ∀ l : List Nat, (⟨l.toArray⟩ : Str).length = l.length := fun l => by rw [Str.len_list]
  unfold cutS
  rw [e, Str.len_list z, List.length_take, List.length_drop]
  omega
theorem small_len {n k : Nat} (h : n ≤ k) (hk : k ≤ 100000) : n ≤ sizeLine := Nat.le_trans (Nat.le_trans h hk) big_size
/-- law names -/
def FNamesL (st : Addr) : FD := fun ds KR _ m => ∃ c : Int, ds = [.ref st, .int c] ∧ m ≤ 800000000 ∧ 0 ≤ c ∧ c ≤ 6 ∧ ∀ (ns : List Str) m', (ns.length : Int) = c → (∀ n ∈ ns, good n = true) → ns.Nodup → m' ≤ m + 12 * c.toNat → KR (.lst (ns.map Da.str)) m'
section
variable {B : Bd} {st cl f : Addr} {fd : FuncData}
theorem namesl_ok (Fn : Fun B.K "_law_names" "_law_names" l_names f fd) (hb : Binds B.K fd ["_law_state", "_law_count"] []) (T : Bn B) (ET : CallG (takeM st cl) B 1 "_law_take" 2 (FTake st)) (EN : CallG (takeM st cl) B 2 "_law_name" 1 (FNameL st)) : FnG (takeM st cl) B 3 f 2 (FNamesL st) := by
  refine fnG_ok Fn c_l_names rfl hb ?_
  rintro X ds KR KE m ⟨cdv, A, outer, s, H, E, rfl⟩ cx hr hl ⟨c, rfl, hm, c0, c6, k⟩
  have hh : OwnHint "_law_names_here" := trivial
  show StD _ _ _ _ [.v (.ref st), .v (.int c), .un, .un, .un, .un] _ _
  fail "go"
  refine for_inv cx (i := 3) (fun n sl' m' => ∃ (ns : List Str) (s3 s4 : Sl), m' ≤ m + 12 * n ∧ (n : Int) ≤ c ∧ ns.length = n ∧ (∀ n ∈ ns, good n = true) ∧ ns.Nodup ∧ sl' = [.v (.ref st), .v (.int c), .m (.lst (ns.map Da.str)), s3, s4, .un]) (by fail "zi") ⟨[], .un, .un, by omega, by omega, rfl, by simp, by simp, rfl⟩ (by rintro n sl m ⟨_, _, _, _, _, _, _, _, rfl⟩; rfl) ?_ ?_
  · rintro n d sl m2 hd ⟨ns, s3, s4, hm2, hn, hnl, hg, hnd, rfl⟩
    obtain ⟨hn1, rfl⟩ := intsD_get hd
    have hsz : (ns.map Da.str).length < sizeLine := by rw [List.length_map]; exact Nat.lt_of_le_of_lt (show ns.length ≤ 6 by omega) (Nat.le_of_ble_eq_true rfl)
    show StD _ _ _ _ [.v (.ref st), .v (.int c), .m (.lst (ns.map Da.str)), _, _, .un] _ _
    fail "go"
    refine ⟨rfl, by omega, fun z m3 gz hm3 => ?_⟩
    refine ⟨_, _, by fail "zs", ?_⟩
    refine std_cut (fun sl' m' => ∃ z : Str, good z = true ∧ m' ≤ m3 + 1 ∧ sl' = [.v (.ref st), .v (.int c), .m (.lst (ns.map Da.str)), .v (.int (0 + n)), .v (.str z), .un]) ?_ ?_
    · fail "go"
      cases ns with
      | nil =>
        fail "go"
        exact ⟨z, gz, by omega, rfl⟩
      | cons n0 nr =>
        fail "go"
        refine FTake.use (by omega) (by decide) (by decide) fun a a0 a1 => ?_
        fail "go"
        refine zif (fun e => ?_) fun e => ?_
        · fail "go"
          obtain ⟨y, hy, hy2⟩ := atI_last (xs := n0 :: nr) (by simp)
          have gy := hg y hy
          have ly := (good_len gy).1
          refine ⟨-1, .str y, rfl, ?_, ?_⟩
          · obtain ⟨j, e1, e2⟩ : ∃ j : Nat, ixN (n0 :: nr).length (-1) = some j ∧ (n0 :: nr)[j]? = some y := Option.bind_eq_some_iff.mp hy2
            unfold atI
            rw [List.length_map, e1]
            show (List.map Da.str (n0 :: nr))[j]? = _
            rw [List.getElem?_map, e2]
            rfl
          fail "go"
          refine sld_str (small_len ly (by omega)) ?_
          fail "go"
          have lc := cut_len y none (some 5)
          refine opd_addS (small_len (k := 7) (by rw [show ("1" : Str).length = 1 by decide +kernel]; omega) (by omega)) ?_
          fail "go"
          exact ⟨_, good_cut1 gy, by omega, rfl⟩
        · fail "go"
          exact ⟨z, gz, by omega, rfl⟩
    rintro sl m4 ⟨z, gz, hm4, rfl⟩
    fail "go"
    refine opd_inL rfl (fl_strs _) ?_
    rw [inD_str]
    fail "go"
    refine zjoin (fun sl' m' => ∃ (z : Str) (s5 : Sl), good z = true ∧ z ∉ ns ∧ m' ≤ m4 ∧ sl' = [.v (.ref st), .v (.int c), .m (.lst (ns.map Da.str)), .v (.int (0 + n)), .v (.str z), .un]) ?_ ?_
    · refine zif (fun e => ?_) fun e => ?_
      · fail "go"
        obtain ⟨zq, r, hq, hqn, hqg⟩ := free_name (ns := ns) (by omega)
        refine evd_lc (own := [("_law_other", 5)]) cx hr (.name (by fail "zi")) (.cons .nil (by fail "zs")) ?_
        refine iter_seq ?_
        fail "go"
        show CompD _ (qNms.map Da.str) _ _
        refine compd_filtL Da.str (fun q => !decide (q ∈ ns)) Da.str (by fail "zi") rfl (.head _) ?_ ?_ ?_
        · rintro y hy P kk s0 H0 C0 cl0 fp0 cx' hr'
          show EvT _ _ _ _ [.v (.ref st), .v (.int c), .m (.lst (ns.map Da.str)), .v (.int (0 + n)), .v (.str z), .v (.str y)] _ _
          fail "go"
          refine opd_ninL rfl (fl_strs _) ?_
          rw [inD_str]
          fail "go"
          exact kk
        · rintro y hy _ P kk s0 H0 C0 cl0 fp0 cx' hr'
          show EvD _ _ _ _ [.v (.ref st), .v (.int c), .m (.lst (ns.map Da.str)), .v (.int (0 + n)), .v (.str z), .v (.str y)] _ _
          fail "go"
          exact kk
        rw [hq]
        fail "go"
        refine ixd_lst (d := .str zq) (atI_pos (by decide) rfl) ?_
        fail "go"
        exact ⟨zq, .un, hqg, hqn, by omega, rfl⟩
      · fail "go"
        exact ⟨z, .un, gz, e, by omega, rfl⟩
    rintro sl m5 ⟨z, s5, gz, hz, hm5, rfl⟩
    fail "go"
    refine ⟨ns ++ [z], _, _, by omega, by omega, by simp [hnl], ?_, ?_, by rw [List.map_append]; rfl⟩
    · intro a ha
      rcases List.mem_append.mp ha with h | h
      · exact hg a h
      · rw [List.mem_singleton.mp h]; exact gz
    · rw [List.nodup_append]
      exact ⟨hnd, by simp, fun a ha b hb => by rw [List.mem_singleton.mp hb]; exact fun q => hz (q ▸ ha)⟩
  rintro sl m2 ⟨ns, s3, s4, hm2, hn, hnl, hg, hnd, rfl⟩
  rw [intsD_len] at hm2 hn hnl
  refine std_pub (i := 2) rfl ?_
  show StD _ _ _ _ [.v (.ref st), .v (.int c), .v (.lst (ns.map Da.str)), s3, s4, .un] _ _
  fail "go"
  exact k ns _ (by omega) hg hnd (by omega)
end
end OS

namespace OS
open PySem L2 OZ PySem.Spec PyProof.Rows
/-! ### rows of a law: lines by their parts -/
inductive Row where
  | eqn (kvs : Cf) (c : Int) | cong (kvs : Cf) (c q : Int) | unl (a b : Str)
def Row.d : Row → Da
  | .eqn kvs c => .tup [.str "equation", .dct (dcC kvs), .int c]
  | .cong kvs c q => .tup [.str "congruence", .dct (dcC kvs), .int c, .int q]
  | .unl a b => .tup [.str "inequality", .str a, .str b]
def Row.nms : Row → List Str
  | .eqn kvs _ => kvs.map (·.1) | .cong kvs _ _ => kvs.map (·.1) | .unl a b => [a, b]
def Row.ok : Row → Prop
  | .eqn kvs c => OkP 63 kvs ∧ c.natAbs ≤ 1000 | .cong kvs c q => OkP 63 kvs ∧ c.natAbs ≤ 1000 ∧ 2 ≤ q ∧ q ≤ 40 | .unl a b => good a = true ∧ good b = true ∧ a ≠ b
/-- a row, and the line that it makes -/
inductive RowLn : Row → Ln → Prop
  | eqn {kvs cs : Cf} {c : Int} (h : FormOk cs) (t : tooBig cs c = none) (e : ∀ x, look cs x = look kvs x) : RowLn (.eqn kvs c) (.eqn cs c)
  | cong {kvs cs : Cf} {c q : Int} (h : FormOk cs) (t : tooBig cs c = none) (q2 : 2 ≤ q) (q40 : q ≤ 40) (e : ∀ x, look cs x = look kvs x) : RowLn (.cong kvs c q) (.cong cs c q)
  | unl {a b : Str} (ga : good a = true) (gb : good b = true) (ne : a ≠ b) : RowLn (.unl a b) (.unl a b)
theorem RowLn.fit {r : Row} {l : Ln} (h : RowLn r l) : l.fit := by
  cases h with
  | eqn h t e => exact ⟨h, t⟩
  | cong h t q2 q40 e => exact ⟨h, t, q2, q40⟩
  | unl ga gb ne => exact ⟨ga, gb, ne⟩
theorem can_sub {cs kvs : Cf} (h : Can cs) (e : ∀ x, look cs x = look kvs x) : ∀ n ∈ cs.map (·.1), n ∈ kvs.map (·.1) := by
  intro n hn
  have h1 := (h.mem_iff n).mp hn
  rw [e] at h1
  by_cases q : n ∈ kvs.map (·.1)
  · exact q
  · exact absurd (look_none q) h1
theorem RowLn.sub {r : Row} {l : Ln} (h : RowLn r l) : ∀ n ∈ l.nms, n ∈ r.nms := by
  cases h with
  | eqn h t e => exact can_sub h.can e
  | cong h t q2 q40 e => exact can_sub h.can e
  | unl ga gb ne => exact fun n h => h
theorem parts_small {kvs cs : Cf} {c : Int} (p : OkP 63 kvs) (hc : c.natAbs ≤ 1000) (h : Can cs) (e : ∀ x, look cs x = look kvs x) : tooBig cs c = none := by
  unfold tooBig
  rw [if_neg (by omega), Option.or_none]
  rw [List.find?_eq_none]
  intro v hv
  obtain ⟨y, hy, rfl⟩ := List.mem_map.mp hv
  have h1 : look cs y.1 = y.2 := by
    unfold look
    rw [lookO_of_mem (v := y.2) h.nd hy]
    rfl
  have := p.look y.1
  rw [← e, h1] at this
  simp
  omega
def FMade (CE CG CU C : Addr) : FD := fun ds KR _ m => ∃ r : Row, ds = [r.d] ∧ r.ok ∧ ∀ l, RowLn r l → KR (l.d CE CG CU C) m
section
variable {B : Bd} {C CB CR CE CG CU CD f : Addr} {fd : FuncData}
theorem made_ok (Fn : Fun B.K "_law_made" "_law_made" l_made f fd) (hb : Binds B.K fd ["_law_row_here"] []) (T : Bn B) (mE : B.mg "Equation" = some (.ref CE)) (kE : PySem.W.keepIn B.K (.ref CE) = true) (mG : B.mg "Congruence" = some (.ref CG)) (kG : PySem.W.keepIn B.K (.ref CG) = true) (mU : B.mg "Unlike" = some (.ref CU)) (kU : PySem.W.keepIn B.K (.ref CU) = true) (mC : B.mg "Form" = some (.ref C)) (kC : PySem.W.keepIn B.K (.ref C) = true)
    (mkE : MakeG pureM B 5 CE 1 [] (fun ds _ => ds) (FEqnInit C CR)) (mkG : MakeG pureM B 5 CG 2 [] (fun ds _ => ds) (FCongInit C CR)) (mkU : MakeG pureM B 3 CU 2 [] (fun ds _ => ds) (FUnlInit CB CD)) (mkF : MakeG pureM B 3 C 2 [] (fun ds _ => ds) (FFInit CB)) : FnG pureM B 7 f 1 (FMade CE CG CU C) := by
  refine fnG_ok Fn c_l_made rfl hb ?_
  rintro X ds KR KE m ⟨cdv, A, outer, s, H, E, rfl⟩ cx hr hl ⟨r, rfl, ho, k⟩
  show StD _ _ _ _ [.v r.d] _ _
  cases r with
  | unl a b =>
    show StD _ _ _ _ [.v (.tup [.str "inequality", .str a, .str b])] _ _
    fail "go"
    obtain ⟨ga, gb, ne⟩ := ho
    have la := good_len ga
    have lb := good_len gb
    refine ⟨a, b, rfl, by omega, by omega, fun _ _ _ => ?_, fun z => ?_, fun _ z => ?_, fun _ z => absurd z ne⟩
    rotate_left
    · rw [ga] at z; cases z
    · rw [gb] at z; cases z
    fail "go"
    exact k _ (.unl ga gb ne)
  | eqn kvs c =>
    show StD _ _ _ _ [.v (.tup [.str "equation", .dct (dcC kvs), .int c])] _ _
    fail "go"
    obtain ⟨ok, hc⟩ := ho
    refine init_use ok.nd (Nat.lt_of_le_of_lt ok.len (by decide)) ok.gd fun es he hel hlk => ?_
    have tb := parts_small ok hc he.can hlk
    fail "go"
    refine ⟨es, c, rfl, he.len, fun _ => ?_, fun v hv => ?_⟩
    rotate_left
    · rw [tb] at hv; cases hv
    fail "go"
    exact k _ (.eqn he tb hlk)
  | cong kvs c q =>
    show StD _ _ _ _ [.v (.tup [.str "congruence", .dct (dcC kvs), .int c, .int q])] _ _
    fail "go"
    obtain ⟨ok, hc, q2, q40⟩ := ho
    refine init_use ok.nd (Nat.lt_of_le_of_lt ok.len (by decide)) ok.gd fun es he hel hlk => ?_
    have tb := parts_small ok hc he.can hlk
    fail "go"
    refine ⟨es, c, q, rfl, he.len, fun _ _ _ => ?_, fun v hv => ?_, fun _ z => absurd ⟨q2, q40⟩ z⟩
    rotate_left
    · rw [tb] at hv; cases hv
    fail "go"
    exact k _ (.cong he tb q2 q40 hlk)
end
end OS

namespace OS
open PySem L2 OZ PySem.Spec PyProof.Rows
/-- a drawn row over names -/
def FRow (st : Addr) : FD := fun ds KR _ m => ∃ ns : List Str, ds = [.ref st, .lst (ns.map Da.str)] ∧ m ≤ 700000000 ∧ ns.length ≤ 30 ∧ (∀ n ∈ ns, good n = true) ∧ ns.Nodup ∧ ∀ (r : Row) m', r.ok → (∀ n ∈ r.nms, n ∈ ns) → m' ≤ m + 70 → KR r.d m'
section
variable {B : Bd} {st cl f : Addr} {fd : FuncData}
theorem row_ok (Fn : Fun B.K "_law_row" "_law_row" l_row f fd) (hb : Binds B.K fd ["_law_state", "_law_names_here"] []) (T : Bn B) (ET : CallG (takeM st cl) B 1 "_law_take" 2 (FTake st)) : FnG (takeM st cl) B 3 f 2 (FRow st) := by
  refine fnG_ok Fn c_l_row rfl hb ?_
  rintro X ds KR KE m ⟨cdv, A, outer, s, H, E, rfl⟩ cx hr hl ⟨ns, rfl, hm, l30, gd, nd, k⟩
  have hh : OwnHint "_law_parts" := trivial
  show StD _ _ _ _ [.v (.ref st), .v (.lst (ns.map Da.str)), .un, .un, .un, .un, .un, .un] _ _
  fail "go"
  refine FTake.use (by omega) (by decide) (by decide) fun p p0 p1 => ?_
  fail "go"
  refine for_inv cx (i := 4) (fun n sl' m' => ∃ (kvs : Cf) (s4 : Sl), m' ≤ m + 1 + 2 * n ∧ OkP n kvs ∧ (∀ e ∈ kvs, e.1 ∈ ns) ∧ sl' = [.v (.ref st), .v (.lst (ns.map Da.str)), .v (.int p), .m (.dct (dcC kvs)), s4, .un, .un, .un]) (by fail "zi") ⟨[], .un, by omega, ⟨by simp, by simp, by simp, by simp⟩, by simp, rfl⟩ (by rintro n sl m ⟨_, _, _, _, _, rfl⟩; rfl) ?_ ?_
  · rintro n d sl m2 hd ⟨kvs, s4, hm2, ok, hsub, rfl⟩
    rw [List.getElem?_map] at hd
    obtain ⟨x, hx, rfl⟩ : ∃ x, ns[n]? = some x ∧ d = .str x := by
      cases h : ns[n]? with
      | none => rw [h] at hd; cases hd
      | some x => rw [h] at hd; cases hd; exact ⟨x, rfl, rfl⟩
    have hxm := List.mem_of_getElem? hx
    have hn30 : n < ns.length := (List.getElem?_eq_some_iff.mp hx).1
    have hsz := dcC_small ok (by omega)
    show StD _ _ _ _ [.v (.ref st), .v (.lst (ns.map Da.str)), .v (.int p), .m (.dct (dcC kvs)), .v (.str x), .un, .un, .un] _ _
    fail "go"
    refine FTake.use (by omega) (by decide) (by decide) fun a a0 a1 => ?_
    fail "go"
    refine zif (fun e => ?_) fun e => ?_
    · fail "go"
      refine FTake.use (by omega) (by decide) (by decide) fun v v0 v1 => ?_
      fail "go"
      rw [dcC_put]
      fail "go"
      exact ⟨_, _, by omega, ok.put (gd x hxm) (by omega) (by omega), fun e he => by rcases putC_mem he with rfl | he; exact hxm; exact hsub e he, rfl⟩
    · fail "go"
      exact ⟨_, _, by omega, ok.mono (by omega), hsub, rfl⟩
  rintro sl m2 ⟨kvs, s4, hm2, ok, hsub, rfl⟩
  rw [List.length_map] at hm2 ok
  refine std_pub (i := 3) rfl ?_
  show StD _ _ _ _ [.v (.ref st), .v (.lst (ns.map Da.str)), .v (.int p), .v (.dct (dcC kvs)), s4, .un, .un, .un] _ _
  have ok63 : OkP 63 kvs := ok.mono (by omega)
  have hnk : ∀ n ∈ kvs.map (·.1), n ∈ ns := fun n hn => by obtain ⟨e, he, rfl⟩ := List.mem_map.mp hn; exact hsub e he
  have hlm : (ns.map Da.str).length = ns.length := List.length_map _
  fail "go"
  refine FTake.use (by omega) (by decide) (by decide) fun c c0 c1 => ?_
  fail "go"
  refine FTake.use (by omega) (by decide) (by decide) fun b b0 b1 => ?_
  fail "go"
  refine zjoin (fun sl' m' => ∃ c : Int, c.natAbs ≤ 1000 ∧ m' ≤ m + 65 ∧ sl' = [.v (.ref st), .v (.lst (ns.map Da.str)), .v (.int p), .v (.dct (dcC kvs)), s4, .v (.int c), .un, .un]) ?_ ?_
  · refine zif (fun e => ?_) fun e => ?_
    · fail "go"
      refine FTake.use (by omega) (by decide) (by decide) fun d d0 d1 => ?_
      fail "go"
      exact ⟨_, by omega, by omega, rfl⟩
    · fail "go"
      exact ⟨_, by omega, by omega, rfl⟩
  rintro sl m3 ⟨c, hc, hm3, rfl⟩
  show StD _ _ _ _ [.v (.ref st), .v (.lst (ns.map Da.str)), .v (.int p), .v (.dct (dcC kvs)), s4, .v (.int c), .un, .un] _ _
  rcases (show p = 2 ∨ p = 1 ∨ p = 0 by omega) with e | e | e
  · fail "go"
    refine zif (fun e2 => ?_) fun e2 => ?_
    · fail "go"
      refine FTake.use (by omega) (by omega) (by omega) fun a a0 a1 => ?_
      fail "go"
      refine FTake.use (by omega) (by omega) (by omega) fun b b0 b1 => ?_
      fail "go"
      rw [hlm] at a1 b1 ⊢
      obtain ⟨j, hj⟩ : ∃ j : Int, j = (a + 1 + b) % (ns.length : Int) := ⟨_, rfl⟩
      rw [← hj]
      have j0 : 0 ≤ j := by rw [hj]; exact Int.emod_nonneg _ (by omega)
      have j1 : j < ns.length := by rw [hj]; exact Int.emod_lt_of_pos _ (by omega)
      have ja : j ≠ a := by
        intro z
        rcases (show a + 1 + b < (ns.length : Int) ∨ (ns.length : Int) ≤ a + 1 + b by omega) with h | h
        · rw [Int.emod_eq_of_lt (by omega) h] at hj; omega
        · rw [show a + 1 + b = (a + 1 + b - ns.length) + ns.length by omega, Int.add_emod_right, Int.emod_eq_of_lt (by omega) (by omega)] at hj; omega
      have ha : a.toNat < ns.length := by omega
      have hjn : j.toNat < ns.length := by omega
      refine ixd_lst (d := .str ns[a.toNat]) (atI_pos a0 (by rw [List.getElem?_map, List.getElem?_eq_getElem ha]; rfl)) ?_
      fail "go"
      refine ixd_lst (d := .str ns[j.toNat]) (atI_pos j0 (by rw [List.getElem?_map, List.getElem?_eq_getElem hjn]; rfl)) ?_
      fail "go"
      refine k (.unl ns[a.toNat] ns[j.toNat]) _ ⟨gd _ (List.getElem_mem ha), gd _ (List.getElem_mem hjn), fun z => ?_⟩ ?_ (by omega)
      · have := (List.getElem_inj nd).mp z
        omega
      · intro n hn
        rcases List.mem_cons.mp hn with rfl | hn
        · exact List.getElem_mem ha
        · rw [List.mem_singleton.mp hn]; exact List.getElem_mem hjn
    · fail "go"
      exact k (.eqn kvs c) _ ⟨ok63, hc⟩ hnk (by omega)
  · fail "go"
    refine FTake.use (by omega) (by decide) (by decide) fun q q0 q1 => ?_
    fail "go"
    exact k (.cong kvs c (2 + q)) _ ⟨ok63, hc, by omega, by omega⟩ hnk (by omega)
  · fail "go"
    exact k (.eqn kvs c) _ ⟨ok63, hc⟩ hnk (by omega)
end
end OS

namespace OS
open PySem L2 OZ PySem.Spec PyProof.Rows
/-! ### the law's own text of a row -/
theorem adl {a b : Str} {n k : Nat} (ha : a.length ≤ n) (hb : b.length ≤ k) (h : n + k ≤ 100000 := by decide) : a.length + b.length ≤ sizeLine := Nat.le_trans (show _ ≤ 100000 by omega) big_size
def tjoin (cs : Cf) : Str := Str.join (Str.ofString "") (cs.map fun e => term e.1 e.2)
theorem tjoin_snoc (cs : Cf) (e : Str × Int) : tjoin (cs ++ [e]) = tjoin cs ++ term e.1 e.2 := by
  unfold tjoin
  rw [List.map_append]
  exact join_snoc _ _
theorem tjoin_len {cs : Cf} (sm : Small cs 0) (c64 : cs.length < 64) (hg : ∀ e ∈ cs, good e.1 = true) : (tjoin cs).length ≤ 6400 := by
  unfold tjoin
  rw [join_len]
  have := sum_le (cs.map fun e => term e.1 e.2) fun y hy => by
    obtain ⟨e, he, rfl⟩ := List.mem_map.mp hy
    exact term_len (by have := (good_len (hg e he)).1; omega) (sm.cs e he)
  rw [List.length_map] at this
  omega
theorem tjoin_ne {cs : Cf} (h : cs ≠ []) : tjoin cs ≠ Str.ofString "" := by
  have := pieces2_ne (cs := cs) (c := 0) (fun z => h z.1)
  rwa [show pieces2 cs 0 = cs.map (fun e => term e.1 e.2) by unfold pieces2; rw [if_neg (by decide), List.append_nil]] at this
theorem tjoin_text {cs : Cf} (h : cs ≠ []) : ftext cs 0 = if cutS (tjoin cs) none (some 3) = Str.ofString " - " then (Str.ofString "-") ++ cutS (tjoin cs) (some 3) none else cutS (tjoin cs) (some 3) none :=
  ftext_cut (fun z => h z.1) (by unfold tjoin pieces2; rw [if_neg (by decide), List.append_nil])
def FLText : FD := fun ds KR _ m => ∃ (kvs cs : Cf) (c : Int), ds = [.dct (dcC kvs), .int c] ∧ OkP 63 kvs ∧ c.natAbs ≤ 1000 ∧ Can cs ∧ (∀ x, look cs x = look kvs x) ∧ KR (.str (eqnT cs c)) m
def FRText : FD := fun ds KR _ m => ∃ (r : Row) (l : Ln), ds = [r.d] ∧ r.ok ∧ RowLn r l ∧ KR (.str l.text) m
theorem okp_aint {kvs : Cf} (h : OkP 63 kvs) (x : Str) : aint (OS.look kvs x) < 10 ^ 64 := by
  have := h.look x
  exact Int.lt_of_le_of_lt (show aint (OS.look kvs x) ≤ 20 by unfold aint; split <;> omega) (by decide)
section
variable {B : Bd} {f : Addr} {fd : FuncData}
theorem ltext_ok (Fn : Fun B.K "_law_text" "_law_text" l_text f fd) (hb : Binds B.K fd ["_law_parts", "_law_constant"] []) (T : Bn B) : FnG pureM B 1 f 2 FLText := by
  refine fnG_ok Fn c_l_text rfl hb ?_
  rintro X ds KR KE m ⟨cdv, A, outer, s, H, E, rfl⟩ cx hr hl ⟨kvs, cs, c, rfl, ok, hc, can, hlk, k⟩
  have hl2 := intT_len (i := -c) (by omega)
  have hlg := int_log (i := -c) (by omega)
  have l3 : (" = " : Str).length = 3 := by decide +kernel
  have l1 : ("*" : Str).length = 1 := by decide +kernel
  have k63 := ok.len
  show StD _ _ _ _ [.v (.dct (dcC kvs)), .v (.int c), .un, .un, .un] _ _
  fail "go"
  refine cd_sortD (xs := kvs.map (·.1)) (dcC_keys kvs) (by rw [List.length_map]; omega) fun ys perm srt => ?_
  have yasc : Asc ys := sorted_asc srt (perm.nodup_iff.mpr ok.nd)
  have ylen : ys.length < 64 := by rw [perm.length_eq, List.length_map]; omega
  have hpk : cs = pick (OS.look kvs) ys := can.unique (pick_can yasc) fun x => by
    rw [hlk, pick_look yasc]
    intro q hq
    refine perm.mem_iff.mpr ?_
    cases Classical.em (q ∈ kvs.map (·.1)) with
    | inl z => exact z
    | inr z => exact absurd (look_none z) hq
  have hgd : ∀ y ∈ ys, good y = true := fun y hy => by
    obtain ⟨e, he, rfl⟩ := List.mem_map.mp (perm.mem_iff.mp hy)
    exact ok.gd e he
  have hsml : ∀ zs : List Str, (∀ y ∈ zs, y ∈ ys) → zs.length < 64 → (tjoin (pick (OS.look kvs) zs)).length ≤ 6400 := fun zs hz hzl => by
    refine tjoin_len ⟨fun e he => ?_, by decide⟩ (Nat.lt_of_le_of_lt (pick_len _ _) hzl) fun e he => ?_
    all_goals
      unfold pick at he
      obtain ⟨q, hq, rfl⟩ := List.mem_map.mp he
      first | exact okp_aint ok q | exact hgd q (hz q (List.mem_filter.mp hq).1)
  fail "go"
  refine for_invL Da.str cx (i := 3) (fun i sl' m' => ∃ s3 s4 : Sl, m' = m ∧ sl' = [.v (.dct (dcC kvs)), .v (.int c), .v (.str (tjoin (pick (OS.look kvs) (ys.take i)))), s3, s4]) (by fail "zi") ⟨_, _, rfl, rfl⟩ (by rintro n sl m ⟨_, _, _, rfl⟩; rfl) ?_ ?_
  · rintro i y sl m2 hy hi tk ⟨s3, s4, rfl, rfl⟩
    have hm := List.mem_of_getElem? hy
    have hy6 := (good_len (hgd y hm)).1
    have hin : lookO kvs y ≠ none := fun z => lookO_none.mp z (perm.mem_iff.mp hm)
    have tl := hsml (ys.take i) (fun y h => List.mem_of_mem_take h) (by rw [List.length_take]; omega)
    have hai : (if OS.look kvs y < 0 then -OS.look kvs y else OS.look kvs y) = aint (OS.look kvs y) := rfl
    have hd := dec_len (aint0 (OS.look kvs y)) (okp_aint ok y)
    have hlog : (aint (OS.look kvs y)).natAbs.log2 < 1920 := log2_lt (by have := okp_aint ok y; have := aint0 (OS.look kvs y); omega)
    show StD _ _ _ _ [.v (.dct (dcC kvs)), .v (.int c), .v (.str (tjoin (pick (OS.look kvs) (ys.take i)))), .v (.str y), s4] _ _
    fail "go"
    refine ixd_dctS hr (look_has hin) ?_
    fail "go"
    refine zifn (fun e => ?_) fun e => ?_
    rotate_left
    · fail "go"
      exact ⟨_, _, rfl, by rw [tk, pick_snoc, if_neg (fun z => z e)]⟩
    refine std_cut (fun sl' m' => m' = m2 ∧ sl' = [.v (.dct (dcC kvs)), .v (.int c), .v (.str (tjoin (pick (OS.look kvs) (ys.take i)))), .v (.str y), .v (.str y)]) (by fail "go"; exact rfl) ?_
    rintro sl m3 ⟨rfl, rfl⟩
    refine std_cut (fun sl' m' => ∃ t : Str, t.length ≤ 75 ∧ term y (OS.look kvs y) = sg (OS.look kvs y) ++ t ∧ m' = m3 ∧ sl' = [.v (.dct (dcC kvs)), .v (.int c), .v (.str (tjoin (pick (OS.look kvs) (ys.take i)))), .v (.str y), .v (.str t)]) ?_ ?_
    · fail "go"
      refine ixd_dctS hr (look_has hin) ?_
      fail "go"
      rw [hai]
      refine zifn (fun e2 => ?_) fun e2 => ?_
      · fail "go"
        refine ixd_dctS hr (look_has hin) ?_
        fail "go"
        rw [hai]
        fail "go"
        refine opd_addS (adl hd (Nat.le_of_eq l1)) ?_
        fail "go"
        refine opd_addS (adl (n := 65) (by rw [len_app]; show (dec (aint _)).length + _ ≤ _; omega) hy6) ?_
        fail "go"
        refine ⟨_, ?_, by unfold term; rw [if_neg e2]; rfl, rfl, rfl⟩
        rw [len_app, len_app]
        show (dec (aint _)).length + _ + _ ≤ _
        omega
      · fail "go"
        exact ⟨y, by omega, by unfold term; rw [if_pos e2], rfl, rfl⟩
    rintro sl m4 ⟨t, t75, ht, rfl, rfl⟩
    fail "go"
    refine ixd_dctS hr (look_has hin) ?_
    fail "go"
    refine ixd_lst (d := .str (sg (OS.look kvs y))) ?_ ?_
    · unfold sg
      by_cases h : OS.look kvs y < 0
      · rw [decide_eq_true h, if_pos rfl, if_pos h]; rfl
      · rw [decide_eq_false h, if_neg Bool.false_ne_true, if_neg h]; rfl
    refine opd_addS (adl tl (Nat.le_of_eq (sg_len _))) ?_
    fail "go"
    refine opd_addS (adl (n := 6403) (by rw [len_app, sg_len]; omega) t75) ?_
    refine ⟨_, _, by fail "zs", ?_⟩
    fail "go"
    refine ⟨.v (.str y), .v (.str t), rfl, ?_⟩
    rw [tk, pick_snoc, if_pos e, tjoin_snoc, ht, Str.app_assoc]
  rintro sl m2 ⟨s3, s4, rfl, rfl⟩
  rw [List.take_length, ← hpk]
  have tl : (tjoin cs).length ≤ 6400 := by rw [hpk]; exact hsml ys (fun _ h => h) ylen
  have lcut : ∀ a b : Str, a.length ≤ 6400 → (cutS a (some 3) none).length ≤ 6400 := fun a _ h => by
    rw [Str.len_list]
    show ((a.cps.toList.drop _).take _).length ≤ 6400
    rw [List.length_take, List.length_drop, ← Str.len_list]
    omega
  have fin : ∀ z : Str, z = ftext cs 0 → KR (.str (z ++ (" = " : Str) ++ toString (-c))) m2 := fun z hz => by rw [hz]; exact k
  show StD _ _ _ _ [.v (.dct (dcC kvs)), .v (.int c), .v (.str (tjoin cs)), s3, s4] _ _
  have main : ∀ T : Str, T.length ≤ 6400 → ftext cs 0 = (if cutS T none (some 3) = Str.ofString " - " then (Str.ofString "-") ++ cutS T (some 3) none else cutS T (some 3) none) → StD pureM _ (fun _ => K0) ((defBody l_text).drop 3) [.v (.dct (dcC kvs)), .v (.int c), .v (.str T), s3, s4] { nx := fun _ m' => KR .non m', rt := KR } m2 := fun T hT hf => by
    have hTs : T.length ≤ sizeLine := slen hT
    have hcut := lcut T T hT
    show StD _ _ _ _ [.v (.dct (dcC kvs)), .v (.int c), .v (.str T), s3, s4] _ _
    fail "go"
    refine sld_str hTs ?_
    fail "go"
    by_cases q : cutS T none (some 3) = Str.ofString " - "
    · rw [if_pos q] at hf
      refine zifT q ?_
      fail "go"
      refine sld_str hTs ?_
      fail "go"
      refine opd_addS (adl (n := 1) (by decide +kernel) hcut) ?_
      fail "go"
      refine opd_addS (adl (n := 6401) (by rw [len_app]; have : ("-" : Str).length = 1 := by decide +kernel
                                           omega) (Nat.le_of_eq l3)) ?_
      fail "go"
      refine opd_addS (adl (n := 6404) (k := 65) (by rw [len_app, len_app]; have : ("-" : Str).length = 1 := by decide +kernel
                                                     omega) hl2) ?_
      exact fin _ hf.symm
    · rw [if_neg q] at hf
      refine zifF q ?_
      fail "go"
      refine sld_str hTs ?_
      fail "go"
      refine opd_addS (adl (n := 6400) hcut (Nat.le_of_eq l3)) ?_
      fail "go"
      refine opd_addS (adl (n := 6403) (k := 65) (by rw [len_app]; omega) hl2) ?_
      exact fin _ hf.symm
  by_cases h0 : cs = []
  · subst h0
    refine std_cut (fun sl' m' => m' = m2 ∧ sl' = [.v (.dct (dcC kvs)), .v (.int c), .v (.str (" + 0" : Str)), s3, s4]) ?_ ?_
    · fail "go"
      exact rfl
    rintro sl m5 ⟨rfl, rfl⟩
    exact main _ (by decide +kernel) (by decide +kernel)
  · refine std_cut (fun sl' m' => m' = m2 ∧ sl' = [.v (.dct (dcC kvs)), .v (.int c), .v (.str (tjoin cs)), s3, s4]) ?_ ?_
    · fail "go"
      refine zifF (tjoin_ne h0) ?_
      fail "go"
      first | exact rfl | exact ⟨rfl, rfl⟩
    rintro sl m5 ⟨rfl, rfl⟩
    exact main _ tl (tjoin_text h0)
theorem rtext_ok (Fn : Fun B.K "_law_row_text" "_law_row_text" l_row_text f fd) (hb : Binds B.K fd ["_law_row_here"] []) (T : Bn B) (ET : CallG pureM B 1 "_law_text" 2 FLText) : FnG pureM B 2 f 1 FRText := by
  refine fnG_ok Fn c_l_row_text rfl hb ?_
  rintro X ds KR KE m ⟨cdv, A, outer, s, H, E, rfl⟩ cx hr hl ⟨r, l, rfl, ok, rl, k⟩
  cases rl with
  | unl ga gb ne =>
    rename_i a b
    have ha := (good_len ga).1
    have hb2 := (good_len gb).1
    have l4 : (" != " : Str).length = 4 := by decide +kernel
    show StD _ _ _ _ [.v (.tup [.str "inequality", .str a, .str b]), .un] _ _
    fail "go"
    refine opd_addS (adl ha (Nat.le_of_eq l4)) ?_
    fail "go"
    refine opd_addS (adl (n := 10) (by rw [len_app]; omega) hb2) ?_
    exact k
  | eqn h t e =>
    rename_i kvs cs c
    show StD _ _ _ _ [.v (.tup [.str "equation", .dct (dcC kvs), .int c]), .un] _ _
    fail "go"
    refine ⟨kvs, cs, c, rfl, ok.1, ok.2, h.can, e, ?_⟩
    fail "go"
    exact k
  | cong h t q2 q40 e =>
    rename_i kvs cs c q
    have hl0 := eqnT_len h t
    have hq := intT_len (i := q) (by omega)
    have hlg := int_log (i := q) (by omega)
    have l5 : (" (mod " : Str).length = 6 := by decide +kernel
    have l6 : (")" : Str).length = 1 := by decide +kernel
    show StD _ _ _ _ [.v (.tup [.str "congruence", .dct (dcC kvs), .int c, .int q]), .un] _ _
    fail "go"
    refine ⟨kvs, cs, c, rfl, ok.1, ok.2.1, h.can, e, ?_⟩
    fail "go"
    refine opd_addS (adl hl0 (Nat.le_of_eq l5)) ?_
    fail "go"
    refine opd_addS (adl (n := 6475) (k := 65) (by rw [len_app]; omega) hq) ?_
    fail "go"
    refine opd_addS (adl (n := 6540) (by rw [len_app, len_app]; show _ + (intT q).length ≤ _; omega) (Nat.le_of_eq l6)) ?_
    fail "go"
    exact k
end
end OS

namespace OS
open PySem L2 OZ PySem.Spec PyProof.Rows
/-! ### law_k11: names of rows, what they tell -/
theorem RowLn.names {r : Row} {l : Ln} (h : RowLn r l) : l.nms.length < 64 := Ln.nms_len h.fit
def FRNames : FD := fun ds KR _ m => ∃ (r : Row) (l : Ln), ds = [r.d] ∧ r.ok ∧ RowLn r l ∧ KR (.tup (l.nms.map Da.str)) m
def toldH (l : Ln) (ws : Cf) : Da := match l.lack ws with
  | none => .tup [.str "told", .bl (l.tells ws)]
  | some n => .tup [.str "unknown", .str n]
def FLHolds (CE CG CU C : Addr) : FD := fun ds KR _ m => ∃ (l : Ln) (ws : Cf), ds = [l.d CE CG CU C, .dct (dcC ws)] ∧ l.fit ∧ (∀ x, Mid (OS.look ws x)) ∧ KR (toldH l ws) m
def FLExp : FD := fun ds KR _ m => ∃ (r : Row) (l : Ln) (ws : Cf), ds = [r.d, .dct (dcC ws)] ∧ r.ok ∧ RowLn r l ∧ (∀ x, Mid (OS.look ws x)) ∧ KR (toldH l ws) m
theorem pick_of {kvs cs : Cf} {ys : List Str} (ok : OkP 63 kvs) (can : Can cs) (e : ∀ x, OS.look cs x = OS.look kvs x) (perm : ys.Perm (kvs.map (·.1))) (srt : sortedS ys = true) : cs = pick (OS.look kvs) ys := by
  have yasc : Asc ys := sorted_asc srt (perm.nodup_iff.mpr ok.nd)
  refine can.unique (pick_can yasc) fun x => ?_
  rw [e, pick_look yasc]
  intro q hq
  refine perm.mem_iff.mpr ?_
  cases Classical.em (q ∈ kvs.map (·.1)) with
  | inl z => exact z
  | inr z => exact absurd (look_none z) hq
theorem find_filter {α : Type} (p : α → Bool) (xs : List α) : xs.find? p = (xs.filter p).head? := by rw [List.head?_filter]
section
variable {B : Bd} {C CB CR CE CG CU CD CN f st cl : Addr} {fd : FuncData}
theorem rnames_ok (Fn : Fun B.K "_law_row_names" "_law_row_names" l_row_names f fd) (hb : Binds B.K fd ["_law_row_here"] []) (T : Bn B) : FnG pureM B 1 f 1 FRNames := by
  refine fnG_ok Fn c_l_row_names rfl hb ?_
  rintro X ds KR KE m ⟨cdv, A, outer, s, H, E, rfl⟩ cx hr hl ⟨r, l, rfl, ok, rl, k⟩
  have key : ∀ (kvs cs : Cf) (P : Da → Nat → Prop) (d : Da), OkP 63 kvs → Can cs → (∀ x, OS.look cs x = OS.look kvs x) → (∀ d', P d' m → True) → True := fun _ _ _ _ _ _ _ _ => trivial
  cases rl with
  | unl ga gb ne =>
    rename_i a b
    show StD _ _ _ _ [.v (.tup [.str "inequality", .str a, .str b]), .un] _ _
    fail "go"
    exact k
  | eqn h t e =>
    rename_i kvs cs c
    have k63 := ok.1.len
    show StD _ _ _ _ [.v (.tup [.str "equation", .dct (dcC kvs), .int c]), .un] _ _
    fail "go"
    refine evd_lc (own := [("_law_name_here", 1)]) cx hr (.name (by fail "zi")) (.cons .nil (by fail "zs")) ?_
    refine iter_seq ?_
    fail "go"
    refine cd_sortD (xs := kvs.map (·.1)) (dcC_keys kvs) (by rw [List.length_map]; omega) fun ys perm srt => ?_
    have hpk := pick_of ok.1 h.can e perm srt
    have ylen : ys.length < 64 := by rw [perm.length_eq, List.length_map]; omega
    fail "go"
    refine And.intro (by rw [List.length_map]; exact ltsz (by omega)) ?_
    refine compd_filtL Da.str (fun y => decide (OS.look kvs y ≠ 0)) Da.str (by fail "zi") rfl (.head _) ?_ ?_ ?_
    · rintro y hy P kk s0 H0 C0 cl0 fp0 cx' hr'
      show EvT _ _ _ _ [.v (.tup [.str "equation", .dct (dcC kvs), .int c]), .v (.str y)] _ _
      fail "go"
      refine ixd_dctS hr' (look_has fun z => lookO_none.mp z (perm.mem_iff.mp hy)) ?_
      fail "go"
      rw [show decide (OS.look kvs y ≠ 0) = !decide (OS.look kvs y = 0) by simp] at kk
      exact kk
    · rintro y hy ht P kk s0 H0 C0 cl0 fp0 cx' hr'
      show EvD _ _ _ _ [.v (.tup [.str "equation", .dct (dcC kvs), .int c]), .v (.str y)] _ _
      fail "go"
      exact kk
    fail "go"
    rw [← pick_names, ← hpk]
    exact k
  | cong h t q2 q40 e =>
    rename_i kvs cs c q
    have k63 := ok.1.len
    show StD _ _ _ _ [.v (.tup [.str "congruence", .dct (dcC kvs), .int c, .int q]), .un] _ _
    fail "go"
    refine evd_lc (own := [("_law_name_here", 1)]) cx hr (.name (by fail "zi")) (.cons .nil (by fail "zs")) ?_
    refine iter_seq ?_
    fail "go"
    refine cd_sortD (xs := kvs.map (·.1)) (dcC_keys kvs) (by rw [List.length_map]; omega) fun ys perm srt => ?_
    have hpk := pick_of ok.1 h.can e perm srt
    have ylen : ys.length < 64 := by rw [perm.length_eq, List.length_map]; omega
    fail "go"
    refine And.intro (by rw [List.length_map]; exact ltsz (by omega)) ?_
    refine compd_filtL Da.str (fun y => decide (OS.look kvs y ≠ 0)) Da.str (by fail "zi") rfl (.head _) ?_ ?_ ?_
    · rintro y hy P kk s0 H0 C0 cl0 fp0 cx' hr'
      show EvT _ _ _ _ [.v (.tup [.str "congruence", .dct (dcC kvs), .int c, .int q]), .v (.str y)] _ _
      fail "go"
      refine ixd_dctS hr' (look_has fun z => lookO_none.mp z (perm.mem_iff.mp hy)) ?_
      fail "go"
      rw [show decide (OS.look kvs y ≠ 0) = !decide (OS.look kvs y = 0) by simp] at kk
      exact kk
    · rintro y hy ht P kk s0 H0 C0 cl0 fp0 cx' hr'
      show EvD _ _ _ _ [.v (.tup [.str "congruence", .dct (dcC kvs), .int c, .int q]), .v (.str y)] _ _
      fail "go"
      exact kk
    fail "go"
    rw [← pick_names, ← hpk]
    exact k
theorem lholds_ok (Fn : Fun B.K "_law_holds" "_law_holds" l_holds f fd) (hb : Binds B.K fd ["_law_line", "_law_values"] []) (T : Bn B) (mN : B.mg "UnknownName" = some (.ref CN)) (te : PySem.W.exmOne B.K (.ref CN) (.ref CN) = some true) (ex : ErrX B CN "name") (L : LnP B CE CG CU C CN) : FnG pureM B 6 f 2 (FLHolds CE CG CU C) := by
  refine fnG_ok Fn c_l_holds rfl hb ?_
  rintro X ds KR KE m ⟨cdv, A, outer, s, H, E, rfl⟩ cx hr hl ⟨l, ws, rfl, hf, hm, k⟩
  unfold toldH at k
  show StD _ _ _ _ [.v (l.d CE CG CU C), .v (.dct (dcC ws)), .un] _ _
  fail "go"
  refine st1_tryI (fun sl' fs' m' => ∃ n, sl' = [.v (l.d CE CG CU C), .v (.dct (dcC ws)), .un] ∧ fs' = ([("name", .str n)] : List (Str × Da)) ∧ m' = m ∧ l.lack ws = some n) cx mN (.there (.there .here)) te ?_ ?_
  · intro pn xe ps cxt
    fail "go"
    refine meth_holds L (by decide) ?_ hf ?_
    · exact fun K K' m' hk ha => eva_imp ha hk
    fail "go"
    refine ⟨fun h => ?_, fun n h => ⟨rfl, rfl, n, rfl, rfl, rfl, h⟩⟩
    rw [h] at k
    fail "go"
    exact k
  · rintro sl' fs' m' a oe dd pn ⟨n, rfl, rfl, rfl, h⟩ su cxs
    show StD _ _ _ _ [.v (l.d CE CG CU C), .v (.dct (dcC ws)), .v (.exc a dd [("name", .str n)])] _ _
    rw [h] at k
    fail "go"
    exact k
end
end OS

namespace OS
open PySem L2 OZ PySem.Spec PyProof.Rows
/-! ### law_k11: what is expected, what is asked -/
theorem prods_names {kvs ws : Cf} (nd : (kvs.map (·.1)).Nodup) : prods kvs ws = ((kvs.map (·.1)).map fun n => OS.look kvs n * OS.look ws n).sum := by
  unfold prods
  rw [List.map_map]
  congr 1
  refine List.map_congr_left fun e he => ?_
  show _ = OS.look kvs e.1 * OS.look ws e.1
  rw [show OS.look kvs e.1 = e.2 by unfold OS.look; rw [lookO_of_mem (v := e.2) nd he]; rfl]
theorem lookO_isNone {ws : Cf} {y : Str} : decide (lookO ws y = none) = !(OZ.look (Sum.inr y : Key) (dcC ws)).isSome := by
  rw [dcC_look]
  cases lookO ws y <;> rfl
theorem okp_mid {kvs : Cf} (h : OkP 63 kvs) (x : Str) : Mid (OS.look kvs x) := by
  have := h.look x
  exact Nat.lt_of_le_of_lt (show _ ≤ 20 by omega) (by decide)
section
variable {B : Bd} {C CB CR CE CG CU CD CN f st cl : Addr} {fd : FuncData}
theorem lexp_ok (Fn : Fun B.K "_law_expected" "_law_expected" l_expected f fd) (hb : Binds B.K fd ["_law_row_here", "_law_values"] []) (T : Bn B) : FnG pureM B 1 f 2 FLExp := by
  refine fnG_ok Fn c_l_expected rfl hb ?_
  rintro X ds KR KE m ⟨cdv, A, outer, s, H, E, rfl⟩ cx hr hl ⟨r, l, ws, rfl, ok, rl, hm, k⟩
  cases rl with
  | unl ga gb ne =>
    rename_i a b
    show StD _ _ _ _ [.v (.tup [.str "inequality", .str a, .str b]), .v (.dct (dcC ws)), .un, .un, .un, .un] _ _
    fail "go"
    with_reducible refine st1_setLc (own := [("_law_name_here", 3)]) cx hr (.name (by fail "zi")) (.cons .nil (by fail "zs")) ?_ (hN := by with_unfolding_all exact ⟨4, rfl⟩)
    refine iter_seq ?_
    fail "go"
    refine And.intro (ltsz (by show 2 ≤ 1000; omega)) ?_
    refine compd_filtB (xs := [a, b]) Da.str (fun y => decide (lookO ws y = none)) Da.str (by fail "zi") rfl (.head _) ?_ ?_ ?_
    · rintro y hy P kk s0 H0 C0 cl0 fp0 cx' hr'
      show EvT _ _ _ _ [.v (.tup [.str "inequality", .str a, .str b]), .v (.dct (dcC ws)), .v (.lst ([a, b].map Da.str)), .v (.str y), .un, .un] _ _
      fail "go"
      rw [lookO_isNone] at kk
      exact kk
    · rintro y hy ht P kk s0 H0 C0 cl0 fp0 cx' hr'
      show EvD _ _ _ _ [.v (.tup [.str "inequality", .str a, .str b]), .v (.dct (dcC ws)), .v (.lst ([a, b].map Da.str)), .v (.str y), .un, .un] _ _
      fail "go"
      exact kk
    refine ⟨_, _, by fail "zs", ?_⟩
    have hlk : (Ln.unl a b).lack ws = ([a, b].filter fun y => decide (lookO ws y = none)).head? := find_filter _ _
    unfold toldH at k
    rw [hlk] at k
    cases hf : [a, b].filter fun y => decide (lookO ws y = none) with
    | cons n r =>
      rw [hf] at k
      fail "go"
      refine ixd_lst (d := .str n) (atI_pos (by decide) rfl) ?_
      fail "go"
      exact k
    | nil =>
      rw [hf] at k
      have hk : ∀ y ∈ [a, b], lookO ws y ≠ none := fun y hy z => by
        have := List.filter_eq_nil_iff.mp hf y hy
        simp [z] at this
      fail "go"
      refine ixd_dctS hr (look_has (hk a (by simp))) ?_
      fail "go"
      refine ixd_dctS hr (look_has (hk b (by simp))) ?_
      fail "go"
      rw [show (!decide (OS.look ws a = OS.look ws b)) = decide (OS.look ws a ≠ OS.look ws b) by simp]
      exact k
  | eqn h t e =>
    rename_i kvs cs c
    have k63 := ok.1.len
    have hcl : cs.length < 64 := h.len
    show StD _ _ _ _ [.v (.tup [.str "equation", .dct (dcC kvs), .int c]), .v (.dct (dcC ws)), .un, .un, .un, .un] _ _
    fail "go"
    with_reducible refine st1_setLc (own := [("_law_name_here", 3)]) cx hr (.name (by fail "zi")) (.cons .nil (by fail "zs")) ?_ (hN := by with_unfolding_all exact ⟨2, rfl⟩)
    refine iter_seq ?_
    fail "go"
    refine cd_sortD (xs := kvs.map (·.1)) (dcC_keys kvs) (by rw [List.length_map]; omega) fun ys perm srt => ?_
    have hpk := pick_of ok.1 h.can e perm srt
    have ylen : ys.length < 64 := by rw [perm.length_eq, List.length_map]; omega
    fail "go"
    refine And.intro (by rw [List.length_map]; exact ltsz (by omega)) ?_
    refine compd_filtB Da.str (fun y => decide (OS.look kvs y ≠ 0)) Da.str (by fail "zi") rfl (.head _) ?_ ?_ ?_
    · rintro y hy P kk s0 H0 C0 cl0 fp0 cx' hr'
      show EvT _ _ _ _ [.v (.tup [.str "equation", .dct (dcC kvs), .int c]), .v (.dct (dcC ws)), .un, .v (.str y), .un, .un] _ _
      fail "go"
      refine ixd_dctS hr' (look_has fun z => lookO_none.mp z (perm.mem_iff.mp hy)) ?_
      fail "go"
      rw [show decide (OS.look kvs y ≠ 0) = !decide (OS.look kvs y = 0) by simp] at kk
      exact kk
    · rintro y hy ht P kk s0 H0 C0 cl0 fp0 cx' hr'
      show EvD _ _ _ _ [.v (.tup [.str "equation", .dct (dcC kvs), .int c]), .v (.dct (dcC ws)), .un, .v (.str y), .un, .un] _ _
      fail "go"
      exact kk
    refine ⟨_, _, by fail "zs", ?_⟩
    rw [← pick_names, ← hpk]
    have hin : ∀ y ∈ cs.map (·.1), y ∈ kvs.map (·.1) := can_sub h.can e
    fail "go"
    with_reducible refine st1_setLc (own := [("_law_name_here", 3)]) cx hr (.name (by fail "zi")) (.cons .nil (by fail "zs")) ?_ (hN := by with_unfolding_all exact ⟨4, rfl⟩)
    refine iter_seq ?_
    fail "go"
    refine And.intro (by rw [List.length_map, List.length_map]; exact ltsz (by omega)) ?_
    refine compd_filtB Da.str (fun y => decide (lookO ws y = none)) Da.str (by fail "zi") rfl (.head _) ?_ ?_ ?_
    · rintro y hy P kk s0 H0 C0 cl0 fp0 cx' hr'
      show EvT _ _ _ _ [.v (.tup [.str "equation", .dct (dcC kvs), .int c]), .v (.dct (dcC ws)), .v (.lst ((cs.map (·.1)).map Da.str)), .v (.str y), .un, .un] _ _
      fail "go"
      rw [lookO_isNone] at kk
      exact kk
    · rintro y hy ht P kk s0 H0 C0 cl0 fp0 cx' hr'
      show EvD _ _ _ _ [.v (.tup [.str "equation", .dct (dcC kvs), .int c]), .v (.dct (dcC ws)), .v (.lst ((cs.map (·.1)).map Da.str)), .v (.str y), .un, .un] _ _
      fail "go"
      exact kk
    refine ⟨_, _, by fail "zs", ?_⟩
    have hlk : (Ln.eqn cs c).lack ws = ((cs.map (·.1)).filter fun y => decide (lookO ws y = none)).head? := find_filter _ _
    unfold toldH at k
    rw [hlk] at k
    cases hf : (cs.map (·.1)).filter fun y => decide (lookO ws y = none) with
    | cons n r =>
      rw [hf] at k
      fail "go"
      refine ixd_lst (d := .str n) (atI_pos (by decide) rfl) ?_
      fail "go"
      exact k
    | nil =>
      rw [hf] at k
      have hk : ∀ y ∈ cs.map (·.1), lookO ws y ≠ none := fun y hy z => by
        have := List.filter_eq_nil_iff.mp hf y hy
        simp [z] at this
      fail "go"
      refine evd_lc (own := [("_law_name_here", 3)]) cx hr (.name (by fail "zi")) (.cons .nil (by fail "zs")) ?_
      refine iter_seq ?_
      fail "go"
      refine And.intro (by rw [List.length_map, List.length_map]; exact ltsz (by omega)) ?_
      refine compd_mapL Da.str (fun n => .int (OS.look kvs n * OS.look ws n)) (by fail "zi") rfl (.head _) ?_ ?_
      · rintro y hy P kk s0 H0 C0 cl0 fp0 cx' hr'
        show EvD _ _ _ _ [.v (.tup [.str "equation", .dct (dcC kvs), .int c]), .v (.dct (dcC ws)), .v (.lst ((cs.map (·.1)).map Da.str)), .v (.str y), .v (.lst ([] : List Da)), .un] _ _
        fail "go"
        refine ixd_dctS hr' (look_has fun z => lookO_none.mp z (hin y hy)) ?_
        fail "go"
        refine ixd_dctS hr' (look_has (hk y hy)) ?_
        refine opd_mulW (mid_mul (okp_mid ok.1 y) (hm y)) ?_
        exact kk
      fail "go"
      rw [show ((cs.map (·.1)).map fun n => Da.int (OS.look kvs n * OS.look ws n)) = ((cs.map (·.1)).map fun n => OS.look kvs n * OS.look ws n).map Da.int by simp only [List.map_map]; rfl]
      refine cd_sum ?_
      rw [show (fun n => OS.look kvs n * OS.look ws n) = fun n => OS.look cs n * OS.look ws n from funext fun n => by rw [e], ← prods_names h.can.nd]
      fail "go"
      exact k
  | cong h t q2 q40 e =>
    rename_i kvs cs c q
    have k63 := ok.1.len
    have hcl : cs.length < 64 := h.len
    show StD _ _ _ _ [.v (.tup [.str "congruence", .dct (dcC kvs), .int c, .int q]), .v (.dct (dcC ws)), .un, .un, .un, .un] _ _
    fail "go"
    with_reducible refine st1_setLc (own := [("_law_name_here", 3)]) cx hr (.name (by fail "zi")) (.cons .nil (by fail "zs")) ?_ (hN := by with_unfolding_all exact ⟨2, rfl⟩)
    refine iter_seq ?_
    fail "go"
    refine cd_sortD (xs := kvs.map (·.1)) (dcC_keys kvs) (by rw [List.length_map]; omega) fun ys perm srt => ?_
    have hpk := pick_of ok.1 h.can e perm srt
    have ylen : ys.length < 64 := by rw [perm.length_eq, List.length_map]; omega
    fail "go"
    refine And.intro (by rw [List.length_map]; exact ltsz (by omega)) ?_
    refine compd_filtB Da.str (fun y => decide (OS.look kvs y ≠ 0)) Da.str (by fail "zi") rfl (.head _) ?_ ?_ ?_
    · rintro y hy P kk s0 H0 C0 cl0 fp0 cx' hr'
      show EvT _ _ _ _ [.v (.tup [.str "congruence", .dct (dcC kvs), .int c, .int q]), .v (.dct (dcC ws)), .un, .v (.str y), .un, .un] _ _
      fail "go"
      refine ixd_dctS hr' (look_has fun z => lookO_none.mp z (perm.mem_iff.mp hy)) ?_
      fail "go"
      rw [show decide (OS.look kvs y ≠ 0) = !decide (OS.look kvs y = 0) by simp] at kk
      exact kk
    · rintro y hy ht P kk s0 H0 C0 cl0 fp0 cx' hr'
      show EvD _ _ _ _ [.v (.tup [.str "congruence", .dct (dcC kvs), .int c, .int q]), .v (.dct (dcC ws)), .un, .v (.str y), .un, .un] _ _
      fail "go"
      exact kk
    refine ⟨_, _, by fail "zs", ?_⟩
    rw [← pick_names, ← hpk]
    have hin : ∀ y ∈ cs.map (·.1), y ∈ kvs.map (·.1) := can_sub h.can e
    fail "go"
    with_reducible refine st1_setLc (own := [("_law_name_here", 3)]) cx hr (.name (by fail "zi")) (.cons .nil (by fail "zs")) ?_ (hN := by with_unfolding_all exact ⟨4, rfl⟩)
    refine iter_seq ?_
    fail "go"
    refine And.intro (by rw [List.length_map, List.length_map]; exact ltsz (by omega)) ?_
    refine compd_filtB Da.str (fun y => decide (lookO ws y = none)) Da.str (by fail "zi") rfl (.head _) ?_ ?_ ?_
    · rintro y hy P kk s0 H0 C0 cl0 fp0 cx' hr'
      show EvT _ _ _ _ [.v (.tup [.str "congruence", .dct (dcC kvs), .int c, .int q]), .v (.dct (dcC ws)), .v (.lst ((cs.map (·.1)).map Da.str)), .v (.str y), .un, .un] _ _
      fail "go"
      rw [lookO_isNone] at kk
      exact kk
    · rintro y hy ht P kk s0 H0 C0 cl0 fp0 cx' hr'
      show EvD _ _ _ _ [.v (.tup [.str "congruence", .dct (dcC kvs), .int c, .int q]), .v (.dct (dcC ws)), .v (.lst ((cs.map (·.1)).map Da.str)), .v (.str y), .un, .un] _ _
      fail "go"
      exact kk
    refine ⟨_, _, by fail "zs", ?_⟩
    have hlk : (Ln.cong cs c q).lack ws = ((cs.map (·.1)).filter fun y => decide (lookO ws y = none)).head? := find_filter _ _
    unfold toldH at k
    rw [hlk] at k
    cases hf : (cs.map (·.1)).filter fun y => decide (lookO ws y = none) with
    | cons n r =>
      rw [hf] at k
      fail "go"
      refine ixd_lst (d := .str n) (atI_pos (by decide) rfl) ?_
      fail "go"
      exact k
    | nil =>
      rw [hf] at k
      have hk : ∀ y ∈ cs.map (·.1), lookO ws y ≠ none := fun y hy z => by
        have := List.filter_eq_nil_iff.mp hf y hy
        simp [z] at this
      fail "go"
      refine evd_lc (own := [("_law_name_here", 3)]) cx hr (.name (by fail "zi")) (.cons .nil (by fail "zs")) ?_
      refine iter_seq ?_
      fail "go"
      refine And.intro (by rw [List.length_map, List.length_map]; exact ltsz (by omega)) ?_
      refine compd_mapL Da.str (fun n => .int (OS.look kvs n * OS.look ws n)) (by fail "zi") rfl (.head _) ?_ ?_
      · rintro y hy P kk s0 H0 C0 cl0 fp0 cx' hr'
        show EvD _ _ _ _ [.v (.tup [.str "congruence", .dct (dcC kvs), .int c, .int q]), .v (.dct (dcC ws)), .v (.lst ((cs.map (·.1)).map Da.str)), .v (.str y), .v (.lst ([] : List Da)), .un] _ _
        fail "go"
        refine ixd_dctS hr' (look_has fun z => lookO_none.mp z (hin y hy)) ?_
        fail "go"
        refine ixd_dctS hr' (look_has (hk y hy)) ?_
        refine opd_mulW (mid_mul (okp_mid ok.1 y) (hm y)) ?_
        exact kk
      fail "go"
      rw [show ((cs.map (·.1)).map fun n => Da.int (OS.look kvs n * OS.look ws n)) = ((cs.map (·.1)).map fun n => OS.look kvs n * OS.look ws n).map Da.int by simp only [List.map_map]; rfl]
      refine cd_sum ?_
      rw [show (fun n => OS.look kvs n * OS.look ws n) = fun n => OS.look cs n * OS.look ws n from funext fun n => by rw [e], ← prods_names h.can.nd]
      fail "go"
      exact k
end
end OS

namespace OS
open PySem L2 OZ PySem.Spec PyProof.Rows
/-! ### law_k11: asked, added -/
theorem opd_neSelf {M : Mode} {X : Cx} {KE : Kx} {P : Da → Nat → Prop} {m j : Nat} {cs : Cf} (hr : Room j X.A) (hc : (cs.map (·.1)).Nodup) (k : P (.bl false) m) : OpD M X KE (compareOp .NotEq) (.dct (dcC cs)) (.dct (dcC cs)) P m := by
  intro G H σ W Q x y ok wi r1 r2 po pins s v u I rx ry
  obtain ⟨a, oa, va, rfl, ea, ka⟩ := r1.dct_inv
  obtain ⟨b, ob, vb, rfl, eb, kb⟩ := r2.dct_inv
  obtain rfl : v = Value.ref a := rx
  obtain rfl : u = Value.ref b := ry
  cases repk_dcC ka
  cases repk_dcC kb
  obtain ⟨_, _, ya, wa, ra, da⟩ := (show ObjOk X.prog X.w H s.heap a (.frz oa (.dK (dk cs))) from I.hok a _ (ok.sub _ _ ea))
  obtain ⟨_, _, yb, wb, rb, db⟩ := (show ObjOk X.prog X.w H s.heap b (.frz ob (.dK (dk cs))) from I.hok b _ (ok.sub _ _ eb))
  have la : wa.length = cs.length := by rw [← Paired.length ra, dk_len]
  have lb : wb.length = cs.length := by rw [← Paired.length rb, dk_len]
  have hu : X.A.units < cLine := by have := L2.Room.units hr; omega
  refine PySem.W.keq_ne (knd := mixKind X.prog X.w) ya yb da db hu (fun _ => hits_dk rb ra) (fin_bl I (po _ (.bl false) m G H k ok (.bl _)) (by rw [la, lb, eqC_self hc fun _ h => h]; simp))
theorem toldH_pl (l : Ln) (ws : Cf) : plD (toldH l ws) = true ∧ dpt (toldH l ws) ≤ 64 := by
  unfold toldH
  cases l.lack ws <;> exact ⟨rfl, Nat.le_of_ble_eq_true rfl⟩
def FLAsked (CE CG CU C : Addr) : FD := fun ds KR _ m => ∃ (l : Ln) (r : Row) (ws : Cf), ds = [l.d CE CG CU C, r.d, .dct (dcC ws)] ∧ r.ok ∧ RowLn r l ∧ (ws.map (·.1)).Nodup ∧ (∀ x, Mid (OS.look ws x)) ∧ KR (.bl true) m
theorem can_len {cs : Cf} (h : Can cs) (ns : List Str) (hs : ∀ x, OS.look cs x ≠ 0 → x ∈ ns) : cs.length ≤ ns.length := by
  rw [← List.length_map (f := (·.1))]
  exact List.Nodup.length_le_of_subset h.nd fun x hx => hs x ((h.mem_iff x).mp hx)
def FAdded (CE CG CU C st : Addr) : FD := fun ds KR _ m => ∃ r : Row, ds = [.ref st, r.d] ∧ r.ok ∧ r.nms.length ≤ 20 ∧ m ≤ 700000000 ∧ ∀ l m', RowLn r l → m' ≤ m + 30 → KR (l.d CE CG CU C) m'
section
variable {B : Bd} {C CB CR CE CG CU CD CN f st cl : Addr} {fd : FuncData}
theorem lasked_ok (Fn : Fun B.K "_law_asked" "_law_asked" l_asked f fd) (hb : Binds B.K fd ["_law_line", "_law_row_here", "_law_values"] []) (T : Bn B) (EX : CallG pureM B 1 "_law_expected" 2 FLExp) (EH : CallG pureM B 6 "_law_holds" 2 (FLHolds CE CG CU C)) (kBB : KitG B.K (.type "bool") (.type "bool") true) : FnG pureM B 7 f 3 (FLAsked CE CG CU C) := by
  refine fnG_ok Fn c_l_asked rfl hb ?_
  rintro X ds KR KE m ⟨cdv, A, outer, s, H, E, rfl⟩ cx hr hl ⟨l, r, ws, rfl, ok, rl, wnd, hm, k⟩
  show StD _ _ _ _ [.v (l.d CE CG CU C), .v r.d, .v (.dct (dcC ws)), .un, .un] _ _
  fail "go"
  refine ⟨l, ws, rfl, rl.fit, hm, ?_⟩
  refine ⟨_, _, by fail "zs", ?_⟩
  show StD _ _ _ _ [.v (l.d CE CG CU C), .v r.d, .v (.dct (dcC ws)), .v (.dct (dcC ws)), .v (toldH l ws)] _ _
  fail "go"
  refine ⟨r, l, ws, rfl, ok, rl, hm, ?_⟩
  refine opd_ne (L2.Room.units hr) (toldH_pl l ws).1 (toldH_pl l ws).1 (toldH_pl l ws).2 (toldH_pl l ws).2 ?_
  refine ⟨_, rfl, ?_⟩
  refine zdqF (toldH_pl l ws).1 ?_
  fail "go"
  refine opd_neSelf hr wnd ?_
  fail "go"
  unfold toldH
  cases l.lack ws with
  | none =>
    fail "go"
    exact k
  | some n =>
    fail "go"
    exact k
end
end OS

namespace OS
open PySem L2 OZ PySem.Spec PyProof.Rows
theorem look_one (x y : Str) (v : Int) : OS.look [(x, v)] y = if x = y then v else 0 := by
  unfold OS.look
  rw [lookO_cons]
  by_cases h : x = y
  · rw [if_pos h, if_pos h]; rfl
  · rw [if_neg h, if_neg h]; rfl
theorem eraseIdx_mapS : ∀ (L : List Str) (b : Nat), (L.map Da.str).eraseIdx b = (L.eraseIdx b).map Da.str
  | [], _ => rfl
  | _ :: _, 0 => rfl
  | x :: L, b + 1 => by rw [List.map_cons, List.eraseIdx_cons_succ, List.eraseIdx_cons_succ, List.map_cons, eraseIdx_mapS L b]
theorem nodup_erase : ∀ {L : List Str} {b : Nat} (h : L.Nodup) (hb : b < L.length), L[b] ∉ L.eraseIdx b
  | x :: L, 0, h, hb => by
    rw [List.eraseIdx_cons_zero]
    exact (List.nodup_cons.mp h).1
  | x :: L, b + 1, h, hb => by
    rw [List.eraseIdx_cons_succ, List.getElem_cons_succ, List.mem_cons]
    have hb' : b < L.length := by simpa using hb
    rintro (z | z)
    · exact (List.nodup_cons.mp h).1 (z ▸ List.getElem_mem hb')
    · exact nodup_erase (List.nodup_cons.mp h).2 hb' z
theorem mem_erase : ∀ {L : List Str} {b : Nat} {y : Str} (hb : b < L.length), y ∈ L → y ≠ L[b] → y ∈ L.eraseIdx b
  | x :: L, 0, y, hb, h, ne => by
    rw [List.eraseIdx_cons_zero]
    rcases List.mem_cons.mp h with rfl | h
    · exact absurd rfl ne
    · exact h
  | x :: L, b + 1, y, hb, h, ne => by
    rw [List.eraseIdx_cons_succ, List.mem_cons]
    rcases List.mem_cons.mp h with rfl | h
    · exact .inl rfl
    · exact .inr (mem_erase (by simpa using hb) h (by simpa using ne))
section
variable {B : Bd} {C CB CR CE CG CU CD CN f st cl : Addr} {fd : FuncData}
theorem added_ok (Fn : Fun B.K "_law_added" "_law_added" l_added f fd) (hb : Binds B.K fd ["_law_state", "_law_row_here"] []) (T : Bn B) (ET : CallG (takeM st cl) B 1 "_law_take" 2 (FTake st)) (EM : CallG pureM B 7 "_law_made" 1 (FMade CE CG CU C))
    (mE : B.mg "Equation" = some (.ref CE)) (kE : PySem.W.keepIn B.K (.ref CE) = true) (mG : B.mg "Congruence" = some (.ref CG)) (kG : PySem.W.keepIn B.K (.ref CG) = true) (mC : B.mg "Form" = some (.ref C)) (kC : PySem.W.keepIn B.K (.ref C) = true)
    (mkE' : MakeG pureM B 5 CE 1 [] (fun ds _ => ds) (FEqnInit C CR)) (mkG' : MakeG pureM B 5 CG 2 [] (fun ds _ => ds) (FCongInit C CR)) (mkF' : MakeG pureM B 3 C 2 [] (fun ds _ => ds) (FFInit CB)) (mkF1' : MakeG pureM B 3 C 1 [] (fun ds _ => ds ++ [.int 0]) (FFInit CB))
    (SA' : SpecG pureM B 5 C "__add__" 2 (FAddF C)) (SS' : SpecG pureM B 7 C "__sub__" 2 (FSubF C)) (SR : SpecG pureM B 6 C "__rmul__" 2 (FMulF C)) (BM : BinI B.K C .Mult) (c0 : ∃ f : Addr, PySem.W.findIn B.K (.ref C) (PySem.dunder (Operator.Mult).info.2) = some (some (.ref f))) (sf : PySem.W.selfFirst B.K C = true) : FnG (takeM st cl) B 9 f 2 (FAdded CE CG CU C st) := by
  refine fnG_ok Fn c_l_added rfl hb ?_
  rintro X ds KR KE m ⟨cdv, A, outer, s, H, E, rfl⟩ cx hr hl ⟨r, rfl, ok, n20, hm, k⟩
  have mkE := mkE'.lift (M := takeM st cl)
  have mkG := mkG'.lift (M := takeM st cl)
  have mkF := mkF'.lift (M := takeM st cl)
  have mkF1 := mkF1'.lift (M := takeM st cl)
  have SA := SA'.lift (M := takeM st cl)
  have SS := SS'.lift (M := takeM st cl)
  clear mkE' mkG' mkF' mkF1' SA' SS'
  cases r with
  | unl a b =>
    show StD _ _ _ _ [.v (.ref st), .v (.tup [.str "inequality", .str a, .str b]), .un, .un, .un, .un] _ _
    fail "go"
    exact ⟨.unl a b, rfl, ok, fun l rl => k l _ rl (by omega)⟩
  | eqn kvs c =>
    have k20 : kvs.length ≤ 20 := by rw [← List.length_map (f := (·.1))]; exact n20
    have k63 := ok.1.len
    have kgd := ok.1.gd
    show StD _ _ _ _ [.v (.ref st), .v (.tup [.str "equation", .dct (dcC kvs), .int c]), .un, .un, .un, .un] _ _
    have oh : OwnHint "_law_rest" := trivial
    fail "go"
    refine calld_make cx mkF hr rfl ?_
    show FPI (FFInit CB) [.dct (dcC [(("zz9" : Str), 1)]), .int c] _ _ _
    refine fpi (init_use (by simp) (by decide) (fun e he => by rw [List.mem_singleton.mp he]; decide +kernel) fun es eok el ee => ?_)
    refine ⟨_, _, by fail "zs", ?_⟩
    refine std_cons ?_
    with_reducible refine st1_setLcM (own := [("_law_name_here", 4)]) cx hr (.name (by fail "zi")) (.cons .nil (by fail "zs")) ?_ (hN := by with_unfolding_all exact ⟨3, rfl⟩)
    refine iter_seq ?_
    fail "go"
    rw [dcC_keysD]
    refine And.intro (by rw [List.length_map, List.length_map]; exact ltsz (by omega)) ?_
    refine compd_mapB Da.str Da.str (by fail "zi") rfl (by simp) ?_ ?_
    · rintro x hx P kk s0 H0 C0 cl0 fp0 cx' hr'
      show EvD _ _ _ _ [.v (.ref st), .v (.tup [.str "equation", .dct (dcC kvs), .int c]), .v (formD C es c), .un, .v (.str x), .un] _ _
      fail "go"
      exact kk
    refine ⟨_, _, by fail "zs", ?_⟩
    fail "go"
    rw [dcC_len]
    fail "go"
    refine for_invN cx (i := 5) (fun i sl' m' => ∃ (L : List Str) (es : Cf) (s4 s5 : Sl), L.length + i = kvs.length ∧ L.Nodup ∧ (∀ x ∈ L, x ∈ kvs.map (·.1)) ∧ FormOk es ∧ (∀ x, OS.look es x = (if x = ("zz9" : Str) then 1 else 0) + (if x ∈ L then 0 else OS.look kvs x)) ∧ m' ≤ m + i ∧ sl' = [.v (.ref st), .v (.tup [.str "equation", .dct (dcC kvs), .int c]), .v (formD C es c), .m (.lst (L.map Da.str)), s4, s5]) (by fail "zi") ⟨kvs.map (·.1), es, _, _, by rw [List.length_map]; rfl, ok.1.nd, fun x h => h, eok, fun x => ?_, by omega, rfl⟩ (by rintro n sl m ⟨_, _, _, _, _, _, _, _, _, _, rfl⟩; rfl) ?_ ?_
    · rw [ee, look_one]
      by_cases h : x ∈ kvs.map (·.1)
      · rw [if_pos h]
        by_cases hz : x = ("zz9" : Str)
        · rw [if_pos hz, if_pos hz.symm]; rfl
        · rw [if_neg hz, if_neg (fun z => hz z.symm)]; rfl
      · rw [if_neg h, look_none h]
        by_cases hz : x = ("zz9" : Str)
        · rw [if_pos hz, if_pos hz.symm]; rfl
        · rw [if_neg hz, if_neg (fun z => hz z.symm)]; rfl
    · rintro i sl m2 hi hi2 ⟨L, es, s4, s5, ll, lnd, lin, eok, ee, hm2, rfl⟩
      have esl : es.length ≤ 21 := by
        have := can_len eok.can (("zz9" : Str) :: kvs.map (·.1)) fun x hx => by
          rw [ee] at hx
          by_cases hz : x = ("zz9" : Str)
          · rw [hz]; exact .head _
          · rw [if_neg hz] at hx
            by_cases h : x ∈ kvs.map (·.1)
            · exact .tail _ h
            · rw [look_none h] at hx; simp at hx
        rw [List.length_cons, List.length_map] at this
        omega
      have hlen : L.length = kvs.length - i := by omega
      show StD _ _ _ _ [.v (.ref st), .v (.tup [.str "equation", .dct (dcC kvs), .int c]), .v (formD C es c), .m (.lst (L.map Da.str)), s4, .v (.int i)] _ _
      fail "go"
      rw [List.length_map]
      refine FTake.use (by omega) (by omega) (by omega) fun b b0 b1 => ?_
      obtain ⟨b, rfl⟩ : ∃ n : Nat, b = (n : Int) := ⟨b.toNat, by omega⟩
      have hb : b < L.length := by omega
      have hx := lin _ (List.getElem_mem hb)
      obtain ⟨x, hxe⟩ : ∃ x, x = L[b] := ⟨_, rfl⟩
      rw [← hxe] at hx
      fail "go"
      refine ⟨_, _, own_popAt (d := .str x) b0 (by omega) (by rw [Int.toNat_natCast, List.getElem?_map, List.getElem?_eq_getElem hb, hxe]; rfl), ?_⟩
      rw [Int.toNat_natCast, show (L.map Da.str).eraseIdx b = (L.eraseIdx b).map Da.str from eraseIdx_mapS L b]
      refine ⟨_, _, by fail "zs", _, _, by fail "zs", ?_⟩
      show StD _ _ _ _ [.v (.ref st), .v (.tup [.str "equation", .dct (dcC kvs), .int c]), .v (formD C es c), .m (.lst ((L.eraseIdx b).map Da.str)), .v (.str x), .v (.int i)] _ _
      fail "go"
      refine ixd_dctS hr (look_has fun z => lookO_none.mp z hx) ?_
      fail "go"
      show FPI (FFInit CB) [.dct (dcC [(x, 1)]), .int 0] _ _ _
      refine fpi (init_use (by simp) (show 1 < 64 by decide) (fun e he => by rw [List.mem_singleton.mp he]; obtain ⟨e2, he2, rfl⟩ := List.mem_map.mp hx; exact kgd e2 he2) fun es2 eok2 el2 ee2 => ?_)
      refine opd_reflI cx (SpecG.lift SR) BM c0 OS.decl_mul hr ?_
      refine ⟨es2, 0, OS.look kvs x, rfl, eok2, .inl (by have := ok.1.look x; omega), fun es3 eok3 ee3 => ?_⟩
      rw [Int.zero_mul]
      have el3 : es3.length ≤ 1 := can_len eok3.can [x] fun y hy => by
        rw [ee3, ee2, look_one] at hy
        by_cases h : x = y
        · rw [h]; exact .head _
        · rw [if_neg h] at hy; simp at hy
      fail "go"
      refine ⟨es, c, eok, .inr ⟨es3, 0, rfl, eok3, by omega, fun rs rok re => ?_⟩⟩
      rw [Int.add_zero]
      refine ⟨_, _, by fail "zs", ?_⟩
      fail "go"
      refine ⟨L.eraseIdx b, rs, _, _, by rw [List.length_eraseIdx, if_pos hb]; omega, lnd.sublist (List.eraseIdx_sublist L b), fun y hy => lin y (List.mem_of_mem_eraseIdx hy), rok, fun y => ?_, by omega, rfl⟩
      rw [re, ee, ee3, ee2, look_one]
      by_cases h : x = y
      · subst h
        rw [if_pos rfl, if_pos (show x ∈ L by rw [hxe]; exact List.getElem_mem hb), if_neg (show x ∉ L.eraseIdx b by rw [hxe]; exact nodup_erase lnd hb)]
        omega
      · rw [if_neg h, Int.zero_mul, Int.add_zero]
        have : (y ∈ L.eraseIdx b) ↔ (y ∈ L) := ⟨List.mem_of_mem_eraseIdx, fun hy => mem_erase hb hy (by rw [← hxe]; exact fun z => h z.symm)⟩
        by_cases hy : y ∈ L
        · rw [if_pos hy, if_pos (this.mpr hy)]
        · rw [if_neg hy, if_neg (fun z => hy (this.mp z))]
    rintro sl m2 ⟨L, es, s4, s5, ll, lnd, lin, eok, ee, hm2, rfl⟩
    rw [Int.toNat_natCast] at ll hm2
    have L0 : L = [] := List.eq_nil_of_length_eq_zero (by omega)
    subst L0
    have esl : es.length ≤ 21 := by
      have := can_len eok.can (("zz9" : Str) :: kvs.map (·.1)) fun x hx => by
        rw [ee] at hx
        by_cases hz : x = ("zz9" : Str)
        · rw [hz]; exact .head _
        · rw [if_neg hz] at hx
          by_cases h : x ∈ kvs.map (·.1)
          · exact .tail _ h
          · rw [look_none h] at hx; simp at hx
      rw [List.length_cons, List.length_map] at this
      omega
    show StD _ _ _ _ [.v (.ref st), .v (.tup [.str "equation", .dct (dcC kvs), .int c]), .v (formD C es c), .m (.lst []), s4, s5] _ _
    fail "go"
    show FPI (FFInit CB) [.dct (dcC [(("zz9" : Str), 1)]), .int 0] _ _ _
    refine fpi (init_use (by simp) (by decide) (fun e he => by rw [List.mem_singleton.mp he]; decide +kernel) fun es2 eok2 el2 ee2 => ?_)
    have el2 : es2.length ≤ 1 := el2
    fail "go"
    refine ⟨es, c, eok, .inr ⟨es2, 0, rfl, eok2, by omega, fun rs rok re => ?_⟩⟩
    rw [Int.sub_zero]
    have re2 : ∀ x, OS.look rs x = OS.look kvs x := fun x => by
      rw [re, ee, ee2, look_one, if_neg (show ¬ x ∈ ([] : List Str) by simp)]
      by_cases hz : x = ("zz9" : Str)
      · rw [if_pos hz, if_pos hz.symm]; omega
      · rw [if_neg hz, if_neg (fun z => hz z.symm)]; omega
    have tb := parts_small ok.1 ok.2 rok.can re2
    fail "go"
    refine fpi ⟨rs, c, rfl, rok.len, fun _ => ?_, fun v z => by rw [tb] at z; cases z⟩
    exact k (.eqn rs c) _ (.eqn rok tb re2) (by omega)
  | cong kvs c q =>
    have k20 : kvs.length ≤ 20 := by rw [← List.length_map (f := (·.1))]; exact n20
    have k63 := ok.1.len
    have kgd := ok.1.gd
    show StD _ _ _ _ [.v (.ref st), .v (.tup [.str "congruence", .dct (dcC kvs), .int c, .int q]), .un, .un, .un, .un] _ _
    have oh : OwnHint "_law_rest" := trivial
    fail "go"
    refine calld_make cx mkF hr rfl ?_
    show FPI (FFInit CB) [.dct (dcC [(("zz9" : Str), 1)]), .int c] _ _ _
    refine fpi (init_use (by simp) (by decide) (fun e he => by rw [List.mem_singleton.mp he]; decide +kernel) fun es eok el ee => ?_)
    refine ⟨_, _, by fail "zs", ?_⟩
    refine std_cons ?_
    with_reducible refine st1_setLcM (own := [("_law_name_here", 4)]) cx hr (.name (by fail "zi")) (.cons .nil (by fail "zs")) ?_ (hN := by with_unfolding_all exact ⟨3, rfl⟩)
    refine iter_seq ?_
    fail "go"
    rw [dcC_keysD]
    refine And.intro (by rw [List.length_map, List.length_map]; exact ltsz (by omega)) ?_
    refine compd_mapB Da.str Da.str (by fail "zi") rfl (by simp) ?_ ?_
    · rintro x hx P kk s0 H0 C0 cl0 fp0 cx' hr'
      show EvD _ _ _ _ [.v (.ref st), .v (.tup [.str "congruence", .dct (dcC kvs), .int c, .int q]), .v (formD C es c), .un, .v (.str x), .un] _ _
      fail "go"
      exact kk
    refine ⟨_, _, by fail "zs", ?_⟩
    fail "go"
    rw [dcC_len]
    fail "go"
    refine for_invN cx (i := 5) (fun i sl' m' => ∃ (L : List Str) (es : Cf) (s4 s5 : Sl), L.length + i = kvs.length ∧ L.Nodup ∧ (∀ x ∈ L, x ∈ kvs.map (·.1)) ∧ FormOk es ∧ (∀ x, OS.look es x = (if x = ("zz9" : Str) then 1 else 0) + (if x ∈ L then 0 else OS.look kvs x)) ∧ m' ≤ m + i ∧ sl' = [.v (.ref st), .v (.tup [.str "congruence", .dct (dcC kvs), .int c, .int q]), .v (formD C es c), .m (.lst (L.map Da.str)), s4, s5]) (by fail "zi") ⟨kvs.map (·.1), es, _, _, by rw [List.length_map]; rfl, ok.1.nd, fun x h => h, eok, fun x => ?_, by omega, rfl⟩ (by rintro n sl m ⟨_, _, _, _, _, _, _, _, _, _, rfl⟩; rfl) ?_ ?_
    · rw [ee, look_one]
      by_cases h : x ∈ kvs.map (·.1)
      · rw [if_pos h]
        by_cases hz : x = ("zz9" : Str)
        · rw [if_pos hz, if_pos hz.symm]; rfl
        · rw [if_neg hz, if_neg (fun z => hz z.symm)]; rfl
      · rw [if_neg h, look_none h]
        by_cases hz : x = ("zz9" : Str)
        · rw [if_pos hz, if_pos hz.symm]; rfl
        · rw [if_neg hz, if_neg (fun z => hz z.symm)]; rfl
    · rintro i sl m2 hi hi2 ⟨L, es, s4, s5, ll, lnd, lin, eok, ee, hm2, rfl⟩
      have esl : es.length ≤ 21 := by
        have := can_len eok.can (("zz9" : Str) :: kvs.map (·.1)) fun x hx => by
          rw [ee] at hx
          by_cases hz : x = ("zz9" : Str)
          · rw [hz]; exact .head _
          · rw [if_neg hz] at hx
            by_cases h : x ∈ kvs.map (·.1)
            · exact .tail _ h
            · rw [look_none h] at hx; simp at hx
        rw [List.length_cons, List.length_map] at this
        omega
      have hlen : L.length = kvs.length - i := by omega
      show StD _ _ _ _ [.v (.ref st), .v (.tup [.str "congruence", .dct (dcC kvs), .int c, .int q]), .v (formD C es c), .m (.lst (L.map Da.str)), s4, .v (.int i)] _ _
      fail "go"
      rw [List.length_map]
      refine FTake.use (by omega) (by omega) (by omega) fun b b0 b1 => ?_
      obtain ⟨b, rfl⟩ : ∃ n : Nat, b = (n : Int) := ⟨b.toNat, by omega⟩
      have hb : b < L.length := by omega
      have hx := lin _ (List.getElem_mem hb)
      obtain ⟨x, hxe⟩ : ∃ x, x = L[b] := ⟨_, rfl⟩
      rw [← hxe] at hx
      fail "go"
      refine ⟨_, _, own_popAt (d := .str x) b0 (by omega) (by rw [Int.toNat_natCast, List.getElem?_map, List.getElem?_eq_getElem hb, hxe]; rfl), ?_⟩
      rw [Int.toNat_natCast, show (L.map Da.str).eraseIdx b = (L.eraseIdx b).map Da.str from eraseIdx_mapS L b]
      refine ⟨_, _, by fail "zs", _, _, by fail "zs", ?_⟩
      show StD _ _ _ _ [.v (.ref st), .v (.tup [.str "congruence", .dct (dcC kvs), .int c, .int q]), .v (formD C es c), .m (.lst ((L.eraseIdx b).map Da.str)), .v (.str x), .v (.int i)] _ _
      fail "go"
      refine ixd_dctS hr (look_has fun z => lookO_none.mp z hx) ?_
      fail "go"
      show FPI (FFInit CB) [.dct (dcC [(x, 1)]), .int 0] _ _ _
      refine fpi (init_use (by simp) (show 1 < 64 by decide) (fun e he => by rw [List.mem_singleton.mp he]; obtain ⟨e2, he2, rfl⟩ := List.mem_map.mp hx; exact kgd e2 he2) fun es2 eok2 el2 ee2 => ?_)
      refine opd_reflI cx (SpecG.lift SR) BM c0 OS.decl_mul hr ?_
      refine ⟨es2, 0, OS.look kvs x, rfl, eok2, .inl (by have := ok.1.look x; omega), fun es3 eok3 ee3 => ?_⟩
      rw [Int.zero_mul]
      have el3 : es3.length ≤ 1 := can_len eok3.can [x] fun y hy => by
        rw [ee3, ee2, look_one] at hy
        by_cases h : x = y
        · rw [h]; exact .head _
        · rw [if_neg h] at hy; simp at hy
      fail "go"
      refine ⟨es, c, eok, .inr ⟨es3, 0, rfl, eok3, by omega, fun rs rok re => ?_⟩⟩
      rw [Int.add_zero]
      refine ⟨_, _, by fail "zs", ?_⟩
      fail "go"
      refine ⟨L.eraseIdx b, rs, _, _, by rw [List.length_eraseIdx, if_pos hb]; omega, lnd.sublist (List.eraseIdx_sublist L b), fun y hy => lin y (List.mem_of_mem_eraseIdx hy), rok, fun y => ?_, by omega, rfl⟩
      rw [re, ee, ee3, ee2, look_one]
      by_cases h : x = y
      · subst h
        rw [if_pos rfl, if_pos (show x ∈ L by rw [hxe]; exact List.getElem_mem hb), if_neg (show x ∉ L.eraseIdx b by rw [hxe]; exact nodup_erase lnd hb)]
        omega
      · rw [if_neg h, Int.zero_mul, Int.add_zero]
        have : (y ∈ L.eraseIdx b) ↔ (y ∈ L) := ⟨List.mem_of_mem_eraseIdx, fun hy => mem_erase hb hy (by rw [← hxe]; exact fun z => h z.symm)⟩
        by_cases hy : y ∈ L
        · rw [if_pos hy, if_pos (this.mpr hy)]
        · rw [if_neg hy, if_neg (fun z => hy (this.mp z))]
    rintro sl m2 ⟨L, es, s4, s5, ll, lnd, lin, eok, ee, hm2, rfl⟩
    rw [Int.toNat_natCast] at ll hm2
    have L0 : L = [] := List.eq_nil_of_length_eq_zero (by omega)
    subst L0
    have esl : es.length ≤ 21 := by
      have := can_len eok.can (("zz9" : Str) :: kvs.map (·.1)) fun x hx => by
        rw [ee] at hx
        by_cases hz : x = ("zz9" : Str)
        · rw [hz]; exact .head _
        · rw [if_neg hz] at hx
          by_cases h : x ∈ kvs.map (·.1)
          · exact .tail _ h
          · rw [look_none h] at hx; simp at hx
      rw [List.length_cons, List.length_map] at this
      omega
    show StD _ _ _ _ [.v (.ref st), .v (.tup [.str "congruence", .dct (dcC kvs), .int c, .int q]), .v (formD C es c), .m (.lst []), s4, s5] _ _
    fail "go"
    show FPI (FFInit CB) [.dct (dcC [(("zz9" : Str), 1)]), .int 0] _ _ _
    refine fpi (init_use (by simp) (by decide) (fun e he => by rw [List.mem_singleton.mp he]; decide +kernel) fun es2 eok2 el2 ee2 => ?_)
    have el2 : es2.length ≤ 1 := el2
    fail "go"
    refine ⟨es, c, eok, .inr ⟨es2, 0, rfl, eok2, by omega, fun rs rok re => ?_⟩⟩
    rw [Int.sub_zero]
    have re2 : ∀ x, OS.look rs x = OS.look kvs x := fun x => by
      rw [re, ee, ee2, look_one, if_neg (show ¬ x ∈ ([] : List Str) by simp)]
      by_cases hz : x = ("zz9" : Str)
      · rw [if_pos hz, if_pos hz.symm]; omega
      · rw [if_neg hz, if_neg (fun z => hz z.symm)]; omega
    have tb := parts_small ok.1 ok.2.1 rok.can re2
    fail "go"
    refine fpi ⟨rs, c, q, rfl, rok.len, fun _ _ _ => ?_, fun v z => (by rw [tb] at z; cases z), fun _ z => absurd ⟨ok.2.2.1, ok.2.2.2⟩ z⟩
    exact k (.cong rs c q) _ (.cong rok tb ok.2.2.1 ok.2.2.2 re2) (by omega)
end
end OS

namespace OS
open PySem L2 OZ PySem.Spec PyProof.Rows
/-! ### law_k11 -/
structure VT (n : Nat) (ws : Cf) : Prop where
  nd : (ws.map (·.1)).Nodup
  len : ws.length ≤ 8 + n
  bd : ∀ e ∈ ws, e.2.natAbs ≤ 20 + n
theorem VT.mono {n k : Nat} {ws : Cf} (h : VT n ws) (l : n ≤ k) : VT k ws := ⟨h.nd, by have := h.len; omega, fun e he => by have := h.bd e he; omega⟩
theorem VT.put {n : Nat} {ws : Cf} {k : Str} {v : Int} (h : VT n ws) (hv : v.natAbs ≤ 21 + n) : VT (n + 1) (putC ws k v) :=
  ⟨putC_nd h.nd, by have := putC_len ws k v; have := h.len; omega, fun e he => by rcases putC_mem he with rfl | he; exact (show v.natAbs ≤ 20 + (n + 1) by omega); have := h.bd e he; omega⟩
theorem VT.del {n : Nat} {ws : Cf} {k : Str} (h : VT n ws) : VT n (delC ws k) :=
  ⟨h.nd.sublist (List.Sublist.map _ List.filter_sublist), Nat.le_trans (List.length_filter_le _ _) h.len, fun e he => h.bd e (List.mem_filter.mp he).1⟩
theorem VT.look {n : Nat} {ws : Cf} (h : VT n ws) (x : Str) : (OS.look ws x).natAbs ≤ 20 + n := by
  unfold OS.look
  cases q : lookO ws x with
  | none => simp
  | some v => exact h.bd (x, v) (lookO_mem q)
theorem VT.mid {n : Nat} {ws : Cf} (h : VT n ws) (hn : n ≤ 100) (x : Str) : Mid (OS.look ws x) := by
  unfold Mid
  exact Nat.lt_of_le_of_lt (Nat.le_trans (h.look x) (show 20 + n ≤ 120 by omega)) (by decide)
theorem VT.get {n : Nat} {ws : Cf} (h : VT n ws) (x : Str) (d : Int) (hd : d.natAbs ≤ 20) : ∃ v : Int, (OZ.look (Sum.inr x : Key) (dcC ws)).getD (.int d) = .int v ∧ v.natAbs ≤ 20 + n := by
  rw [dcC_look]
  cases q : lookO ws x with
  | none => exact ⟨d, rfl, by omega⟩
  | some v => exact ⟨v, rfl, h.bd (x, v) (lookO_mem q)⟩
theorem VT.sz {n : Nat} {ws : Cf} (h : VT n ws) (hn : n ≤ 100) : (dcC ws).length < sizeLine := by
  rw [dcC_len]
  exact ltsz (Nat.le_trans h.len (by omega))
theorem mem_put {ws : Cf} {k x : Str} {v : Int} (h : x ∈ ws.map (·.1)) : x ∈ (putC ws k v).map (·.1) := by
  rw [putC_names]
  split
  · exact h
  · exact List.mem_append_left _ h
theorem mem_get {ws : Cf} {x : Str} (h : x ∈ ws.map (·.1)) : lookO ws x ≠ none := fun z => lookO_none.mp z h
structure LnE (B : Bd) (CE CG CU C : Addr) : Prop where
  e : EqG pureM B 3 CE (FEEq CE C)
  g : EqG pureM B 3 CG (FCEq CG C)
  u : EqG pureM B 2 CU (FUEq CU)
theorem RowLn.same {r : Row} {l l' : Ln} (h : RowLn r l) (h' : RowLn r l') : l = l' := by
  cases h with
  | eqn h t e => cases h' with | eqn h' t' e' => rw [h.can.unique h'.can fun x => (e x).trans (e' x).symm]
  | cong h t q2 q40 e => cases h' with | cong h' t' _ _ e' => rw [h.can.unique h'.can fun x => (e x).trans (e' x).symm]
  | unl ga gb ne => cases h' with | unl _ _ _ => rfl
theorem opd_eqLn {M : Mode} {X : Cx} {KE : Kx} {P : Da → Nat → Prop} {m j : Nat} {N : List Str} {sc : Scope} {B : Bd} {CE CG CU C : Addr} (cx : Ctx X N sc B) (L : LnE B CE CG CU C) (hr : Room j X.A) (hj : 3 ≤ j) {l : Ln} (hl : l.fit) (h : P (.bl true) m) : OpD M X KE (compareOp .Eq) (l.d CE CG CU C) (l.d CE CG CU C) P m := by
  cases l with
  | eqn cs c => exact opd_eqG cx (EqG.lift L.e) hr ⟨cs, c, cs, c, rfl, hl.1.can, hl.1.can, true, by simp, h⟩ hj
  | cong cs c q => exact opd_eqG cx (EqG.lift L.g) hr ⟨cs, c, q, cs, c, q, rfl, hl.1.can, hl.1.can, true, by simp, h⟩ hj
  | unl a b => exact opd_eqG cx (EqG.lift L.u) hr ⟨a, b, a, b, rfl, true, by simp, h⟩ (by omega)
end OS

namespace OS
open PySem L2 OZ PySem.Spec PyProof.Rows
theorem row_nd {r : Row} (h : r.ok) : r.nms.Nodup := by
  cases r with
  | eqn kvs c => exact h.1.nd
  | cong kvs c q => exact h.1.nd
  | unl a b => exact List.nodup_cons.mpr ⟨by simpa using h.2.2, by simp⟩
theorem strsT_pl (vs : List Str) : plD (.tup (vs.map Da.str)) = true ∧ dpt (.tup (vs.map Da.str)) ≤ 64 := by
  refine ⟨plDs_map _ (fun _ => rfl) _, ?_⟩
  show dpts (vs.map Da.str) + 1 ≤ 64
  have := dpts_le Da.str 1 (fun _ => Nat.le_of_ble_eq_true rfl) vs
  omega
section
variable {B : Bd} {CE CG CU C CC CB CD CN f fS st cl : Addr} {fd dS : FuncData}
theorem rest_ok {T : Bn B} {cdv : Value} {A : Around} {outer : List Env} {s : Shared} {H : Hp} {E : XK} {ns : List Str} {r : Row} {us : Cf} {q : Int} {s6 s7 s8 : Sl} {m4 : Nat} (cx : Ctx (cxOf CX0 B.P B.w B.K B.mg B.base n_sLaw "law" (defScope sLaw) f cdv A outer s H E).nox n_sLaw (defScope sLaw) B) (hr : Room 12 (cxOf CX0 B.P B.w B.K B.mg B.base n_sLaw "law" (defScope sLaw) f cdv A outer s H E).nox.A)
    (ET : CallG (takeM st cl) B 1 "_law_take" 2 (FTake st)) (EAd : CallG (takeM st cl) B 9 "_law_added" 2 (FAdded CE CG CU C st)) (EM : CallG pureM B 7 "_law_made" 1 (FMade CE CG CU C)) (EA : CallG pureM B 7 "_law_asked" 3 (FLAsked CE CG CU C)) (ER : CallG pureM B 1 "_law_row_names" 1 FRNames) (EX : CallG pureM B 2 "_law_row_text" 1 FRText)
    (LN : LnN B CE CG CU C) (LT : LnT B CE CG CU C) (LE : LnE B CE CG CU C)
    (rok : r.ok) (rsub : ∀ n ∈ r.nms, n ∈ ns) (hn6 : ns.length ≤ 6) (hn0 : 0 < ns.length) (hg : ∀ n ∈ ns, good n = true) (hnd : ns.Nodup) (hm4 : m4 ≤ 300) (q0 : 0 ≤ q) (q1 : q < 3) (hin2 : 0 < q → ∀ n ∈ ns, n ∈ us.map (·.1)) (vs0 : VT 0 us) :
    StD (takeM st cl) (cxOf CX0 B.P B.w B.K B.mg B.base n_sLaw "law" (defScope sLaw) f cdv A outer s H E).nox (fun _ => K0) ((defBody sLaw).drop 7) [.un, .v (.ref st), .v (.lst (ns.map Da.str)), .v r.d, .v (.int q), .m (.dct (dcC us)), s6, s7, s8, .un, .un, .un] { nx := fun _ _ => False, rt := fun d _ => d = .bl true } m4 := by
  have hlm : (ns.map Da.str).length = ns.length := List.length_map _
  show StD _ _ _ _ [.un, .v (.ref st), .v (.lst (ns.map Da.str)), .v r.d, .v (.int q), .m (.dct (dcC us)), s6, s7, s8, .un, .un, .un] _ _
  refine std_cut (fun sl' m' => ∃ ws : Cf, VT 1 ws ∧ m' = m4 ∧ sl' = [.un, .v (.ref st), .v (.lst (ns.map Da.str)), .v r.d, .v (.int q), .m (.dct (dcC ws)), s6, s7, s8, .un, .un, .un]) ?_ ?_
  · by_cases h2 : q = 2
    rotate_left
    · fail "go"
      exact ⟨us, vs0.mono (by omega), rfl, rfl⟩
    subst h2
    have hsz := vs0.sz (by omega)
    cases r with
    | unl a b =>
      show St1 _ _ _ _ [.un, .v (.ref st), .v (.lst (ns.map Da.str)), .v (.tup [.str "inequality", .str a, .str b]), .v (.int 2), .m (.dct (dcC us)), s6, s7, s8, .un, .un, .un] _ _
      fail "go"
      refine ⟨Sum.inr b, _, rfl, look_has (mem_get (hin2 (by decide) b (rsub b (by simp [Row.nms])))), ?_⟩
      fail "go"
      rw [dcC_put]
      fail "go"
      exact ⟨_, vs0.put (by have := vs0.look b; omega), rfl, rfl⟩
    | eqn kvs c =>
      show St1 _ _ _ _ [.un, .v (.ref st), .v (.lst (ns.map Da.str)), .v (.tup [.str "equation", .dct (dcC kvs), .int c]), .v (.int 2), .m (.dct (dcC us)), s6, s7, s8, .un, .un, .un] _ _
      fail "go"
      exact ⟨us, vs0.mono (by omega), rfl, rfl⟩
    | cong kvs c q0 =>
      show St1 _ _ _ _ [.un, .v (.ref st), .v (.lst (ns.map Da.str)), .v (.tup [.str "congruence", .dct (dcC kvs), .int c, .int q0]), .v (.int 2), .m (.dct (dcC us)), s6, s7, s8, .un, .un, .un] _ _
      fail "go"
      exact ⟨us, vs0.mono (by omega), rfl, rfl⟩
  rintro sl m5 ⟨ws, vs, rfl, rfl⟩
  clear hin2 vs0 us
  fail "go"
  refine FTake.use (by omega) (by decide) (by decide) fun p p0 p1 => ?_
  fail "go"
  refine for_inv cx (i := 9) (fun n sl' m' => ∃ (ws : Cf) (s9 : Sl), VT (1 + n) ws ∧ n ≤ 2 ∧ m' ≤ m5 + 1 + 2 * n ∧ sl' = [.un, .v (.ref st), .v (.lst (ns.map Da.str)), .v r.d, .v (.int q), .m (.dct (dcC ws)), s6, s7, s8, s9, .un, .un]) (by fail "zi") ⟨ws, _, vs, by omega, by omega, rfl⟩ (by rintro n sl m ⟨_, _, _, _, _, rfl⟩; rfl) ?_ ?_
  · rintro n d sl m6 hd ⟨ws, s9, vs, hn, hm6, rfl⟩
    obtain ⟨hn1, rfl⟩ := intsD_get hd
    have hsz := vs.sz (by omega)
    show StD _ _ _ _ [.un, .v (.ref st), .v (.lst (ns.map Da.str)), .v r.d, .v (.int q), .m (.dct (dcC ws)), s6, s7, s8, _, .un, .un] _ _
    fail "go"
    refine FTake.use (by omega) (by decide) (by decide) fun v v0 v1 => ?_
    fail "go"
    refine FTake.use (by omega) (by decide) (by decide) fun u u0 u1 => ?_
    refine ixd_lstM (Pr := fun d => ∃ n, d = .str n) u0 (by omega) (fun d hd => by
      simp only [List.mem_cons, List.not_mem_nil, or_false] at hd
      rcases hd with rfl | rfl | rfl <;> exact ⟨_, rfl⟩) ?_
    rintro d ⟨x, rfl⟩
    fail "go"
    rw [dcC_put]
    fail "go"
    exact ⟨_, _, (vs.put (by omega)).mono (by omega), by omega, by omega, rfl⟩
  rintro sl m6 ⟨ws, s9, vs, hn, hm6, rfl⟩
  rw [intsD_len] at vs hn hm6
  have vs : VT 3 ws := vs.mono (by omega)
  have hm6 : m6 ≤ 310 := by omega
  fail "go"
  refine ⟨r, rfl, rok, ?_, by omega, fun l m7 rl hm7 => ?_⟩
  · exact Nat.le_trans (List.Nodup.length_le_of_subset (row_nd rok) rsub) (by omega)
  have hask : ∀ (ws : Cf) (n : Nat) (KR : Da → Nat → Prop) (KE : Kx) (m : Nat), VT n ws → n ≤ 20 → KR (.bl true) m → FLAsked CE CG CU C [l.d CE CG CU C, r.d, .dct (dcC ws)] KR KE m := fun ws n KR KE m v hn k =>
    ⟨l, r, ws, rfl, rok, rl, v.nd, v.mid (by omega), k⟩
  refine ⟨_, _, by fail "zs", ?_⟩
  show StD _ _ _ _ [.un, .v (.ref st), .v (.lst (ns.map Da.str)), .v r.d, .v (.int q), .m (.dct (dcC ws)), s6, s7, s8, s9, .v (l.d CE CG CU C), .un] _ _
  refine std_cut (fun sl' m' => m' = m7 ∧ sl' = [.un, .v (.ref st), .v (.lst (ns.map Da.str)), .v r.d, .v (.int q), .m (.dct (dcC ws)), s6, s7, s8, s9, .v (l.d CE CG CU C), .un]) ?_ ?_
  · fail "go"
    refine attr_names LN (by decide) rl.fit ?_
    fail "go"
    refine ⟨r, l, rfl, rok, rl, ?_⟩
    refine opd_ne (L2.Room.units hr) (strsT_pl _).1 (strsT_pl _).1 (strsT_pl _).2 (strsT_pl _).2 ?_
    refine ⟨_, rfl, ?_⟩
    refine zdqF (strsT_pl _).1 ?_
    fail "go"
    exact rfl
  rintro sl m8 ⟨rfl, rfl⟩
  refine std_cut (fun sl' m' => m' = m8 ∧ sl' = [.un, .v (.ref st), .v (.lst (ns.map Da.str)), .v r.d, .v (.int q), .m (.dct (dcC ws)), s6, s7, s8, s9, .v (l.d CE CG CU C), .un]) (st1_if (evt_w (evw_or (evt_imp (PT' := fun b m' => b = false ∧ m' = m8) (evt_not (evt_borK (i := 5) rfl ?_)) ?_)))) ?_
  · show EvT _ _ _ _ [.un, .v (.ref st), .v (.lst (ns.map Da.str)), .v r.d, .v (.int q), .v (.dct (dcC ws)), s6, s7, s8, s9, .v (l.d CE CG CU C), .un] _ _
    fail "go"
    refine hask ws 3 _ _ _ vs (by omega) ?_
    exact ⟨rfl, rfl⟩
  · rintro b m' ⟨rfl, rfl⟩
    rw [if_neg (by decide)]
    refine evw_or1 (evt_not (evt_borK (i := 5) rfl ?_))
    show EvT _ _ _ _ [.un, .v (.ref st), .v (.lst (ns.map Da.str)), .v r.d, .v (.int q), .v (.dct (dcC ws)), s6, s7, s8, s9, .v (l.d CE CG CU C), .un] _ _
    fail "go"
    refine hask ws 3 _ _ _ vs (by omega) ?_
    fail "go"
    rfl
  rintro sl m9 ⟨rfl, rfl⟩
  fail "go"
  rw [hlm]
  refine FTake.use (by omega) (by omega) (by omega) fun b b0 b1 => ?_
  refine ixd_lstM (Pr := fun d => ∃ n, d = .str n) b0 (by rw [hlm]; omega) (fun d hd => by obtain ⟨n, _, rfl⟩ := List.mem_map.mp hd; exact ⟨n, rfl⟩) ?_
  rintro d ⟨x, rfl⟩
  refine ⟨_, _, by fail "zs", ?_⟩
  obtain ⟨v, hv, hvb⟩ := vs.get x 0 (by decide)
  refine std_cut (fun sl' m' => ∃ ws, VT 6 ws ∧ m' ≤ 400 ∧ sl' = [.un, .v (.ref st), .v (.lst (ns.map Da.str)), .v r.d, .v (.int q), .m (.dct (dcC ws)), s6, s7, s8, s9, .v (l.d CE CG CU C), .v (.str x)]) ?_ ?_
  · have hsz := vs.sz (by omega)
    show St1 _ _ _ _ [.un, .v (.ref st), .v (.lst (ns.map Da.str)), .v r.d, .v (.int q), .m (.dct (dcC ws)), s6, s7, s8, s9, .v (l.d CE CG CU C), .v (.str x)] _ _
    fail "go"
    rw [hv]
    fail "go"
    refine FTake.use (by omega) (by decide) (by decide) fun u u0 u1 => ?_
    fail "go"
    rw [dcC_put]
    fail "go"
    exact ⟨_, VT.mono (VT.put (vs.mono (show 3 ≤ 5 by omega)) (by omega)) (by omega), by omega, rfl⟩
  rintro sl m10 ⟨ws, vs, hm10, rfl⟩
  refine std_cut (fun sl' m' => m' = m10 ∧ sl' = [.un, .v (.ref st), .v (.lst (ns.map Da.str)), .v r.d, .v (.int q), .m (.dct (dcC ws)), s6, s7, s8, s9, .v (l.d CE CG CU C), .v (.str x)]) (st1_if (evt_not (evt_borK (i := 5) rfl ?_))) ?_
  · show EvT _ _ _ _ [.un, .v (.ref st), .v (.lst (ns.map Da.str)), .v r.d, .v (.int q), .v (.dct (dcC ws)), s6, s7, s8, s9, .v (l.d CE CG CU C), .v (.str x)] _ _
    fail "go"
    refine hask ws 6 _ _ _ vs (by omega) ?_
    fail "go"
    rfl
  rintro sl m11 ⟨rfl, rfl⟩
  fail "go"
  refine for_inv cx (i := 6) (fun n sl' m' => ∃ (ws : Cf) (s6 : Sl), VT (6 + n) ws ∧ n ≤ 6 ∧ m' ≤ 400 ∧ (∀ x ∈ ns.take n, x ∈ ws.map (·.1)) ∧ sl' = [.un, .v (.ref st), .v (.lst (ns.map Da.str)), .v r.d, .v (.int q), .m (.dct (dcC ws)), s6, s7, s8, s9, .v (l.d CE CG CU C), .v (.str x)]) (by fail "zi") ⟨ws, _, vs, by omega, by omega, by simp, rfl⟩ (by rintro n sl m ⟨_, _, _, _, _, _, rfl⟩; rfl) ?_ ?_
  · rintro n d sl m12 hd ⟨ws, s6, vs, hn, hm12, hin, rfl⟩
    rw [List.getElem?_map] at hd
    obtain ⟨y, hy, rfl⟩ : ∃ y, ns[n]? = some y ∧ d = .str y := by
      cases h : ns[n]? with
      | none => rw [h] at hd; cases hd
      | some y => rw [h] at hd; cases hd; exact ⟨y, rfl, rfl⟩
    have hnl2 : n < ns.length := (List.getElem?_eq_some_iff.mp hy).1
    have tk : ns.take (n + 1) = ns.take n ++ [y] := by rw [List.take_succ, hy]; rfl
    have hsz := vs.sz (by omega)
    obtain ⟨v, hv, hvb⟩ := vs.get y 3 (by decide)
    show StD _ _ _ _ [.un, .v (.ref st), .v (.lst (ns.map Da.str)), .v r.d, .v (.int q), .m (.dct (dcC ws)), .v (.str y), s7, s8, s9, .v (l.d CE CG CU C), .v (.str x)] _ _
    fail "go"
    rw [hv]
    fail "go"
    rw [dcC_put]
    fail "go"
    refine ⟨_, _, (vs.put (v := v) (by omega)).mono (by omega), by omega, by omega, fun z hz => ?_, rfl⟩
    rw [tk] at hz
    rcases List.mem_append.mp hz with h | h
    · exact mem_put (hin z h)
    · rw [List.mem_singleton.mp h]; exact putC_mem_self ws y v
  rintro sl m12 ⟨ws, s6, vs, hn, hm12, hin, rfl⟩
  rw [hlm] at vs hn
  rw [hlm, List.take_length] at hin
  have vs : VT 12 ws := vs.mono (by omega)
  refine std_cut (fun sl' m' => m' = m12 ∧ sl' = [.un, .v (.ref st), .v (.lst (ns.map Da.str)), .v r.d, .v (.int q), .m (.dct (dcC ws)), s6, s7, s8, s9, .v (l.d CE CG CU C), .v (.str x)]) (st1_if (evt_not (evt_borK (i := 5) rfl ?_))) ?_
  · show EvT _ _ _ _ [.un, .v (.ref st), .v (.lst (ns.map Da.str)), .v r.d, .v (.int q), .v (.dct (dcC ws)), s6, s7, s8, s9, .v (l.d CE CG CU C), .v (.str x)] _ _
    fail "go"
    refine hask ws 12 _ _ _ vs (by omega) ?_
    fail "go"
    rfl
  rintro sl m13 ⟨rfl, rfl⟩
  refine std_cut (fun sl' m' => ∃ ws, VT 12 ws ∧ m' ≤ 401 ∧ sl' = [.un, .v (.ref st), .v (.lst (ns.map Da.str)), .v r.d, .v (.int q), .m (.dct (dcC ws)), s6, s7, s8, s9, .v (l.d CE CG CU C), .v (.str x)]) ?_ ?_
  · have hsz := vs.sz (by omega)
    fail "go"
    rw [hlm]
    refine FTake.use (by omega) (by omega) (by omega) fun b b0 b1 => ?_
    refine ixd_lstM (Pr := fun d => ∃ n ∈ ns, d = .str n) b0 (by rw [hlm]; omega) (fun d hd => by obtain ⟨n, hn, rfl⟩ := List.mem_map.mp hd; exact ⟨n, hn, rfl⟩) ?_
    rintro d ⟨y, hy, rfl⟩
    fail "go"
    refine ⟨_, _, own_dpop (k := Sum.inr y) (look_has (mem_get (hin y hy))), ?_⟩
    rw [dcC_del]
    fail "go"
    exact ⟨_, vs.del, by omega, rfl⟩
  rintro sl m14 ⟨ws, vs, hm14, rfl⟩
  refine std_cut (fun sl' m' => m' = m14 ∧ sl' = [.un, .v (.ref st), .v (.lst (ns.map Da.str)), .v r.d, .v (.int q), .m (.dct (dcC ws)), s6, s7, s8, s9, .v (l.d CE CG CU C), .v (.str x)]) (st1_if (evt_not (evt_borK (i := 5) rfl ?_))) ?_
  · show EvT _ _ _ _ [.un, .v (.ref st), .v (.lst (ns.map Da.str)), .v r.d, .v (.int q), .v (.dct (dcC ws)), s6, s7, s8, s9, .v (l.d CE CG CU C), .v (.str x)] _ _
    fail "go"
    refine hask ws 12 _ _ _ vs (by omega) ?_
    fail "go"
    rfl
  rintro sl m15 ⟨rfl, rfl⟩
  fail "go"
  refine cd_strLn cx LT hr (by omega) rl.fit ?_
  fail "go"
  refine ⟨r, l, rfl, rok, rl, ?_⟩
  fail "go"
  refine zifT rfl ?_
  fail "go"
  refine ⟨r, rfl, rok, fun l' rl' => ?_⟩
  rw [← rl.same rl']
  refine opd_eqLn cx LE hr (by omega) rl.fit ?_
  rfl
end
end OS

namespace OS
open PySem L2 OZ PySem.Spec PyProof.Rows
section
variable {B : Bd} {CE CG CU C CC CB CD CN f fS : Addr} {fd dS : FuncData}
theorem law_ok (Fn : Fun B.K "law" "law" sLaw f fd) (T : Bn B) (ES : FnOk B.P B.w B.K B.mg B.base CX0 1 fS dS ["_law_script"] (spStart B.K)) (mS : B.mg "_law_start" = some (.ref fS)) (kS : PySem.W.keepIn B.K (.ref fS) = true) (bS : Binds B.K dS ["_law_script"] [])
    (ET' : ∀ st cl, CallG (takeM st cl) B 1 "_law_take" 2 (FTake st)) (EN' : ∀ st cl, CallG (takeM st cl) B 3 "_law_names" 2 (FNamesL st)) (EW' : ∀ st cl, CallG (takeM st cl) B 3 "_law_row" 2 (FRow st)) (EAd' : ∀ st cl, CallG (takeM st cl) B 9 "_law_added" 2 (FAdded CE CG CU C st)) (EM : CallG pureM B 7 "_law_made" 1 (FMade CE CG CU C)) (EA : CallG pureM B 7 "_law_asked" 3 (FLAsked CE CG CU C)) (ER : CallG pureM B 1 "_law_row_names" 1 FRNames) (EX : CallG pureM B 2 "_law_row_text" 1 FRText)
    (LN : LnN B CE CG CU C) (LT : LnT B CE CG CU C) (LE : LnE B CE CG CU C) : FnOk B.P B.w B.K B.mg B.base CX0 13 f fd ["_law_script"] (OZ.spLaw B.K) := by
  refine law_take (k := 12) Fn c_sLaw rfl ES mS kS bS rfl rfl (by first | exact Or.inl rfl | exact Or.inr rfl) (fun X h => by first | rfl | (unfold swapsWith; simp [h]; rfl)) ?_ (by decide)
  rintro X st cl ⟨cdv, A, outer, s, H, E, rfl⟩ cx hr
  have ET := ET' st cl
  have EN := EN' st cl
  have EW := EW' st cl
  have EAd := EAd' st cl
  have hh : OwnHint "_law_values" := trivial
  show StD _ _ _ _ [.un, .v (.ref st), .un, .un, .un, .un, .un, .un, .un, .un, .un, .un] _ _
  fail "go"
  refine FTake.use (by omega) (by decide) (by decide) fun p p0 p1 => ?_
  fail "go"
  refine ⟨_, rfl, by omega, by omega, by omega, fun ns m1 hnl hg hnd hm1 => ?_⟩
  have hn6 : ns.length ≤ 6 := by omega
  fail "go"
  refine ⟨ns, rfl, by omega, by omega, hg, hnd, fun r m2 rok rsub hm2 => ?_⟩
  fail "go"
  refine FTake.use (by omega) (by decide) (by decide) fun q q0 q1 => ?_
  fail "go"
  refine for_inv cx (i := 6) (fun n sl' m' => ∃ (kvs : Cf) (s6 : Sl), m' ≤ m2 + 1 + 2 * n ∧ (kvs.map (·.1)).Nodup ∧ kvs.length ≤ n ∧ (∀ e ∈ kvs, e.2.natAbs ≤ 20) ∧ (0 < q → ∀ x ∈ ns.reverse.take n, x ∈ kvs.map (·.1)) ∧ sl' = [.un, .v (.ref st), .v (.lst (ns.map Da.str)), .v r.d, .v (.int q), .m (.dct (dcC kvs)), s6, .un, .un, .un, .un, .un]) (by fail "zi") ⟨[], _, by omega, by simp, by simp, by simp, by simp, rfl⟩ (by rintro n sl m ⟨_, _, _, _, _, _, _, rfl⟩; rfl) ?_ ?_
  · rintro n d sl m3 hd ⟨kvs, s6, hm3, nd, hl, hb, hin, rfl⟩
    rw [← List.map_reverse, List.getElem?_map] at hd
    obtain ⟨x, hx, rfl⟩ : ∃ x, ns.reverse[n]? = some x ∧ d = .str x := by
      cases h : ns.reverse[n]? with
      | none => rw [h] at hd; cases hd
      | some x => rw [h] at hd; cases hd; exact ⟨x, rfl, rfl⟩
    have hnl2 : n < ns.length := by have := (List.getElem?_eq_some_iff.mp hx).1; rwa [List.length_reverse] at this
    have tk : ns.reverse.take (n + 1) = ns.reverse.take n ++ [x] := by rw [List.take_succ, hx]; rfl
    have hsz : (dcC kvs).length < sizeLine := by rw [dcC_len]; exact ltsz (by omega)
    have done : ∀ (v : Int) m', v.natAbs ≤ 20 → m' ≤ m3 + 2 → ∃ (kvs' : Cf) (s6 : Sl), m' ≤ m2 + 1 + 2 * (n + 1) ∧ (kvs'.map (·.1)).Nodup ∧ kvs'.length ≤ n + 1 ∧ (∀ e ∈ kvs', e.2.natAbs ≤ 20) ∧ (0 < q → ∀ x ∈ ns.reverse.take (n + 1), x ∈ kvs'.map (·.1)) ∧ ([.un, .v (.ref st), .v (.lst (ns.map Da.str)), .v r.d, .v (.int q), .m (.dct (dcC (putC kvs x v))), .v (.str x), .un, .un, .un, .un, .un] : List Sl) = [.un, .v (.ref st), .v (.lst (ns.map Da.str)), .v r.d, .v (.int q), .m (.dct (dcC kvs')), s6, .un, .un, .un, .un, .un] := fun v m' hv hm' => by
      refine ⟨putC kvs x v, _, by omega, putC_nd nd, by have := putC_len kvs x v; omega, fun e he => by rcases putC_mem he with rfl | he; exact hv; exact hb e he, fun h y hy => ?_, rfl⟩
      rw [tk] at hy
      rcases List.mem_append.mp hy with h2 | h2
      · exact mem_put (hin h y h2)
      · rw [List.mem_singleton.mp h2]; exact putC_mem_self kvs x v
    show StD _ _ _ _ [.un, .v (.ref st), .v (.lst (ns.map Da.str)), .v r.d, .v (.int q), .m (.dct (dcC kvs)), .v (.str x), .un, .un, .un, .un, .un] _ _
    fail "go"
    refine zif (fun e => ?_) fun e => ?_
    · fail "go"
      refine FTake.use (by omega) (by decide) (by decide) fun v v0 v1 => ?_
      fail "go"
      rw [dcC_put]
      fail "go"
      exact done _ _ (by omega) (by omega)
    · fail "go"
      refine FTake.use (by omega) (by decide) (by decide) fun u u0 u1 => ?_
      fail "go"
      refine zif (fun e2 => ?_) fun e2 => ?_
      · fail "go"
        refine FTake.use (by omega) (by decide) (by decide) fun v v0 v1 => ?_
        fail "go"
        rw [dcC_put]
        fail "go"
        exact done _ _ (by omega) (by omega)
      · fail "go"
        exact ⟨kvs, _, by omega, nd, by omega, hb, fun h => absurd h (by omega), rfl⟩
  rintro sl m3 ⟨us, s6, hm3, und, hul, hub, hin, rfl⟩
  rw [List.length_reverse, List.length_map] at hm3 hul
  rw [List.length_reverse, List.length_map, List.take_of_length_le (by rw [List.length_reverse]; omega)] at hin
  have hin2 : 0 < q → ∀ n ∈ ns, n ∈ us.map (·.1) := fun h n hn => hin h n (List.mem_reverse.mpr hn)
  have vs0 : VT 0 us := ⟨und, by omega, hub⟩
  show StD _ _ _ _ [.un, .v (.ref st), .v (.lst (ns.map Da.str)), .v r.d, .v (.int q), .m (.dct (dcC us)), s6, .un, .un, .un, .un, .un] _ _
  refine std_cut (fun sl' m' => ∃ (r' : Row) (s6 s7 s8 : Sl), r'.ok ∧ (∀ n ∈ r'.nms, n ∈ ns) ∧ m' ≤ 300 ∧ sl' = [.un, .v (.ref st), .v (.lst (ns.map Da.str)), .v r'.d, .v (.int q), .m (.dct (dcC us)), s6, s7, s8, .un, .un, .un]) ?_ ?_
  · by_cases q1 : q = 1
    rotate_left
    · fail "go"
      exact ⟨r, _, _, _, rok, rsub, by omega, rfl⟩
    subst q1
    cases r with
    | unl a b =>
      show St1 _ _ _ _ [.un, .v (.ref st), .v (.lst (ns.map Da.str)), .v (.tup [.str "inequality", .str a, .str b]), .v (.int 1), .m (.dct (dcC us)), s6, .un, .un, .un, .un, .un] _ _
      fail "go"
      exact ⟨.unl a b, _, _, _, rok, rsub, by omega, rfl⟩
    | eqn kvs c =>
      show St1 _ _ _ _ [.un, .v (.ref st), .v (.lst (ns.map Da.str)), .v (.tup [.str "equation", .dct (dcC kvs), .int c]), .v (.int 1), .m (.dct (dcC us)), s6, .un, .un, .un, .un, .un] _ _
      refine st1_if (evt_imp (PT' := fun b m' => b = true ∧ m' = m3) (by fail "go"; exact rfl) ?_)
      rintro b m' ⟨rfl, rfl⟩
      rw [if_pos rfl]
      have kl := rok.1.len
      refine std_cons ?_
      refine st1_set cx ?_
      refine evd_borK (i := 5) rfl ?_
      show EvD _ _ _ _ [.un, .v (.ref st), .v (.lst (ns.map Da.str)), .v (.tup [.str "equation", .dct (dcC kvs), .int c]), .v (.int 1), .v (.dct (dcC us)), s6, .un, .un, .un, .un, .un] _ _
      fail "go"
      refine evd_lc (own := [("_law_name_here", 6)]) cx hr (.name (by fail "zi")) (.cons .nil (by fail "zs")) ?_
      refine iter_seq ?_
      fail "go"
      rw [dcC_keysD]
      refine And.intro (by rw [List.length_map, List.length_map]; exact ltsz (by omega)) ?_
      refine compd_mapL Da.str (fun n => .int (OS.look kvs n * OS.look us n)) (by fail "zi") rfl (by simp) ?_ ?_
      · rintro y hy P kk s0 H0 C0 cl0 fp0 cx' hr'
        have b1 := rok.1.look y
        have b2 := vs0.look y
        show EvD _ _ _ _ [.un, .v (.ref st), .v (.lst (ns.map Da.str)), .v (.tup [.str "equation", .dct (dcC kvs), .int c]), .v (.int 1), .v (.dct (dcC us)), .v (.str y), .un, .un, .un, .un, .un] _ _
        fail "go"
        refine ixd_dctS hr' (look_has (mem_get hy)) ?_
        fail "go"
        refine ixd_dctS hr' (look_has (mem_get (hin2 (by decide) y (rsub y hy)))) ?_
        fail "go"
        exact kk
      fail "go"
      rw [show ((kvs.map (·.1)).map fun n => Da.int (OS.look kvs n * OS.look us n)) = ((kvs.map (·.1)).map fun n => OS.look kvs n * OS.look us n).map Da.int by simp only [List.map_map]; rfl]
      refine cd_sum ?_
      generalize ((kvs.map (·.1)).map fun n => OS.look kvs n * OS.look us n).sum = tot
      refine ⟨rfl, ?_⟩
      refine ⟨_, _, by fail "zs", ?_⟩
      fail "go"
      refine sld_tup' (es := []) (by show ¬ (HT.sIx 3 0 (some 3) = 0 ∧ HT.sIx 3 3 none = 3); decide) rfl ?_
      fail "go"
      have hcc : (if (if -tot < 1000 then -tot else 1000) > -1000 then if -tot < 1000 then -tot else 1000 else -1000).natAbs ≤ 1000 := by (repeat' split) <;> omega
      exact ⟨.eqn kvs (if (if -tot < 1000 then -tot else 1000) > -1000 then if -tot < 1000 then -tot else 1000 else -1000), _, _, _, ⟨rok.1, hcc⟩, rsub, by omega, rfl⟩
    | cong kvs c q0 =>
      show St1 _ _ _ _ [.un, .v (.ref st), .v (.lst (ns.map Da.str)), .v (.tup [.str "congruence", .dct (dcC kvs), .int c, .int q0]), .v (.int 1), .m (.dct (dcC us)), s6, .un, .un, .un, .un, .un] _ _
      refine st1_if (evt_imp (PT' := fun b m' => b = true ∧ m' = m3) (by fail "go"; exact rfl) ?_)
      rintro b m' ⟨rfl, rfl⟩
      rw [if_pos rfl]
      have kl := rok.1.len
      refine std_cons ?_
      refine st1_set cx ?_
      refine evd_borK (i := 5) rfl ?_
      show EvD _ _ _ _ [.un, .v (.ref st), .v (.lst (ns.map Da.str)), .v (.tup [.str "congruence", .dct (dcC kvs), .int c, .int q0]), .v (.int 1), .v (.dct (dcC us)), s6, .un, .un, .un, .un, .un] _ _
      fail "go"
      refine evd_lc (own := [("_law_name_here", 6)]) cx hr (.name (by fail "zi")) (.cons .nil (by fail "zs")) ?_
      refine iter_seq ?_
      fail "go"
      rw [dcC_keysD]
      refine And.intro (by rw [List.length_map, List.length_map]; exact ltsz (by omega)) ?_
      refine compd_mapL Da.str (fun n => .int (OS.look kvs n * OS.look us n)) (by fail "zi") rfl (by simp) ?_ ?_
      · rintro y hy P kk s0 H0 C0 cl0 fp0 cx' hr'
        have b1 := rok.1.look y
        have b2 := vs0.look y
        show EvD _ _ _ _ [.un, .v (.ref st), .v (.lst (ns.map Da.str)), .v (.tup [.str "congruence", .dct (dcC kvs), .int c, .int q0]), .v (.int 1), .v (.dct (dcC us)), .v (.str y), .un, .un, .un, .un, .un] _ _
        fail "go"
        refine ixd_dctS hr' (look_has (mem_get hy)) ?_
        fail "go"
        refine ixd_dctS hr' (look_has (mem_get (hin2 (by decide) y (rsub y hy)))) ?_
        fail "go"
        exact kk
      fail "go"
      rw [show ((kvs.map (·.1)).map fun n => Da.int (OS.look kvs n * OS.look us n)) = ((kvs.map (·.1)).map fun n => OS.look kvs n * OS.look us n).map Da.int by simp only [List.map_map]; rfl]
      refine cd_sum ?_
      generalize ((kvs.map (·.1)).map fun n => OS.look kvs n * OS.look us n).sum = tot
      refine ⟨rfl, ?_⟩
      refine ⟨_, _, by fail "zs", ?_⟩
      fail "go"
      refine sld_tup' (es := [.int q0]) (by show ¬ (HT.sIx 4 0 (some 3) = 0 ∧ HT.sIx 4 4 none = 4); decide) rfl ?_
      fail "go"
      have hcc : (if (if -tot < 1000 then -tot else 1000) > -1000 then if -tot < 1000 then -tot else 1000 else -1000).natAbs ≤ 1000 := by (repeat' split) <;> omega
      exact ⟨.cong kvs (if (if -tot < 1000 then -tot else 1000) > -1000 then if -tot < 1000 then -tot else 1000 else -1000) q0, _, _, _, ⟨rok.1, hcc, rok.2.2.1, rok.2.2.2⟩, rsub, by omega, rfl⟩
  rintro sl m4 ⟨r, s6, s7, s8, rok, rsub, hm4, rfl⟩
  exact rest_ok (T := T) cx hr ET EAd EM EA ER EX LN LT LE rok rsub hn6 (by omega) hg hnd hm4 q0 q1 hin2 vs0
end
end OS

end
namespace OS
open PySem L2
theorem all_mk {l : PySem.W.OpenLaw} {w : World} {K : PySem.W.Frag} {h : Heap} {mg : Str → Option Value} {fa : Addr} (X : K.In h) (G : h.Ns mainGlobals mg) (hfa : mg "law" = some (.ref fa))
    {CForm : Addr} {CEquation : Addr} {CCongruence : Addr} {CUnlike : Addr} {CBNme fBNme ONBNme : Addr} {odBNme anBNme : Option Addr} {slBNme : Array (Option Value)} {ocBNme kVBNme dcBNme pmBNme cdBNme ctBNme : Value} {nmBNme qnBNme : Str} {NUBNme : Addr} {bsBNme : List Value} {snBNme : List Str} {suBNme : List Value} {abBNme : Bool} {coBNme : Option Bool} {ddBNme : Option Addr} {k0BNme k1BNme k2BNme k3BNme k5BNme : Option Value} {CDNme fDNme ONDNme : Addr} {odDNme anDNme : Option Addr} {slDNme : Array (Option Value)} {ocDNme kVDNme dcDNme pmDNme cdDNme ctDNme : Value} {nmDNme qnDNme : Str} {NUDNme : Addr} {bsDNme : List Value} {snDNme : List Str} {suDNme : List Value} {abDNme : Bool} {coDNme : Option Bool} {ddDNme : Option Addr} {k0DNme k1DNme k2DNme k3DNme k5DNme : Option Value} {COORge fOORge ONOORge : Addr} {odOORge anOORge : Option Addr} {slOORge : Array (Option Value)} {ocOORge kVOORge dcOORge pmOORge cdOORge ctOORge : Value} {nmOORge qnOORge : Str} {NUOORge : Addr} {bsOORge : List Value} {snOORge : List Str} {suOORge : List Value} {abOORge : Bool} {coOORge : Option Bool} {ddOORge : Option Addr} {k0OORge k1OORge k2OORge k3OORge k5OORge : Option Value} {CUNme fUNme ONUNme : Addr} {odUNme anUNme : Option Addr} {slUNme : Array (Option Value)} {ocUNme kVUNme dcUNme pmUNme cdUNme ctUNme : Value} {nmUNme qnUNme : Str} {NUUNme : Addr} {bsUNme : List Value} {snUNme : List Str} {suUNme : List Value} {abUNme : Bool} {coUNme : Option Bool} {ddUNme : Option Addr} {k0UNme k1UNme k2UNme k3UNme k5UNme : Option Value} {f_valid_name : Addr} {od_valid_name an_valid_name : Option Addr} {sl_valid_name : Array (Option Value)} {oc_valid_name dc_valid_name pm_valid_name cd_valid_name ct_valid_name : Value} {kV_valid_name : Value} {f_check_form : Addr} {od_check_form an_check_form : Option Addr} {sl_check_form : Array (Option Value)} {oc_check_form dc_check_form pm_check_form cd_check_form ct_check_form : Value} {kV_check_form : Value} {f_equation_text : Addr} {od_equation_text an_equation_text : Option Addr} {sl_equation_text : Array (Option Value)} {oc_equation_text dc_equation_text pm_equation_text cd_equation_text ct_equation_text : Value} {kV_equation_text : Value} {f_Equation_init : Addr} {od_Equation_init an_Equation_init : Option Addr} {sl_Equation_init : Array (Option Value)} {oc_Equation_init dc_Equation_init pm_Equation_init cd_Equation_init ct_Equation_init : Value} {kV_Equation_init : Value} {f_Equation_names : Addr} {od_Equation_names an_Equation_names : Option Addr} {sl_Equation_names : Array (Option Value)} {oc_Equation_names dc_Equation_names pm_Equation_names cd_Equation_names ct_Equation_names : Value} {p_Equation_names : Addr} {r_Equation_names : List Value} {kV_Equation_names : Value} {f_Equation_holds : Addr} {od_Equation_holds an_Equation_holds : Option Addr} {sl_Equation_holds : Array (Option Value)} {oc_Equation_holds dc_Equation_holds pm_Equation_holds cd_Equation_holds ct_Equation_holds : Value} {kV_Equation_holds : Value} {f_Equation_eq : Addr} {od_Equation_eq an_Equation_eq : Option Addr} {sl_Equation_eq : Array (Option Value)} {oc_Equation_eq dc_Equation_eq pm_Equation_eq cd_Equation_eq ct_Equation_eq : Value} {kV_Equation_eq : Value} {f_Equation_str : Addr} {od_Equation_str an_Equation_str : Option Addr} {sl_Equation_str : Array (Option Value)} {oc_Equation_str dc_Equation_str pm_Equation_str cd_Equation_str ct_Equation_str : Value} {kV_Equation_str : Value} {f_Congruence_init : Addr} {od_Congruence_init an_Congruence_init : Option Addr} {sl_Congruence_init : Array (Option Value)} {oc_Congruence_init dc_Congruence_init pm_Congruence_init cd_Congruence_init ct_Congruence_init : Value} {kV_Congruence_init : Value} {f_Congruence_names : Addr} {od_Congruence_names an_Congruence_names : Option Addr} {sl_Congruence_names : Array (Option Value)} {oc_Congruence_names dc_Congruence_names pm_Congruence_names cd_Congruence_names ct_Congruence_names : Value} {p_Congruence_names : Addr} {r_Congruence_names : List Value} {kV_Congruence_names : Value} {f_Congruence_holds : Addr} {od_Congruence_holds an_Congruence_holds : Option Addr} {sl_Congruence_holds : Array (Option Value)} {oc_Congruence_holds dc_Congruence_holds pm_Congruence_holds cd_Congruence_holds ct_Congruence_holds : Value} {kV_Congruence_holds : Value} {f_Congruence_eq : Addr} {od_Congruence_eq an_Congruence_eq : Option Addr} {sl_Congruence_eq : Array (Option Value)} {oc_Congruence_eq dc_Congruence_eq pm_Congruence_eq cd_Congruence_eq ct_Congruence_eq : Value} {kV_Congruence_eq : Value} {f_Congruence_str : Addr} {od_Congruence_str an_Congruence_str : Option Addr} {sl_Congruence_str : Array (Option Value)} {oc_Congruence_str dc_Congruence_str pm_Congruence_str cd_Congruence_str ct_Congruence_str : Value} {kV_Congruence_str : Value} {f_Unlike_init : Addr} {od_Unlike_init an_Unlike_init : Option Addr} {sl_Unlike_init : Array (Option Value)} {oc_Unlike_init dc_Unlike_init pm_Unlike_init cd_Unlike_init ct_Unlike_init : Value} {kV_Unlike_init : Value} {f_Unlike_names : Addr} {od_Unlike_names an_Unlike_names : Option Addr} {sl_Unlike_names : Array (Option Value)} {oc_Unlike_names dc_Unlike_names pm_Unlike_names cd_Unlike_names ct_Unlike_names : Value} {p_Unlike_names : Addr} {r_Unlike_names : List Value} {kV_Unlike_names : Value} {f_Unlike_holds : Addr} {od_Unlike_holds an_Unlike_holds : Option Addr} {sl_Unlike_holds : Array (Option Value)} {oc_Unlike_holds dc_Unlike_holds pm_Unlike_holds cd_Unlike_holds ct_Unlike_holds : Value} {kV_Unlike_holds : Value} {f_Unlike_eq : Addr} {od_Unlike_eq an_Unlike_eq : Option Addr} {sl_Unlike_eq : Array (Option Value)} {oc_Unlike_eq dc_Unlike_eq pm_Unlike_eq cd_Unlike_eq ct_Unlike_eq : Value} {kV_Unlike_eq : Value} {f_Unlike_str : Addr} {od_Unlike_str an_Unlike_str : Option Addr} {sl_Unlike_str : Array (Option Value)} {oc_Unlike_str dc_Unlike_str pm_Unlike_str cd_Unlike_str ct_Unlike_str : Value} {kV_Unlike_str : Value} {f_decimal : Addr} {od_decimal an_decimal : Option Addr} {sl_decimal : Array (Option Value)} {oc_decimal dc_decimal pm_decimal cd_decimal ct_decimal : Value} {kV_decimal : Value} {f_signed : Addr} {od_signed an_signed : Option Addr} {sl_signed : Array (Option Value)} {oc_signed dc_signed pm_signed cd_signed ct_signed : Value} {kV_signed : Value} {f_term : Addr} {od_term an_term : Option Addr} {sl_term : Array (Option Value)} {oc_term dc_term pm_term cd_term ct_term : Value} {kV_term : Value} {f_Form_init : Addr} {od_Form_init an_Form_init : Option Addr} {sl_Form_init : Array (Option Value)} {oc_Form_init dc_Form_init pm_Form_init cd_Form_init ct_Form_init : Value} {kV_Form_init : Value} {T_Form_init : Addr} {ocT_Form_init : Value} {odT_Form_init : Option Addr} {nT_Form_init : Nat} {slT_Form_init : Array (Option Value)} {tD_Form_init0 : Tok} {f_Form_coefficients : Addr} {od_Form_coefficients an_Form_coefficients : Option Addr} {sl_Form_coefficients : Array (Option Value)} {oc_Form_coefficients dc_Form_coefficients pm_Form_coefficients cd_Form_coefficients ct_Form_coefficients : Value} {p_Form_coefficients : Addr} {r_Form_coefficients : List Value} {kV_Form_coefficients : Value} {f_Form_constant : Addr} {od_Form_constant an_Form_constant : Option Addr} {sl_Form_constant : Array (Option Value)} {oc_Form_constant dc_Form_constant pm_Form_constant cd_Form_constant ct_Form_constant : Value} {p_Form_constant : Addr} {r_Form_constant : List Value} {kV_Form_constant : Value} {f_Form_eq : Addr} {od_Form_eq an_Form_eq : Option Addr} {sl_Form_eq : Array (Option Value)} {oc_Form_eq dc_Form_eq pm_Form_eq cd_Form_eq ct_Form_eq : Value} {kV_Form_eq : Value} {f_Form_neg : Addr} {od_Form_neg an_Form_neg : Option Addr} {sl_Form_neg : Array (Option Value)} {oc_Form_neg dc_Form_neg pm_Form_neg cd_Form_neg ct_Form_neg : Value} {kV_Form_neg : Value} {f_Form_add : Addr} {od_Form_add an_Form_add : Option Addr} {sl_Form_add : Array (Option Value)} {oc_Form_add dc_Form_add pm_Form_add cd_Form_add ct_Form_add : Value} {kV_Form_add : Value} {f_Form_radd : Addr} {od_Form_radd an_Form_radd : Option Addr} {sl_Form_radd : Array (Option Value)} {oc_Form_radd dc_Form_radd pm_Form_radd cd_Form_radd ct_Form_radd : Value} {kV_Form_radd : Value} {f_Form_sub : Addr} {od_Form_sub an_Form_sub : Option Addr} {sl_Form_sub : Array (Option Value)} {oc_Form_sub dc_Form_sub pm_Form_sub cd_Form_sub ct_Form_sub : Value} {kV_Form_sub : Value} {f_Form_rsub : Addr} {od_Form_rsub an_Form_rsub : Option Addr} {sl_Form_rsub : Array (Option Value)} {oc_Form_rsub dc_Form_rsub pm_Form_rsub cd_Form_rsub ct_Form_rsub : Value} {kV_Form_rsub : Value} {f_Form_mul : Addr} {od_Form_mul an_Form_mul : Option Addr} {sl_Form_mul : Array (Option Value)} {oc_Form_mul dc_Form_mul pm_Form_mul cd_Form_mul ct_Form_mul : Value} {kV_Form_mul : Value} {f_Form_rmul : Addr} {od_Form_rmul an_Form_rmul : Option Addr} {sl_Form_rmul : Array (Option Value)} {oc_Form_rmul dc_Form_rmul pm_Form_rmul cd_Form_rmul ct_Form_rmul : Value} {kV_Form_rmul : Value} {f_Form_call : Addr} {od_Form_call an_Form_call : Option Addr} {sl_Form_call : Array (Option Value)} {oc_Form_call dc_Form_call pm_Form_call cd_Form_call ct_Form_call : Value} {kV_Form_call : Value} {f_Form_str : Addr} {od_Form_str an_Form_str : Option Addr} {sl_Form_str : Array (Option Value)} {oc_Form_str dc_Form_str pm_Form_str cd_Form_str ct_Form_str : Value} {kV_Form_str : Value} {f_start : Addr} {od_start an_start : Option Addr} {sl_start : Array (Option Value)} {oc_start dc_start pm_start cd_start ct_start : Value} {kV_start : Value} {f_take : Addr} {od_take an_take : Option Addr} {sl_take : Array (Option Value)} {oc_take dc_take pm_take cd_take ct_take : Value} {kV_take : Value} {f_Lname : Addr} {od_Lname an_Lname : Option Addr} {sl_Lname : Array (Option Value)} {oc_Lname dc_Lname pm_Lname cd_Lname ct_Lname : Value} {kV_Lname : Value} {f_Lnames : Addr} {od_Lnames an_Lnames : Option Addr} {sl_Lnames : Array (Option Value)} {oc_Lnames dc_Lnames pm_Lnames cd_Lnames ct_Lnames : Value} {kV_Lnames : Value} {f_Lrow : Addr} {od_Lrow an_Lrow : Option Addr} {sl_Lrow : Array (Option Value)} {oc_Lrow dc_Lrow pm_Lrow cd_Lrow ct_Lrow : Value} {kV_Lrow : Value} {f_Lmade : Addr} {od_Lmade an_Lmade : Option Addr} {sl_Lmade : Array (Option Value)} {oc_Lmade dc_Lmade pm_Lmade cd_Lmade ct_Lmade : Value} {kV_Lmade : Value} {f_Ladded : Addr} {od_Ladded an_Ladded : Option Addr} {sl_Ladded : Array (Option Value)} {oc_Ladded dc_Ladded pm_Ladded cd_Ladded ct_Ladded : Value} {kV_Ladded : Value} {f_Lrow_names : Addr} {od_Lrow_names an_Lrow_names : Option Addr} {sl_Lrow_names : Array (Option Value)} {oc_Lrow_names dc_Lrow_names pm_Lrow_names cd_Lrow_names ct_Lrow_names : Value} {kV_Lrow_names : Value} {f_Ltext : Addr} {od_Ltext an_Ltext : Option Addr} {sl_Ltext : Array (Option Value)} {oc_Ltext dc_Ltext pm_Ltext cd_Ltext ct_Ltext : Value} {kV_Ltext : Value} {f_Lrow_text : Addr} {od_Lrow_text an_Lrow_text : Option Addr} {sl_Lrow_text : Array (Option Value)} {oc_Lrow_text dc_Lrow_text pm_Lrow_text cd_Lrow_text ct_Lrow_text : Value} {kV_Lrow_text : Value} {f_Lholds : Addr} {od_Lholds an_Lholds : Option Addr} {sl_Lholds : Array (Option Value)} {oc_Lholds dc_Lholds pm_Lholds cd_Lholds ct_Lholds : Value} {kV_Lholds : Value} {f_Lexpected : Addr} {od_Lexpected an_Lexpected : Option Addr} {sl_Lexpected : Array (Option Value)} {oc_Lexpected dc_Lexpected pm_Lexpected cd_Lexpected ct_Lexpected : Value} {kV_Lexpected : Value} {f_Lasked : Addr} {od_Lasked an_Lasked : Option Addr} {sl_Lasked : Array (Option Value)} {oc_Lasked dc_Lasked pm_Lasked cd_Lasked ct_Lasked : Value} {kV_Lasked : Value} {f_law : Addr} {od_law an_law : Option Addr} {sl_law : Array (Option Value)} {oc_law dc_law pm_law cd_law ct_law : Value} {kV_law : Value} {tc0 : Tok} {tc1 : Tok} {tc2 : Tok} {tc3 : Tok} {tc4 : Tok} {tc5 : Tok} {tc6 : Tok} {tc7 : Tok} {tc8 : Tok} {fo_CFormadd ro_CFormadd : Option Value} {fo_CFormmul ro_CFormmul : Option Value} {fo_CFormsub ro_CFormsub : Option Value}
    (aC_CForm : PySem.W.nsIn K mainGlobals "Form" = some (some (.ref CForm)))
    (pg_CForm : PySem.W.plainGet K CForm Str.empty = true)
    (hd_CForm : PySem.W.hasDictIn K CForm = true)
    (po_CForm : PySem.W.plainOver K CForm = true)
    (sa_CForm : PySem.W.findIn K (.ref CForm) "__setattr__" = some (some (.builtin "object.__setattr__")))
    (mk_CForm : PySem.W.makesIn K CForm = true)
    (kc_CForm : PySem.W.keepIn K (.ref CForm) = true)
    (nF_CForm_coefficients : PySem.W.findIn K (.ref CForm) "_coefficients" = some none)
    (nF_CForm_constant : PySem.W.findIn K (.ref CForm) "_constant" = some none)
    (qs_CForm : PySem.W.subIn K (.type "int") (.ref CForm) = some false)
    (qn_CForm : PySem.W.findIn K (.ref CForm) "__ne__" = some (some (.builtin "object.__ne__")))
    (qo_CForm : PySem.W.subIn K (.ref CForm) (.type "object") = some true)
    (hc_CForm : PySem.W.findIn K (.ref CForm) "__class__" = some (some (.builtin "object.__class__")))
    (hm_CForm : PySem.W.mroIn K CForm (.type "object") = some true)
    (gn : PySem.W.specialIn K (.builtin "object.__class__") "__get__" = some (some (.builtin "getset_descriptor.__get__")))
    (gt : PySem.W.takesIn K (.builtin "object.__class__") = some true)
    (sf_CForm : PySem.W.selfFirst K CForm = true)
    (aC_CEquation : PySem.W.nsIn K mainGlobals "Equation" = some (some (.ref CEquation)))
    (pg_CEquation : PySem.W.plainGet K CEquation Str.empty = true)
    (hd_CEquation : PySem.W.hasDictIn K CEquation = true)
    (po_CEquation : PySem.W.plainOver K CEquation = true)
    (sa_CEquation : PySem.W.findIn K (.ref CEquation) "__setattr__" = some (some (.builtin "object.__setattr__")))
    (mk_CEquation : PySem.W.makesIn K CEquation = true)
    (kc_CEquation : PySem.W.keepIn K (.ref CEquation) = true)
    (nF_CEquation_form : PySem.W.findIn K (.ref CEquation) "_form" = some none)
    (qs_CEquation : PySem.W.subIn K (.type "int") (.ref CEquation) = some false)
    (qn_CEquation : PySem.W.findIn K (.ref CEquation) "__ne__" = some (some (.builtin "object.__ne__")))
    (qo_CEquation : PySem.W.subIn K (.ref CEquation) (.type "object") = some true)
    (hc_CEquation : PySem.W.findIn K (.ref CEquation) "__class__" = some (some (.builtin "object.__class__")))
    (hm_CEquation : PySem.W.mroIn K CEquation (.type "object") = some true)
    (aC_CCongruence : PySem.W.nsIn K mainGlobals "Congruence" = some (some (.ref CCongruence)))
    (pg_CCongruence : PySem.W.plainGet K CCongruence Str.empty = true)
    (hd_CCongruence : PySem.W.hasDictIn K CCongruence = true)
    (po_CCongruence : PySem.W.plainOver K CCongruence = true)
    (sa_CCongruence : PySem.W.findIn K (.ref CCongruence) "__setattr__" = some (some (.builtin "object.__setattr__")))
    (mk_CCongruence : PySem.W.makesIn K CCongruence = true)
    (kc_CCongruence : PySem.W.keepIn K (.ref CCongruence) = true)
    (nF_CCongruence_form : PySem.W.findIn K (.ref CCongruence) "_form" = some none)
    (nF_CCongruence_modulus : PySem.W.findIn K (.ref CCongruence) "_modulus" = some none)
    (qs_CCongruence : PySem.W.subIn K (.type "int") (.ref CCongruence) = some false)
    (qn_CCongruence : PySem.W.findIn K (.ref CCongruence) "__ne__" = some (some (.builtin "object.__ne__")))
    (qo_CCongruence : PySem.W.subIn K (.ref CCongruence) (.type "object") = some true)
    (hc_CCongruence : PySem.W.findIn K (.ref CCongruence) "__class__" = some (some (.builtin "object.__class__")))
    (hm_CCongruence : PySem.W.mroIn K CCongruence (.type "object") = some true)
    (aC_CUnlike : PySem.W.nsIn K mainGlobals "Unlike" = some (some (.ref CUnlike)))
    (pg_CUnlike : PySem.W.plainGet K CUnlike Str.empty = true)
    (hd_CUnlike : PySem.W.hasDictIn K CUnlike = true)
    (po_CUnlike : PySem.W.plainOver K CUnlike = true)
    (sa_CUnlike : PySem.W.findIn K (.ref CUnlike) "__setattr__" = some (some (.builtin "object.__setattr__")))
    (mk_CUnlike : PySem.W.makesIn K CUnlike = true)
    (kc_CUnlike : PySem.W.keepIn K (.ref CUnlike) = true)
    (nF_CUnlike_first : PySem.W.findIn K (.ref CUnlike) "_first" = some none)
    (nF_CUnlike_second : PySem.W.findIn K (.ref CUnlike) "_second" = some none)
    (qs_CUnlike : PySem.W.subIn K (.type "int") (.ref CUnlike) = some false)
    (qn_CUnlike : PySem.W.findIn K (.ref CUnlike) "__ne__" = some (some (.builtin "object.__ne__")))
    (qo_CUnlike : PySem.W.subIn K (.ref CUnlike) (.type "object") = some true)
    (hc_CUnlike : PySem.W.findIn K (.ref CUnlike) "__class__" = some (some (.builtin "object.__class__")))
    (hm_CUnlike : PySem.W.mroIn K CUnlike (.type "object") = some true)
    (kit3 : PySem.W.subIn K (.ref CForm) (.type "int") = some false)
    (eaBNme : PySem.W.nsIn K mainGlobals "BadName" = some (some (.ref CBNme)))
    (eLBNme : K.lookup CBNme = some (excClassObj nmBNme qnBNme CBNme NUBNme bsBNme [.ref ONBNme, .type "ValueError", .type "Exception", .type "BaseException", .type "object"] true snBNme suBNme abBNme coBNme ddBNme k0BNme k1BNme k2BNme k3BNme k5BNme "ValueError.__new__"))
    (esBNme : PySem.W.findIn K (.ref CBNme) "__setattr__" = some (some (.builtin "object.__setattr__")))
    (exBNme : PySem.W.subIn K (.ref CBNme) (.type "BaseException") = some true)
    (etBNme : PySem.W.typeIn K (.ref CBNme) = some (.type "type"))
    (ekBNme : PySem.W.keepIn K (.ref CBNme) = true)
    (eiBNme : PySem.W.findIn K (.ref CBNme) "__init__" = some (some (.ref fBNme)))
    (eTBNme : PySem.W.typeIn K (.ref fBNme) = some (.type "function"))
    (enBNme : PySem.W.findIn K (.ref CBNme) "name" = some none)
    (egBNme : PySem.W.findIn K (.ref CBNme) "__getattribute__" = some (some (.builtin "BaseException.__getattribute__")))
    (eGBNme : PySem.W.findIn K (.ref CBNme) "__getattr__" = some none)
    (ehBNme : PySem.W.hasDictIn K CBNme = true)
    (euBNme : PySem.W.subIn K (.ref CBNme) (.ref CBNme) = some true)
    (elBNme : K.lookup fBNme = some ⟨ocBNme, odBNme, .func (PySem.W.fnOf "__init__" "BadName.__init__" (defArgs sBadName_init) (defBody sBadName_init) (defScope sBadName_init) .none kVBNme dcBNme pmBNme anBNme cdBNme ctBNme), slBNme⟩)
    (ecBNme : PySem.W.codeIn K cdBNme "BadName.__init__" = true)
    (efBNme : PySem.W.keepIn K (.ref fBNme) = true)
    (eaDNme : PySem.W.nsIn K mainGlobals "DuplicateName" = some (some (.ref CDNme)))
    (eLDNme : K.lookup CDNme = some (excClassObj nmDNme qnDNme CDNme NUDNme bsDNme [.ref ONDNme, .type "ValueError", .type "Exception", .type "BaseException", .type "object"] true snDNme suDNme abDNme coDNme ddDNme k0DNme k1DNme k2DNme k3DNme k5DNme "ValueError.__new__"))
    (esDNme : PySem.W.findIn K (.ref CDNme) "__setattr__" = some (some (.builtin "object.__setattr__")))
    (exDNme : PySem.W.subIn K (.ref CDNme) (.type "BaseException") = some true)
    (etDNme : PySem.W.typeIn K (.ref CDNme) = some (.type "type"))
    (ekDNme : PySem.W.keepIn K (.ref CDNme) = true)
    (eiDNme : PySem.W.findIn K (.ref CDNme) "__init__" = some (some (.ref fDNme)))
    (eTDNme : PySem.W.typeIn K (.ref fDNme) = some (.type "function"))
    (enDNme : PySem.W.findIn K (.ref CDNme) "name" = some none)
    (egDNme : PySem.W.findIn K (.ref CDNme) "__getattribute__" = some (some (.builtin "BaseException.__getattribute__")))
    (eGDNme : PySem.W.findIn K (.ref CDNme) "__getattr__" = some none)
    (ehDNme : PySem.W.hasDictIn K CDNme = true)
    (euDNme : PySem.W.subIn K (.ref CDNme) (.ref CDNme) = some true)
    (elDNme : K.lookup fDNme = some ⟨ocDNme, odDNme, .func (PySem.W.fnOf "__init__" "DuplicateName.__init__" (defArgs sDuplicateName_init) (defBody sDuplicateName_init) (defScope sDuplicateName_init) .none kVDNme dcDNme pmDNme anDNme cdDNme ctDNme), slDNme⟩)
    (ecDNme : PySem.W.codeIn K cdDNme "DuplicateName.__init__" = true)
    (efDNme : PySem.W.keepIn K (.ref fDNme) = true)
    (eaOORge : PySem.W.nsIn K mainGlobals "OutOfRange" = some (some (.ref COORge)))
    (eLOORge : K.lookup COORge = some (excClassObj nmOORge qnOORge COORge NUOORge bsOORge [.ref ONOORge, .type "ValueError", .type "Exception", .type "BaseException", .type "object"] true snOORge suOORge abOORge coOORge ddOORge k0OORge k1OORge k2OORge k3OORge k5OORge "ValueError.__new__"))
    (esOORge : PySem.W.findIn K (.ref COORge) "__setattr__" = some (some (.builtin "object.__setattr__")))
    (exOORge : PySem.W.subIn K (.ref COORge) (.type "BaseException") = some true)
    (etOORge : PySem.W.typeIn K (.ref COORge) = some (.type "type"))
    (ekOORge : PySem.W.keepIn K (.ref COORge) = true)
    (eiOORge : PySem.W.findIn K (.ref COORge) "__init__" = some (some (.ref fOORge)))
    (eTOORge : PySem.W.typeIn K (.ref fOORge) = some (.type "function"))
    (enOORge : PySem.W.findIn K (.ref COORge) "value" = some none)
    (egOORge : PySem.W.findIn K (.ref COORge) "__getattribute__" = some (some (.builtin "BaseException.__getattribute__")))
    (eGOORge : PySem.W.findIn K (.ref COORge) "__getattr__" = some none)
    (ehOORge : PySem.W.hasDictIn K COORge = true)
    (euOORge : PySem.W.subIn K (.ref COORge) (.ref COORge) = some true)
    (elOORge : K.lookup fOORge = some ⟨ocOORge, odOORge, .func (PySem.W.fnOf "__init__" "OutOfRange.__init__" (defArgs sOutOfRange_init) (defBody sOutOfRange_init) (defScope sOutOfRange_init) .none kVOORge dcOORge pmOORge anOORge cdOORge ctOORge), slOORge⟩)
    (ecOORge : PySem.W.codeIn K cdOORge "OutOfRange.__init__" = true)
    (efOORge : PySem.W.keepIn K (.ref fOORge) = true)
    (eaUNme : PySem.W.nsIn K mainGlobals "UnknownName" = some (some (.ref CUNme)))
    (eLUNme : K.lookup CUNme = some (excClassObj nmUNme qnUNme CUNme NUUNme bsUNme [.ref ONUNme, .type "ValueError", .type "Exception", .type "BaseException", .type "object"] true snUNme suUNme abUNme coUNme ddUNme k0UNme k1UNme k2UNme k3UNme k5UNme "ValueError.__new__"))
    (esUNme : PySem.W.findIn K (.ref CUNme) "__setattr__" = some (some (.builtin "object.__setattr__")))
    (exUNme : PySem.W.subIn K (.ref CUNme) (.type "BaseException") = some true)
    (etUNme : PySem.W.typeIn K (.ref CUNme) = some (.type "type"))
    (ekUNme : PySem.W.keepIn K (.ref CUNme) = true)
    (eiUNme : PySem.W.findIn K (.ref CUNme) "__init__" = some (some (.ref fUNme)))
    (eTUNme : PySem.W.typeIn K (.ref fUNme) = some (.type "function"))
    (enUNme : PySem.W.findIn K (.ref CUNme) "name" = some none)
    (egUNme : PySem.W.findIn K (.ref CUNme) "__getattribute__" = some (some (.builtin "BaseException.__getattribute__")))
    (eGUNme : PySem.W.findIn K (.ref CUNme) "__getattr__" = some none)
    (ehUNme : PySem.W.hasDictIn K CUNme = true)
    (euUNme : PySem.W.subIn K (.ref CUNme) (.ref CUNme) = some true)
    (elUNme : K.lookup fUNme = some ⟨ocUNme, odUNme, .func (PySem.W.fnOf "__init__" "UnknownName.__init__" (defArgs sUnknownName_init) (defBody sUnknownName_init) (defScope sUnknownName_init) .none kVUNme dcUNme pmUNme anUNme cdUNme ctUNme), slUNme⟩)
    (ecUNme : PySem.W.codeIn K cdUNme "UnknownName.__init__" = true)
    (efUNme : PySem.W.keepIn K (.ref fUNme) = true)
    (a_valid_name : PySem.W.nsIn K mainGlobals "valid_name" = some (some (.ref f_valid_name)))
    (lk_valid_name : K.lookup f_valid_name = some ⟨oc_valid_name, od_valid_name, .func (PySem.W.fnOf "valid_name" "valid_name" (defArgs s_valid_name) (defBody s_valid_name) (defScope s_valid_name) .none kV_valid_name dc_valid_name pm_valid_name an_valid_name cd_valid_name ct_valid_name), sl_valid_name⟩)
    (cq_valid_name : PySem.W.codeIn K cd_valid_name "valid_name" = true)
    (k_valid_name : PySem.W.keepIn K (.ref f_valid_name) = true)
    (a_check_form : PySem.W.nsIn K mainGlobals "_check_form" = some (some (.ref f_check_form)))
    (lk_check_form : K.lookup f_check_form = some ⟨oc_check_form, od_check_form, .func (PySem.W.fnOf "_check_form" "_check_form" (defArgs s_check_form) (defBody s_check_form) (defScope s_check_form) .none kV_check_form dc_check_form pm_check_form an_check_form cd_check_form ct_check_form), sl_check_form⟩)
    (cq_check_form : PySem.W.codeIn K cd_check_form "_check_form" = true)
    (k_check_form : PySem.W.keepIn K (.ref f_check_form) = true)
    (a_equation_text : PySem.W.nsIn K mainGlobals "_equation_text" = some (some (.ref f_equation_text)))
    (lk_equation_text : K.lookup f_equation_text = some ⟨oc_equation_text, od_equation_text, .func (PySem.W.fnOf "_equation_text" "_equation_text" (defArgs s_equation_text) (defBody s_equation_text) (defScope s_equation_text) .none kV_equation_text dc_equation_text pm_equation_text an_equation_text cd_equation_text ct_equation_text), sl_equation_text⟩)
    (cq_equation_text : PySem.W.codeIn K cd_equation_text "_equation_text" = true)
    (k_equation_text : PySem.W.keepIn K (.ref f_equation_text) = true)
    (a_Equation_init : PySem.W.findIn K (.ref CEquation) "__init__" = some (some (.ref f_Equation_init)))
    (i_Equation_init : PySem.W.isFn K (.ref f_Equation_init) = true)
    (lk_Equation_init : K.lookup f_Equation_init = some ⟨oc_Equation_init, od_Equation_init, .func (PySem.W.fnOf "__init__" "Equation.__init__" (defArgs sEquation_init) (defBody sEquation_init) (defScope sEquation_init) .none kV_Equation_init dc_Equation_init pm_Equation_init an_Equation_init cd_Equation_init ct_Equation_init), sl_Equation_init⟩)
    (cq_Equation_init : PySem.W.codeIn K cd_Equation_init "Equation.__init__" = true)
    (k_Equation_init : PySem.W.keepIn K (.ref f_Equation_init) = true)
    (a_Equation_names : PySem.W.findIn K (.ref CEquation) "names" = some (some (.ref p_Equation_names)))
    (g_Equation_names : PySem.W.specialIn K (.ref p_Equation_names) "__get__" = some (some (.builtin "property.__get__")))
    (t_Equation_names : PySem.W.takesIn K (.ref p_Equation_names) = some true)
    (rr_Equation_names : PySem.W.recIn K p_Equation_names "property" = some (.ref f_Equation_names :: r_Equation_names))
    (lk_Equation_names : K.lookup f_Equation_names = some ⟨oc_Equation_names, od_Equation_names, .func (PySem.W.fnOf "names" "Equation.names" (defArgs sEquation_names) (defBody sEquation_names) (defScope sEquation_names) .none kV_Equation_names dc_Equation_names pm_Equation_names an_Equation_names cd_Equation_names ct_Equation_names), sl_Equation_names⟩)
    (cq_Equation_names : PySem.W.codeIn K cd_Equation_names "Equation.names" = true)
    (k_Equation_names : PySem.W.keepIn K (.ref f_Equation_names) = true)
    (a_Equation_holds : PySem.W.findIn K (.ref CEquation) "holds" = some (some (.ref f_Equation_holds)))
    (i_Equation_holds : PySem.W.isFn K (.ref f_Equation_holds) = true)
    (lk_Equation_holds : K.lookup f_Equation_holds = some ⟨oc_Equation_holds, od_Equation_holds, .func (PySem.W.fnOf "holds" "Equation.holds" (defArgs sEquation_holds) (defBody sEquation_holds) (defScope sEquation_holds) .none kV_Equation_holds dc_Equation_holds pm_Equation_holds an_Equation_holds cd_Equation_holds ct_Equation_holds), sl_Equation_holds⟩)
    (cq_Equation_holds : PySem.W.codeIn K cd_Equation_holds "Equation.holds" = true)
    (k_Equation_holds : PySem.W.keepIn K (.ref f_Equation_holds) = true)
    (a_Equation_eq : PySem.W.findIn K (.ref CEquation) "__eq__" = some (some (.ref f_Equation_eq)))
    (i_Equation_eq : PySem.W.isFn K (.ref f_Equation_eq) = true)
    (lk_Equation_eq : K.lookup f_Equation_eq = some ⟨oc_Equation_eq, od_Equation_eq, .func (PySem.W.fnOf "__eq__" "Equation.__eq__" (defArgs sEquation_eq) (defBody sEquation_eq) (defScope sEquation_eq) .none kV_Equation_eq dc_Equation_eq pm_Equation_eq an_Equation_eq cd_Equation_eq ct_Equation_eq), sl_Equation_eq⟩)
    (cq_Equation_eq : PySem.W.codeIn K cd_Equation_eq "Equation.__eq__" = true)
    (k_Equation_eq : PySem.W.keepIn K (.ref f_Equation_eq) = true)
    (a_Equation_str : PySem.W.findIn K (.ref CEquation) "__str__" = some (some (.ref f_Equation_str)))
    (i_Equation_str : PySem.W.isFn K (.ref f_Equation_str) = true)
    (lk_Equation_str : K.lookup f_Equation_str = some ⟨oc_Equation_str, od_Equation_str, .func (PySem.W.fnOf "__str__" "Equation.__str__" (defArgs sEquation_str) (defBody sEquation_str) (defScope sEquation_str) .none kV_Equation_str dc_Equation_str pm_Equation_str an_Equation_str cd_Equation_str ct_Equation_str), sl_Equation_str⟩)
    (cq_Equation_str : PySem.W.codeIn K cd_Equation_str "Equation.__str__" = true)
    (k_Equation_str : PySem.W.keepIn K (.ref f_Equation_str) = true)
    (a_Congruence_init : PySem.W.findIn K (.ref CCongruence) "__init__" = some (some (.ref f_Congruence_init)))
    (i_Congruence_init : PySem.W.isFn K (.ref f_Congruence_init) = true)
    (lk_Congruence_init : K.lookup f_Congruence_init = some ⟨oc_Congruence_init, od_Congruence_init, .func (PySem.W.fnOf "__init__" "Congruence.__init__" (defArgs sCongruence_init) (defBody sCongruence_init) (defScope sCongruence_init) .none kV_Congruence_init dc_Congruence_init pm_Congruence_init an_Congruence_init cd_Congruence_init ct_Congruence_init), sl_Congruence_init⟩)
    (cq_Congruence_init : PySem.W.codeIn K cd_Congruence_init "Congruence.__init__" = true)
    (k_Congruence_init : PySem.W.keepIn K (.ref f_Congruence_init) = true)
    (a_Congruence_names : PySem.W.findIn K (.ref CCongruence) "names" = some (some (.ref p_Congruence_names)))
    (g_Congruence_names : PySem.W.specialIn K (.ref p_Congruence_names) "__get__" = some (some (.builtin "property.__get__")))
    (t_Congruence_names : PySem.W.takesIn K (.ref p_Congruence_names) = some true)
    (rr_Congruence_names : PySem.W.recIn K p_Congruence_names "property" = some (.ref f_Congruence_names :: r_Congruence_names))
    (lk_Congruence_names : K.lookup f_Congruence_names = some ⟨oc_Congruence_names, od_Congruence_names, .func (PySem.W.fnOf "names" "Congruence.names" (defArgs sCongruence_names) (defBody sCongruence_names) (defScope sCongruence_names) .none kV_Congruence_names dc_Congruence_names pm_Congruence_names an_Congruence_names cd_Congruence_names ct_Congruence_names), sl_Congruence_names⟩)
    (cq_Congruence_names : PySem.W.codeIn K cd_Congruence_names "Congruence.names" = true)
    (k_Congruence_names : PySem.W.keepIn K (.ref f_Congruence_names) = true)
    (a_Congruence_holds : PySem.W.findIn K (.ref CCongruence) "holds" = some (some (.ref f_Congruence_holds)))
    (i_Congruence_holds : PySem.W.isFn K (.ref f_Congruence_holds) = true)
    (lk_Congruence_holds : K.lookup f_Congruence_holds = some ⟨oc_Congruence_holds, od_Congruence_holds, .func (PySem.W.fnOf "holds" "Congruence.holds" (defArgs sCongruence_holds) (defBody sCongruence_holds) (defScope sCongruence_holds) .none kV_Congruence_holds dc_Congruence_holds pm_Congruence_holds an_Congruence_holds cd_Congruence_holds ct_Congruence_holds), sl_Congruence_holds⟩)
    (cq_Congruence_holds : PySem.W.codeIn K cd_Congruence_holds "Congruence.holds" = true)
    (k_Congruence_holds : PySem.W.keepIn K (.ref f_Congruence_holds) = true)
    (a_Congruence_eq : PySem.W.findIn K (.ref CCongruence) "__eq__" = some (some (.ref f_Congruence_eq)))
    (i_Congruence_eq : PySem.W.isFn K (.ref f_Congruence_eq) = true)
    (lk_Congruence_eq : K.lookup f_Congruence_eq = some ⟨oc_Congruence_eq, od_Congruence_eq, .func (PySem.W.fnOf "__eq__" "Congruence.__eq__" (defArgs sCongruence_eq) (defBody sCongruence_eq) (defScope sCongruence_eq) .none kV_Congruence_eq dc_Congruence_eq pm_Congruence_eq an_Congruence_eq cd_Congruence_eq ct_Congruence_eq), sl_Congruence_eq⟩)
    (cq_Congruence_eq : PySem.W.codeIn K cd_Congruence_eq "Congruence.__eq__" = true)
    (k_Congruence_eq : PySem.W.keepIn K (.ref f_Congruence_eq) = true)
    (a_Congruence_str : PySem.W.findIn K (.ref CCongruence) "__str__" = some (some (.ref f_Congruence_str)))
    (i_Congruence_str : PySem.W.isFn K (.ref f_Congruence_str) = true)
    (lk_Congruence_str : K.lookup f_Congruence_str = some ⟨oc_Congruence_str, od_Congruence_str, .func (PySem.W.fnOf "__str__" "Congruence.__str__" (defArgs sCongruence_str) (defBody sCongruence_str) (defScope sCongruence_str) .none kV_Congruence_str dc_Congruence_str pm_Congruence_str an_Congruence_str cd_Congruence_str ct_Congruence_str), sl_Congruence_str⟩)
    (cq_Congruence_str : PySem.W.codeIn K cd_Congruence_str "Congruence.__str__" = true)
    (k_Congruence_str : PySem.W.keepIn K (.ref f_Congruence_str) = true)
    (a_Unlike_init : PySem.W.findIn K (.ref CUnlike) "__init__" = some (some (.ref f_Unlike_init)))
    (i_Unlike_init : PySem.W.isFn K (.ref f_Unlike_init) = true)
    (lk_Unlike_init : K.lookup f_Unlike_init = some ⟨oc_Unlike_init, od_Unlike_init, .func (PySem.W.fnOf "__init__" "Unlike.__init__" (defArgs sUnlike_init) (defBody sUnlike_init) (defScope sUnlike_init) .none kV_Unlike_init dc_Unlike_init pm_Unlike_init an_Unlike_init cd_Unlike_init ct_Unlike_init), sl_Unlike_init⟩)
    (cq_Unlike_init : PySem.W.codeIn K cd_Unlike_init "Unlike.__init__" = true)
    (k_Unlike_init : PySem.W.keepIn K (.ref f_Unlike_init) = true)
    (a_Unlike_names : PySem.W.findIn K (.ref CUnlike) "names" = some (some (.ref p_Unlike_names)))
    (g_Unlike_names : PySem.W.specialIn K (.ref p_Unlike_names) "__get__" = some (some (.builtin "property.__get__")))
    (t_Unlike_names : PySem.W.takesIn K (.ref p_Unlike_names) = some true)
    (rr_Unlike_names : PySem.W.recIn K p_Unlike_names "property" = some (.ref f_Unlike_names :: r_Unlike_names))
    (lk_Unlike_names : K.lookup f_Unlike_names = some ⟨oc_Unlike_names, od_Unlike_names, .func (PySem.W.fnOf "names" "Unlike.names" (defArgs sUnlike_names) (defBody sUnlike_names) (defScope sUnlike_names) .none kV_Unlike_names dc_Unlike_names pm_Unlike_names an_Unlike_names cd_Unlike_names ct_Unlike_names), sl_Unlike_names⟩)
    (cq_Unlike_names : PySem.W.codeIn K cd_Unlike_names "Unlike.names" = true)
    (k_Unlike_names : PySem.W.keepIn K (.ref f_Unlike_names) = true)
    (a_Unlike_holds : PySem.W.findIn K (.ref CUnlike) "holds" = some (some (.ref f_Unlike_holds)))
    (i_Unlike_holds : PySem.W.isFn K (.ref f_Unlike_holds) = true)
    (lk_Unlike_holds : K.lookup f_Unlike_holds = some ⟨oc_Unlike_holds, od_Unlike_holds, .func (PySem.W.fnOf "holds" "Unlike.holds" (defArgs sUnlike_holds) (defBody sUnlike_holds) (defScope sUnlike_holds) .none kV_Unlike_holds dc_Unlike_holds pm_Unlike_holds an_Unlike_holds cd_Unlike_holds ct_Unlike_holds), sl_Unlike_holds⟩)
    (cq_Unlike_holds : PySem.W.codeIn K cd_Unlike_holds "Unlike.holds" = true)
    (k_Unlike_holds : PySem.W.keepIn K (.ref f_Unlike_holds) = true)
    (a_Unlike_eq : PySem.W.findIn K (.ref CUnlike) "__eq__" = some (some (.ref f_Unlike_eq)))
    (i_Unlike_eq : PySem.W.isFn K (.ref f_Unlike_eq) = true)
    (lk_Unlike_eq : K.lookup f_Unlike_eq = some ⟨oc_Unlike_eq, od_Unlike_eq, .func (PySem.W.fnOf "__eq__" "Unlike.__eq__" (defArgs sUnlike_eq) (defBody sUnlike_eq) (defScope sUnlike_eq) .none kV_Unlike_eq dc_Unlike_eq pm_Unlike_eq an_Unlike_eq cd_Unlike_eq ct_Unlike_eq), sl_Unlike_eq⟩)
    (cq_Unlike_eq : PySem.W.codeIn K cd_Unlike_eq "Unlike.__eq__" = true)
    (k_Unlike_eq : PySem.W.keepIn K (.ref f_Unlike_eq) = true)
    (a_Unlike_str : PySem.W.findIn K (.ref CUnlike) "__str__" = some (some (.ref f_Unlike_str)))
    (i_Unlike_str : PySem.W.isFn K (.ref f_Unlike_str) = true)
    (lk_Unlike_str : K.lookup f_Unlike_str = some ⟨oc_Unlike_str, od_Unlike_str, .func (PySem.W.fnOf "__str__" "Unlike.__str__" (defArgs sUnlike_str) (defBody sUnlike_str) (defScope sUnlike_str) .none kV_Unlike_str dc_Unlike_str pm_Unlike_str an_Unlike_str cd_Unlike_str ct_Unlike_str), sl_Unlike_str⟩)
    (cq_Unlike_str : PySem.W.codeIn K cd_Unlike_str "Unlike.__str__" = true)
    (k_Unlike_str : PySem.W.keepIn K (.ref f_Unlike_str) = true)
    (a_decimal : PySem.W.nsIn K mainGlobals "_decimal" = some (some (.ref f_decimal)))
    (lk_decimal : K.lookup f_decimal = some ⟨oc_decimal, od_decimal, .func (PySem.W.fnOf "_decimal" "_decimal" (defArgs s_decimal) (defBody s_decimal) (defScope s_decimal) .none kV_decimal dc_decimal pm_decimal an_decimal cd_decimal ct_decimal), sl_decimal⟩)
    (cq_decimal : PySem.W.codeIn K cd_decimal "_decimal" = true)
    (k_decimal : PySem.W.keepIn K (.ref f_decimal) = true)
    (a_signed : PySem.W.nsIn K mainGlobals "_signed" = some (some (.ref f_signed)))
    (lk_signed : K.lookup f_signed = some ⟨oc_signed, od_signed, .func (PySem.W.fnOf "_signed" "_signed" (defArgs s_signed) (defBody s_signed) (defScope s_signed) .none kV_signed dc_signed pm_signed an_signed cd_signed ct_signed), sl_signed⟩)
    (cq_signed : PySem.W.codeIn K cd_signed "_signed" = true)
    (k_signed : PySem.W.keepIn K (.ref f_signed) = true)
    (a_term : PySem.W.nsIn K mainGlobals "_term" = some (some (.ref f_term)))
    (lk_term : K.lookup f_term = some ⟨oc_term, od_term, .func (PySem.W.fnOf "_term" "_term" (defArgs s_term) (defBody s_term) (defScope s_term) .none kV_term dc_term pm_term an_term cd_term ct_term), sl_term⟩)
    (cq_term : PySem.W.codeIn K cd_term "_term" = true)
    (k_term : PySem.W.keepIn K (.ref f_term) = true)
    (a_Form_init : PySem.W.findIn K (.ref CForm) "__init__" = some (some (.ref f_Form_init)))
    (i_Form_init : PySem.W.isFn K (.ref f_Form_init) = true)
    (lk_Form_init : K.lookup f_Form_init = some ⟨oc_Form_init, od_Form_init, .func (PySem.W.fnOf "__init__" "Form.__init__" (defArgs sForm_init) (defBody sForm_init) (defScope sForm_init) (.ref T_Form_init) kV_Form_init dc_Form_init pm_Form_init an_Form_init cd_Form_init ct_Form_init), sl_Form_init⟩)
    (cq_Form_init : PySem.W.codeIn K cd_Form_init "Form.__init__" = true)
    (k_Form_init : PySem.W.keepIn K (.ref f_Form_init) = true)
    (lT_Form_init : K.lookup T_Form_init = some ⟨ocT_Form_init, odT_Form_init, .seq #[.int 0 tD_Form_init0] nT_Form_init, slT_Form_init⟩)
    (a_Form_coefficients : PySem.W.findIn K (.ref CForm) "coefficients" = some (some (.ref p_Form_coefficients)))
    (g_Form_coefficients : PySem.W.specialIn K (.ref p_Form_coefficients) "__get__" = some (some (.builtin "property.__get__")))
    (t_Form_coefficients : PySem.W.takesIn K (.ref p_Form_coefficients) = some true)
    (rr_Form_coefficients : PySem.W.recIn K p_Form_coefficients "property" = some (.ref f_Form_coefficients :: r_Form_coefficients))
    (lk_Form_coefficients : K.lookup f_Form_coefficients = some ⟨oc_Form_coefficients, od_Form_coefficients, .func (PySem.W.fnOf "coefficients" "Form.coefficients" (defArgs sForm_coefficients) (defBody sForm_coefficients) (defScope sForm_coefficients) .none kV_Form_coefficients dc_Form_coefficients pm_Form_coefficients an_Form_coefficients cd_Form_coefficients ct_Form_coefficients), sl_Form_coefficients⟩)
    (cq_Form_coefficients : PySem.W.codeIn K cd_Form_coefficients "Form.coefficients" = true)
    (k_Form_coefficients : PySem.W.keepIn K (.ref f_Form_coefficients) = true)
    (a_Form_constant : PySem.W.findIn K (.ref CForm) "constant" = some (some (.ref p_Form_constant)))
    (g_Form_constant : PySem.W.specialIn K (.ref p_Form_constant) "__get__" = some (some (.builtin "property.__get__")))
    (t_Form_constant : PySem.W.takesIn K (.ref p_Form_constant) = some true)
    (rr_Form_constant : PySem.W.recIn K p_Form_constant "property" = some (.ref f_Form_constant :: r_Form_constant))
    (lk_Form_constant : K.lookup f_Form_constant = some ⟨oc_Form_constant, od_Form_constant, .func (PySem.W.fnOf "constant" "Form.constant" (defArgs sForm_constant) (defBody sForm_constant) (defScope sForm_constant) .none kV_Form_constant dc_Form_constant pm_Form_constant an_Form_constant cd_Form_constant ct_Form_constant), sl_Form_constant⟩)
    (cq_Form_constant : PySem.W.codeIn K cd_Form_constant "Form.constant" = true)
    (k_Form_constant : PySem.W.keepIn K (.ref f_Form_constant) = true)
    (a_Form_eq : PySem.W.findIn K (.ref CForm) "__eq__" = some (some (.ref f_Form_eq)))
    (i_Form_eq : PySem.W.isFn K (.ref f_Form_eq) = true)
    (lk_Form_eq : K.lookup f_Form_eq = some ⟨oc_Form_eq, od_Form_eq, .func (PySem.W.fnOf "__eq__" "Form.__eq__" (defArgs sForm_eq) (defBody sForm_eq) (defScope sForm_eq) .none kV_Form_eq dc_Form_eq pm_Form_eq an_Form_eq cd_Form_eq ct_Form_eq), sl_Form_eq⟩)
    (cq_Form_eq : PySem.W.codeIn K cd_Form_eq "Form.__eq__" = true)
    (k_Form_eq : PySem.W.keepIn K (.ref f_Form_eq) = true)
    (a_Form_neg : PySem.W.findIn K (.ref CForm) "__neg__" = some (some (.ref f_Form_neg)))
    (i_Form_neg : PySem.W.isFn K (.ref f_Form_neg) = true)
    (lk_Form_neg : K.lookup f_Form_neg = some ⟨oc_Form_neg, od_Form_neg, .func (PySem.W.fnOf "__neg__" "Form.__neg__" (defArgs sForm_neg) (defBody sForm_neg) (defScope sForm_neg) .none kV_Form_neg dc_Form_neg pm_Form_neg an_Form_neg cd_Form_neg ct_Form_neg), sl_Form_neg⟩)
    (cq_Form_neg : PySem.W.codeIn K cd_Form_neg "Form.__neg__" = true)
    (k_Form_neg : PySem.W.keepIn K (.ref f_Form_neg) = true)
    (a_Form_add : PySem.W.findIn K (.ref CForm) "__add__" = some (some (.ref f_Form_add)))
    (i_Form_add : PySem.W.isFn K (.ref f_Form_add) = true)
    (lk_Form_add : K.lookup f_Form_add = some ⟨oc_Form_add, od_Form_add, .func (PySem.W.fnOf "__add__" "Form.__add__" (defArgs sForm_add) (defBody sForm_add) (defScope sForm_add) .none kV_Form_add dc_Form_add pm_Form_add an_Form_add cd_Form_add ct_Form_add), sl_Form_add⟩)
    (cq_Form_add : PySem.W.codeIn K cd_Form_add "Form.__add__" = true)
    (k_Form_add : PySem.W.keepIn K (.ref f_Form_add) = true)
    (a_Form_radd : PySem.W.findIn K (.ref CForm) "__radd__" = some (some (.ref f_Form_radd)))
    (i_Form_radd : PySem.W.isFn K (.ref f_Form_radd) = true)
    (lk_Form_radd : K.lookup f_Form_radd = some ⟨oc_Form_radd, od_Form_radd, .func (PySem.W.fnOf "__radd__" "Form.__radd__" (defArgs sForm_radd) (defBody sForm_radd) (defScope sForm_radd) .none kV_Form_radd dc_Form_radd pm_Form_radd an_Form_radd cd_Form_radd ct_Form_radd), sl_Form_radd⟩)
    (cq_Form_radd : PySem.W.codeIn K cd_Form_radd "Form.__radd__" = true)
    (k_Form_radd : PySem.W.keepIn K (.ref f_Form_radd) = true)
    (a_Form_sub : PySem.W.findIn K (.ref CForm) "__sub__" = some (some (.ref f_Form_sub)))
    (i_Form_sub : PySem.W.isFn K (.ref f_Form_sub) = true)
    (lk_Form_sub : K.lookup f_Form_sub = some ⟨oc_Form_sub, od_Form_sub, .func (PySem.W.fnOf "__sub__" "Form.__sub__" (defArgs sForm_sub) (defBody sForm_sub) (defScope sForm_sub) .none kV_Form_sub dc_Form_sub pm_Form_sub an_Form_sub cd_Form_sub ct_Form_sub), sl_Form_sub⟩)
    (cq_Form_sub : PySem.W.codeIn K cd_Form_sub "Form.__sub__" = true)
    (k_Form_sub : PySem.W.keepIn K (.ref f_Form_sub) = true)
    (a_Form_rsub : PySem.W.findIn K (.ref CForm) "__rsub__" = some (some (.ref f_Form_rsub)))
    (i_Form_rsub : PySem.W.isFn K (.ref f_Form_rsub) = true)
    (lk_Form_rsub : K.lookup f_Form_rsub = some ⟨oc_Form_rsub, od_Form_rsub, .func (PySem.W.fnOf "__rsub__" "Form.__rsub__" (defArgs sForm_rsub) (defBody sForm_rsub) (defScope sForm_rsub) .none kV_Form_rsub dc_Form_rsub pm_Form_rsub an_Form_rsub cd_Form_rsub ct_Form_rsub), sl_Form_rsub⟩)
    (cq_Form_rsub : PySem.W.codeIn K cd_Form_rsub "Form.__rsub__" = true)
    (k_Form_rsub : PySem.W.keepIn K (.ref f_Form_rsub) = true)
    (a_Form_mul : PySem.W.findIn K (.ref CForm) "__mul__" = some (some (.ref f_Form_mul)))
    (i_Form_mul : PySem.W.isFn K (.ref f_Form_mul) = true)
    (lk_Form_mul : K.lookup f_Form_mul = some ⟨oc_Form_mul, od_Form_mul, .func (PySem.W.fnOf "__mul__" "Form.__mul__" (defArgs sForm_mul) (defBody sForm_mul) (defScope sForm_mul) .none kV_Form_mul dc_Form_mul pm_Form_mul an_Form_mul cd_Form_mul ct_Form_mul), sl_Form_mul⟩)
    (cq_Form_mul : PySem.W.codeIn K cd_Form_mul "Form.__mul__" = true)
    (k_Form_mul : PySem.W.keepIn K (.ref f_Form_mul) = true)
    (a_Form_rmul : PySem.W.findIn K (.ref CForm) "__rmul__" = some (some (.ref f_Form_rmul)))
    (i_Form_rmul : PySem.W.isFn K (.ref f_Form_rmul) = true)
    (lk_Form_rmul : K.lookup f_Form_rmul = some ⟨oc_Form_rmul, od_Form_rmul, .func (PySem.W.fnOf "__rmul__" "Form.__rmul__" (defArgs sForm_rmul) (defBody sForm_rmul) (defScope sForm_rmul) .none kV_Form_rmul dc_Form_rmul pm_Form_rmul an_Form_rmul cd_Form_rmul ct_Form_rmul), sl_Form_rmul⟩)
    (cq_Form_rmul : PySem.W.codeIn K cd_Form_rmul "Form.__rmul__" = true)
    (k_Form_rmul : PySem.W.keepIn K (.ref f_Form_rmul) = true)
    (a_Form_call : PySem.W.findIn K (.ref CForm) "__call__" = some (some (.ref f_Form_call)))
    (i_Form_call : PySem.W.isFn K (.ref f_Form_call) = true)
    (fi_Form_call : PySem.W.fnIn K f_Form_call = true)
    (lk_Form_call : K.lookup f_Form_call = some ⟨oc_Form_call, od_Form_call, .func (PySem.W.fnOf "__call__" "Form.__call__" (defArgs sForm_call) (defBody sForm_call) (defScope sForm_call) .none kV_Form_call dc_Form_call pm_Form_call an_Form_call cd_Form_call ct_Form_call), sl_Form_call⟩)
    (cq_Form_call : PySem.W.codeIn K cd_Form_call "Form.__call__" = true)
    (k_Form_call : PySem.W.keepIn K (.ref f_Form_call) = true)
    (a_Form_str : PySem.W.findIn K (.ref CForm) "__str__" = some (some (.ref f_Form_str)))
    (i_Form_str : PySem.W.isFn K (.ref f_Form_str) = true)
    (lk_Form_str : K.lookup f_Form_str = some ⟨oc_Form_str, od_Form_str, .func (PySem.W.fnOf "__str__" "Form.__str__" (defArgs sForm_str) (defBody sForm_str) (defScope sForm_str) .none kV_Form_str dc_Form_str pm_Form_str an_Form_str cd_Form_str ct_Form_str), sl_Form_str⟩)
    (cq_Form_str : PySem.W.codeIn K cd_Form_str "Form.__str__" = true)
    (k_Form_str : PySem.W.keepIn K (.ref f_Form_str) = true)
    (a_start : PySem.W.nsIn K mainGlobals "_law_start" = some (some (.ref f_start)))
    (lk_start : K.lookup f_start = some ⟨oc_start, od_start, .func (PySem.W.fnOf "_law_start" "_law_start" (defArgs sStart) (defBody sStart) (defScope sStart) .none kV_start dc_start pm_start an_start cd_start ct_start), sl_start⟩)
    (cq_start : PySem.W.codeIn K cd_start "_law_start" = true)
    (k_start : PySem.W.keepIn K (.ref f_start) = true)
    (a_take : PySem.W.nsIn K mainGlobals "_law_take" = some (some (.ref f_take)))
    (lk_take : K.lookup f_take = some ⟨oc_take, od_take, .func (PySem.W.fnOf "_law_take" "_law_take" (defArgs sTake) (defBody sTake) (defScope sTake) .none kV_take dc_take pm_take an_take cd_take ct_take), sl_take⟩)
    (cq_take : PySem.W.codeIn K cd_take "_law_take" = true)
    (k_take : PySem.W.keepIn K (.ref f_take) = true)
    (a_Lname : PySem.W.nsIn K mainGlobals "_law_name" = some (some (.ref f_Lname)))
    (lk_Lname : K.lookup f_Lname = some ⟨oc_Lname, od_Lname, .func (PySem.W.fnOf "_law_name" "_law_name" (defArgs l_name) (defBody l_name) (defScope l_name) .none kV_Lname dc_Lname pm_Lname an_Lname cd_Lname ct_Lname), sl_Lname⟩)
    (cq_Lname : PySem.W.codeIn K cd_Lname "_law_name" = true)
    (k_Lname : PySem.W.keepIn K (.ref f_Lname) = true)
    (a_Lnames : PySem.W.nsIn K mainGlobals "_law_names" = some (some (.ref f_Lnames)))
    (lk_Lnames : K.lookup f_Lnames = some ⟨oc_Lnames, od_Lnames, .func (PySem.W.fnOf "_law_names" "_law_names" (defArgs l_names) (defBody l_names) (defScope l_names) .none kV_Lnames dc_Lnames pm_Lnames an_Lnames cd_Lnames ct_Lnames), sl_Lnames⟩)
    (cq_Lnames : PySem.W.codeIn K cd_Lnames "_law_names" = true)
    (k_Lnames : PySem.W.keepIn K (.ref f_Lnames) = true)
    (a_Lrow : PySem.W.nsIn K mainGlobals "_law_row" = some (some (.ref f_Lrow)))
    (lk_Lrow : K.lookup f_Lrow = some ⟨oc_Lrow, od_Lrow, .func (PySem.W.fnOf "_law_row" "_law_row" (defArgs l_row) (defBody l_row) (defScope l_row) .none kV_Lrow dc_Lrow pm_Lrow an_Lrow cd_Lrow ct_Lrow), sl_Lrow⟩)
    (cq_Lrow : PySem.W.codeIn K cd_Lrow "_law_row" = true)
    (k_Lrow : PySem.W.keepIn K (.ref f_Lrow) = true)
    (a_Lmade : PySem.W.nsIn K mainGlobals "_law_made" = some (some (.ref f_Lmade)))
    (lk_Lmade : K.lookup f_Lmade = some ⟨oc_Lmade, od_Lmade, .func (PySem.W.fnOf "_law_made" "_law_made" (defArgs l_made) (defBody l_made) (defScope l_made) .none kV_Lmade dc_Lmade pm_Lmade an_Lmade cd_Lmade ct_Lmade), sl_Lmade⟩)
    (cq_Lmade : PySem.W.codeIn K cd_Lmade "_law_made" = true)
    (k_Lmade : PySem.W.keepIn K (.ref f_Lmade) = true)
    (a_Ladded : PySem.W.nsIn K mainGlobals "_law_added" = some (some (.ref f_Ladded)))
    (lk_Ladded : K.lookup f_Ladded = some ⟨oc_Ladded, od_Ladded, .func (PySem.W.fnOf "_law_added" "_law_added" (defArgs l_added) (defBody l_added) (defScope l_added) .none kV_Ladded dc_Ladded pm_Ladded an_Ladded cd_Ladded ct_Ladded), sl_Ladded⟩)
    (cq_Ladded : PySem.W.codeIn K cd_Ladded "_law_added" = true)
    (k_Ladded : PySem.W.keepIn K (.ref f_Ladded) = true)
    (a_Lrow_names : PySem.W.nsIn K mainGlobals "_law_row_names" = some (some (.ref f_Lrow_names)))
    (lk_Lrow_names : K.lookup f_Lrow_names = some ⟨oc_Lrow_names, od_Lrow_names, .func (PySem.W.fnOf "_law_row_names" "_law_row_names" (defArgs l_row_names) (defBody l_row_names) (defScope l_row_names) .none kV_Lrow_names dc_Lrow_names pm_Lrow_names an_Lrow_names cd_Lrow_names ct_Lrow_names), sl_Lrow_names⟩)
    (cq_Lrow_names : PySem.W.codeIn K cd_Lrow_names "_law_row_names" = true)
    (k_Lrow_names : PySem.W.keepIn K (.ref f_Lrow_names) = true)
    (a_Ltext : PySem.W.nsIn K mainGlobals "_law_text" = some (some (.ref f_Ltext)))
    (lk_Ltext : K.lookup f_Ltext = some ⟨oc_Ltext, od_Ltext, .func (PySem.W.fnOf "_law_text" "_law_text" (defArgs l_text) (defBody l_text) (defScope l_text) .none kV_Ltext dc_Ltext pm_Ltext an_Ltext cd_Ltext ct_Ltext), sl_Ltext⟩)
    (cq_Ltext : PySem.W.codeIn K cd_Ltext "_law_text" = true)
    (k_Ltext : PySem.W.keepIn K (.ref f_Ltext) = true)
    (a_Lrow_text : PySem.W.nsIn K mainGlobals "_law_row_text" = some (some (.ref f_Lrow_text)))
    (lk_Lrow_text : K.lookup f_Lrow_text = some ⟨oc_Lrow_text, od_Lrow_text, .func (PySem.W.fnOf "_law_row_text" "_law_row_text" (defArgs l_row_text) (defBody l_row_text) (defScope l_row_text) .none kV_Lrow_text dc_Lrow_text pm_Lrow_text an_Lrow_text cd_Lrow_text ct_Lrow_text), sl_Lrow_text⟩)
    (cq_Lrow_text : PySem.W.codeIn K cd_Lrow_text "_law_row_text" = true)
    (k_Lrow_text : PySem.W.keepIn K (.ref f_Lrow_text) = true)
    (a_Lholds : PySem.W.nsIn K mainGlobals "_law_holds" = some (some (.ref f_Lholds)))
    (lk_Lholds : K.lookup f_Lholds = some ⟨oc_Lholds, od_Lholds, .func (PySem.W.fnOf "_law_holds" "_law_holds" (defArgs l_holds) (defBody l_holds) (defScope l_holds) .none kV_Lholds dc_Lholds pm_Lholds an_Lholds cd_Lholds ct_Lholds), sl_Lholds⟩)
    (cq_Lholds : PySem.W.codeIn K cd_Lholds "_law_holds" = true)
    (k_Lholds : PySem.W.keepIn K (.ref f_Lholds) = true)
    (a_Lexpected : PySem.W.nsIn K mainGlobals "_law_expected" = some (some (.ref f_Lexpected)))
    (lk_Lexpected : K.lookup f_Lexpected = some ⟨oc_Lexpected, od_Lexpected, .func (PySem.W.fnOf "_law_expected" "_law_expected" (defArgs l_expected) (defBody l_expected) (defScope l_expected) .none kV_Lexpected dc_Lexpected pm_Lexpected an_Lexpected cd_Lexpected ct_Lexpected), sl_Lexpected⟩)
    (cq_Lexpected : PySem.W.codeIn K cd_Lexpected "_law_expected" = true)
    (k_Lexpected : PySem.W.keepIn K (.ref f_Lexpected) = true)
    (a_Lasked : PySem.W.nsIn K mainGlobals "_law_asked" = some (some (.ref f_Lasked)))
    (lk_Lasked : K.lookup f_Lasked = some ⟨oc_Lasked, od_Lasked, .func (PySem.W.fnOf "_law_asked" "_law_asked" (defArgs l_asked) (defBody l_asked) (defScope l_asked) .none kV_Lasked dc_Lasked pm_Lasked an_Lasked cd_Lasked ct_Lasked), sl_Lasked⟩)
    (cq_Lasked : PySem.W.codeIn K cd_Lasked "_law_asked" = true)
    (k_Lasked : PySem.W.keepIn K (.ref f_Lasked) = true)
    (a_law : PySem.W.nsIn K mainGlobals "law" = some (some (.ref f_law)))
    (lk_law : K.lookup f_law = some ⟨oc_law, od_law, .func (PySem.W.fnOf "law" "law" (defArgs sLaw) (defBody sLaw) (defScope sLaw) .none kV_law dc_law pm_law an_law cd_law ct_law), sl_law⟩)
    (cq_law : PySem.W.codeIn K cd_law "law" = true)
    (k_law : PySem.W.keepIn K (.ref f_law) = true)
    (co_MOST_CHARACTERS : PySem.W.nsIn K mainGlobals "MOST_CHARACTERS" = some (some (.int 6 tc0)))
    (co_LETTERS : PySem.W.nsIn K mainGlobals "LETTERS" = some (some (.str "abcdefghijklmnopqrstuvwxyz" tc1)))
    (co_DIGITS : PySem.W.nsIn K mainGlobals "DIGITS" = some (some (.str "0123456789" tc2)))
    (co_RESERVED : PySem.W.nsIn K mainGlobals "RESERVED" = some (some (.str "mod" tc3)))
    (co_MOST_COEFFICIENT : PySem.W.nsIn K mainGlobals "MOST_COEFFICIENT" = some (some (.int 20 tc4)))
    (co_MOST_CONSTANT : PySem.W.nsIn K mainGlobals "MOST_CONSTANT" = some (some (.int 1000 tc5)))
    (co_LEAST_MODULUS : PySem.W.nsIn K mainGlobals "LEAST_MODULUS" = some (some (.int 2 tc6)))
    (co_MOST_MODULUS : PySem.W.nsIn K mainGlobals "MOST_MODULUS" = some (some (.int 40 tc7)))
    (co_PIECE : PySem.W.nsIn K mainGlobals "PIECE" = some (some (.int 10000000000000000000000000000000000000000000000000000000000000000 tc8)))
    (in_CFormadd : PySem.W.findIn K (.type "int") "__add__" = some fo_CFormadd)
    (ir_CFormadd : PySem.W.findIn K (.type "int") "__radd__" = some ro_CFormadd)
    (sn_CForm : PySem.W.subIn K (.ref CForm) (.type "int") = some false)
    (in_CFormmul : PySem.W.findIn K (.type "int") "__mul__" = some fo_CFormmul)
    (ir_CFormmul : PySem.W.findIn K (.type "int") "__rmul__" = some ro_CFormmul)
    (in_CFormsub : PySem.W.findIn K (.type "int") "__sub__" = some fo_CFormsub)
    (ir_CFormsub : PySem.W.findIn K (.type "int") "__rsub__" = some ro_CFormsub)
    (ff_fm : PySem.W.findIn K (.ref CForm) "__format__" = some (some (.builtin "object.__format__")))
    (ff_mr : PySem.W.mroIn K CForm (.type "object") = some true)
    (z_len : PySem.W.nsIn K mainGlobals "len" = some none)
    (z_int : PySem.W.nsIn K mainGlobals "int" = some none)
    (z_abs : PySem.W.nsIn K mainGlobals "abs" = some none)
    (z_max : PySem.W.nsIn K mainGlobals "max" = some none)
    (z_min : PySem.W.nsIn K mainGlobals "min" = some none)
    (z_sum : PySem.W.nsIn K mainGlobals "sum" = some none)
    (z_any : PySem.W.nsIn K mainGlobals "any" = some none)
    (z_all : PySem.W.nsIn K mainGlobals "all" = some none)
    (z_tuple : PySem.W.nsIn K mainGlobals "tuple" = some none)
    (z_list : PySem.W.nsIn K mainGlobals "list" = some none)
    (z_dict : PySem.W.nsIn K mainGlobals "dict" = some none)
    (z_set : PySem.W.nsIn K mainGlobals "set" = some none)
    (z_str : PySem.W.nsIn K mainGlobals "str" = some none)
    (z_bool : PySem.W.nsIn K mainGlobals "bool" = some none)
    (z_range : PySem.W.nsIn K mainGlobals "range" = some none)
    (z_enumerate : PySem.W.nsIn K mainGlobals "enumerate" = some none)
    (z_zip : PySem.W.nsIn K mainGlobals "zip" = some none)
    (z_sorted : PySem.W.nsIn K mainGlobals "sorted" = some none)
    (z_isinstance : PySem.W.nsIn K mainGlobals "isinstance" = some none)
    (z_divmod : PySem.W.nsIn K mainGlobals "divmod" = some none) :
    ∃ fd : FuncData, (∀ (s : Shared) (v : Value), BindsTo s fd ⟨[v], []⟩ [("_law_script", v)]) ∧ ∀ base : Heap, K.In base → base.Ns mainGlobals mg → FnOk l.prog w K mg base CX0 13 fa fd ["_law_script"] (OZ.spLaw K) := by
  have e := hfa.symm.trans (PySem.W.mg_of X G a_law)
  cases e
  have cl_CForm : Cls K CForm := ⟨pg_CForm, hd_CForm, po_CForm, sa_CForm⟩
  have mC_CForm : mg "Form" = some (.ref CForm) := PySem.W.mg_of X G aC_CForm
  have ty_CForm : OZ.TyC K CForm := ⟨cl_CForm, hc_CForm, gn, gt, hm_CForm⟩
  have cl_CEquation : Cls K CEquation := ⟨pg_CEquation, hd_CEquation, po_CEquation, sa_CEquation⟩
  have mC_CEquation : mg "Equation" = some (.ref CEquation) := PySem.W.mg_of X G aC_CEquation
  have ty_CEquation : OZ.TyC K CEquation := ⟨cl_CEquation, hc_CEquation, gn, gt, hm_CEquation⟩
  have cl_CCongruence : Cls K CCongruence := ⟨pg_CCongruence, hd_CCongruence, po_CCongruence, sa_CCongruence⟩
  have mC_CCongruence : mg "Congruence" = some (.ref CCongruence) := PySem.W.mg_of X G aC_CCongruence
  have ty_CCongruence : OZ.TyC K CCongruence := ⟨cl_CCongruence, hc_CCongruence, gn, gt, hm_CCongruence⟩
  have cl_CUnlike : Cls K CUnlike := ⟨pg_CUnlike, hd_CUnlike, po_CUnlike, sa_CUnlike⟩
  have mC_CUnlike : mg "Unlike" = some (.ref CUnlike) := PySem.W.mg_of X G aC_CUnlike
  have ty_CUnlike : OZ.TyC K CUnlike := ⟨cl_CUnlike, hc_CUnlike, gn, gt, hm_CUnlike⟩
  have kit_0 : OZ.KitG K (.type "int") (.type "int") true := OZ.kit_selfV _
  have kit_1 : OZ.KitG K (.type "bool") (.type "bool") true := OZ.kit_selfV _
  have kit_2 : OZ.KitG K (.ref CForm) (.ref CForm) true := OZ.kit_selfV _
  have kit_3 : OZ.KitG K (.ref CForm) (.type "int") false := OZ.kit_T kit3 rfl (by decide +kernel)
  have kit_4 : OZ.KitG K (.ref CEquation) (.ref CEquation) true := OZ.kit_selfV _
  have kit_5 : OZ.KitG K (.ref CCongruence) (.ref CCongruence) true := OZ.kit_selfV _
  have kit_6 : OZ.KitG K (.ref CUnlike) (.ref CUnlike) true := OZ.kit_selfV _
  have teBNme : PySem.W.exmOne K (.ref CBNme) (.ref CBNme) = some true := PySem.W.exm_ref exBNme ehBNme etBNme euBNme
  have xfBNme : XfC K CBNme := ⟨egBNme, eGBNme, exBNme, ehBNme⟩
  have mEBNme : mg "BadName" = some (.ref CBNme) := PySem.W.mg_of X G eaBNme
  have UBNme : ErrC K mg "BadName" CBNme fBNme "name" := ⟨mEBNme, ⟨⟨nmBNme, qnBNme, NUBNme, bsBNme, _, snBNme, suBNme, abBNme, coBNme, ddBNme, k0BNme, k1BNme, k2BNme, k3BNme, k5BNme, eLBNme, rfl⟩, esBNme, exBNme, etBNme, ekBNme⟩, eiBNme, eTBNme, enBNme, xfBNme, teBNme⟩
  have FBNme := fun_mk (st := sBadName_init) elBNme ecBNme efBNme
  have bBNme := FBNme.binds (ps := ["self", "name"]) fun _ _ _ _ _ _ us hl => match us, hl with | [_, _], _ => rfl
  have teDNme : PySem.W.exmOne K (.ref CDNme) (.ref CDNme) = some true := PySem.W.exm_ref exDNme ehDNme etDNme euDNme
  have xfDNme : XfC K CDNme := ⟨egDNme, eGDNme, exDNme, ehDNme⟩
  have mEDNme : mg "DuplicateName" = some (.ref CDNme) := PySem.W.mg_of X G eaDNme
  have UDNme : ErrC K mg "DuplicateName" CDNme fDNme "name" := ⟨mEDNme, ⟨⟨nmDNme, qnDNme, NUDNme, bsDNme, _, snDNme, suDNme, abDNme, coDNme, ddDNme, k0DNme, k1DNme, k2DNme, k3DNme, k5DNme, eLDNme, rfl⟩, esDNme, exDNme, etDNme, ekDNme⟩, eiDNme, eTDNme, enDNme, xfDNme, teDNme⟩
  have FDNme := fun_mk (st := sDuplicateName_init) elDNme ecDNme efDNme
  have bDNme := FDNme.binds (ps := ["self", "name"]) fun _ _ _ _ _ _ us hl => match us, hl with | [_, _], _ => rfl
  have teOORge : PySem.W.exmOne K (.ref COORge) (.ref COORge) = some true := PySem.W.exm_ref exOORge ehOORge etOORge euOORge
  have xfOORge : XfC K COORge := ⟨egOORge, eGOORge, exOORge, ehOORge⟩
  have mEOORge : mg "OutOfRange" = some (.ref COORge) := PySem.W.mg_of X G eaOORge
  have UOORge : ErrC K mg "OutOfRange" COORge fOORge "value" := ⟨mEOORge, ⟨⟨nmOORge, qnOORge, NUOORge, bsOORge, _, snOORge, suOORge, abOORge, coOORge, ddOORge, k0OORge, k1OORge, k2OORge, k3OORge, k5OORge, eLOORge, rfl⟩, esOORge, exOORge, etOORge, ekOORge⟩, eiOORge, eTOORge, enOORge, xfOORge, teOORge⟩
  have FOORge := fun_mk (st := sOutOfRange_init) elOORge ecOORge efOORge
  have bOORge := FOORge.binds (ps := ["self", "value"]) fun _ _ _ _ _ _ us hl => match us, hl with | [_, _], _ => rfl
  have teUNme : PySem.W.exmOne K (.ref CUNme) (.ref CUNme) = some true := PySem.W.exm_ref exUNme ehUNme etUNme euUNme
  have xfUNme : XfC K CUNme := ⟨egUNme, eGUNme, exUNme, ehUNme⟩
  have mEUNme : mg "UnknownName" = some (.ref CUNme) := PySem.W.mg_of X G eaUNme
  have UUNme : ErrC K mg "UnknownName" CUNme fUNme "name" := ⟨mEUNme, ⟨⟨nmUNme, qnUNme, NUUNme, bsUNme, _, snUNme, suUNme, abUNme, coUNme, ddUNme, k0UNme, k1UNme, k2UNme, k3UNme, k5UNme, eLUNme, rfl⟩, esUNme, exUNme, etUNme, ekUNme⟩, eiUNme, eTUNme, enUNme, xfUNme, teUNme⟩
  have FUNme := fun_mk (st := sUnknownName_init) elUNme ecUNme efUNme
  have bUNme := FUNme.binds (ps := ["self", "name"]) fun _ _ _ _ _ _ us hl => match us, hl with | [_, _], _ => rfl
  have F_valid_name := fun_mk (st := s_valid_name) lk_valid_name cq_valid_name k_valid_name
  have b_valid_name := F_valid_name.binds (ps := ["text"]) fun _ _ _ _ _ _ us hl => match us, hl with | [_], _ => rfl
  have m_valid_name : mg "valid_name" = some (.ref f_valid_name) := PySem.W.mg_of X G a_valid_name
  have F_check_form := fun_mk (st := s_check_form) lk_check_form cq_check_form k_check_form
  have b_check_form := F_check_form.binds (ps := ["form"]) fun _ _ _ _ _ _ us hl => match us, hl with | [_], _ => rfl
  have m_check_form : mg "_check_form" = some (.ref f_check_form) := PySem.W.mg_of X G a_check_form
  have F_equation_text := fun_mk (st := s_equation_text) lk_equation_text cq_equation_text k_equation_text
  have b_equation_text := F_equation_text.binds (ps := ["form"]) fun _ _ _ _ _ _ us hl => match us, hl with | [_], _ => rfl
  have m_equation_text : mg "_equation_text" = some (.ref f_equation_text) := PySem.W.mg_of X G a_equation_text
  have F_Equation_init := fun_mk (st := sEquation_init) lk_Equation_init cq_Equation_init k_Equation_init
  have b_Equation_init := F_Equation_init.binds (ps := ["self", "form"]) fun _ _ _ _ _ _ us hl => match us, hl with | [_, _], _ => rfl
  have F_Equation_names := fun_mk (st := sEquation_names) lk_Equation_names cq_Equation_names k_Equation_names
  have b_Equation_names := F_Equation_names.binds (ps := ["self"]) fun _ _ _ _ _ _ us hl => match us, hl with | [_], _ => rfl
  have F_Equation_holds := fun_mk (st := sEquation_holds) lk_Equation_holds cq_Equation_holds k_Equation_holds
  have b_Equation_holds := F_Equation_holds.binds (ps := ["self", "values"]) fun _ _ _ _ _ _ us hl => match us, hl with | [_, _], _ => rfl
  have F_Equation_eq := fun_mk (st := sEquation_eq) lk_Equation_eq cq_Equation_eq k_Equation_eq
  have b_Equation_eq := F_Equation_eq.binds (ps := ["self", "other"]) fun _ _ _ _ _ _ us hl => match us, hl with | [_, _], _ => rfl
  have F_Equation_str := fun_mk (st := sEquation_str) lk_Equation_str cq_Equation_str k_Equation_str
  have b_Equation_str := F_Equation_str.binds (ps := ["self"]) fun _ _ _ _ _ _ us hl => match us, hl with | [_], _ => rfl
  have F_Congruence_init := fun_mk (st := sCongruence_init) lk_Congruence_init cq_Congruence_init k_Congruence_init
  have b_Congruence_init := F_Congruence_init.binds (ps := ["self", "form", "modulus"]) fun _ _ _ _ _ _ us hl => match us, hl with | [_, _, _], _ => rfl
  have F_Congruence_names := fun_mk (st := sCongruence_names) lk_Congruence_names cq_Congruence_names k_Congruence_names
  have b_Congruence_names := F_Congruence_names.binds (ps := ["self"]) fun _ _ _ _ _ _ us hl => match us, hl with | [_], _ => rfl
  have F_Congruence_holds := fun_mk (st := sCongruence_holds) lk_Congruence_holds cq_Congruence_holds k_Congruence_holds
  have b_Congruence_holds := F_Congruence_holds.binds (ps := ["self", "values"]) fun _ _ _ _ _ _ us hl => match us, hl with | [_, _], _ => rfl
  have F_Congruence_eq := fun_mk (st := sCongruence_eq) lk_Congruence_eq cq_Congruence_eq k_Congruence_eq
  have b_Congruence_eq := F_Congruence_eq.binds (ps := ["self", "other"]) fun _ _ _ _ _ _ us hl => match us, hl with | [_, _], _ => rfl
  have F_Congruence_str := fun_mk (st := sCongruence_str) lk_Congruence_str cq_Congruence_str k_Congruence_str
  have b_Congruence_str := F_Congruence_str.binds (ps := ["self"]) fun _ _ _ _ _ _ us hl => match us, hl with | [_], _ => rfl
  have F_Unlike_init := fun_mk (st := sUnlike_init) lk_Unlike_init cq_Unlike_init k_Unlike_init
  have b_Unlike_init := F_Unlike_init.binds (ps := ["self", "first", "second"]) fun _ _ _ _ _ _ us hl => match us, hl with | [_, _, _], _ => rfl
  have F_Unlike_names := fun_mk (st := sUnlike_names) lk_Unlike_names cq_Unlike_names k_Unlike_names
  have b_Unlike_names := F_Unlike_names.binds (ps := ["self"]) fun _ _ _ _ _ _ us hl => match us, hl with | [_], _ => rfl
  have F_Unlike_holds := fun_mk (st := sUnlike_holds) lk_Unlike_holds cq_Unlike_holds k_Unlike_holds
  have b_Unlike_holds := F_Unlike_holds.binds (ps := ["self", "values"]) fun _ _ _ _ _ _ us hl => match us, hl with | [_, _], _ => rfl
  have F_Unlike_eq := fun_mk (st := sUnlike_eq) lk_Unlike_eq cq_Unlike_eq k_Unlike_eq
  have b_Unlike_eq := F_Unlike_eq.binds (ps := ["self", "other"]) fun _ _ _ _ _ _ us hl => match us, hl with | [_, _], _ => rfl
  have F_Unlike_str := fun_mk (st := sUnlike_str) lk_Unlike_str cq_Unlike_str k_Unlike_str
  have b_Unlike_str := F_Unlike_str.binds (ps := ["self"]) fun _ _ _ _ _ _ us hl => match us, hl with | [_], _ => rfl
  have F_decimal := fun_mk (st := s_decimal) lk_decimal cq_decimal k_decimal
  have b_decimal := F_decimal.binds (ps := ["number"]) fun _ _ _ _ _ _ us hl => match us, hl with | [_], _ => rfl
  have m_decimal : mg "_decimal" = some (.ref f_decimal) := PySem.W.mg_of X G a_decimal
  have F_signed := fun_mk (st := s_signed) lk_signed cq_signed k_signed
  have b_signed := F_signed.binds (ps := ["number", "text"]) fun _ _ _ _ _ _ us hl => match us, hl with | [_, _], _ => rfl
  have m_signed : mg "_signed" = some (.ref f_signed) := PySem.W.mg_of X G a_signed
  have F_term := fun_mk (st := s_term) lk_term cq_term k_term
  have b_term := F_term.binds (ps := ["name", "coefficient"]) fun _ _ _ _ _ _ us hl => match us, hl with | [_, _], _ => rfl
  have m_term : mg "_term" = some (.ref f_term) := PySem.W.mg_of X G a_term
  have F_Form_init : FunD K "__init__" "Form.__init__" (defArgs sForm_init) (defBody sForm_init) (defScope sForm_init) [V.int 0] [] f_Form_init _ := ⟨⟨_, _, _, _, _, _, _, _, _, _, rfl, lk_Form_init, cq_Form_init, .inr ⟨by simp, _, _, _, _, rfl, lT_Form_init, rfl, .cons ⟨_, rfl⟩ (.nil)⟩, .inl rfl⟩, k_Form_init⟩
  have F_Form_coefficients := fun_mk (st := sForm_coefficients) lk_Form_coefficients cq_Form_coefficients k_Form_coefficients
  have b_Form_coefficients := F_Form_coefficients.binds (ps := ["self"]) fun _ _ _ _ _ _ us hl => match us, hl with | [_], _ => rfl
  have F_Form_constant := fun_mk (st := sForm_constant) lk_Form_constant cq_Form_constant k_Form_constant
  have b_Form_constant := F_Form_constant.binds (ps := ["self"]) fun _ _ _ _ _ _ us hl => match us, hl with | [_], _ => rfl
  have F_Form_eq := fun_mk (st := sForm_eq) lk_Form_eq cq_Form_eq k_Form_eq
  have b_Form_eq := F_Form_eq.binds (ps := ["self", "other"]) fun _ _ _ _ _ _ us hl => match us, hl with | [_, _], _ => rfl
  have F_Form_neg := fun_mk (st := sForm_neg) lk_Form_neg cq_Form_neg k_Form_neg
  have b_Form_neg := F_Form_neg.binds (ps := ["self"]) fun _ _ _ _ _ _ us hl => match us, hl with | [_], _ => rfl
  have F_Form_add := fun_mk (st := sForm_add) lk_Form_add cq_Form_add k_Form_add
  have b_Form_add := F_Form_add.binds (ps := ["self", "other"]) fun _ _ _ _ _ _ us hl => match us, hl with | [_, _], _ => rfl
  have F_Form_radd := fun_mk (st := sForm_radd) lk_Form_radd cq_Form_radd k_Form_radd
  have b_Form_radd := F_Form_radd.binds (ps := ["self", "other"]) fun _ _ _ _ _ _ us hl => match us, hl with | [_, _], _ => rfl
  have F_Form_sub := fun_mk (st := sForm_sub) lk_Form_sub cq_Form_sub k_Form_sub
  have b_Form_sub := F_Form_sub.binds (ps := ["self", "other"]) fun _ _ _ _ _ _ us hl => match us, hl with | [_, _], _ => rfl
  have F_Form_rsub := fun_mk (st := sForm_rsub) lk_Form_rsub cq_Form_rsub k_Form_rsub
  have b_Form_rsub := F_Form_rsub.binds (ps := ["self", "other"]) fun _ _ _ _ _ _ us hl => match us, hl with | [_, _], _ => rfl
  have F_Form_mul := fun_mk (st := sForm_mul) lk_Form_mul cq_Form_mul k_Form_mul
  have b_Form_mul := F_Form_mul.binds (ps := ["self", "other"]) fun _ _ _ _ _ _ us hl => match us, hl with | [_, _], _ => rfl
  have F_Form_rmul := fun_mk (st := sForm_rmul) lk_Form_rmul cq_Form_rmul k_Form_rmul
  have b_Form_rmul := F_Form_rmul.binds (ps := ["self", "other"]) fun _ _ _ _ _ _ us hl => match us, hl with | [_, _], _ => rfl
  have F_Form_call := fun_mk (st := sForm_call) lk_Form_call cq_Form_call k_Form_call
  have b_Form_call := F_Form_call.binds (ps := ["self", "values"]) fun _ _ _ _ _ _ us hl => match us, hl with | [_, _], _ => rfl
  have F_Form_str := fun_mk (st := sForm_str) lk_Form_str cq_Form_str k_Form_str
  have b_Form_str := F_Form_str.binds (ps := ["self"]) fun _ _ _ _ _ _ us hl => match us, hl with | [_], _ => rfl
  have F_start := fun_mk (st := sStart) lk_start cq_start k_start
  have b_start := F_start.binds (ps := ["_law_script"]) fun _ _ _ _ _ _ us hl => match us, hl with | [_], _ => rfl
  have m_start : mg "_law_start" = some (.ref f_start) := PySem.W.mg_of X G a_start
  have F_take := fun_mk (st := sTake) lk_take cq_take k_take
  have b_take := F_take.binds (ps := ["_law_state", "_law_limit"]) fun _ _ _ _ _ _ us hl => match us, hl with | [_, _], _ => rfl
  have m_take : mg "_law_take" = some (.ref f_take) := PySem.W.mg_of X G a_take
  have F_Lname := fun_mk (st := l_name) lk_Lname cq_Lname k_Lname
  have b_Lname := F_Lname.binds (ps := ["_law_state"]) fun _ _ _ _ _ _ us hl => match us, hl with | [_], _ => rfl
  have m_Lname : mg "_law_name" = some (.ref f_Lname) := PySem.W.mg_of X G a_Lname
  have F_Lnames := fun_mk (st := l_names) lk_Lnames cq_Lnames k_Lnames
  have b_Lnames := F_Lnames.binds (ps := ["_law_state", "_law_count"]) fun _ _ _ _ _ _ us hl => match us, hl with | [_, _], _ => rfl
  have m_Lnames : mg "_law_names" = some (.ref f_Lnames) := PySem.W.mg_of X G a_Lnames
  have F_Lrow := fun_mk (st := l_row) lk_Lrow cq_Lrow k_Lrow
  have b_Lrow := F_Lrow.binds (ps := ["_law_state", "_law_names_here"]) fun _ _ _ _ _ _ us hl => match us, hl with | [_, _], _ => rfl
  have m_Lrow : mg "_law_row" = some (.ref f_Lrow) := PySem.W.mg_of X G a_Lrow
  have F_Lmade := fun_mk (st := l_made) lk_Lmade cq_Lmade k_Lmade
  have b_Lmade := F_Lmade.binds (ps := ["_law_row_here"]) fun _ _ _ _ _ _ us hl => match us, hl with | [_], _ => rfl
  have m_Lmade : mg "_law_made" = some (.ref f_Lmade) := PySem.W.mg_of X G a_Lmade
  have F_Ladded := fun_mk (st := l_added) lk_Ladded cq_Ladded k_Ladded
  have b_Ladded := F_Ladded.binds (ps := ["_law_state", "_law_row_here"]) fun _ _ _ _ _ _ us hl => match us, hl with | [_, _], _ => rfl
  have m_Ladded : mg "_law_added" = some (.ref f_Ladded) := PySem.W.mg_of X G a_Ladded
  have F_Lrow_names := fun_mk (st := l_row_names) lk_Lrow_names cq_Lrow_names k_Lrow_names
  have b_Lrow_names := F_Lrow_names.binds (ps := ["_law_row_here"]) fun _ _ _ _ _ _ us hl => match us, hl with | [_], _ => rfl
  have m_Lrow_names : mg "_law_row_names" = some (.ref f_Lrow_names) := PySem.W.mg_of X G a_Lrow_names
  have F_Ltext := fun_mk (st := l_text) lk_Ltext cq_Ltext k_Ltext
  have b_Ltext := F_Ltext.binds (ps := ["_law_parts", "_law_constant"]) fun _ _ _ _ _ _ us hl => match us, hl with | [_, _], _ => rfl
  have m_Ltext : mg "_law_text" = some (.ref f_Ltext) := PySem.W.mg_of X G a_Ltext
  have F_Lrow_text := fun_mk (st := l_row_text) lk_Lrow_text cq_Lrow_text k_Lrow_text
  have b_Lrow_text := F_Lrow_text.binds (ps := ["_law_row_here"]) fun _ _ _ _ _ _ us hl => match us, hl with | [_], _ => rfl
  have m_Lrow_text : mg "_law_row_text" = some (.ref f_Lrow_text) := PySem.W.mg_of X G a_Lrow_text
  have F_Lholds := fun_mk (st := l_holds) lk_Lholds cq_Lholds k_Lholds
  have b_Lholds := F_Lholds.binds (ps := ["_law_line", "_law_values"]) fun _ _ _ _ _ _ us hl => match us, hl with | [_, _], _ => rfl
  have m_Lholds : mg "_law_holds" = some (.ref f_Lholds) := PySem.W.mg_of X G a_Lholds
  have F_Lexpected := fun_mk (st := l_expected) lk_Lexpected cq_Lexpected k_Lexpected
  have b_Lexpected := F_Lexpected.binds (ps := ["_law_row_here", "_law_values"]) fun _ _ _ _ _ _ us hl => match us, hl with | [_, _], _ => rfl
  have m_Lexpected : mg "_law_expected" = some (.ref f_Lexpected) := PySem.W.mg_of X G a_Lexpected
  have F_Lasked := fun_mk (st := l_asked) lk_Lasked cq_Lasked k_Lasked
  have b_Lasked := F_Lasked.binds (ps := ["_law_line", "_law_row_here", "_law_values"]) fun _ _ _ _ _ _ us hl => match us, hl with | [_, _, _], _ => rfl
  have m_Lasked : mg "_law_asked" = some (.ref f_Lasked) := PySem.W.mg_of X G a_Lasked
  have F_law := fun_mk (st := sLaw) lk_law cq_law k_law
  have g_MOST_CHARACTERS : mg "MOST_CHARACTERS" = some (.int 6 tc0) := PySem.W.mg_of X G co_MOST_CHARACTERS
  have g_LETTERS : mg "LETTERS" = some (.str "abcdefghijklmnopqrstuvwxyz" tc1) := PySem.W.mg_of X G co_LETTERS
  have g_DIGITS : mg "DIGITS" = some (.str "0123456789" tc2) := PySem.W.mg_of X G co_DIGITS
  have g_RESERVED : mg "RESERVED" = some (.str "mod" tc3) := PySem.W.mg_of X G co_RESERVED
  have g_MOST_COEFFICIENT : mg "MOST_COEFFICIENT" = some (.int 20 tc4) := PySem.W.mg_of X G co_MOST_COEFFICIENT
  have g_MOST_CONSTANT : mg "MOST_CONSTANT" = some (.int 1000 tc5) := PySem.W.mg_of X G co_MOST_CONSTANT
  have g_LEAST_MODULUS : mg "LEAST_MODULUS" = some (.int 2 tc6) := PySem.W.mg_of X G co_LEAST_MODULUS
  have g_MOST_MODULUS : mg "MOST_MODULUS" = some (.int 40 tc7) := PySem.W.mg_of X G co_MOST_MODULUS
  have g_PIECE : mg "PIECE" = some (.int 10000000000000000000000000000000000000000000000000000000000000000 tc8) := PySem.W.mg_of X G co_PIECE
  have mz_len := PySem.W.mg_none_of X G z_len
  have mz_int := PySem.W.mg_none_of X G z_int
  have mz_abs := PySem.W.mg_none_of X G z_abs
  have mz_max := PySem.W.mg_none_of X G z_max
  have mz_min := PySem.W.mg_none_of X G z_min
  have mz_sum := PySem.W.mg_none_of X G z_sum
  have mz_any := PySem.W.mg_none_of X G z_any
  have mz_all := PySem.W.mg_none_of X G z_all
  have mz_tuple := PySem.W.mg_none_of X G z_tuple
  have mz_list := PySem.W.mg_none_of X G z_list
  have mz_dict := PySem.W.mg_none_of X G z_dict
  have mz_set := PySem.W.mg_none_of X G z_set
  have mz_str := PySem.W.mg_none_of X G z_str
  have mz_bool := PySem.W.mg_none_of X G z_bool
  have mz_range := PySem.W.mg_none_of X G z_range
  have mz_enumerate := PySem.W.mg_none_of X G z_enumerate
  have mz_zip := PySem.W.mg_none_of X G z_zip
  have mz_sorted := PySem.W.mg_none_of X G z_sorted
  have mz_isinstance := PySem.W.mg_none_of X G z_isinstance
  have mz_divmod := PySem.W.mg_none_of X G z_divmod
  refine ⟨PySem.W.fnOf "law" "law" (defArgs sLaw) (defBody sLaw) (defScope sLaw) .none kV_law dc_law pm_law an_law cd_law ct_law, fun s v => .of_eq rfl, fun base _ _ => ?_⟩
  have T : OZ.Bn (⟨l.prog, w, K, mg, base⟩ : OZ.Bd) := ⟨mz_len, mz_int, mz_abs, mz_max, mz_min, mz_sum, mz_any, mz_all, mz_tuple, mz_list, mz_dict, mz_set, mz_str, mz_bool, mz_range, mz_enumerate, mz_zip, mz_sorted, mz_isinstance, mz_divmod⟩
  have T0 : Bi mg := ⟨mz_len, mz_int, mz_max, mz_abs⟩
  have EBNme : OZ.ErrG (⟨l.prog, w, K, mg, base⟩ : OZ.Bd) 1 "BadName" CBNme "name" := ⟨_, _, _, UBNme, OZ.errInit FBNme c_sBadName_init rfl rfl rfl UBNme, bBNme⟩
  have EDNme : OZ.ErrG (⟨l.prog, w, K, mg, base⟩ : OZ.Bd) 1 "DuplicateName" CDNme "name" := ⟨_, _, _, UDNme, OZ.errInit FDNme c_sDuplicateName_init rfl rfl rfl UDNme, bDNme⟩
  have EOORge : OZ.ErrG (⟨l.prog, w, K, mg, base⟩ : OZ.Bd) 1 "OutOfRange" COORge "value" := ⟨_, _, _, UOORge, OZ.errInit FOORge c_sOutOfRange_init rfl rfl rfl UOORge, bOORge⟩
  have EUNme : OZ.ErrG (⟨l.prog, w, K, mg, base⟩ : OZ.Bd) 1 "UnknownName" CUNme "name" := ⟨_, _, _, UUNme, OZ.errInit FUNme c_sUnknownName_init rfl rfl rfl UUNme, bUNme⟩
  have XBNme : OZ.ErrX (⟨l.prog, w, K, mg, base⟩ : OZ.Bd) CBNme "name" := ⟨xfBNme, enBNme⟩
  have XDNme : OZ.ErrX (⟨l.prog, w, K, mg, base⟩ : OZ.Bd) CDNme "name" := ⟨xfDNme, enDNme⟩
  have XOORge : OZ.ErrX (⟨l.prog, w, K, mg, base⟩ : OZ.Bd) COORge "value" := ⟨xfOORge, enOORge⟩
  have XUNme : OZ.ErrX (⟨l.prog, w, K, mg, base⟩ : OZ.Bd) CUNme "name" := ⟨xfUNme, enUNme⟩
  have BI_CFormadd : OZ.BinI K CForm .Add := ⟨⟨_, a_Form_radd, .inr ⟨_, rfl⟩⟩, ⟨_, in_CFormadd⟩, ⟨_, ir_CFormadd⟩, qs_CForm, sn_CForm, sf_CForm⟩
  have BI_CFormmul : OZ.BinI K CForm .Mult := ⟨⟨_, a_Form_rmul, .inr ⟨_, rfl⟩⟩, ⟨_, in_CFormmul⟩, ⟨_, ir_CFormmul⟩, qs_CForm, sn_CForm, sf_CForm⟩
  have BI_CFormsub : OZ.BinI K CForm .Sub := ⟨⟨_, a_Form_rsub, .inr ⟨_, rfl⟩⟩, ⟨_, in_CFormsub⟩, ⟨_, ir_CFormsub⟩, qs_CForm, sn_CForm, sf_CForm⟩
  have FO : OZ.FmtO K CForm := ⟨ff_fm, ff_mr⟩
  have C_valid_name : OZ.CallG OZ.pureM (⟨l.prog, w, K, mg, base⟩ : OZ.Bd) 1 "valid_name" 1 (FValid) := ⟨_, m_valid_name, k_valid_name, (by apply valid_ok (B := (⟨l.prog, w, K, mg, base⟩ : OZ.Bd)) F_valid_name b_valid_name <;> first | assumption | rfl)⟩
  have RI_Form_init : FnOk l.prog w K mg base (L2.CX l.prog w) 3 f_Form_init (PySem.W.fnOf "__init__" "Form.__init__" (defArgs sForm_init) (defBody sForm_init) (defScope sForm_init) (.ref T_Form_init) kV_Form_init dc_Form_init pm_Form_init an_Form_init cd_Form_init ct_Form_init) ["self", "coefficients", "constant"] (OZ.spI OZ.pureM K CForm 2 (FFInit CBNme)) := by apply finit_ok (B := (⟨l.prog, w, K, mg, base⟩ : OZ.Bd)) F_Form_init <;> first | assumption | rfl
  obtain ⟨dsForm_initv0, vdForm_initv0, bForm_initv0⟩ := F_Form_init.binds1 (ps := ["self", "coefficients", "constant"]) 3 1 (by simp) (by first | decide | rfl) fun _ _ _ _ _ _ _ us its h1 h2 => match us, its, h1, h2 with | [_, _, _], [_], _, _ => ⟨_, rfl, rfl⟩
  cases vdForm_initv0
  have MK_Form_initv0 : OZ.MakeG OZ.pureM (⟨l.prog, w, K, mg, base⟩ : OZ.Bd) 3 CForm 2 [] (fun ds _ => ds) (FFInit CBNme) := OZ.MakeG.plain ⟨mk_CForm, a_Form_init, i_Form_init, kc_CForm⟩ RI_Form_init (.inr rfl) bForm_initv0 rfl
  obtain ⟨dsForm_initv1, vdForm_initv1, bForm_initv1⟩ := F_Form_init.binds1 (ps := ["self", "coefficients", "constant"]) 2 0 (by simp) (by first | decide | rfl) fun _ _ _ _ _ _ _ us its h1 h2 => match us, its, h1, h2 with | [_, _], [_], _, _ => ⟨_, rfl, rfl⟩
  have MK_Form_initv1 : OZ.MakeG OZ.pureM (⟨l.prog, w, K, mg, base⟩ : OZ.Bd) 3 CForm 1 [] (fun ds _ => ds ++ [.int 0]) (FFInit CBNme) := OZ.MakeG.dflt ⟨mk_CForm, a_Form_init, i_Form_init, kc_CForm⟩ RI_Form_init (.inr rfl) bForm_initv1 vdForm_initv1 (fun G => .cons (.int 0) (.nil)) rfl rfl
  have P_Form_coefficients : OZ.PropG OZ.pureM (⟨l.prog, w, K, mg, base⟩ : OZ.Bd) 1 CForm "coefficients" (FCoef CForm) := ⟨_, _, _, _, cl_CForm, ⟨a_Form_coefficients, g_Form_coefficients, t_Form_coefficients, ⟨_, rr_Form_coefficients⟩⟩, (by apply fcoef_ok (B := (⟨l.prog, w, K, mg, base⟩ : OZ.Bd)) F_Form_coefficients <;> first | assumption | rfl), b_Form_coefficients⟩
  have P_Form_constant : OZ.PropG OZ.pureM (⟨l.prog, w, K, mg, base⟩ : OZ.Bd) 1 CForm "constant" (FConst CForm) := ⟨_, _, _, _, cl_CForm, ⟨a_Form_constant, g_Form_constant, t_Form_constant, ⟨_, rr_Form_constant⟩⟩, (by apply fconst_ok (B := (⟨l.prog, w, K, mg, base⟩ : OZ.Bd)) F_Form_constant <;> first | assumption | rfl), b_Form_constant⟩
  have I_Form_call : OZ.InstG OZ.pureM (⟨l.prog, w, K, mg, base⟩ : OZ.Bd) 3 CForm 1 (FCallF CForm CUNme) := ⟨_, ⟨a_Form_call, i_Form_call, fi_Form_call⟩, OZ.FnG.k (by apply fcall_ok (B := (⟨l.prog, w, K, mg, base⟩ : OZ.Bd)) F_Form_call b_Form_call <;> first | assumption | rfl)⟩
  have Q_Form_eq : OZ.EqG OZ.pureM (⟨l.prog, w, K, mg, base⟩ : OZ.Bd) 2 CForm (FEqF CForm) := ⟨_, (by apply feq_ok (B := (⟨l.prog, w, K, mg, base⟩ : OZ.Bd)) F_Form_eq b_Form_eq <;> first | assumption | rfl), ⟨⟨a_Form_eq, i_Form_eq⟩, qs_CForm, qn_CForm, qo_CForm⟩⟩
  have S_Form_mul : OZ.SpecG OZ.pureM (⟨l.prog, w, K, mg, base⟩ : OZ.Bd) 5 CForm "__mul__" 2 (FMulF CForm) := ⟨_, ⟨a_Form_mul, i_Form_mul⟩, (by apply fmul_ok (B := (⟨l.prog, w, K, mg, base⟩ : OZ.Bd)) F_Form_mul b_Form_mul <;> first | assumption | rfl)⟩
  have S_Form_add : OZ.SpecG OZ.pureM (⟨l.prog, w, K, mg, base⟩ : OZ.Bd) 5 CForm "__add__" 2 (FAddF CForm) := ⟨_, ⟨a_Form_add, i_Form_add⟩, (by apply fadd_ok (B := (⟨l.prog, w, K, mg, base⟩ : OZ.Bd)) F_Form_add b_Form_add <;> first | assumption | rfl)⟩
  have S_Form_neg : OZ.SpecG OZ.pureM (⟨l.prog, w, K, mg, base⟩ : OZ.Bd) 6 CForm "__neg__" 1 (FNegF CForm) := ⟨_, ⟨a_Form_neg, i_Form_neg⟩, (by apply fneg_ok (B := (⟨l.prog, w, K, mg, base⟩ : OZ.Bd)) F_Form_neg b_Form_neg <;> first | assumption | rfl)⟩
  have S_Form_rmul : OZ.SpecG OZ.pureM (⟨l.prog, w, K, mg, base⟩ : OZ.Bd) 6 CForm "__rmul__" 2 (FMulF CForm) := ⟨_, ⟨a_Form_rmul, i_Form_rmul⟩, (by apply frmul_ok (B := (⟨l.prog, w, K, mg, base⟩ : OZ.Bd)) F_Form_rmul b_Form_rmul <;> first | assumption | rfl)⟩
  have S_Form_sub : OZ.SpecG OZ.pureM (⟨l.prog, w, K, mg, base⟩ : OZ.Bd) 7 CForm "__sub__" 2 (FSubF CForm) := ⟨_, ⟨a_Form_sub, i_Form_sub⟩, (by apply fsub_ok (B := (⟨l.prog, w, K, mg, base⟩ : OZ.Bd)) F_Form_sub b_Form_sub <;> first | assumption | rfl)⟩
  have C_decimal : OZ.CallG OZ.pureM (⟨l.prog, w, K, mg, base⟩ : OZ.Bd) 1 "_decimal" 1 (FDec) := ⟨_, m_decimal, k_decimal, (by apply dec_ok (B := (⟨l.prog, w, K, mg, base⟩ : OZ.Bd)) F_decimal b_decimal <;> first | assumption | rfl)⟩
  have C_signed : OZ.CallG OZ.pureM (⟨l.prog, w, K, mg, base⟩ : OZ.Bd) 1 "_signed" 2 (FSgn) := ⟨_, m_signed, k_signed, (by apply sgn_ok (B := (⟨l.prog, w, K, mg, base⟩ : OZ.Bd)) F_signed b_signed <;> first | assumption | rfl)⟩
  have C_term : OZ.CallG OZ.pureM (⟨l.prog, w, K, mg, base⟩ : OZ.Bd) 2 "_term" 2 (FTerm) := ⟨_, m_term, k_term, (by apply term_ok (B := (⟨l.prog, w, K, mg, base⟩ : OZ.Bd)) F_term b_term <;> first | assumption | rfl)⟩
  have S_Form_str : OZ.SpecG OZ.pureM (⟨l.prog, w, K, mg, base⟩ : OZ.Bd) 3 CForm "__str__" 1 (FFStr CForm) := ⟨_, ⟨a_Form_str, i_Form_str⟩, (by apply fstr_ok (B := (⟨l.prog, w, K, mg, base⟩ : OZ.Bd)) F_Form_str b_Form_str <;> first | assumption | rfl)⟩
  have C_equation_text : OZ.CallG OZ.pureM (⟨l.prog, w, K, mg, base⟩ : OZ.Bd) 9 "_equation_text" 1 (FEqT CForm) := ⟨_, m_equation_text, k_equation_text, (by apply eqT_ok (B := (⟨l.prog, w, K, mg, base⟩ : OZ.Bd)) F_equation_text b_equation_text <;> first | assumption | rfl)⟩
  have C_check_form : OZ.CallG OZ.pureM (⟨l.prog, w, K, mg, base⟩ : OZ.Bd) 3 "_check_form" 1 (FCheck CForm COORge) := ⟨_, m_check_form, k_check_form, (by apply check_ok (B := (⟨l.prog, w, K, mg, base⟩ : OZ.Bd)) F_check_form b_check_form <;> first | assumption | rfl)⟩
  have RI_Equation_init : FnOk l.prog w K mg base (L2.CX l.prog w) 5 f_Equation_init (PySem.W.fnOf "__init__" "Equation.__init__" (defArgs sEquation_init) (defBody sEquation_init) (defScope sEquation_init) .none kV_Equation_init dc_Equation_init pm_Equation_init an_Equation_init cd_Equation_init ct_Equation_init) ["self", "form"] (OZ.spI OZ.pureM K CEquation 1 (FEqnInit CForm COORge)) := by apply einit_ok (B := (⟨l.prog, w, K, mg, base⟩ : OZ.Bd)) F_Equation_init <;> first | assumption | rfl
  have bI_Equation_initv0 := F_Equation_init.binds (ps := ["self", "form"]) fun _ _ _ _ _ _ us hl => match us, hl with | [_, _], _ => rfl
  have MK_Equation_initv0 : OZ.MakeG OZ.pureM (⟨l.prog, w, K, mg, base⟩ : OZ.Bd) 5 CEquation 1 [] (fun ds _ => ds) (FEqnInit CForm COORge) := OZ.MakeG.plain ⟨mk_CEquation, a_Equation_init, i_Equation_init, kc_CEquation⟩ RI_Equation_init (.inr rfl) bI_Equation_initv0 rfl
  have RI_Congruence_init : FnOk l.prog w K mg base (L2.CX l.prog w) 5 f_Congruence_init (PySem.W.fnOf "__init__" "Congruence.__init__" (defArgs sCongruence_init) (defBody sCongruence_init) (defScope sCongruence_init) .none kV_Congruence_init dc_Congruence_init pm_Congruence_init an_Congruence_init cd_Congruence_init ct_Congruence_init) ["self", "form", "modulus"] (OZ.spI OZ.pureM K CCongruence 2 (FCongInit CForm COORge)) := by apply cinit_ok (B := (⟨l.prog, w, K, mg, base⟩ : OZ.Bd)) F_Congruence_init <;> first | assumption | rfl
  have bI_Congruence_initv0 := F_Congruence_init.binds (ps := ["self", "form", "modulus"]) fun _ _ _ _ _ _ us hl => match us, hl with | [_, _, _], _ => rfl
  have MK_Congruence_initv0 : OZ.MakeG OZ.pureM (⟨l.prog, w, K, mg, base⟩ : OZ.Bd) 5 CCongruence 2 [] (fun ds _ => ds) (FCongInit CForm COORge) := OZ.MakeG.plain ⟨mk_CCongruence, a_Congruence_init, i_Congruence_init, kc_CCongruence⟩ RI_Congruence_init (.inr rfl) bI_Congruence_initv0 rfl
  have RI_Unlike_init : FnOk l.prog w K mg base (L2.CX l.prog w) 3 f_Unlike_init (PySem.W.fnOf "__init__" "Unlike.__init__" (defArgs sUnlike_init) (defBody sUnlike_init) (defScope sUnlike_init) .none kV_Unlike_init dc_Unlike_init pm_Unlike_init an_Unlike_init cd_Unlike_init ct_Unlike_init) ["self", "first", "second"] (OZ.spI OZ.pureM K CUnlike 2 (FUnlInit CBNme CDNme)) := by apply uinit_ok (B := (⟨l.prog, w, K, mg, base⟩ : OZ.Bd)) F_Unlike_init <;> first | assumption | rfl
  have bI_Unlike_initv0 := F_Unlike_init.binds (ps := ["self", "first", "second"]) fun _ _ _ _ _ _ us hl => match us, hl with | [_, _, _], _ => rfl
  have MK_Unlike_initv0 : OZ.MakeG OZ.pureM (⟨l.prog, w, K, mg, base⟩ : OZ.Bd) 3 CUnlike 2 [] (fun ds _ => ds) (FUnlInit CBNme CDNme) := OZ.MakeG.plain ⟨mk_CUnlike, a_Unlike_init, i_Unlike_init, kc_CUnlike⟩ RI_Unlike_init (.inr rfl) bI_Unlike_initv0 rfl
  have P_Equation_names : OZ.PropG OZ.pureM (⟨l.prog, w, K, mg, base⟩ : OZ.Bd) 3 CEquation "names" (FENames CEquation CForm) := ⟨_, _, _, _, cl_CEquation, ⟨a_Equation_names, g_Equation_names, t_Equation_names, ⟨_, rr_Equation_names⟩⟩, (by apply enames_ok (B := (⟨l.prog, w, K, mg, base⟩ : OZ.Bd)) F_Equation_names <;> first | assumption | rfl), b_Equation_names⟩
  have P_Congruence_names : OZ.PropG OZ.pureM (⟨l.prog, w, K, mg, base⟩ : OZ.Bd) 3 CCongruence "names" (FCNames CCongruence CForm) := ⟨_, _, _, _, cl_CCongruence, ⟨a_Congruence_names, g_Congruence_names, t_Congruence_names, ⟨_, rr_Congruence_names⟩⟩, (by apply cnames_ok (B := (⟨l.prog, w, K, mg, base⟩ : OZ.Bd)) F_Congruence_names <;> first | assumption | rfl), b_Congruence_names⟩
  have P_Unlike_names : OZ.PropG OZ.pureM (⟨l.prog, w, K, mg, base⟩ : OZ.Bd) 1 CUnlike "names" (FUNames CUnlike) := ⟨_, _, _, _, cl_CUnlike, ⟨a_Unlike_names, g_Unlike_names, t_Unlike_names, ⟨_, rr_Unlike_names⟩⟩, (by apply unames_ok (B := (⟨l.prog, w, K, mg, base⟩ : OZ.Bd)) F_Unlike_names <;> first | assumption | rfl), b_Unlike_names⟩
  have M_Equation_holds : OZ.MethG OZ.pureM (⟨l.prog, w, K, mg, base⟩ : OZ.Bd) 4 CEquation "holds" 1 [] (fun ds _ => ds) (FEHolds CEquation CForm CUNme) := ⟨_, cl_CEquation, ⟨a_Equation_holds, i_Equation_holds, k_Equation_holds⟩, OZ.FnG.k (by apply eholds_ok (B := (⟨l.prog, w, K, mg, base⟩ : OZ.Bd)) F_Equation_holds b_Equation_holds <;> first | assumption | rfl)⟩
  have M_Congruence_holds : OZ.MethG OZ.pureM (⟨l.prog, w, K, mg, base⟩ : OZ.Bd) 4 CCongruence "holds" 1 [] (fun ds _ => ds) (FCHolds CCongruence CForm CUNme) := ⟨_, cl_CCongruence, ⟨a_Congruence_holds, i_Congruence_holds, k_Congruence_holds⟩, OZ.FnG.k (by apply cholds_ok (B := (⟨l.prog, w, K, mg, base⟩ : OZ.Bd)) F_Congruence_holds b_Congruence_holds <;> first | assumption | rfl)⟩
  have M_Unlike_holds : OZ.MethG OZ.pureM (⟨l.prog, w, K, mg, base⟩ : OZ.Bd) 4 CUnlike "holds" 1 [] (fun ds _ => ds) (FUHolds CUnlike CUNme) := ⟨_, cl_CUnlike, ⟨a_Unlike_holds, i_Unlike_holds, k_Unlike_holds⟩, OZ.FnG.k (by apply uholds_ok (B := (⟨l.prog, w, K, mg, base⟩ : OZ.Bd)) F_Unlike_holds b_Unlike_holds <;> first | assumption | rfl)⟩
  have Q_Equation_eq : OZ.EqG OZ.pureM (⟨l.prog, w, K, mg, base⟩ : OZ.Bd) 3 CEquation (FEEq CEquation CForm) := ⟨_, (by apply eeq_ok (B := (⟨l.prog, w, K, mg, base⟩ : OZ.Bd)) F_Equation_eq b_Equation_eq <;> first | assumption | rfl), ⟨⟨a_Equation_eq, i_Equation_eq⟩, qs_CEquation, qn_CEquation, qo_CEquation⟩⟩
  have Q_Congruence_eq : OZ.EqG OZ.pureM (⟨l.prog, w, K, mg, base⟩ : OZ.Bd) 3 CCongruence (FCEq CCongruence CForm) := ⟨_, (by apply ceq_ok (B := (⟨l.prog, w, K, mg, base⟩ : OZ.Bd)) F_Congruence_eq b_Congruence_eq <;> first | assumption | rfl), ⟨⟨a_Congruence_eq, i_Congruence_eq⟩, qs_CCongruence, qn_CCongruence, qo_CCongruence⟩⟩
  have Q_Unlike_eq : OZ.EqG OZ.pureM (⟨l.prog, w, K, mg, base⟩ : OZ.Bd) 2 CUnlike (FUEq CUnlike) := ⟨_, (by apply ueq_ok (B := (⟨l.prog, w, K, mg, base⟩ : OZ.Bd)) F_Unlike_eq b_Unlike_eq <;> first | assumption | rfl), ⟨⟨a_Unlike_eq, i_Unlike_eq⟩, qs_CUnlike, qn_CUnlike, qo_CUnlike⟩⟩
  have S_Equation_str : OZ.SpecG OZ.pureM (⟨l.prog, w, K, mg, base⟩ : OZ.Bd) 10 CEquation "__str__" 1 (FEStr CEquation CForm) := ⟨_, ⟨a_Equation_str, i_Equation_str⟩, (by apply estr_ok (B := (⟨l.prog, w, K, mg, base⟩ : OZ.Bd)) F_Equation_str b_Equation_str <;> first | assumption | rfl)⟩
  have S_Congruence_str : OZ.SpecG OZ.pureM (⟨l.prog, w, K, mg, base⟩ : OZ.Bd) 10 CCongruence "__str__" 1 (FCStr CCongruence CForm) := ⟨_, ⟨a_Congruence_str, i_Congruence_str⟩, (by apply cstr_ok (B := (⟨l.prog, w, K, mg, base⟩ : OZ.Bd)) F_Congruence_str b_Congruence_str <;> first | assumption | rfl)⟩
  have S_Unlike_str : OZ.SpecG OZ.pureM (⟨l.prog, w, K, mg, base⟩ : OZ.Bd) 1 CUnlike "__str__" 1 (FUStr CUnlike) := ⟨_, ⟨a_Unlike_str, i_Unlike_str⟩, (by apply ustr_ok (B := (⟨l.prog, w, K, mg, base⟩ : OZ.Bd)) F_Unlike_str b_Unlike_str <;> first | assumption | rfl)⟩
  have LP : LnP (⟨l.prog, w, K, mg, base⟩ : OZ.Bd) CEquation CCongruence CUnlike CForm CUNme := ⟨⟨P_Equation_names, P_Congruence_names, P_Unlike_names⟩, M_Equation_holds, M_Congruence_holds, M_Unlike_holds⟩
  have LNN := LP.n
  have LT : LnT (⟨l.prog, w, K, mg, base⟩ : OZ.Bd) CEquation CCongruence CUnlike CForm := ⟨S_Equation_str, S_Congruence_str, S_Unlike_str⟩
  have LE : LnE (⟨l.prog, w, K, mg, base⟩ : OZ.Bd) CEquation CCongruence CUnlike CForm := ⟨Q_Equation_eq, Q_Congruence_eq, Q_Unlike_eq⟩
  have c0 : ∃ f : Addr, PySem.W.findIn K (.ref CForm) (PySem.dunder (Operator.Mult).info.2) = some (some (.ref f)) := ⟨_, a_Form_mul⟩
  have C_Lmade : OZ.CallG OZ.pureM (⟨l.prog, w, K, mg, base⟩ : OZ.Bd) 7 "_law_made" 1 (FMade CEquation CCongruence CUnlike CForm) := ⟨_, m_Lmade, k_Lmade, (by apply made_ok (B := (⟨l.prog, w, K, mg, base⟩ : OZ.Bd)) F_Lmade b_Lmade <;> first | assumption | rfl)⟩
  have C_Ltext : OZ.CallG OZ.pureM (⟨l.prog, w, K, mg, base⟩ : OZ.Bd) 1 "_law_text" 2 (FLText) := ⟨_, m_Ltext, k_Ltext, (by apply ltext_ok (B := (⟨l.prog, w, K, mg, base⟩ : OZ.Bd)) F_Ltext b_Ltext <;> first | assumption | rfl)⟩
  have C_Lrow_text : OZ.CallG OZ.pureM (⟨l.prog, w, K, mg, base⟩ : OZ.Bd) 2 "_law_row_text" 1 (FRText) := ⟨_, m_Lrow_text, k_Lrow_text, (by apply rtext_ok (B := (⟨l.prog, w, K, mg, base⟩ : OZ.Bd)) F_Lrow_text b_Lrow_text <;> first | assumption | rfl)⟩
  have C_Lrow_names : OZ.CallG OZ.pureM (⟨l.prog, w, K, mg, base⟩ : OZ.Bd) 1 "_law_row_names" 1 (FRNames) := ⟨_, m_Lrow_names, k_Lrow_names, (by apply rnames_ok (B := (⟨l.prog, w, K, mg, base⟩ : OZ.Bd)) F_Lrow_names b_Lrow_names <;> first | assumption | rfl)⟩
  have C_Lholds : OZ.CallG OZ.pureM (⟨l.prog, w, K, mg, base⟩ : OZ.Bd) 6 "_law_holds" 2 (FLHolds CEquation CCongruence CUnlike CForm) := ⟨_, m_Lholds, k_Lholds, (by apply lholds_ok (B := (⟨l.prog, w, K, mg, base⟩ : OZ.Bd)) F_Lholds b_Lholds <;> first | assumption | rfl)⟩
  have C_Lexpected : OZ.CallG OZ.pureM (⟨l.prog, w, K, mg, base⟩ : OZ.Bd) 1 "_law_expected" 2 (FLExp) := ⟨_, m_Lexpected, k_Lexpected, (by apply lexp_ok (B := (⟨l.prog, w, K, mg, base⟩ : OZ.Bd)) F_Lexpected b_Lexpected <;> first | assumption | rfl)⟩
  have C_Lasked : OZ.CallG OZ.pureM (⟨l.prog, w, K, mg, base⟩ : OZ.Bd) 7 "_law_asked" 3 (FLAsked CEquation CCongruence CUnlike CForm) := ⟨_, m_Lasked, k_Lasked, (by apply lasked_ok (B := (⟨l.prog, w, K, mg, base⟩ : OZ.Bd)) F_Lasked b_Lasked <;> first | assumption | rfl)⟩
  have C_take := fun st cl => take_ok (B := (⟨l.prog, w, K, mg, base⟩ : OZ.Bd)) (st := st) (cl := cl) F_take T0 m_take b_take
  have C_Lname : ∀ st cl, OZ.CallG (takeM st cl) (⟨l.prog, w, K, mg, base⟩ : OZ.Bd) 2 "_law_name" 1 (FNameL st) := fun st cl => ⟨_, m_Lname, k_Lname, (by have := C_take st cl; apply namel_ok (B := (⟨l.prog, w, K, mg, base⟩ : OZ.Bd)) F_Lname b_Lname <;> first | assumption | rfl)⟩
  have C_Lnames : ∀ st cl, OZ.CallG (takeM st cl) (⟨l.prog, w, K, mg, base⟩ : OZ.Bd) 3 "_law_names" 2 (FNamesL st) := fun st cl => ⟨_, m_Lnames, k_Lnames, (by have := C_take st cl; have := C_Lname st cl; apply namesl_ok (B := (⟨l.prog, w, K, mg, base⟩ : OZ.Bd)) F_Lnames b_Lnames <;> first | assumption | rfl)⟩
  have C_Lrow : ∀ st cl, OZ.CallG (takeM st cl) (⟨l.prog, w, K, mg, base⟩ : OZ.Bd) 3 "_law_row" 2 (FRow st) := fun st cl => ⟨_, m_Lrow, k_Lrow, (by have := C_take st cl; have := C_Lname st cl; have := C_Lnames st cl; apply row_ok (B := (⟨l.prog, w, K, mg, base⟩ : OZ.Bd)) F_Lrow b_Lrow <;> first | assumption | rfl)⟩
  have C_Ladded : ∀ st cl, OZ.CallG (takeM st cl) (⟨l.prog, w, K, mg, base⟩ : OZ.Bd) 9 "_law_added" 2 (FAdded CEquation CCongruence CUnlike CForm st) := fun st cl => ⟨_, m_Ladded, k_Ladded, (by have := C_take st cl; have := C_Lname st cl; have := C_Lnames st cl; have := C_Lrow st cl; apply added_ok (B := (⟨l.prog, w, K, mg, base⟩ : OZ.Bd)) F_Ladded b_Ladded <;> first | assumption | rfl)⟩
  apply law_ok (B := (⟨l.prog, w, K, mg, base⟩ : OZ.Bd)) F_law <;> first | assumption | rfl | exact ok_start F_start T0
theorem walk {l : PySem.W.OpenLaw} {q : Program} {loose : List Str} {XP : (Str → Option Value) → Heap → Prop} {YP : World → Heap → Prop} {d : DefRec} {K : Params → PySem.W.Frag} (hn : l.most = some 63) (hdf : d.params.defaults = [])
    (hY : ∀ (w : World) (h : Heap), YP w h → (K w.params).In h)
    (F : ∀ (w : World) (mg : Str → Option Value) (fa : Addr) (h : Heap), (K w.params).In h → h.Ns mainGlobals mg → mg d.name = some (.ref fa) →
      ∃ fd : FuncData, (∀ (s : Shared) (u : Value), BindsTo s fd ⟨[u], []⟩ [("_law_script", u)]) ∧ ∀ base : Heap, (K w.params).In base → base.Ns mainGlobals mg → FnOk l.prog w (K w.params) mg base CX0 13 fa fd ["_law_script"] (OZ.spLaw (K w.params))) :
    PySem.W.WalkO q loose XP YP l.row.toRowW d [] (fun f vs => PySem.call f vs) :=
  L2.walk_of (n := 63) (k := 13) (x := "_law_script") (CX := fun _ => CX0) (sp := fun w => OZ.spLaw (K w.params)) hn (by decide) hdf ⟨rfl, by decide, by decide⟩ hY F (fun _ _ a ns hl _ hS => ⟨a, ns, rfl, hS, hl, fun _ => rfl⟩) fun _ _ _ _ _ z => z
end OS
open PySem PySem.W PyProof.Rows
set_option maxRecDepth 100000 in
set_option maxHeartbeats 0 in
theorem PySem.Challenge.cw_oneshard_k11_line_text_and_holds_holds : PySem.Challenge.rw_oneshard_k11_line_text_and_holds.Holds := by
  w_on; o_law; k_head; (case hw => w_witness2)
  k_fill
  refine OS.walk (l := PySem.Challenge.rw_oneshard_k11_line_text_and_holds) rfl rfl (fun w h Y => PySem.W.kIn_of Y) ?F
  case F =>
    intro w mg fa h KX G hmg
    refine' OS.all_mk KX G hmg ?aC_CForm ?pg_CForm ?hd_CForm ?po_CForm ?sa_CForm ?mk_CForm ?kc_CForm ?nF_CForm_coefficients ?nF_CForm_constant ?qs_CForm ?qn_CForm ?qo_CForm ?hc_CForm ?hm_CForm ?gn ?gt ?sf_CForm ?aC_CEquation ?pg_CEquation ?hd_CEquation ?po_CEquation ?sa_CEquation ?mk_CEquation ?kc_CEquation ?nF_CEquation_form ?qs_CEquation ?qn_CEquation ?qo_CEquation ?hc_CEquation ?hm_CEquation ?aC_CCongruence ?pg_CCongruence ?hd_CCongruence ?po_CCongruence ?sa_CCongruence ?mk_CCongruence ?kc_CCongruence ?nF_CCongruence_form ?nF_CCongruence_modulus ?qs_CCongruence ?qn_CCongruence ?qo_CCongruence ?hc_CCongruence ?hm_CCongruence ?aC_CUnlike ?pg_CUnlike ?hd_CUnlike ?po_CUnlike ?sa_CUnlike ?mk_CUnlike ?kc_CUnlike ?nF_CUnlike_first ?nF_CUnlike_second ?qs_CUnlike ?qn_CUnlike ?qo_CUnlike ?hc_CUnlike ?hm_CUnlike ?kit3 ?eaBNme ?eLBNme ?esBNme ?exBNme ?etBNme ?ekBNme ?eiBNme ?eTBNme ?enBNme ?egBNme ?eGBNme ?ehBNme ?euBNme ?elBNme ?ecBNme ?efBNme ?eaDNme ?eLDNme ?esDNme ?exDNme ?etDNme ?ekDNme ?eiDNme ?eTDNme ?enDNme ?egDNme ?eGDNme ?ehDNme ?euDNme ?elDNme ?ecDNme ?efDNme ?eaOORge ?eLOORge ?esOORge ?exOORge ?etOORge ?ekOORge ?eiOORge ?eTOORge ?enOORge ?egOORge ?eGOORge ?ehOORge ?euOORge ?elOORge ?ecOORge ?efOORge ?eaUNme ?eLUNme ?esUNme ?exUNme ?etUNme ?ekUNme ?eiUNme ?eTUNme ?enUNme ?egUNme ?eGUNme ?ehUNme ?euUNme ?elUNme ?ecUNme ?efUNme ?a_valid_name ?lk_valid_name ?cq_valid_name ?k_valid_name ?a_check_form ?lk_check_form ?cq_check_form ?k_check_form ?a_equation_text ?lk_equation_text ?cq_equation_text ?k_equation_text ?a_Equation_init ?i_Equation_init ?lk_Equation_init ?cq_Equation_init ?k_Equation_init ?a_Equation_names ?g_Equation_names ?t_Equation_names ?rr_Equation_names ?lk_Equation_names ?cq_Equation_names ?k_Equation_names ?a_Equation_holds ?i_Equation_holds ?lk_Equation_holds ?cq_Equation_holds ?k_Equation_holds ?a_Equation_eq ?i_Equation_eq ?lk_Equation_eq ?cq_Equation_eq ?k_Equation_eq ?a_Equation_str ?i_Equation_str ?lk_Equation_str ?cq_Equation_str ?k_Equation_str ?a_Congruence_init ?i_Congruence_init ?lk_Congruence_init ?cq_Congruence_init ?k_Congruence_init ?a_Congruence_names ?g_Congruence_names ?t_Congruence_names ?rr_Congruence_names ?lk_Congruence_names ?cq_Congruence_names ?k_Congruence_names ?a_Congruence_holds ?i_Congruence_holds ?lk_Congruence_holds ?cq_Congruence_holds ?k_Congruence_holds ?a_Congruence_eq ?i_Congruence_eq ?lk_Congruence_eq ?cq_Congruence_eq ?k_Congruence_eq ?a_Congruence_str ?i_Congruence_str ?lk_Congruence_str ?cq_Congruence_str ?k_Congruence_str ?a_Unlike_init ?i_Unlike_init ?lk_Unlike_init ?cq_Unlike_init ?k_Unlike_init ?a_Unlike_names ?g_Unlike_names ?t_Unlike_names ?rr_Unlike_names ?lk_Unlike_names ?cq_Unlike_names ?k_Unlike_names ?a_Unlike_holds ?i_Unlike_holds ?lk_Unlike_holds ?cq_Unlike_holds ?k_Unlike_holds ?a_Unlike_eq ?i_Unlike_eq ?lk_Unlike_eq ?cq_Unlike_eq ?k_Unlike_eq ?a_Unlike_str ?i_Unlike_str ?lk_Unlike_str ?cq_Unlike_str ?k_Unlike_str ?a_decimal ?lk_decimal ?cq_decimal ?k_decimal ?a_signed ?lk_signed ?cq_signed ?k_signed ?a_term ?lk_term ?cq_term ?k_term ?a_Form_init ?i_Form_init ?lk_Form_init ?cq_Form_init ?k_Form_init ?lT_Form_init ?a_Form_coefficients ?g_Form_coefficients ?t_Form_coefficients ?rr_Form_coefficients ?lk_Form_coefficients ?cq_Form_coefficients ?k_Form_coefficients ?a_Form_constant ?g_Form_constant ?t_Form_constant ?rr_Form_constant ?lk_Form_constant ?cq_Form_constant ?k_Form_constant ?a_Form_eq ?i_Form_eq ?lk_Form_eq ?cq_Form_eq ?k_Form_eq ?a_Form_neg ?i_Form_neg ?lk_Form_neg ?cq_Form_neg ?k_Form_neg ?a_Form_add ?i_Form_add ?lk_Form_add ?cq_Form_add ?k_Form_add ?a_Form_radd ?i_Form_radd ?lk_Form_radd ?cq_Form_radd ?k_Form_radd ?a_Form_sub ?i_Form_sub ?lk_Form_sub ?cq_Form_sub ?k_Form_sub ?a_Form_rsub ?i_Form_rsub ?lk_Form_rsub ?cq_Form_rsub ?k_Form_rsub ?a_Form_mul ?i_Form_mul ?lk_Form_mul ?cq_Form_mul ?k_Form_mul ?a_Form_rmul ?i_Form_rmul ?lk_Form_rmul ?cq_Form_rmul ?k_Form_rmul ?a_Form_call ?i_Form_call ?fi_Form_call ?lk_Form_call ?cq_Form_call ?k_Form_call ?a_Form_str ?i_Form_str ?lk_Form_str ?cq_Form_str ?k_Form_str ?a_start ?lk_start ?cq_start ?k_start ?a_take ?lk_take ?cq_take ?k_take ?a_Lname ?lk_Lname ?cq_Lname ?k_Lname ?a_Lnames ?lk_Lnames ?cq_Lnames ?k_Lnames ?a_Lrow ?lk_Lrow ?cq_Lrow ?k_Lrow ?a_Lmade ?lk_Lmade ?cq_Lmade ?k_Lmade ?a_Ladded ?lk_Ladded ?cq_Ladded ?k_Ladded ?a_Lrow_names ?lk_Lrow_names ?cq_Lrow_names ?k_Lrow_names ?a_Ltext ?lk_Ltext ?cq_Ltext ?k_Ltext ?a_Lrow_text ?lk_Lrow_text ?cq_Lrow_text ?k_Lrow_text ?a_Lholds ?lk_Lholds ?cq_Lholds ?k_Lholds ?a_Lexpected ?lk_Lexpected ?cq_Lexpected ?k_Lexpected ?a_Lasked ?lk_Lasked ?cq_Lasked ?k_Lasked ?a_law ?lk_law ?cq_law ?k_law ?co_MOST_CHARACTERS ?co_LETTERS ?co_DIGITS ?co_RESERVED ?co_MOST_COEFFICIENT ?co_MOST_CONSTANT ?co_LEAST_MODULUS ?co_MOST_MODULUS ?co_PIECE ?in_CFormadd ?ir_CFormadd ?sn_CForm ?in_CFormmul ?ir_CFormmul ?in_CFormsub ?ir_CFormsub ?ff_fm ?ff_mr ?z_len ?z_int ?z_abs ?z_max ?z_min ?z_sum ?z_any ?z_all ?z_tuple ?z_list ?z_dict ?z_set ?z_str ?z_bool ?z_range ?z_enumerate ?z_zip ?z_sorted ?z_isinstance ?z_divmod
    (case aC_CForm => k_is)
    (case pg_CForm => k_is)
    (case hd_CForm => k_is)
    (case po_CForm => k_is)
    (case sa_CForm => k_is)
    (case mk_CForm => k_is)
    (case kc_CForm => k_is)
    (case nF_CForm_coefficients => k_is)
    (case nF_CForm_constant => k_is)
    (case qs_CForm => k_is)
    (case qn_CForm => k_is)
    (case qo_CForm => k_is)
    (case hc_CForm => k_is)
    (case hm_CForm => k_is)
    (case gn => k_is)
    (case gt => k_is)
    (case sf_CForm => k_is)
    (case aC_CEquation => k_is)
    (case pg_CEquation => k_is)
    (case hd_CEquation => k_is)
    (case po_CEquation => k_is)
    (case sa_CEquation => k_is)
    (case mk_CEquation => k_is)
    (case kc_CEquation => k_is)
    (case nF_CEquation_form => k_is)
    (case qs_CEquation => k_is)
    (case qn_CEquation => k_is)
    (case qo_CEquation => k_is)
    (case hc_CEquation => k_is)
    (case hm_CEquation => k_is)
    (case aC_CCongruence => k_is)
    (case pg_CCongruence => k_is)
    (case hd_CCongruence => k_is)
    (case po_CCongruence => k_is)
    (case sa_CCongruence => k_is)
    (case mk_CCongruence => k_is)
    (case kc_CCongruence => k_is)
    (case nF_CCongruence_form => k_is)
    (case nF_CCongruence_modulus => k_is)
    (case qs_CCongruence => k_is)
    (case qn_CCongruence => k_is)
    (case qo_CCongruence => k_is)
    (case hc_CCongruence => k_is)
    (case hm_CCongruence => k_is)
    (case aC_CUnlike => k_is)
    (case pg_CUnlike => k_is)
    (case hd_CUnlike => k_is)
    (case po_CUnlike => k_is)
    (case sa_CUnlike => k_is)
    (case mk_CUnlike => k_is)
    (case kc_CUnlike => k_is)
    (case nF_CUnlike_first => k_is)
    (case nF_CUnlike_second => k_is)
    (case qs_CUnlike => k_is)
    (case qn_CUnlike => k_is)
    (case qo_CUnlike => k_is)
    (case hc_CUnlike => k_is)
    (case hm_CUnlike => k_is)
    (case kit3 => k_is)
    (case eaBNme => k_is)
    (case eLBNme => k_is)
    (case esBNme => k_is)
    (case exBNme => k_is)
    (case etBNme => k_is)
    (case ekBNme => k_is)
    (case eiBNme => k_is)
    (case eTBNme => k_is)
    (case enBNme => k_is)
    (case egBNme => k_is)
    (case eGBNme => k_is)
    (case ehBNme => k_is)
    (case euBNme => k_is)
    (case elBNme => k_is)
    (case ecBNme => k_is)
    (case efBNme => k_is)
    (case eaDNme => k_is)
    (case eLDNme => k_is)
    (case esDNme => k_is)
    (case exDNme => k_is)
    (case etDNme => k_is)
    (case ekDNme => k_is)
    (case eiDNme => k_is)
    (case eTDNme => k_is)
    (case enDNme => k_is)
    (case egDNme => k_is)
    (case eGDNme => k_is)
    (case ehDNme => k_is)
    (case euDNme => k_is)
    (case elDNme => k_is)
    (case ecDNme => k_is)
    (case efDNme => k_is)
    (case eaOORge => k_is)
    (case eLOORge => k_is)
    (case esOORge => k_is)
    (case exOORge => k_is)
    (case etOORge => k_is)
    (case ekOORge => k_is)
    (case eiOORge => k_is)
    (case eTOORge => k_is)
    (case enOORge => k_is)
    (case egOORge => k_is)
    (case eGOORge => k_is)
    (case ehOORge => k_is)
    (case euOORge => k_is)
    (case elOORge => k_is)
    (case ecOORge => k_is)
    (case efOORge => k_is)
    (case eaUNme => k_is)
    (case eLUNme => k_is)
    (case esUNme => k_is)
    (case exUNme => k_is)
    (case etUNme => k_is)
    (case ekUNme => k_is)
    (case eiUNme => k_is)
    (case eTUNme => k_is)
    (case enUNme => k_is)
    (case egUNme => k_is)
    (case eGUNme => k_is)
    (case ehUNme => k_is)
    (case euUNme => k_is)
    (case elUNme => k_is)
    (case ecUNme => k_is)
    (case efUNme => k_is)
    (case a_valid_name => k_is)
    (case lk_valid_name => k_is)
    (case cq_valid_name => k_is)
    (case k_valid_name => k_is)
    (case a_check_form => k_is)
    (case lk_check_form => k_is)
    (case cq_check_form => k_is)
    (case k_check_form => k_is)
    (case a_equation_text => k_is)
    (case lk_equation_text => k_is)
    (case cq_equation_text => k_is)
    (case k_equation_text => k_is)
    (case a_Equation_init => k_is)
    (case i_Equation_init => k_is)
    (case lk_Equation_init => k_is)
    (case cq_Equation_init => k_is)
    (case k_Equation_init => k_is)
    (case a_Equation_names => k_is)
    (case g_Equation_names => k_is)
    (case t_Equation_names => k_is)
    (case rr_Equation_names => k_is)
    (case lk_Equation_names => k_is)
    (case cq_Equation_names => k_is)
    (case k_Equation_names => k_is)
    (case a_Equation_holds => k_is)
    (case i_Equation_holds => k_is)
    (case lk_Equation_holds => k_is)
    (case cq_Equation_holds => k_is)
    (case k_Equation_holds => k_is)
    (case a_Equation_eq => k_is)
    (case i_Equation_eq => k_is)
    (case lk_Equation_eq => k_is)
    (case cq_Equation_eq => k_is)
    (case k_Equation_eq => k_is)
    (case a_Equation_str => k_is)
    (case i_Equation_str => k_is)
    (case lk_Equation_str => k_is)
    (case cq_Equation_str => k_is)
    (case k_Equation_str => k_is)
    (case a_Congruence_init => k_is)
    (case i_Congruence_init => k_is)
    (case lk_Congruence_init => k_is)
    (case cq_Congruence_init => k_is)
    (case k_Congruence_init => k_is)
    (case a_Congruence_names => k_is)
    (case g_Congruence_names => k_is)
    (case t_Congruence_names => k_is)
    (case rr_Congruence_names => k_is)
    (case lk_Congruence_names => k_is)
    (case cq_Congruence_names => k_is)
    (case k_Congruence_names => k_is)
    (case a_Congruence_holds => k_is)
    (case i_Congruence_holds => k_is)
    (case lk_Congruence_holds => k_is)
    (case cq_Congruence_holds => k_is)
    (case k_Congruence_holds => k_is)
    (case a_Congruence_eq => k_is)
    (case i_Congruence_eq => k_is)
    (case lk_Congruence_eq => k_is)
    (case cq_Congruence_eq => k_is)
    (case k_Congruence_eq => k_is)
    (case a_Congruence_str => k_is)
    (case i_Congruence_str => k_is)
    (case lk_Congruence_str => k_is)
    (case cq_Congruence_str => k_is)
    (case k_Congruence_str => k_is)
    (case a_Unlike_init => k_is)
    (case i_Unlike_init => k_is)
    (case lk_Unlike_init => k_is)
    (case cq_Unlike_init => k_is)
    (case k_Unlike_init => k_is)
    (case a_Unlike_names => k_is)
    (case g_Unlike_names => k_is)
    (case t_Unlike_names => k_is)
    (case rr_Unlike_names => k_is)
    (case lk_Unlike_names => k_is)
    (case cq_Unlike_names => k_is)
    (case k_Unlike_names => k_is)
    (case a_Unlike_holds => k_is)
    (case i_Unlike_holds => k_is)
    (case lk_Unlike_holds => k_is)
    (case cq_Unlike_holds => k_is)
    (case k_Unlike_holds => k_is)
    (case a_Unlike_eq => k_is)
    (case i_Unlike_eq => k_is)
    (case lk_Unlike_eq => k_is)
    (case cq_Unlike_eq => k_is)
    (case k_Unlike_eq => k_is)
    (case a_Unlike_str => k_is)
    (case i_Unlike_str => k_is)
    (case lk_Unlike_str => k_is)
    (case cq_Unlike_str => k_is)
    (case k_Unlike_str => k_is)
    (case a_decimal => k_is)
    (case lk_decimal => k_is)
    (case cq_decimal => k_is)
    (case k_decimal => k_is)
    (case a_signed => k_is)
    (case lk_signed => k_is)
    (case cq_signed => k_is)
    (case k_signed => k_is)
    (case a_term => k_is)
    (case lk_term => k_is)
    (case cq_term => k_is)
    (case k_term => k_is)
    (case a_Form_init => k_is)
    (case i_Form_init => k_is)
    (case lk_Form_init => k_is)
    (case cq_Form_init => k_is)
    (case k_Form_init => k_is)
    (case lT_Form_init => k_is)
    (case a_Form_coefficients => k_is)
    (case g_Form_coefficients => k_is)
    (case t_Form_coefficients => k_is)
    (case rr_Form_coefficients => k_is)
    (case lk_Form_coefficients => k_is)
    (case cq_Form_coefficients => k_is)
    (case k_Form_coefficients => k_is)
    (case a_Form_constant => k_is)
    (case g_Form_constant => k_is)
    (case t_Form_constant => k_is)
    (case rr_Form_constant => k_is)
    (case lk_Form_constant => k_is)
    (case cq_Form_constant => k_is)
    (case k_Form_constant => k_is)
    (case a_Form_eq => k_is)
    (case i_Form_eq => k_is)
    (case lk_Form_eq => k_is)
    (case cq_Form_eq => k_is)
    (case k_Form_eq => k_is)
    (case a_Form_neg => k_is)
    (case i_Form_neg => k_is)
    (case lk_Form_neg => k_is)
    (case cq_Form_neg => k_is)
    (case k_Form_neg => k_is)
    (case a_Form_add => k_is)
    (case i_Form_add => k_is)
    (case lk_Form_add => k_is)
    (case cq_Form_add => k_is)
    (case k_Form_add => k_is)
    (case a_Form_radd => k_is)
    (case i_Form_radd => k_is)
    (case lk_Form_radd => k_is)
    (case cq_Form_radd => k_is)
    (case k_Form_radd => k_is)
    (case a_Form_sub => k_is)
    (case i_Form_sub => k_is)
    (case lk_Form_sub => k_is)
    (case cq_Form_sub => k_is)
    (case k_Form_sub => k_is)
    (case a_Form_rsub => k_is)
    (case i_Form_rsub => k_is)
    (case lk_Form_rsub => k_is)
    (case cq_Form_rsub => k_is)
    (case k_Form_rsub => k_is)
    (case a_Form_mul => k_is)
    (case i_Form_mul => k_is)
    (case lk_Form_mul => k_is)
    (case cq_Form_mul => k_is)
    (case k_Form_mul => k_is)
    (case a_Form_rmul => k_is)
    (case i_Form_rmul => k_is)
    (case lk_Form_rmul => k_is)
    (case cq_Form_rmul => k_is)
    (case k_Form_rmul => k_is)
    (case a_Form_call => k_is)
    (case i_Form_call => k_is)
    (case fi_Form_call => k_is)
    (case lk_Form_call => k_is)
    (case cq_Form_call => k_is)
    (case k_Form_call => k_is)
    (case a_Form_str => k_is)
    (case i_Form_str => k_is)
    (case lk_Form_str => k_is)
    (case cq_Form_str => k_is)
    (case k_Form_str => k_is)
    (case a_start => k_is)
    (case lk_start => k_is)
    (case cq_start => k_is)
    (case k_start => k_is)
    (case a_take => k_is)
    (case lk_take => k_is)
    (case cq_take => k_is)
    (case k_take => k_is)
    (case a_Lname => k_is)
    (case lk_Lname => k_is)
    (case cq_Lname => k_is)
    (case k_Lname => k_is)
    (case a_Lnames => k_is)
    (case lk_Lnames => k_is)
    (case cq_Lnames => k_is)
    (case k_Lnames => k_is)
    (case a_Lrow => k_is)
    (case lk_Lrow => k_is)
    (case cq_Lrow => k_is)
    (case k_Lrow => k_is)
    (case a_Lmade => k_is)
    (case lk_Lmade => k_is)
    (case cq_Lmade => k_is)
    (case k_Lmade => k_is)
    (case a_Ladded => k_is)
    (case lk_Ladded => k_is)
    (case cq_Ladded => k_is)
    (case k_Ladded => k_is)
    (case a_Lrow_names => k_is)
    (case lk_Lrow_names => k_is)
    (case cq_Lrow_names => k_is)
    (case k_Lrow_names => k_is)
    (case a_Ltext => k_is)
    (case lk_Ltext => k_is)
    (case cq_Ltext => k_is)
    (case k_Ltext => k_is)
    (case a_Lrow_text => k_is)
    (case lk_Lrow_text => k_is)
    (case cq_Lrow_text => k_is)
    (case k_Lrow_text => k_is)
    (case a_Lholds => k_is)
    (case lk_Lholds => k_is)
    (case cq_Lholds => k_is)
    (case k_Lholds => k_is)
    (case a_Lexpected => k_is)
    (case lk_Lexpected => k_is)
    (case cq_Lexpected => k_is)
    (case k_Lexpected => k_is)
    (case a_Lasked => k_is)
    (case lk_Lasked => k_is)
    (case cq_Lasked => k_is)
    (case k_Lasked => k_is)
    (case a_law => k_is)
    (case lk_law => k_is)
    (case cq_law => k_is)
    (case k_law => k_is)
    (case co_MOST_CHARACTERS => k_is)
    (case co_LETTERS => k_is)
    (case co_DIGITS => k_is)
    (case co_RESERVED => k_is)
    (case co_MOST_COEFFICIENT => k_is)
    (case co_MOST_CONSTANT => k_is)
    (case co_LEAST_MODULUS => k_is)
    (case co_MOST_MODULUS => k_is)
    (case co_PIECE => k_is)
    (case in_CFormadd => k_is)
    (case ir_CFormadd => k_is)
    (case sn_CForm => k_is)
    (case in_CFormmul => k_is)
    (case ir_CFormmul => k_is)
    (case in_CFormsub => k_is)
    (case ir_CFormsub => k_is)
    (case ff_fm => k_is)
    (case ff_mr => k_is)
    (case z_len => k_is)
    (case z_int => k_is)
    (case z_abs => k_is)
    (case z_max => k_is)
    (case z_min => k_is)
    (case z_sum => k_is)
    (case z_any => k_is)
    (case z_all => k_is)
    (case z_tuple => k_is)
    (case z_list => k_is)
    (case z_dict => k_is)
    (case z_set => k_is)
    (case z_str => k_is)
    (case z_bool => k_is)
    (case z_range => k_is)
    (case z_enumerate => k_is)
    (case z_zip => k_is)
    (case z_sorted => k_is)
    (case z_isinstance => k_is)
    (case z_divmod => k_is)
#print axioms PySem.Challenge.cw_oneshard_k11_line_text_and_holds_holds

