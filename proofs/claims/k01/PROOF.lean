import PyProof.Rows.All
import Wide.All
import OpenK.AllK
import Wide.FinOn
import HandS.ForMost
import HandS.ForExc
import HandS.Wide
import HandS.Flow
import PyProof.ReprRoads
import KE.KExcInit
import HandS.ExcField
import HandS.TupAny
import HandS.TupMul
import HandS.IsInst
import HandS.Style
import HandS.RaiseMore
import HandS.WideBits
import PyProof.StrOps2
import HandS.FStr
import HandS.StrMore
import HandS.TupSets
import PyProof.StrCalls
import KE.DataMinMax
import PyProof.Rows.StrCut
import KE.KIntText
import PySem.Challenge.RW_pagewright_k01_whole_texts_of_lengths
import HandS.ExcIs
set_option Elab.async false
set_option linter.all false
set_option maxRecDepth 100000
/-! Mirrors: a def's reading as a function of data and cells. The data, the state. -/
namespace Mir
open PySem PySem.Spec L2

/-- the addresses of the text's classes -/
class ClsMap where
  A : Nat → Addr
variable [CM : ClsMap]

/-! ### heaps that grow -/
def Ex (H H' : Hp) : Prop := ∀ a o, H a = some o → H' a = some o
theorem Ex.refl (H : Hp) : Ex H H := fun _ _ h => h
theorem Ex.trans {H H1 H2 : Hp} (a : Ex H H1) (b : Ex H1 H2) : Ex H H2 := fun x o h => b x o (a x o h)
theorem Ex.new {H : Hp} {p : Addr} {o : HO} (h : H p = none) : Ex H (upd H p o) := fun a u e => by
  rw [upd_ne (ne_of_none e h)]
  exact e
theorem Ex.rd {H H' : Hp} {a : Addr} {u : HO} (e : Ex H H') (h : Rd H a u) : Rd H' a u := by
  rcases h with h | ⟨o, h⟩
  · exact Or.inl (e a _ h)
  · exact Or.inr ⟨o, e a _ h⟩
theorem Ex.sl {K : PySem.W.Frag} {H H' : Hp} {a : Addr} {xs : List V} (e : Ex H H') (h : SqL K H a xs) : SqL K H' a xs := by
  rcases h with h | h
  · exact Or.inl (e.rd h)
  · exact Or.inr h
theorem Ex.st {K : PySem.W.Frag} {H H' : Hp} {a : Addr} {xs : List V} (e : Ex H H') (h : SqT K H a xs) : SqT K H' a xs := by
  rcases h with h | h
  · exact Or.inl (e.rd h)
  · exact Or.inr h
theorem Ex.back {H H' : Hp} {p : Addr} (e : Ex H H') (h : H' p = none) : H p = none := by
  cases h1 : H p with
  | none => rfl
  | some o =>
    rw [e p o h1] at h
    cases h

/-! ### data -/
inductive D where
  | non | bl (b : Bool) | int (i : Int) | str (s : Str)
  | lst (ds : List D) | tup (ds : List D) | dct (kvs : List (Key × D))
  | ins (C : Nat) (fs : List (Str × D))
  | sq (ds : List D) | ty (n : String) | obj (k : Nat)

mutual
inductive AtD (K : PySem.W.Frag) (G : Hp) : V → D → Prop
  | non : AtD K G .non .non
  | bl (b : Bool) : AtD K G (.bl b) (.bl b)
  | int (i : Int) : AtD K G (.int i) (.int i)
  | str (x : Str) : AtD K G (.str x) (.str x)
  | lst {a : Addr} {xs : List V} {ds : List D} : G a = some (.lst xs) → AtDs K G xs ds → AtD K G (.ref a) (.lst ds)
  | sq {a : Addr} {xs : List V} {ds : List D} : SqL K G a xs → AtDs K G xs ds → AtD K G (.ref a) (.sq ds)
  | ty (n : String) : AtD K G (.ty n) (.ty n)
  | obj (k : Nat) : AtD K G (.ref (CM.A k)) (.obj k)
  | tup {a : Addr} {xs : List V} {ds : List D} : SqT K G a xs → AtDs K G xs ds → AtD K G (.ref a) (.tup ds)
  | dct {a : Addr} {kvs : List (Key × V)} {ds : List (Key × D)} : G a = some (.dK kvs) → AtKs K G kvs ds → AtD K G (.ref a) (.dct ds)
  | ins {a dx : Addr} {C : Nat} {fs : List (Str × V)} {ds : List (Str × D)} : G a = some (.ins (CM.A C) dx fs) → AtFs K G fs ds → AtD K G (.ref a) (.ins C ds)
inductive AtDs (K : PySem.W.Frag) (G : Hp) : List V → List D → Prop
  | nil : AtDs K G [] []
  | cons {v : V} {vs : List V} {d : D} {ds : List D} : AtD K G v d → AtDs K G vs ds → AtDs K G (v :: vs) (d :: ds)
inductive AtKs (K : PySem.W.Frag) (G : Hp) : List (Key × V) → List (Key × D) → Prop
  | nil : AtKs K G [] []
  | cons {k : Key} {v : V} {vs : List (Key × V)} {d : D} {ds : List (Key × D)} : AtD K G v d → AtKs K G vs ds → AtKs K G ((k, v) :: vs) ((k, d) :: ds)
inductive AtFs (K : PySem.W.Frag) (G : Hp) : List (Str × V) → List (Str × D) → Prop
  | nil : AtFs K G [] []
  | cons {k : Str} {v : V} {vs : List (Str × V)} {d : D} {ds : List (Str × D)} : AtD K G v d → AtFs K G vs ds → AtFs K G ((k, v) :: vs) ((k, d) :: ds)
end

section
variable {K : PySem.W.Frag} {G G' : Hp}
mutual
theorem AtD.mono (e : Ex G G') : ∀ {v : V} {d : D}, AtD K G v d → AtD K G' v d
  | _, _, .non => .non
  | _, _, .bl b => .bl b
  | _, _, .int b => .int b
  | _, _, .str b => .str b
  | _, _, .lst h hs => .lst (e _ _ h) (AtDs.mono e hs)
  | _, _, .sq h hs => .sq (e.sl h) (AtDs.mono e hs)
  | _, _, .ty n => .ty n
  | _, _, .obj n => .obj n
  | _, _, .tup h hs => .tup (e.st h) (AtDs.mono e hs)
  | _, _, .dct h hs => .dct (e _ _ h) (AtKs.mono e hs)
  | _, _, .ins h hs => .ins (e _ _ h) (AtFs.mono e hs)
theorem AtDs.mono (e : Ex G G') : ∀ {v : List V} {d : List D}, AtDs K G v d → AtDs K G' v d
  | _, _, .nil => .nil
  | _, _, .cons h hs => .cons (AtD.mono e h) (AtDs.mono e hs)
theorem AtKs.mono (e : Ex G G') : ∀ {v : List (Key × V)} {d : List (Key × D)}, AtKs K G v d → AtKs K G' v d
  | _, _, .nil => .nil
  | _, _, .cons h hs => .cons (AtD.mono e h) (AtKs.mono e hs)
theorem AtFs.mono (e : Ex G G') : ∀ {v : List (Str × V)} {d : List (Str × D)}, AtFs K G v d → AtFs K G' v d
  | _, _, .nil => .nil
  | _, _, .cons h hs => .cons (AtD.mono e h) (AtFs.mono e hs)
end
theorem AtDs.len : ∀ {v : List V} {d : List D}, AtDs K G v d → v.length = d.length
  | _, _, .nil => rfl
  | _, _, .cons _ hs => by rw [List.length_cons, List.length_cons, AtDs.len hs]
theorem AtDs.get : ∀ {v : List V} {d : List D} {i : Nat} {x : D}, AtDs K G v d → d[i]? = some x → ∃ u, v[i]? = some u ∧ AtD K G u x
  | _, _, i, _, .nil, e => by simp at e
  | _, _, 0, _, .cons h _, e => by simp at e; subst e; exact ⟨_, rfl, h⟩
  | _, _, i + 1, x, .cons _ hs, e => by
    obtain ⟨u, h1, h2⟩ := AtDs.get (i := i) (x := x) hs (by simpa using e)
    exact ⟨u, by simpa using h1, h2⟩
theorem AtDs.getV : ∀ {v : List V} {d : List D} {i : Nat} {u : V}, AtDs K G v d → v[i]? = some u → ∃ x, d[i]? = some x ∧ AtD K G u x
  | _, _, i, _, .nil, e => by simp at e
  | _, _, 0, _, .cons h _, e => by simp at e; subst e; exact ⟨_, rfl, h⟩
  | _, _, i + 1, x, .cons _ hs, e => by
    obtain ⟨u, h1, h2⟩ := AtDs.getV (i := i) (u := x) hs (by simpa using e)
    exact ⟨u, by simpa using h1, h2⟩
theorem AtDs.append : ∀ {v w : List V} {d e : List D}, AtDs K G v d → AtDs K G w e → AtDs K G (v ++ w) (d ++ e)
  | _, _, _, _, .nil, h => h
  | _, _, _, _, .cons a b, h => .cons a (AtDs.append b h)
theorem AtDs.set : ∀ {v : List V} {d : List D} {u : V} {x : D} (i : Nat), AtDs K G v d → AtD K G u x → AtDs K G (v.set i u) (d.set i x)
  | _, _, _, _, _, .nil, _ => .nil
  | _, _, _, _, 0, .cons _ b, h => .cons h b
  | _, _, _, _, i + 1, .cons a b, h => .cons a (AtDs.set i b h)
theorem AtDs.one {v : V} {d : D} (h : AtD K G v d) : AtDs K G [v] [d] := .cons h .nil
theorem AtDs.drop : ∀ {v : List V} {d : List D} (n : Nat), AtDs K G v d → AtDs K G (v.drop n) (d.drop n)
  | _, _, 0, h => h
  | _, _, _ + 1, .nil => .nil
  | _, _, n + 1, .cons _ b => AtDs.drop n b
theorem AtDs.take : ∀ {v : List V} {d : List D} (n : Nat), AtDs K G v d → AtDs K G (v.take n) (d.take n)
  | _, _, 0, _ => .nil
  | _, _, _ + 1, .nil => .nil
  | _, _, n + 1, .cons a b => .cons a (AtDs.take n b)
theorem AtDs.rev : ∀ {v : List V} {d : List D}, AtDs K G v d → AtDs K G v.reverse d.reverse
  | _, _, .nil => .nil
  | _, _, .cons a b => by rw [List.reverse_cons, List.reverse_cons]; exact (AtDs.rev b).append (.one a)
theorem AtDs.erase : ∀ {v : List V} {d : List D} (i : Nat), AtDs K G v d → AtDs K G (v.eraseIdx i) (d.eraseIdx i)
  | _, _, _, .nil => .nil
  | _, _, 0, .cons _ b => b
  | _, _, i + 1, .cons a b => .cons a (AtDs.erase i b)
theorem AtFs.look : ∀ {fs : List (Str × V)} {ds : List (Str × D)} {f : Str} {x : D}, AtFs K G fs ds → ds.lookup f = some x → ∃ u, fs.lookup f = some u ∧ AtD K G u x
  | _, _, _, _, .nil, e => by simp at e
  | (k, v) :: _, _, f, x, .cons h hs, e => by
    simp only [List.lookup] at e ⊢
    cases hb : f == k with
    | true => rw [hb] at e; cases e; exact ⟨_, rfl, h⟩
    | false => rw [hb] at e; exact AtFs.look hs e
theorem AtFs.none_of : ∀ {fs : List (Str × V)} {ds : List (Str × D)} {f : Str}, AtFs K G fs ds → ds.lookup f = none → fs.lookup f = none
  | _, _, _, .nil, e => rfl
  | (k, v) :: _, _, f, .cons h hs, e => by
    simp only [List.lookup] at e ⊢
    cases hb : f == k with
    | true => rw [hb] at e; cases e
    | false => rw [hb] at e; exact AtFs.none_of hs e
theorem AtKs.len : ∀ {v : List (Key × V)} {d : List (Key × D)}, AtKs K G v d → v.length = d.length
  | _, _, .nil => rfl
  | _, _, .cons _ hs => by rw [List.length_cons, List.length_cons, AtKs.len hs]
end

/-! ### the state -/
/-- a slot, a value: nothing known, data, an owned cell by its number, a caught error -/
inductive Sl where
  | no | dat (d : D) | own (k : Nat) | err (f : Str) (d : D)
inductive Ce where
  | gone | lst (ds : List D) | dct (kvs : List (Key × D)) | ins (C : Nat) (fs : List (Str × Sl))
/-- the frame: the cells that were there, the heap and the public heap at the entry; a caught error and its dict -/
structure Fx where
  P0 : List Addr
  H0 : Hp
  G0 : Hp
  ea : Addr := 0
  ed : Addr := 0
section
variable (K : PySem.W.Frag) (G : Hp) (ps : List Addr)
inductive AtA : V → Sl → Prop
  | dat {v : V} {d : D} : AtD K G v d → AtA v (.dat d)
  | own {p : Addr} {k : Nat} : ps[k]? = some p → AtA (.ref p) (.own k)
inductive AtAs : List V → List Sl → Prop
  | nil : AtAs [] []
  | cons {v : V} {vs : List V} {a : Sl} {as : List Sl} : AtA K G ps v a → AtAs vs as → AtAs (v :: vs) (a :: as)
inductive AtSs : List (Str × V) → List (Str × Sl) → Prop
  | nil : AtSs [] []
  | cons {k : Str} {v : V} {vs : List (Str × V)} {a : Sl} {as : List (Str × Sl)} : AtA K G ps v a → AtSs vs as → AtSs ((k, v) :: vs) ((k, a) :: as)
/-- what stands in a slot: a value, or the error that is caught just now -/
inductive SlAt (ea ed : Addr) : V → Sl → Prop
  | val {v : V} {a : Sl} : AtA K G ps v a → SlAt ea ed v a
  | err {f : Str} {v : V} {d : D} : G ed = some (.xd [(f, v)]) → AtD K G v d → SlAt ea ed (.ref ea) (.err f d)
def CeAt (H : Hp) (p : Addr) : Ce → Prop
  | .gone => True
  | .lst ds => G p = none ∧ ∃ vs, H p = some (.lst vs) ∧ AtDs K G vs ds
  | .dct ds => G p = none ∧ ∃ vs, H p = some (.dK vs) ∧ AtKs K G vs ds
  | .ins C fs => G p = none ∧ ∃ dx vs, H p = some (.ins (CM.A C) dx vs) ∧ AtSs K G ps vs fs
end
section
variable {K : PySem.W.Frag} {G G' : Hp} {ps ps' : List Addr}
theorem pre_get {ps ps' : List Addr} {k : Nat} {p : Addr} (hp : ps <+: ps') (h : ps[k]? = some p) : ps'[k]? = some p := by
  obtain ⟨t, rfl⟩ := hp
  rw [List.getElem?_append_left (List.getElem?_eq_some_iff.mp h).1]
  exact h
theorem AtA.mono (e : Ex G G') (hp : ps <+: ps') : ∀ {v : V} {a : Sl}, AtA K G ps v a → AtA K G' ps' v a
  | _, _, .dat h => .dat (h.mono e)
  | _, _, .own h => .own (pre_get hp h)
theorem AtAs.mono (e : Ex G G') (hp : ps <+: ps') : ∀ {v : List V} {a : List Sl}, AtAs K G ps v a → AtAs K G' ps' v a
  | _, _, .nil => .nil
  | _, _, .cons h t => .cons (h.mono e hp) (AtAs.mono e hp t)
theorem AtSs.mono (e : Ex G G') (hp : ps <+: ps') : ∀ {v : List (Str × V)} {a : List (Str × Sl)}, AtSs K G ps v a → AtSs K G' ps' v a
  | _, _, .nil => .nil
  | _, _, .cons h t => .cons (h.mono e hp) (AtSs.mono e hp t)
theorem SlAt.mono {ea ed : Addr} (e : Ex G G') (hp : ps <+: ps') : ∀ {v : V} {a : Sl}, SlAt K G ps ea ed v a → SlAt K G' ps' ea ed v a
  | _, _, .val h => .val (h.mono e hp)
  | _, _, .err h a => .err (e _ _ h) (a.mono e)
theorem AtSs.look : ∀ {fs : List (Str × V)} {ds : List (Str × Sl)} {f : Str} {x : Sl}, AtSs K G ps fs ds → ds.lookup f = some x → ∃ u, fs.lookup f = some u ∧ AtA K G ps u x
  | _, _, _, _, .nil, e => by simp at e
  | (k, v) :: _, _, f, x, .cons h hs, e => by
    simp only [List.lookup] at e ⊢
    cases hb : f == k with
    | true => rw [hb] at e; cases e; exact ⟨_, rfl, h⟩
    | false => rw [hb] at e; exact AtSs.look hs e
theorem AtSs.none_of : ∀ {fs : List (Str × V)} {ds : List (Str × Sl)} {f : Str}, AtSs K G ps fs ds → ds.lookup f = none → fs.lookup f = none
  | _, _, _, .nil, e => rfl
  | (k, v) :: _, _, f, .cons h hs, e => by
    simp only [List.lookup] at e ⊢
    cases hb : f == k with
    | true => rw [hb] at e; cases e
    | false => rw [hb] at e; exact AtSs.none_of hs e
end
structure SOk (K : PySem.W.Frag) (F : Fx) (G : Hp) (ps : List Addr) (ρ : List Sl) (S : List Ce) (σ : L2.St) (H : Hp) : Prop where
  sub : Ex G H
  base : Ex F.G0 G
  keep : ∀ a o, a ∉ F.P0 → F.H0 a = some o → H a = some o
  new : ∀ a o, G a = some o → F.G0 a = some o ∨ F.H0 a = none
  pre : F.P0 <+: ps
  nd : ps.Nodup
  fresh : ∀ p ∈ ps, p ∈ F.P0 ∨ F.H0 p = none
  there : ∀ p ∈ ps, ∃ o, H p = some o
  plen : ps.length = S.length
  slen : σ.length = ρ.length
  slot : ∀ (i : Nat) (a : Sl), ρ[i]? = some a → a ≠ .no → ∃ v, σ[i]? = some (some v) ∧ SlAt K G ps F.ea F.ed v a
  cell : ∀ (k : Nat) (p : Addr) (c : Ce), ps[k]? = some p → S[k]? = some c → CeAt K G ps H p c
/-- an exception's own dict -/
def ExcAt (K : PySem.W.Frag) (G : Hp) (d : Option Addr) : Option (Str × D) → Prop
  | none => d = none
  | some (f, x) => ∃ a v, d = some a ∧ G a = some (.xd [(f, v)]) ∧ AtD K G v x

/-! ### growth -/
inductive Grow : Hp → Hp → Hp → Hp → Prop
  | refl (G H : Hp) : Grow G H G H
  | step {G H G' H' : Hp} {p : Addr} {u : HO} : H p = none → Grow (upd G p u) (upd H p u) G' H' → Grow G H G' H'
theorem Grow.one {G H : Hp} {p : Addr} {u : HO} (h : H p = none) : Grow G H (upd G p u) (upd H p u) := .step h (.refl _ _)
theorem CeAt.grow {K : PySem.W.Frag} {G G' H H' : Hp} {ps ps' : List Addr} {p : Addr} {c : Ce} (h : CeAt K G ps H p c) (e : Ex G G') (hp : ps <+: ps') (n : G p = none → (∃ o, H p = some o) → G' p = none) (hh : H' p = H p) : CeAt K G' ps' H' p c := by
  cases c with
  | gone => trivial
  | lst ds => obtain ⟨z1, vs, z2, z3⟩ := h; exact ⟨n z1 ⟨_, z2⟩, vs, by rw [hh]; exact z2, z3.mono e⟩
  | dct ds => obtain ⟨z1, vs, z2, z3⟩ := h; exact ⟨n z1 ⟨_, z2⟩, vs, by rw [hh]; exact z2, z3.mono e⟩
  | ins C fs => obtain ⟨z1, dx, vs, z2, z3⟩ := h; exact ⟨n z1 ⟨_, z2⟩, dx, vs, by rw [hh]; exact z2, z3.mono e hp⟩
section
variable {K : PySem.W.Frag} {F : Fx} {G H : Hp} {ps : List Addr} {ρ : List Sl} {S : List Ce} {σ : L2.St}
theorem SOk.more (o : SOk K F G ps ρ S σ H) {p : Addr} {u : HO} (hp : H p = none) : SOk K F G ps ρ S σ (upd H p u) :=
  ⟨fun a v e => (Ex.new hp) _ _ (o.sub a v e), o.base, fun a v n e => (Ex.new hp) _ _ (o.keep a v n e), o.new, o.pre, o.nd, o.fresh, fun q hq => (o.there q hq).imp fun w e => (Ex.new hp) _ _ e, o.plen, o.slen, o.slot, fun i q cl h1 h2 => by
    refine (o.cell i q cl h1 h2).grow (Ex.refl G) (List.prefix_refl _) (fun z _ => z) (upd_ne ?_)
    obtain ⟨w, hw⟩ := o.there q (List.mem_of_getElem? h1)
    exact ne_of_none hw hp⟩
theorem SOk.free0 (o : SOk K F G ps ρ S σ H) {p : Addr} (hp : H p = none) : F.H0 p = none := by
  cases e : F.H0 p with
  | none => rfl
  | some u =>
    by_cases hm : p ∈ F.P0
    · obtain ⟨w, hw⟩ := o.there p (o.pre.subset hm)
      rw [hp] at hw; cases hw
    · have z := o.keep p u hm e
      rw [hp] at z; cases z
theorem SOk.put (o : SOk K F G ps ρ S σ H) {p : Addr} (u : HO) (hp : H p = none) : SOk K F (upd G p u) ps ρ S σ (upd H p u) := by
  have gp : G p = none := o.sub.back hp
  have eg : Ex G (upd G p u) := Ex.new gp
  have eh : Ex H (upd H p u) := Ex.new hp
  refine ⟨fun q w e => ?_, o.base.trans eg, fun q w n e => eh _ _ (o.keep q w n e), fun q w e => ?_, o.pre, o.nd, o.fresh, fun q hq => (o.there q hq).imp fun w e => eh _ _ e, o.plen, o.slen, fun i a h n => ?_, fun i q cl h1 h2 => ?_⟩
  · by_cases hq : q = p
    · subst hq; rw [upd_same] at e ⊢; exact e
    · rw [upd_ne hq] at e ⊢; exact o.sub q w e
  · by_cases hq : q = p
    · subst hq; exact .inr (o.free0 hp)
    · rw [upd_ne hq] at e; exact o.new q w e
  · obtain ⟨v, h1, h2⟩ := o.slot i a h n
    exact ⟨v, h1, h2.mono eg (List.prefix_refl _)⟩
  · have hq : q ≠ p := by
      obtain ⟨w, hw⟩ := o.there q (List.mem_of_getElem? h1)
      exact ne_of_none hw hp
    exact (o.cell i q cl h1 h2).grow eg (List.prefix_refl _) (fun z _ => by rw [upd_ne hq]; exact z) (upd_ne hq)
end
theorem Grow.ex {G H G' H' : Hp} (g : Grow G H G' H') : Ex G H → Ex G G' ∧ Ex H H' ∧ Ex G' H' := by
  induction g with
  | refl G H => exact fun e => ⟨Ex.refl _, Ex.refl _, e⟩
  | @step G H G' H' p u hp _ ih =>
    intro e
    have e1 : Ex (upd G p u) (upd H p u) := fun q w h => by
      by_cases hq : q = p
      · subst hq; rw [upd_same] at h ⊢; exact h
      · rw [upd_ne hq] at h ⊢; exact e q w h
    obtain ⟨a, b, c⟩ := ih e1
    exact ⟨(Ex.new (e.back hp)).trans a, (Ex.new hp).trans b, c⟩
theorem SOk.grow {K : PySem.W.Frag} {F : Fx} {ps : List Addr} {ρ : List Sl} {S : List Ce} {σ : L2.St} {G H G' H' : Hp} (g : Grow G H G' H') : SOk K F G ps ρ S σ H → SOk K F G' ps ρ S σ H' := by
  induction g with
  | refl G H => exact fun o => o
  | step hp _ ih => exact fun o => ih (o.put _ hp)
end Mir

/-! Results, what they promise, the judgements. -/
namespace Mir
open PySem PySem.Spec L2
variable [CM : ClsMap]
inductive RE (α : Type) where
  | ok (a : α) (S : List Ce) | exc (i : Nat) (pl : Option (Str × D)) (S : List Ce) | stuck
inductive RS where
  | nx (ρ : List Sl) (S : List Ce) | rt (r : Sl) (S : List Ce) | bk (ρ : List Sl) (S : List Ce) | ct (ρ : List Sl) (S : List Ce) | exc (i : Nat) (pl : Option (Str × D)) (ρ : List Sl) (S : List Ce) | stuck
def RE.bind {α β : Type} (r : RE α) (g : α → List Ce → RE β) : RE β := match r with
  | .ok a S => g a S
  | .exc i pl S => .exc i pl S
  | .stuck => .stuck
def RE.toS {α : Type} (r : RE α) (ρ : List Sl) (g : α → List Ce → RS) : RS := match r with
  | .ok a S => g a S
  | .exc i pl S => .exc i pl ρ S
  | .stuck => .stuck
def RS.bind (r : RS) (g : List Sl → List Ce → RS) : RS := match r with
  | .nx ρ S => g ρ S
  | .rt a S => .rt a S
  | .bk ρ S => .bk ρ S
  | .ct ρ S => .ct ρ S
  | .exc i pl ρ S => .exc i pl ρ S
  | .stuck => .stuck
omit CM in
@[simp] theorem RE.ok_bind {α β : Type} (a : α) (S : List Ce) (g : α → List Ce → RE β) : (RE.ok a S).bind g = g a S := rfl
omit CM in
@[simp] theorem RE.exc_bind {α β : Type} (i : Nat) (pl : Option (Str × D)) (S : List Ce) (g : α → List Ce → RE β) : (RE.exc i pl S : RE α).bind g = .exc i pl S := rfl
omit CM in
@[simp] theorem RE.stuck_bind {α β : Type} (g : α → List Ce → RE β) : (RE.stuck : RE α).bind g = .stuck := rfl
omit CM in
@[simp] theorem RE.ok_toS {α : Type} (a : α) (S : List Ce) (ρ : List Sl) (g : α → List Ce → RS) : (RE.ok a S).toS ρ g = g a S := rfl
omit CM in
@[simp] theorem RE.exc_toS {α : Type} (i : Nat) (pl : Option (Str × D)) (S : List Ce) (ρ : List Sl) (g : α → List Ce → RS) : (RE.exc i pl S : RE α).toS ρ g = .exc i pl ρ S := rfl
omit CM in
@[simp] theorem RE.stuck_toS {α : Type} (ρ : List Sl) (g : α → List Ce → RS) : (RE.stuck : RE α).toS ρ g = .stuck := rfl
omit CM in
@[simp] theorem RS.nx_bind (ρ : List Sl) (S : List Ce) (g : List Sl → List Ce → RS) : (RS.nx ρ S).bind g = g ρ S := rfl
omit CM in
@[simp] theorem RS.rt_bind (r : Sl) (S : List Ce) (g : List Sl → List Ce → RS) : (RS.rt r S).bind g = .rt r S := rfl
omit CM in
@[simp] theorem RS.bk_bind (ρ : List Sl) (S : List Ce) (g : List Sl → List Ce → RS) : (RS.bk ρ S).bind g = .bk ρ S := rfl
omit CM in
@[simp] theorem RS.ct_bind (ρ : List Sl) (S : List Ce) (g : List Sl → List Ce → RS) : (RS.ct ρ S).bind g = .ct ρ S := rfl
omit CM in
@[simp] theorem RS.exc_bind (i : Nat) (pl : Option (Str × D)) (ρ : List Sl) (S : List Ce) (g : List Sl → List Ce → RS) : (RS.exc i pl ρ S).bind g = .exc i pl ρ S := rfl
omit CM in
@[simp] theorem RS.stuck_bind (g : List Sl → List Ce → RS) : RS.stuck.bind g = .stuck := rfl

/-- where one stands: the context, the frame, what is wished of exceptions -/
structure Cz where
  X : Cx
  F : Fx
  W : WX
  tk : Takes X W
def WE (X : Cx) (e : Expr) : TE := fun σ H Q => ∃ t, PE X e t ∧ t σ H Q
def WT (X : Cx) (e : Expr) : TT := fun σ H Q => ∃ t, PT X e t ∧ t σ H Q
def WW (X : Cx) (e : Expr) : TT := fun σ H Q => ∃ t, PW X e t ∧ t σ H Q
def WA (X : Cx) (es : List Expr) : TA := fun σ H Q => ∃ t, PA X es t ∧ t σ H Q
def WS (X : Cx) (st : Stmt) : TS := fun D σ H => ∃ t, PS X st t ∧ t D σ H
def WSs (X : Cx) (st : List Stmt) : TS := fun D σ H => ∃ t, PSs X st t ∧ t D σ H
def WI (X : Cx) (tg e : Expr) : TI := fun σ H R => ∃ wi, PI X tg e wi ∧ wi σ H R
omit CM in
section
variable {X : Cx} {e tg : Expr} {es : List Expr} {st : Stmt} {sts : List Stmt}
theorem we_pe : PE X e (WE X e) := ⟨fun pins s σ H Q I ⟨t, h, q⟩ => h.run pins s σ H Q I q⟩
theorem wt_pt : PT X e (WT X e) := ⟨fun pins s σ H Q I ⟨t, h, q⟩ => h.run pins s σ H Q I q⟩
theorem ww_pw : PW X e (WW X e) := ⟨fun wh pins s σ H Q I ⟨t, h, q⟩ => h.run wh pins s σ H Q I q⟩
theorem wa_pa : PA X es (WA X es) := ⟨fun pos pins s σ H Q I ⟨t, h, q⟩ => h.run pos pins s σ H Q I q⟩
theorem ws_ps : PS X st (WS X st) := ⟨fun pins s σ H D I ⟨t, h, q⟩ => h.run pins s σ H D I q⟩
theorem wss_pss : PSs X sts (WSs X sts) := ⟨fun pins s σ H D I ⟨t, h, q⟩ => h.run pins s σ H D I q⟩
theorem wi_pi : PI X tg e (WI X tg e) := ⟨fun pins s σ H R I ⟨wi, h, q⟩ => h.run pins s σ H R I q⟩
end
section
variable (c : Cz)
/-- what a result promises: R tells how a value of the machine is the result's -/
def Sat {α β : Type} (G : Hp) (ps : List Addr) (ρ : List Sl) (σ : L2.St) (R : Hp → Hp → List Addr → β → α → Prop) (k : β → Hp → Prop) : RE α → Prop
  | .ok r S' => ∀ v G' ps' H', SOk c.X.K c.F G' ps' ρ S' σ H' → Ex G G' → ps <+: ps' → R G' H' ps' v r → k v H'
  | .exc i pl S' => ∀ dd G' ps' H', SOk c.X.K c.F G' ps' ρ S' σ H' → Ex G G' → ps <+: ps' → ExcAt c.X.K G' dd pl → c.W (.ref (CM.A i)) dd σ H'
  | .stuck => False
def SatS (G : Hp) (ps : List Addr) (E : Ends) : RS → Prop
  | .nx ρ S => ∀ σ G' ps' H, SOk c.X.K c.F G' ps' ρ S σ H → Ex G G' → ps <+: ps' → E.nx σ H
  | .rt r S => ∀ v ρ σ G' ps' H, SOk c.X.K c.F G' ps' ρ S σ H → Ex G G' → ps <+: ps' → AtA c.X.K G' ps' v r → E.rt v H
  | .bk ρ S => ∀ σ G' ps' H, SOk c.X.K c.F G' ps' ρ S σ H → Ex G G' → ps <+: ps' → E.bk σ H
  | .ct ρ S => ∀ σ G' ps' H, SOk c.X.K c.F G' ps' ρ S σ H → Ex G G' → ps <+: ps' → E.ct σ H
  | .exc i pl ρ S => ∀ σ dd G' ps' H, SOk c.X.K c.F G' ps' ρ S σ H → Ex G G' → ps <+: ps' → ExcAt c.X.K G' dd pl → c.W (.ref (CM.A i)) dd σ H
  | .stuck => False
def RA : Hp → Hp → List Addr → V → Sl → Prop := fun G _ ps v r => AtA c.X.K G ps v r
def RAs : Hp → Hp → List Addr → List V → List Sl → Prop := fun G _ ps v r => AtAs c.X.K G ps v r
omit CM in
def RB : Hp → Hp → List Addr → Bool → Bool → Prop := fun _ _ _ v r => v = r
abbrev ME := List Sl → List Ce → RE Sl
abbrev MT := List Sl → List Ce → RE Bool
abbrev MA' := List Sl → List Ce → RE (List Sl)
abbrev MS := List Sl → List Ce → RS
def DE (e : Expr) (f : ME) : Prop := ∀ ρ S σ G ps H k, SOk c.X.K c.F G ps ρ S σ H → Sat c G ps ρ σ (RA c) k (f ρ S) → WE c.X e σ H k
def DT (e : Expr) (f : MT) : Prop := ∀ ρ S σ G ps H k, SOk c.X.K c.F G ps ρ S σ H → Sat c G ps ρ σ RB k (f ρ S) → WT c.X e σ H k
def DW (e : Expr) (f : MT) : Prop := ∀ ρ S σ G ps H k, SOk c.X.K c.F G ps ρ S σ H → Sat c G ps ρ σ RB k (f ρ S) → WW c.X e σ H k
def DA (es : List Expr) (f : MA') : Prop := ∀ ρ S σ G ps H k, SOk c.X.K c.F G ps ρ S σ H → Sat c G ps ρ σ (RAs c) k (f ρ S) → WA c.X es σ H k
def DS (sts : List Stmt) (g : MS) : Prop := ∀ ρ S σ G ps H E, SOk c.X.K c.F G ps ρ S σ H → SatS c G ps E (g ρ S) → WSs c.X sts E σ H
def D1 (st : Stmt) (g : MS) : Prop := ∀ ρ S σ G ps H E, SOk c.X.K c.F G ps ρ S σ H → SatS c G ps E (g ρ S) → WS c.X st E σ H
end
section
variable {c : Cz} {G G1 : Hp} {ps ps1 : List Addr} {ρ : List Sl} {S : List Ce} {σ : L2.St} {H : Hp} {α β γ δ : Type} {R : Hp → Hp → List Addr → β → α → Prop} {R' : Hp → Hp → List Addr → δ → γ → Prop} {k : β → Hp → Prop} {k' : δ → Hp → Prop} {E : Ends}
theorem Sat.mono {r : RE α} (h : Sat c G ps ρ σ R k r) (e : Ex G G1) (p : ps <+: ps1) : Sat c G1 ps1 ρ σ R k r := by
  cases r with
  | ok r S => exact fun v G' ps' H' o e' p' a => h v G' ps' H' o (e.trans e') (p.trans p') a
  | exc i pl S => exact fun dd G' ps' H' o e' p' a => h dd G' ps' H' o (e.trans e') (p.trans p') a
  | stuck => exact h
theorem SatS.mono {r : RS} (h : SatS c G ps E r) (e : Ex G G1) (p : ps <+: ps1) : SatS c G1 ps1 E r := by
  cases r with
  | nx r S => exact fun σ G' ps' H' o e' p' => h σ G' ps' H' o (e.trans e') (p.trans p')
  | bk r S => exact fun σ G' ps' H' o e' p' => h σ G' ps' H' o (e.trans e') (p.trans p')
  | ct r S => exact fun σ G' ps' H' o e' p' => h σ G' ps' H' o (e.trans e') (p.trans p')
  | rt r S => exact fun v ρ σ G' ps' H' o e' p' a => h v ρ σ G' ps' H' o (e.trans e') (p.trans p') a
  | exc i pl r S => exact fun σ dd G' ps' H' o e' p' a => h σ dd G' ps' H' o (e.trans e') (p.trans p') a
  | stuck => exact h
theorem Sat.bind {r : RE α} {g : α → List Ce → RE γ} (h : Sat c G ps ρ σ R' k' (r.bind g))
    (st : ∀ x S1 v G1 ps1 H1, SOk c.X.K c.F G1 ps1 ρ S1 σ H1 → Ex G G1 → ps <+: ps1 → R G1 H1 ps1 v x → Sat c G1 ps1 ρ σ R' k' (g x S1) → k v H1) : Sat c G ps ρ σ R k r := by
  cases r with
  | ok r S => exact fun v G' ps' H' o e p a => st r S v G' ps' H' o e p a (Sat.mono h e p)
  | exc i pl S => exact h
  | stuck => exact h
theorem Sat.ok {r : α} {v : β} (h : Sat c G ps ρ σ R k (.ok r S)) (o : SOk c.X.K c.F G ps ρ S σ H) (a : R G H ps v r) : k v H := h v G ps H o (Ex.refl G) (List.prefix_refl _) a
/-- the same result, asked for otherwise -/
theorem Sat.imp {r : RE α} (h : Sat c G ps ρ σ R k r) {R2 : Hp → Hp → List Addr → δ → α → Prop} (st : ∀ x S1 v G1 ps1 H1, SOk c.X.K c.F G1 ps1 ρ S1 σ H1 → Ex G G1 → ps <+: ps1 → R2 G1 H1 ps1 v x → Sat c G1 ps1 ρ σ R k (.ok x S1) → k' v H1) : Sat c G ps ρ σ R2 k' r := by
  cases r with
  | ok r S => exact fun v G' ps' H' o e p a => st r S v G' ps' H' o e p a (Sat.mono h e p)
  | exc i pl S => exact h
  | stuck => exact h
theorem Sat.toS {r : RE α} {g : α → List Ce → RS} (h : SatS c G ps E (r.toS ρ g))
    (st : ∀ x S1 v G1 ps1 H1, SOk c.X.K c.F G1 ps1 ρ S1 σ H1 → Ex G G1 → ps <+: ps1 → R G1 H1 ps1 v x → SatS c G1 ps1 E (g x S1) → k v H1) : Sat c G ps ρ σ R k r := by
  cases r with
  | ok r S => exact fun v G' ps' H' o e p a => st r S v G' ps' H' o e p a (SatS.mono h e p)
  | exc i pl S => exact fun dd G' ps' H' o e p a => h σ dd G' ps' H' o e p a
  | stuck => exact h
theorem SatS.nx' (h : SatS c G ps E (.nx ρ S)) (o : SOk c.X.K c.F G ps ρ S σ H) : E.nx σ H := h σ G ps H o (Ex.refl G) (List.prefix_refl _)
/-- the first of two -/
theorem SatS.bind {r : RS} {g : List Sl → List Ce → RS} (h : SatS c G ps E (r.bind g)) {M : L2.St → Hp → Prop}
    (st : ∀ ρ1 S1 σ1 G1 ps1 H1, SOk c.X.K c.F G1 ps1 ρ1 S1 σ1 H1 → Ex G G1 → ps <+: ps1 → SatS c G1 ps1 E (g ρ1 S1) → M σ1 H1) : SatS c G ps { E with nx := M } r := by
  cases r with
  | nx r S => exact fun σ G' ps' H' o e p => st r S σ G' ps' H' o e p (SatS.mono h e p)
  | bk r S => exact h
  | ct r S => exact h
  | rt r S => exact h
  | exc i pl r S => exact h
  | stuck => exact h
end
/-! ### looking at a cell as data -/
omit CM in
def datFs : List (Str × Sl) → Option (List (Str × D))
  | [] => some []
  | (f, .dat d) :: r => (datFs r).map ((f, d) :: ·)
  | _ :: _ => none
omit CM in
def ceD : Ce → Option D
  | .lst ds => some (.lst ds)
  | .dct ds => some (.dct ds)
  | .ins C fs => (datFs fs).map (.ins C)
  | .gone => none
omit CM in
def vw (r : Sl) (S : List Ce) : Option D := match r with
  | .dat d => some d
  | .own j => (S[j]?).bind ceD
  | _ => none
omit CM in
@[simp] theorem vw_dat (d : D) (S : List Ce) : vw (.dat d) S = some d := rfl
inductive TopD (K : PySem.W.Frag) (G H : Hp) : V → D → Prop
  | dat {v : V} {d : D} : AtD K G v d → TopD K G H v d
  | lst {a : Addr} {vs : List V} {ds : List D} : H a = some (.lst vs) → AtDs K G vs ds → TopD K G H (.ref a) (.lst ds)
  | dct {a : Addr} {vs : List (Key × V)} {ds : List (Key × D)} : H a = some (.dK vs) → AtKs K G vs ds → TopD K G H (.ref a) (.dct ds)
  | ins {a dx : Addr} {C : Nat} {vs : List (Str × V)} {ds : List (Str × D)} : H a = some (.ins (CM.A C) dx vs) → AtFs K G vs ds → TopD K G H (.ref a) (.ins C ds)
section
variable {K : PySem.W.Frag} {G H : Hp} {F : Fx} {ps : List Addr} {ρ : List Sl} {S : List Ce} {σ : L2.St}
theorem datFs_at : ∀ {fs : List (Str × Sl)} {vs : List (Str × V)} {ds : List (Str × D)}, AtSs K G ps vs fs → datFs fs = some ds → AtFs K G vs ds
  | _, _, _, .nil, e => by cases e; exact .nil
  | (f, .dat d) :: r, _, ds, .cons (.dat a) t, e => by
    unfold datFs at e
    cases q : datFs r with
    | none => rw [q] at e; cases e
    | some xs => rw [q] at e; cases e; exact .cons a (datFs_at t q)
  | (f, .own d) :: r, _, ds, .cons _ t, e => by cases e
theorem ceD_ok {p : Addr} {cl : Ce} {d : D} (z : CeAt K G ps H p cl) (e : ceD cl = some d) : TopD K G H (.ref p) d := by
  cases cl with
  | gone => cases e
  | lst ds => cases e; obtain ⟨_, vs, h2, h3⟩ := z; exact .lst h2 h3
  | dct ds => cases e; obtain ⟨_, vs, h2, h3⟩ := z; exact .dct h2 h3
  | ins C fs =>
    obtain ⟨_, dx, vs, h2, h3⟩ := z
    have e : (datFs fs).map (D.ins C) = some d := e
    cases q : datFs fs with
    | none => rw [q] at e; cases e
    | some xs => rw [q] at e; cases e; exact .ins h2 (datFs_at h3 q)
theorem vw_ok (o : SOk K F G ps ρ S σ H) {v : V} {r : Sl} {d : D} (a : AtA K G ps v r) (e : vw r S = some d) : TopD K G H v d := by
  cases a with
  | dat a => cases e; exact .dat a
  | @own p j a =>
    unfold vw at e
    dsimp only at e
    cases q : S[j]? with
    | none => rw [q] at e; cases e
    | some cl => rw [q] at e; exact ceD_ok (o.cell j p cl a q) e
theorem TopD.atH (h : TopD K G H v d) (e : Ex G H) : AtD K H v d := by
  cases h with
  | dat a => exact a.mono e
  | lst h hs => exact .lst h (hs.mono e)
  | dct h hs => exact .dct h (hs.mono e)
  | ins h hs => exact .ins h (hs.mono e)
theorem TopD.int_ {v : V} {i : Int} (h : TopD K G H v (.int i)) : v = .int i := by cases h with | dat a => cases a; rfl
theorem TopD.bl_ {v : V} {i : Bool} (h : TopD K G H v (.bl i)) : v = .bl i := by cases h with | dat a => cases a; rfl
theorem TopD.str_ {v : V} {i : Str} (h : TopD K G H v (.str i)) : v = .str i := by cases h with | dat a => cases a; rfl
theorem TopD.non_ {v : V} (h : TopD K G H v .non) : v = .non := by cases h with | dat a => cases a; rfl
theorem TopD.ty_ {v : V} {n : String} (h : TopD K G H v (.ty n)) : v = .ty n := by cases h with | dat a => cases a; rfl
theorem TopD.lst_ {v : V} {ds : List D} (h : TopD K G H v (.lst ds)) (e : Ex G H) : ∃ a vs, v = .ref a ∧ H a = some (.lst vs) ∧ AtDs K G vs ds := by
  cases h with
  | dat a => cases a with | lst h hs => exact ⟨_, _, rfl, e _ _ h, hs⟩
  | lst h hs => exact ⟨_, _, rfl, h, hs⟩
theorem TopD.tup_ {v : V} {ds : List D} (h : TopD K G H v (.tup ds)) (e : Ex G H) : ∃ a vs, v = .ref a ∧ SqT K H a vs ∧ SqT K G a vs ∧ AtDs K G vs ds := by
  cases h with
  | dat a => cases a with | tup h hs => exact ⟨_, _, rfl, e.st h, h, hs⟩
theorem TopD.sq_ {v : V} {ds : List D} (h : TopD K G H v (.sq ds)) (e : Ex G H) : ∃ a vs, v = .ref a ∧ SqL K H a vs ∧ AtDs K G vs ds := by
  cases h with
  | dat a => cases a with | sq h hs => exact ⟨_, _, rfl, e.sl h, hs⟩
theorem TopD.dct_ {v : V} {ds : List (Key × D)} (h : TopD K G H v (.dct ds)) (e : Ex G H) : ∃ a vs, v = .ref a ∧ H a = some (.dK vs) ∧ AtKs K G vs ds := by
  cases h with
  | dat a => cases a with | dct h hs => exact ⟨_, _, rfl, e _ _ h, hs⟩
  | dct h hs => exact ⟨_, _, rfl, h, hs⟩
theorem TopD.ins_ {v : V} {C : Nat} {ds : List (Str × D)} (h : TopD K G H v (.ins C ds)) (e : Ex G H) : ∃ a dx vs, v = .ref a ∧ H a = some (.ins (CM.A C) dx vs) ∧ AtFs K G vs ds := by
  cases h with
  | dat a => cases a with | ins h hs => exact ⟨_, _, _, rfl, e _ _ h, hs⟩
  | ins h hs => exact ⟨_, _, _, rfl, h, hs⟩
end
end Mir

/-! Expressions, tests, arguments. -/
namespace Mir
open PySem PySem.Spec L2
variable [CM : ClsMap]
/-! ### the mirror's words -/
omit CM in
section
def mVar (i : Nat) : ME := fun ρ S => match ρ[i]? with
  | some (.dat d) => .ok (.dat d) S
  | some (.own j) => .ok (.own j) S
  | _ => .stuck
def mK (d : D) : ME := fun _ S => .ok (.dat d) S
/-- what an operator makes of data -/
def ofO {α : Type} (o : Option α) (S : List Ce) : RE α := match o with
  | some d => .ok d S
  | none => .stuck
@[simp] theorem ofO_some {α : Type} (d : α) (S : List Ce) : ofO (some d) S = .ok d S := rfl
@[simp] theorem ofO_none {α : Type} (S : List Ce) : ofO (none : Option α) S = .stuck := rfl
def dat' (o : Option D) (S : List Ce) : RE Sl := match o with
  | some d => .ok (.dat d) S
  | none => .stuck
@[simp] theorem dat'_some (d : D) (S : List Ce) : dat' (some d) S = .ok (.dat d) S := rfl
@[simp] theorem dat'_none (S : List Ce) : dat' none S = .stuck := rfl
def op1 (f : D → Option D) (x : Sl) (S : List Ce) : RE Sl := dat' ((vw x S).bind f) S
def op2 (f : D → D → Option D) (x y : Sl) (S : List Ce) : RE Sl := dat' ((vw x S).bind fun a => (vw y S).bind (f a)) S
@[simp] theorem op1_dat (f : D → Option D) (d : D) (S : List Ce) : op1 f (.dat d) S = dat' (f d) S := rfl
@[simp] theorem op2_dat (f : D → D → Option D) (d e : D) (S : List Ce) : op2 f (.dat d) (.dat e) S = dat' (f d e) S := rfl
def mOp (f : D → D → Option D) (a b : ME) : ME := fun ρ S => (a ρ S).bind fun x S1 => (b ρ S1).bind fun y S2 => op2 f x y S2
def mUn (f : D → Option D) (a : ME) : ME := fun ρ S => (a ρ S).bind fun x S1 => op1 f x S1
/-- a value's truth, of data -/
def truD : D → Option Bool
  | .non => some false
  | .bl b => some b
  | .int i => some (i != 0)
  | .lst ds => some (!ds.isEmpty)
  | .sq ds => some (!ds.isEmpty)
  | .tup ds => some (!ds.isEmpty)
  | .dct ds => some (!ds.isEmpty)
  | .str s => if s.length ≤ sizeLine then some ((s.length : Int) != 0) else none
  | _ => none
def truS (x : Sl) (S : List Ce) : Option Bool := (vw x S).bind truD
@[simp] theorem truS_dat (d : D) (S : List Ce) : truS (.dat d) S = truD d := rfl
def mAnd (a b : ME) : ME := fun ρ S => (a ρ S).bind fun x S1 => match truS x S1 with
  | some true => b ρ S1
  | some false => .ok x S1
  | none => .stuck
def mOr (a b : ME) : ME := fun ρ S => (a ρ S).bind fun x S1 => match truS x S1 with
  | some false => b ρ S1
  | some true => .ok x S1
  | none => .stuck
def mNot (a : ME) : ME := fun ρ S => (a ρ S).bind fun x S1 => match truS x S1 with
  | some t => .ok (.dat (.bl !t)) S1
  | none => .stuck
def mIf (t : MT) (a b : ME) : ME := fun ρ S => (t ρ S).bind fun x S1 => bif x then a ρ S1 else b ρ S1
def mChain (f g : D → D → Option D) (a b d : ME) : ME := fun ρ S => (a ρ S).bind fun x S1 => (b ρ S1).bind fun y S2 =>
  (op2 f x y S2).bind fun z S3 => match z with
    | .dat (.bl true) => (d ρ S3).bind fun u S4 => op2 g y u S4
    | .dat (.bl false) => .ok (.dat (.bl false)) S3
    | _ => .stuck
/-! tests -/
def tTru (a : ME) : MT := fun ρ S => (a ρ S).bind fun x S1 => ofO (truS x S1) S1
def asB : RE Sl → RE Bool
  | .ok (.dat (.bl t)) S => .ok t S
  | .ok _ _ => .stuck
  | .exc i pl S => .exc i pl S
  | .stuck => .stuck
@[simp] theorem asB_ok (t : Bool) (S : List Ce) : asB (.ok (.dat (.bl t)) S) = .ok t S := rfl
def tOf (a : ME) : MT := fun ρ S => asB (a ρ S)
def tAnd (a b : MT) : MT := fun ρ S => (a ρ S).bind fun x S1 => bif x then b ρ S1 else .ok false S1
def tOr (a b : MT) : MT := fun ρ S => (a ρ S).bind fun x S1 => bif x then .ok true S1 else b ρ S1
def tNot (a : MT) : MT := fun ρ S => (a ρ S).bind fun x S1 => .ok (!x) S1
/-! arguments -/
def aNil : MA' := fun _ S => .ok [] S
def aCons (a : ME) (b : MA') : MA' := fun ρ S => (a ρ S).bind fun x S1 => (b ρ S1).bind fun xs S2 => .ok (x :: xs) S2
def datas : List Sl → Option (List D)
  | [] => some []
  | .dat d :: r => (datas r).map (d :: ·)
  | _ :: _ => none
def vws : List Sl → List Ce → Option (List D)
  | [], _ => some []
  | x :: r, S => (vw x S).bind fun d => (vws r S).map (d :: ·)
def opN (f : List D → Option D) (xs : List Sl) (S : List Ce) : RE Sl := dat' ((vws xs S).bind f) S
def mTup (a : MA') : ME := fun ρ S => (a ρ S).bind fun xs S1 => match datas xs with
  | some ds => if ds.length ≤ 1000 then .ok (.dat (.tup ds)) S1 else .stuck
  | none => .stuck
def mLst (a : MA') : ME := fun ρ S => (a ρ S).bind fun xs S1 => match datas xs with
  | some ds => if ds.length ≤ 1000 then .ok (.dat (.lst ds)) S1 else .stuck
  | none => .stuck
/-- .. as a cell of its own -/
def mLstO (a : MA') : ME := fun ρ S => (a ρ S).bind fun xs S1 => match datas xs with
  | some ds => if ds.length ≤ 1000 then .ok (.own S1.length) (S1 ++ [.lst ds]) else .stuck
  | none => .stuck
def mBlt (f : List D → Option D) (a : MA') : ME := fun ρ S => (a ρ S).bind fun xs S1 => opN f xs S1
end
/-- a module's constant whose data stand in the written part -/
def KonD (K : PySem.W.Frag) (mg : Str → Option Value) (x : Str) (d : D) : Prop := ∃ u v, mg x = some u ∧ RelV v u ∧ ∀ G, AtD K G v d
def RD2 (K : PySem.W.Frag) (r : R2) (f : D → D → Option D) : Prop := ∀ (G H : Hp) (x y : V) (k : VK) (d1 d2 d : D), Ex G H → TopD K G H x d1 → TopD K G H y d2 → f d1 d2 = some d → (∀ z G' H', Grow G H G' H' → AtD K G' z d → k z H') → r x y H k
def RD1 (K : PySem.W.Frag) (r : V → Hp → VK → Prop) (f : D → Option D) : Prop := ∀ (G H : Hp) (x : V) (k : VK) (d1 d : D), Ex G H → TopD K G H x d1 → f d1 = some d → (∀ z G' H', Grow G H G' H' → AtD K G' z d → k z H') → r x H k
inductive TopDs (K : PySem.W.Frag) (G H : Hp) : List V → List D → Prop
  | nil : TopDs K G H [] []
  | cons {v : V} {vs : List V} {d : D} {ds : List D} : TopD K G H v d → TopDs K G H vs ds → TopDs K G H (v :: vs) (d :: ds)
def RDN (K : PySem.W.Frag) (r : List V → Hp → VK → Prop) (f : List D → Option D) : Prop := ∀ (G H : Hp) (xs : List V) (k : VK) (ds : List D) (d : D), Ex G H → TopDs K G H xs ds → f ds = some d → (∀ z G' H', Grow G H G' H' → AtD K G' z d → k z H') → r xs H k
theorem AtDs.emp {K : PySem.W.Frag} {G : Hp} {v : List V} {d : List D} (h : AtDs K G v d) : v.isEmpty = d.isEmpty := by
  cases h <;> rfl
theorem AtKs.emp {K : PySem.W.Frag} {G : Hp} {v : List (Key × V)} {d : List (Key × D)} (h : AtKs K G v d) : v.isEmpty = d.isEmpty := by
  cases h <;> rfl
theorem truD_ok {K : PySem.W.Frag} {G H : Hp} {v : V} {d : D} {b : Bool} (g : Ex G H) (h : TopD K G H v d) (e : truD d = some b) : TruV K v H b := by
  cases d with
  | non => cases e; rw [h.non_] <;> rfl
  | bl b => cases e; rw [h.bl_] <;> rfl
  | int i => cases e; rw [h.int_] <;> rfl
  | str s =>
    rw [h.str_]
    have e : (if s.length ≤ sizeLine then some ((s.length : Int) != 0) else none) = some b := e
    by_cases hs : s.length ≤ sizeLine
    · rw [if_pos hs] at e; cases e; exact ⟨hs, rfl⟩
    · rw [if_neg hs] at e; cases e
  | lst ds => cases e; obtain ⟨a, vs, rfl, h1, h2⟩ := h.lst_ g; exact .inl ⟨_, SqL.of h1, by rw [h2.emp]⟩
  | sq ds => cases e; obtain ⟨a, vs, rfl, h1, h2⟩ := h.sq_ g; exact .inl ⟨_, h1, by rw [h2.emp]⟩
  | tup ds => cases e; obtain ⟨a, vs, rfl, h1, _, h2⟩ := h.tup_ g; exact .inr (.inl ⟨_, h1, by rw [h2.emp]⟩)
  | dct ds => cases e; obtain ⟨a, vs, rfl, h1, h2⟩ := h.dct_ g; exact .inr (.inr ⟨_, h1, by rw [h2.emp]⟩)
  | ins _ _ => cases e
  | ty _ => cases e
  | obj _ => cases e
section
variable {c : Cz} {G : Hp} {ps : List Addr} {ρ : List Sl} {S : List Ce} {σ : L2.St} {H : Hp} {k : VK}
theorem sat_dat {o : Option D} (h : Sat c G ps ρ σ (RA c) k (dat' o S)) (ok : SOk c.X.K c.F G ps ρ S σ H) {T : Prop} (st : ∀ d, o = some d → (∀ z G' H', Grow G H G' H' → AtD c.X.K G' z d → k z H') → T) : T := by
  cases o with
  | none => exact h.elim
  | some d => exact st d rfl fun z G' H' g a => h z G' ps H' (ok.grow g) (g.ex ok.sub).1 (List.prefix_refl _) (.dat a)
theorem sat_op2 {f : D → D → Option D} {x y : Sl} {v u : V} {r : R2} (hr : RD2 c.X.K r f) (h : Sat c G ps ρ σ (RA c) k (op2 f x y S)) (o : SOk c.X.K c.F G ps ρ S σ H) (a : AtA c.X.K G ps v x) (b : AtA c.X.K G ps u y) : r v u H k := by
  unfold op2 at h
  cases e1 : vw x S with
  | none => rw [e1] at h; exact h.elim
  | some d1 =>
    cases e2 : vw y S with
    | none => rw [e1, e2] at h; exact h.elim
    | some d2 =>
      rw [e1, e2] at h
      exact sat_dat h o fun d ed kk => hr G H v u k d1 d2 d o.sub (vw_ok o a e1) (vw_ok o b e2) ed kk
theorem sat_op1 {f : D → Option D} {x : Sl} {v : V} {r : V → Hp → VK → Prop} (hr : RD1 c.X.K r f) (h : Sat c G ps ρ σ (RA c) k (op1 f x S)) (o : SOk c.X.K c.F G ps ρ S σ H) (a : AtA c.X.K G ps v x) : r v H k := by
  unfold op1 at h
  cases e1 : vw x S with
  | none => rw [e1] at h; exact h.elim
  | some d1 =>
    rw [e1] at h
    exact sat_dat h o fun d ed kk => hr G H v k d1 d o.sub (vw_ok o a e1) ed kk
theorem vws_ok (o : SOk c.X.K c.F G ps ρ S σ H) : ∀ {vs : List V} {xs : List Sl} {ds : List D}, AtAs c.X.K G ps vs xs → vws xs S = some ds → TopDs c.X.K G H vs ds
  | _, _, _, .nil, e => by cases e; exact .nil
  | _ :: _, x :: r, ds, .cons a t, e => by
    unfold vws at e
    cases e1 : vw x S with
    | none => rw [e1] at e; cases e
    | some d =>
      cases e2 : vws r S with
      | none => rw [e1, e2] at e; cases e
      | some dr => rw [e1, e2] at e; cases e; exact .cons (vw_ok o a e1) (vws_ok o t e2)
theorem sat_opN {f : List D → Option D} {xs : List Sl} {vs : List V} {r : List V → Hp → VK → Prop} (hr : RDN c.X.K r f) (h : Sat c G ps ρ σ (RA c) k (opN f xs S)) (o : SOk c.X.K c.F G ps ρ S σ H) (a : AtAs c.X.K G ps vs xs) : r vs H k := by
  unfold opN at h
  cases e1 : vws xs S with
  | none => rw [e1] at h; exact h.elim
  | some d1 =>
    rw [e1] at h
    exact sat_dat h o fun d ed kk => hr G H vs k d1 d o.sub (vws_ok o a e1) ed kk
theorem truS_ok (o : SOk c.X.K c.F G ps ρ S σ H) {v : V} {x : Sl} {b : Bool} (a : AtA c.X.K G ps v x) (e : truS x S = some b) : TruV c.X.K v H b := by
  unfold truS at e
  cases e1 : vw x S with
  | none => rw [e1] at e; cases e
  | some d => rw [e1] at e; exact truD_ok o.sub (vw_ok o a e1) e
theorem AtAs.toDs {K : PySem.W.Frag} {G : Hp} {ps : List Addr} : ∀ {vs : List V} {as : List Sl} {ds : List D}, AtAs K G ps vs as → datas as = some ds → AtDs K G vs ds
  | _, _, _, .nil, e => by cases e; exact .nil
  | _ :: vs, .dat d :: as, ds, .cons (.dat h) t, e => by
    unfold datas at e
    cases q : datas as with
    | none => rw [q] at e; cases e
    | some ds => rw [q] at e; cases e; exact .cons h (AtAs.toDs t q)
  | _, _, _, .cons (.own h) t, e => by cases e
end
/-! ### the rules -/
section
variable {c : Cz} {a b d e t : Expr} {es : List Expr} {pos : Pos} {f g h : ME} {ft gt : MT} {fa : MA'}
theorem de_var (i : Nat) {x : Str} (hN : c.X.N[i]? = some x := by rfl) (hv : Vis c.X.env.scope x := by first | exact Or.inl rfl | exact Or.inr (Or.inl rfl) | exact Or.inr (Or.inr rfl))
    (h1 : (x == ("__debug__" : Str)) = false := by decide) (h2 : (x == ("__classdict__" : Str)) = false := by decide) : DE c (.Name x pos) (mVar i) := fun ρ S σ G ps H k o q => by
  unfold mVar at q
  cases e : ρ[i]? with
  | none => rw [e] at q; exact q.elim
  | some a =>
    rw [e] at q
    cases a with
    | no => exact q.elim
    | err _ _ => exact q.elim
    | dat d => obtain ⟨v, hs, hv'⟩ := o.slot i _ e (fun z => nomatch z); cases hv' with | val hv' => exact ⟨_, pe_var hN hv h1 h2, v, hs, q.ok o hv'⟩
    | own d => obtain ⟨v, hs, hv'⟩ := o.slot i _ e (fun z => nomatch z); cases hv' with | val hv' => exact ⟨_, pe_var hN hv h1 h2, v, hs, q.ok o hv'⟩
theorem de_int {i : Int} {j : Nat} : DE c (.Constant (.int i) j pos) (mK (.int i)) := fun ρ S σ G ps H k o q => ⟨_, pe_int, q.ok o (AtA.dat (.int i))⟩
theorem de_bl {i : Bool} {j : Nat} : DE c (.Constant (.bool i) j pos) (mK (.bl i)) := fun ρ S σ G ps H k o q => ⟨_, pe_bl, q.ok o (AtA.dat (.bl i))⟩
theorem de_non {j : Nat} : DE c (.Constant .none j pos) (mK .non) := fun ρ S σ G ps H k o q => ⟨_, pe_non, q.ok o (AtA.dat .non)⟩
theorem de_str {i : Str} {j : Nat} : DE c (.Constant (.str i) j pos) (mK (.str i)) := fun ρ S σ G ps H k o q => ⟨_, pe_str, q.ok o (AtA.dat (.str i))⟩
theorem de_glob {x : Str} {d : D} (h : KonD c.X.K c.X.mg x d) (hg : Gl c.X x := by rfl) (hd : (x == ("__debug__" : Str)) = false := by decide) : DE c (.Name x pos) (mK d) := fun ρ S σ G ps H k o q => by
  obtain ⟨u, v, h1, h2, h3⟩ := h
  exact ⟨_, pe_glob hg h1 h2 hd, q.ok o (AtA.dat (h3 G))⟩
theorem de_ty {x : Str} {n : String} (hm : c.X.mg x = none) (hv : bootBuiltins x = some (.type n)) (hg : Gl c.X x := by rfl) (hn : x ≠ "__name__" := by decide) (hd : (x == ("__debug__" : Str)) = false := by decide) : DE c (.Name x pos) (mK (.ty n)) := fun ρ S σ G ps H k o q =>
  ⟨_, pe_bltn (v := .ty n) hg hm hv rfl hn hd, q.ok o (AtA.dat (.ty n))⟩
theorem de_op {op : Operator} {r : R2} {u : D → D → Option D} (ho : OpR c.X (binaryOp op) r) (hr : RD2 c.X.K r u) (ha : DE c a f) (hb : DE c b g) : DE c (.BinOp a op b pos) (mOp u f g) := fun ρ S σ G ps H k o q =>
  ⟨_, pe_op ho we_pe we_pe, ha _ _ _ _ _ _ _ o (Sat.bind q fun x S1 v1 G1 ps1 H1 o1 e1 p1 a1 q => hb _ _ _ _ _ _ _ o1 (Sat.bind q fun y S2 v2 G2 ps2 H2 o2 e2 p2 a2 q =>
    sat_op2 hr q o2 (AtA.mono e2 p2 a1) a2))⟩
theorem de_cmp {op : CmpOp} {r : R2} {u : D → D → Option D} (ho : OpR c.X (compareOp op) r) (hr : RD2 c.X.K r u) (ha : DE c a f) (hb : DE c b g) (hm : behindInMarks op b = false := by first | exact nomark _ | rfl) : DE c (.Compare a [op] [b] pos) (mOp u f g) := fun ρ S σ G ps H k o q =>
  ⟨_, pe_cmpR ho we_pe we_pe hm, ha _ _ _ _ _ _ _ o (Sat.bind q fun x S1 v1 G1 ps1 H1 o1 e1 p1 a1 q => hb _ _ _ _ _ _ _ o1 (Sat.bind q fun y S2 v2 G2 ps2 H2 o2 e2 p2 a2 q =>
    sat_op2 hr q o2 (AtA.mono e2 p2 a1) a2))⟩
theorem de_un {op : UnaryOp} {r : V → Hp → VK → Prop} {u : D → Option D} (ho : UnR c.X (unaryOp op) r) (hr : RD1 c.X.K r u) (ha : DE c a f) : DE c (.UnaryOp op a pos) (mUn u f) := fun ρ S σ G ps H k o q =>
  ⟨_, pe_un ho we_pe, ha _ _ _ _ _ _ _ o (Sat.bind q fun x S1 v1 G1 ps1 H1 o1 e1 p1 a1 q => sat_op1 hr q o1 a1)⟩
theorem de_ix {r : R2} {u : D → D → Option D} (ho : IxR c.X r) (hr : RD2 c.X.K r u) (ha : DE c a f) (hb : DE c b g) (hs : PlainIx b := by exact fun _ _ => rfl) : DE c (.Subscript a b pos) (mOp u f g) := fun ρ S σ G ps H k o q =>
  ⟨_, pe_ix ho we_pe we_pe hs, ha _ _ _ _ _ _ _ o (Sat.bind q fun x S1 v1 G1 ps1 H1 o1 e1 p1 a1 q => hb _ _ _ _ _ _ _ o1 (Sat.bind q fun y S2 v2 G2 ps2 H2 o2 e2 p2 a2 q =>
    sat_op2 hr q o2 (AtA.mono e2 p2 a1) a2))⟩
/-! and, or, not, if -/
theorem de_one {op : BoolOp} (ha : DE c a f) : DE c (.BoolOp op [a] pos) f := fun ρ S σ G ps H k o q => ⟨_, pe_one we_pe, ha _ _ _ _ _ _ _ o q⟩
theorem de_and (ha : DE c a f) (hb : DE c (.BoolOp .And (b :: es) pos) g) : DE c (.BoolOp .And (a :: b :: es) pos) (mAnd f g) := fun ρ S σ G ps H k o q =>
  ⟨_, pe_andT we_pe we_pe, ha _ _ _ _ _ _ _ o (Sat.bind q fun x S1 v1 G1 ps1 H1 o1 e1 p1 a1 q => by
    cases et : truS x S1 with
    | none => rw [et] at q; exact q.elim
    | some t =>
      rw [et] at q
      refine ⟨t, truS_ok o1 a1 et, ?_⟩
      cases t with
      | true => exact iteT (hb _ _ _ _ _ _ _ o1 q)
      | false => exact iteF (q.ok o1 a1))⟩
theorem de_or (ha : DE c a f) (hb : DE c (.BoolOp .Or (b :: es) pos) g) : DE c (.BoolOp .Or (a :: b :: es) pos) (mOr f g) := fun ρ S σ G ps H k o q =>
  ⟨_, pe_orT we_pe we_pe, ha _ _ _ _ _ _ _ o (Sat.bind q fun x S1 v1 G1 ps1 H1 o1 e1 p1 a1 q => by
    cases et : truS x S1 with
    | none => rw [et] at q; exact q.elim
    | some t =>
      rw [et] at q
      refine ⟨t, truS_ok o1 a1 et, ?_⟩
      cases t with
      | false => exact iteF (hb _ _ _ _ _ _ _ o1 q)
      | true => exact iteT (q.ok o1 a1))⟩
theorem de_not (ha : DE c a f) : DE c (.UnaryOp .Not a pos) (mNot f) := fun ρ S σ G ps H k o q =>
  ⟨_, pe_notT we_pe, ha _ _ _ _ _ _ _ o (Sat.bind q fun x S1 v1 G1 ps1 H1 o1 e1 p1 a1 q => by
    cases et : truS x S1 with
    | none => rw [et] at q; exact q.elim
    | some t => rw [et] at q; exact ⟨t, truS_ok o1 a1 et, q.ok o1 (AtA.dat (.bl _))⟩)⟩
theorem de_if (ht : DT c t ft) (ha : DE c a f) (hb : DE c b g) : DE c (.IfExp t a b pos) (mIf ft f g) := fun ρ S σ G ps H k o q =>
  ⟨_, pe_ifExp wt_pt we_pe we_pe, ht _ _ _ _ _ _ _ o (Sat.bind q fun x S1 v1 G1 ps1 H1 o1 e1 p1 a1 q => by
    cases a1
    cases x with
    | true => exact iteT (ha _ _ _ _ _ _ _ o1 q)
    | false => exact iteF (hb _ _ _ _ _ _ _ o1 q))⟩
theorem de_chain {op op' : CmpOp} {r r' : R2} {u u' : D → D → Option D} (ho : OpR c.X (compareOp op) r) (hr : RD2 c.X.K r u) (ho' : OpR c.X (compareOp op') r') (hr' : RD2 c.X.K r' u') (ha : DE c a f) (hb : DE c b g) (hd : DE c d h)
    (hm : lastMarks [op, op'] [b, d] = false := by with_unfolding_all rfl) : DE c (.Compare a [op, op'] [b, d] pos) (mChain u u' f g h) := fun ρ S σ G ps H k o q =>
  ⟨_, pe_chain ho ho' we_pe we_pe we_pe hm, ha _ _ _ _ _ _ _ o (Sat.bind q fun x S1 v1 G1 ps1 H1 o1 e1 p1 a1 q => hb _ _ _ _ _ _ _ o1 (Sat.bind q fun y S2 v2 G2 ps2 H2 o2 e2 p2 a2 q =>
    sat_op2 hr (Sat.bind q fun z S3 v3 G3 ps3 H3 o3 e3 p3 a3 q => by
      cases a3 with
      | dat a3 => cases a3 with
        | bl t =>
          refine ⟨t, rfl, ?_⟩
          cases t with
          | true => exact iteT (hd _ _ _ _ _ _ _ o3 (Sat.bind q fun w S4 v4 G4 ps4 H4 o4 e4 p4 a4 q => sat_op2 hr' q o4 (AtA.mono (e3.trans e4) (p3.trans p4) a2) a4))
          | false => exact iteF (q.ok o3 (AtA.dat (.bl false)))
        | _ => exact q.elim
      | own _ => exact q.elim) o2 (AtA.mono e2 p2 a1) a2))⟩
/-! tests -/
theorem dt_tru (ha : DE c a f) (he : ∀ whole, isTrue a c.X.env whole = (do let v ← whole; standAt a.pos; holding [v] (truthy v)) := by intro _; rfl) : DT c a (tTru f) := fun ρ S σ G ps H k o q =>
  ⟨_, pt_truth we_pe he, ha _ _ _ _ _ _ _ o (Sat.bind q fun x S1 v1 G1 ps1 H1 o1 e1 p1 a1 q => by
    cases et : truS x S1 with
    | none => rw [et] at q; exact q.elim
    | some t => rw [et] at q; exact ⟨t, truS_ok o1 a1 et, q.ok o1 rfl⟩)⟩
theorem sat_asB {G : Hp} {ps : List Addr} {ρ : List Sl} {σ : L2.St} {k : Bool → Hp → Prop} {r : RE Sl} (h : Sat c G ps ρ σ RB k (asB r)) : Sat c G ps ρ σ (RA c) (fun x H' => ∃ t, x = .bl t ∧ k t H') r := by
  cases r with
  | ok x S =>
    intro v G' ps' H' o e p a
    cases x with
    | dat d =>
      cases d with
      | bl t => cases a with | dat a => cases a; exact ⟨t, rfl, h t G' ps' H' o e p rfl⟩
      | _ => exact h.elim
    | _ => exact h.elim
  | exc i pl S => exact h
  | stuck => exact h
theorem dt_cmp {op : CmpOp} {r : R2} {u : D → D → Option D} (ho : OpR c.X (compareOp op) r) (hr : RD2 c.X.K r u) (ha : DE c a f) (hb : DE c b g) (hm : behindInMarks op b = false := by first | exact nomark _ | rfl) : DT c (.Compare a [op] [b] pos) (tOf (mOp u f g)) := fun ρ S σ G ps H k o q =>
  ⟨_, pt_cmpR ho we_pe we_pe hm, ha _ _ _ _ _ _ _ o (Sat.bind (sat_asB q) fun x S1 v1 G1 ps1 H1 o1 e1 p1 a1 q => hb _ _ _ _ _ _ _ o1 (Sat.bind q fun y S2 v2 G2 ps2 H2 o2 e2 p2 a2 q =>
    sat_op2 hr q o2 (AtA.mono e2 p2 a1) a2))⟩
theorem dt_chain {op op' : CmpOp} {r r' : R2} {u u' : D → D → Option D} (ho : OpR c.X (compareOp op) r) (hr : RD2 c.X.K r u) (ho' : OpR c.X (compareOp op') r') (hr' : RD2 c.X.K r' u') (ha : DE c a f) (hb : DE c b g) (hd : DE c d h)
    (hm : lastMarks [op, op'] [b, d] = false := by with_unfolding_all rfl) : DT c (.Compare a [op, op'] [b, d] pos) (tOf (mChain u u' f g h)) := fun ρ S σ G ps H k o q =>
  ⟨_, pt_chain ho ho' we_pe we_pe we_pe hm, ha _ _ _ _ _ _ _ o (Sat.bind (sat_asB q) fun x S1 v1 G1 ps1 H1 o1 e1 p1 a1 q => hb _ _ _ _ _ _ _ o1 (Sat.bind q fun y S2 v2 G2 ps2 H2 o2 e2 p2 a2 q =>
    sat_op2 hr (Sat.bind q fun z S3 v3 G3 ps3 H3 o3 e3 p3 a3 q => by
      cases a3 with
      | dat a3 => cases a3 with
        | bl t =>
          refine ⟨t, rfl, ?_⟩
          cases t with
          | true => exact iteT (hd _ _ _ _ _ _ _ o3 (Sat.bind q fun w S4 v4 G4 ps4 H4 o4 e4 p4 a4 q => sat_op2 hr' q o4 (AtA.mono (e3.trans e4) (p3.trans p4) a2) a4))
          | false => exact iteF (q.ok o3 (AtA.dat (.bl false)))
        | _ => exact q.elim
      | own _ => exact q.elim) o2 (AtA.mono e2 p2 a1) a2))⟩
theorem dt_w (h : DW c a ft) : DT c a ft := fun ρ S σ G ps H k o q => ⟨_, ww_pw.pt, h _ _ _ _ _ _ _ o q⟩
theorem dw_and1 (ha : DT c a ft) : DW c (.BoolOp .And [a] pos) ft := fun ρ S σ G ps H k o q => ⟨_, pw_and1 wt_pt, ha _ _ _ _ _ _ _ o q⟩
theorem dw_or1 (ha : DT c a ft) : DW c (.BoolOp .Or [a] pos) ft := fun ρ S σ G ps H k o q => ⟨_, pw_or1 wt_pt, ha _ _ _ _ _ _ _ o q⟩
theorem dw_and (ha : DT c a ft) (hb : DW c (.BoolOp .And (b :: es) pos) gt) : DW c (.BoolOp .And (a :: b :: es) pos) (tAnd ft gt) := fun ρ S σ G ps H k o q =>
  ⟨_, pw_and wt_pt ww_pw, ha _ _ _ _ _ _ _ o (Sat.bind q fun x S1 v1 G1 ps1 H1 o1 e1 p1 a1 q => by
    cases a1
    cases x with
    | true => exact iteT (hb _ _ _ _ _ _ _ o1 q)
    | false => exact iteF (q.ok o1 rfl))⟩
theorem dw_or (ha : DT c a ft) (hb : DW c (.BoolOp .Or (b :: es) pos) gt) : DW c (.BoolOp .Or (a :: b :: es) pos) (tOr ft gt) := fun ρ S σ G ps H k o q =>
  ⟨_, pw_or wt_pt ww_pw, ha _ _ _ _ _ _ _ o (Sat.bind q fun x S1 v1 G1 ps1 H1 o1 e1 p1 a1 q => by
    cases a1
    cases x with
    | false => exact iteF (hb _ _ _ _ _ _ _ o1 q)
    | true => exact iteT (q.ok o1 rfl))⟩
theorem dt_not (ha : DT c a ft) : DT c (.UnaryOp .Not a pos) (tNot ft) := fun ρ S σ G ps H k o q =>
  ⟨_, pt_not wt_pt, ha _ _ _ _ _ _ _ o (Sat.bind q fun x S1 v1 G1 ps1 H1 o1 e1 p1 a1 q => by
    cases a1
    exact q.ok o1 rfl)⟩
/-! arguments -/
theorem da_nil : DA c [] aNil := fun ρ S σ G ps H k o q => ⟨_, pa_nil, q.ok o AtAs.nil⟩
theorem da_cons (ha : DE c a f) (hb : DA c es fa) (hs : starEach (a :: es) c.X.env = (false, eval a c.X.env) :: starEach es c.X.env := by rfl) : DA c (a :: es) (aCons f fa) := fun ρ S σ G ps H k o q =>
  ⟨_, pa_cons we_pe wa_pa hs, ha _ _ _ _ _ _ _ o (Sat.bind q fun x S1 v1 G1 ps1 H1 o1 e1 p1 a1 q => hb _ _ _ _ _ _ _ o1 (Sat.bind q fun y S2 v2 G2 ps2 H2 o2 e2 p2 a2 q => q.ok o2 (AtAs.cons (AtA.mono e2 p2 a1) a2)))⟩
theorem de_tup {j : Nat} (ha : DA c es fa) : DE c (.Tuple es j pos) (mTup fa) := fun ρ S σ G ps H k o q =>
  ⟨_, pe_tup wa_pa, ha _ _ _ _ _ _ _ o (Sat.bind q fun x S1 v1 G1 ps1 H1 o1 e1 p1 a1 q => by
    cases ed : datas x with
    | none => rw [ed] at q; exact q.elim
    | some ds =>
      rw [ed] at q
      dsimp only at q
      have hv := AtAs.toDs a1 ed
      by_cases hl : ds.length ≤ 1000
      · rw [if_pos hl] at q
        refine ⟨by rw [hv.len]; exact Nat.le_trans hl (by decide), fun p hp => ?_⟩
        have gp : G1 p = none := o1.sub.back hp
        exact q (.ref p) (upd G1 p (.tup v1)) ps1 _ (o1.put _ hp) (Ex.new gp) (List.prefix_refl _) (.dat (.tup (SqT.of upd_same) (hv.mono (Ex.new gp))))
      · rw [if_neg hl] at q; exact q.elim)⟩
theorem de_lst (ha : DA c es fa) : DE c (.List es pos) (mLst fa) := fun ρ S σ G ps H k o q =>
  ⟨_, pe_lst wa_pa, ha _ _ _ _ _ _ _ o (Sat.bind q fun x S1 v1 G1 ps1 H1 o1 e1 p1 a1 q => by
    cases ed : datas x with
    | none => rw [ed] at q; exact q.elim
    | some ds =>
      rw [ed] at q
      dsimp only at q
      have hv := AtAs.toDs a1 ed
      by_cases hl : ds.length ≤ 1000
      · rw [if_pos hl] at q
        refine ⟨by rw [hv.len]; exact Nat.le_trans hl (by decide), fun p hp => ?_⟩
        have gp : G1 p = none := o1.sub.back hp
        exact q (.ref p) (upd G1 p (.lst v1)) ps1 _ (o1.put _ hp) (Ex.new gp) (List.prefix_refl _) (.dat (.lst upd_same (hv.mono (Ex.new gp))))
      · rw [if_neg hl] at q; exact q.elim)⟩
/-- a built-in by values -/
theorem de_callB {id : String} {r : List V → Hp → VK → Prop} {u : List D → Option D} {x : Str} {p1 : Pos} (hc : CallR c.X (.builtin id) r) (hr : RDN c.X.K r u) (hm : c.X.mg x = none) (hv : bootBuiltins x = some (.builtin id)) (ha : DA c (e :: es) fa)
    (hg : Gl c.X x := by rfl) (hn : x ≠ "__name__" := by decide) (hdb : (x == ("__debug__" : Str)) = false := by decide) (hpl : (backTo pos (starEach es c.X.env)).any (·.1) = false := by rfl) (he : starEach (e :: es) c.X.env = (false, eval e c.X.env) :: starEach es c.X.env := by rfl) : DE c (.Call (.Name x p1) (e :: es) [] pos) (mBlt u fa) := fun ρ S σ G ps H k o q =>
  ⟨_, pe_callB hc hg hm hv wa_pa (hn := hn) (hdb := hdb) (he := he) (hpl := hpl), ha _ _ _ _ _ _ _ o (Sat.bind q fun x S1 v1 G1 ps1 H1 o1 e1 p1 a1 q => sat_opN hr q o1 a1)⟩
theorem de_callTy {T : String} {r : List V → Hp → VK → Prop} {u : List D → Option D} {x : Str} {p1 : Pos} (hc : CallR c.X (.type T) r) (hr : RDN c.X.K r u) (hm : c.X.mg x = none) (hv : bootBuiltins x = some (.type T)) (ha : DA c (e :: es) fa)
    (hg : Gl c.X x := by rfl) (hn : x ≠ "__name__" := by decide) (hdb : (x == ("__debug__" : Str)) = false := by decide) (hpl : (backTo pos (starEach es c.X.env)).any (·.1) = false := by rfl) (he : starEach (e :: es) c.X.env = (false, eval e c.X.env) :: starEach es c.X.env := by rfl) : DE c (.Call (.Name x p1) (e :: es) [] pos) (mBlt u fa) := fun ρ S σ G ps H k o q =>
  ⟨_, pe_callTy hc hg hm hv wa_pa (hn := hn) (hdb := hdb) (he := he) (hpl := hpl), ha _ _ _ _ _ _ _ o (Sat.bind q fun x S1 v1 G1 ps1 H1 o1 e1 p1 a1 q => sat_opN hr q o1 a1)⟩
end
end Mir

/-! Changes of the state. -/
namespace Mir
open PySem PySem.Spec L2
variable [CM : ClsMap]
section
variable {K : PySem.W.Frag} {F : Fx} {G H : Hp} {ps : List Addr} {ρ : List Sl} {S : List Ce} {σ : L2.St}
theorem SOk.setA (o : SOk K F G ps ρ S σ H) (i : Nat) {v : V} {a : Sl} (h : AtA K G ps v a) : SOk K F G ps (ρ.set i a) S (σ.set i (some v)) H := by
  refine ⟨o.sub, o.base, o.keep, o.new, o.pre, o.nd, o.fresh, o.there, o.plen, by rw [List.length_set, List.length_set]; exact o.slen, fun j x q n => ?_, o.cell⟩
  by_cases hj : j = i
  · subst hj
    have hlt : j < ρ.length := by
      have z := (List.getElem?_eq_some_iff.mp q).1
      rw [List.length_set] at z; exact z
    rw [List.getElem?_set_self hlt] at q
    cases q
    exact ⟨v, List.getElem?_set_self (by rw [o.slen]; exact hlt), .val h⟩
  · rw [List.getElem?_set_ne (Ne.symm hj)] at q ⊢
    exact o.slot j x q n
theorem SOk.setN (o : SOk K F G ps ρ S σ H) (i : Nat) (v : Option V) : SOk K F G ps (ρ.set i .no) S (σ.set i v) H := by
  refine ⟨o.sub, o.base, o.keep, o.new, o.pre, o.nd, o.fresh, o.there, o.plen, by rw [List.length_set, List.length_set]; exact o.slen, fun j x q n => ?_, o.cell⟩
  by_cases hj : j = i
  · subst hj
    have hlt : j < ρ.length := by
      have z := (List.getElem?_eq_some_iff.mp q).1
      rw [List.length_set] at z; exact z
    rw [List.getElem?_set_self hlt] at q
    cases q
    exact (n rfl).elim
  · rw [List.getElem?_set_ne (Ne.symm hj)] at q ⊢
    exact o.slot j x q n
theorem SOk.ownlt (o : SOk K F G ps ρ S σ H) (i k : Nat) (h : ρ[i]? = some (.own k)) : k < S.length := by
  obtain ⟨v, _, a⟩ := o.slot i _ h (fun z => nomatch z)
  cases a with
  | val a => cases a with
    | own a => rw [← o.plen]; exact (List.getElem?_eq_some_iff.mp a).1
theorem AtA.lt {v : V} {k : Nat} (a : AtA K G ps v (.own k)) (h : ps.length = S.length) : k < S.length := by
  cases a with
  | own a => rw [← h]; exact (List.getElem?_eq_some_iff.mp a).1
theorem SOk.cellOf (o : SOk K F G ps ρ S σ H) {p : Addr} {j : Nat} {cl : Ce} (hp : ps[j]? = some p) (hS : S[j]? = some cl) : CeAt K G ps H p cl := o.cell j p cl hp hS
theorem pnd {ps : List Addr} (nd : ps.Nodup) {j k : Nat} {p q : Addr} (hp : ps[j]? = some p) (hq : ps[k]? = some q) (n : k ≠ j) : q ≠ p := fun y => n (by
  subst y
  obtain ⟨l1, e1⟩ := List.getElem?_eq_some_iff.mp hq
  obtain ⟨l2, e2⟩ := List.getElem?_eq_some_iff.mp hp
  exact (List.getElem_inj nd).mp (e1.trans e2.symm))
/-- a new cell at the end -/
theorem SOk.push (o : SOk K F G ps ρ S σ H) {p : Addr} {u : HO} {cl : Ce} (hp : H p = none) (hc : CeAt K G (ps ++ [p]) (upd H p u) p cl) : SOk K F G (ps ++ [p]) ρ (S ++ [cl]) σ (upd H p u) := by
  have npp : p ∉ ps := fun hm => by
    obtain ⟨w, hw⟩ := o.there p hm
    rw [hp] at hw; cases hw
  have pp : ps <+: ps ++ [p] := List.prefix_append _ _
  refine ⟨fun a u e => (Ex.new hp) _ _ (o.sub a u e), o.base, fun a u n e => (Ex.new hp) _ _ (o.keep a u n e), o.new, o.pre.trans pp, ?_, fun q hq => ?_, fun q hq => ?_, by rw [List.length_append, List.length_append, o.plen]; rfl, o.slen, fun j x q n => ?_, fun k q cl' q1 q2 => ?_⟩
  · rw [List.nodup_append]
    exact ⟨o.nd, by simp, fun a ha b hb => by
      have e : b = p := by simpa using hb
      subst e
      exact fun e => npp (e ▸ ha)⟩
  · rcases List.mem_append.mp hq with z | z
    · exact o.fresh q z
    · have e : q = p := by simpa using z
      subst e
      exact .inr (o.free0 hp)
  · rcases List.mem_append.mp hq with z | z
    · exact (o.there q z).imp fun w e => (Ex.new hp) _ _ e
    · have e : q = p := by simpa using z
      subst e
      exact ⟨_, upd_same⟩
  · obtain ⟨v, h1, h2⟩ := o.slot j x q n
    exact ⟨v, h1, h2.mono (Ex.refl G) pp⟩
  · by_cases hk : k < ps.length
    · rw [List.getElem?_append_left hk] at q1
      rw [List.getElem?_append_left (by rw [← o.plen]; exact hk)] at q2
      have hqp : q ≠ p := fun e => npp (e ▸ List.mem_of_getElem? q1)
      exact (o.cell k q cl' q1 q2).grow (Ex.refl G) pp (fun z _ => z) (upd_ne hqp)
    · have hk' : k = ps.length := by
        have z := (List.getElem?_eq_some_iff.mp q1).1
        rw [List.length_append] at z
        have : ([p] : List Addr).length = 1 := rfl
        omega
      subst hk'
      have q1' : (ps ++ [p])[ps.length]? = some p := by simp
      rw [q1'] at q1; cases q1
      have q2' : (S ++ [cl])[ps.length]? = some cl := by rw [o.plen]; simp
      rw [q2'] at q2; cases q2
      exact hc
theorem SOk.pushL (o : SOk K F G ps ρ S σ H) {p : Addr} {vs : List V} {ds : List D} (hp : H p = none) (h : AtDs K G vs ds) : SOk K F G (ps ++ [p]) ρ (S ++ [.lst ds]) σ (upd H p (.lst vs)) := o.push hp ⟨o.sub.back hp, vs, upd_same, h⟩
/-- a cell is written -/
theorem SOk.wr (o : SOk K F G ps ρ S σ H) {j : Nat} {p : Addr} {cl cl' : Ce} {u : HO} (hp : ps[j]? = some p) (hS : S[j]? = some cl) (gp : G p = none) (hc : CeAt K G ps (upd H p u) p cl') : SOk K F G ps ρ (S.set j cl') σ (upd H p u) := by
  have pm := List.mem_of_getElem? hp
  refine ⟨fun a w e => ?_, o.base, fun a w n e => ?_, o.new, o.pre, o.nd, o.fresh, fun q hq => ?_, by rw [List.length_set]; exact o.plen, o.slen, o.slot, fun k q cl2 q1 q2 => ?_⟩
  · rw [upd_ne (fun z => by subst z; rw [gp] at e; cases e)]; exact o.sub a w e
  · by_cases ha : a = p
    · subst ha
      rcases o.fresh a pm with z | z
      · exact (n z).elim
      · rw [e] at z; cases z
    · rw [upd_ne ha]; exact o.keep a w n e
  · by_cases hq' : q = p
    · subst hq'; exact ⟨_, upd_same⟩
    · rw [upd_ne hq']; exact o.there q hq
  · by_cases hk : k = j
    · subst hk
      rw [hp] at q1; cases q1
      rw [List.getElem?_set_self (List.getElem?_eq_some_iff.mp hS).1] at q2
      cases q2
      exact hc
    · rw [List.getElem?_set_ne (Ne.symm hk)] at q2
      exact (o.cell k q cl2 q1 q2).grow (Ex.refl G) (List.prefix_refl _) (fun z _ => z) (upd_ne (pnd o.nd hp q1 hk))
/-! ### calls: the frame of the caller and of the callee -/
theorem SOk.ent (o : SOk K F G ps ρ S σ H) : SOk K ⟨ps, H, G, 0, 0⟩ G ps [] (S.map fun c => c) [] H := by
  rw [List.map_id']
  refine ⟨o.sub, Ex.refl G, fun a o n e => e, fun a o e => .inl e, List.prefix_refl _, o.nd, fun p h => .inl h, o.there, o.plen, rfl, fun i a q => by simp at q, fun k p cl h1 h2 => ?_⟩
  exact o.cell k p cl h1 h2
theorem SOk.ent' (o : SOk K F G ps ρ S σ H) : SOk K ⟨ps, H, G, 0, 0⟩ G ps [] S [] H := by
  have z := o.ent
  rw [List.map_id'] at z
  exact z
theorem SOk.ret (o : SOk K F G ps ρ S σ H) {G' H' : Hp} {ps' : List Addr} {S' : List Ce} (q : SOk K ⟨ps, H, G, 0, 0⟩ G' ps' [] S' [] H') : SOk K F G' ps' ρ S' σ H' := by
  refine ⟨q.sub, o.base.trans q.base, fun a w n e => ?_, fun a w e => ?_, o.pre.trans q.pre, q.nd, fun p hp => ?_, q.there, q.plen, o.slen, fun i a h n => ?_, fun k p cl h1 h2 => ?_⟩
  · have h1 := o.keep a w n e
    by_cases hm : a ∈ ps
    · exfalso
      rcases o.fresh a hm with z | z
      · exact n z
      · rw [e] at z; cases z
    · exact q.keep a w hm h1
  · rcases q.new a w e with z | z
    · exact o.new a w z
    · exact .inr (o.free0 z)
  · rcases q.fresh p hp with z | z
    · exact o.fresh p z
    · exact .inr (o.free0 z)
  · obtain ⟨v, h1, h2⟩ := o.slot i a h n
    exact ⟨v, h1, h2.mono q.base q.pre⟩
  · exact q.cell k p cl h1 h2
/-- no slots -/
theorem SOk.bare (o : SOk K F G ps ρ S σ H) : SOk K F G ps [] S [] H := ⟨o.sub, o.base, o.keep, o.new, o.pre, o.nd, o.fresh, o.there, o.plen, rfl, fun i a q => by simp at q, o.cell⟩
/-- whether no cell's attribute names a cell from n on -/
def slLt (n : Nat) : Sl → Bool
  | .own k => decide (k < n)
  | .no => true
  | .dat _ => true
  | .err _ _ => true
def ceLt (n : Nat) : Ce → Bool
  | .ins _ fs => fs.all fun f => slLt n f.2
  | _ => true
def okTake (n : Nat) (S : List Ce) : Bool := (S.take n).all (ceLt n)
omit CM in
theorem take_get {α : Type} {l : List α} {n k : Nat} {x : α} (h : (l.take n)[k]? = some x) : k < n ∧ l[k]? = some x := by
  rw [List.getElem?_take] at h
  split at h
  · exact ⟨by assumption, h⟩
  · cases h
theorem AtA.take {v : V} {a : Sl} {n : Nat} (h : AtA K G ps v a) (l : slLt n a = true) : AtA K G (ps.take n) v a := by
  cases h with
  | dat h => exact .dat h
  | own h => exact .own (by rw [List.getElem?_take_of_lt (of_decide_eq_true l)]; exact h)
theorem SlAt.take {ea ed : Addr} {v : V} {a : Sl} {n : Nat} (h : SlAt K G ps ea ed v a) (l : slLt n a = true) : SlAt K G (ps.take n) ea ed v a := by
  cases h with
  | val h => exact .val (h.take l)
  | err h k => exact .err h k
theorem AtSs.take {n : Nat} : ∀ {v : List (Str × V)} {a : List (Str × Sl)}, AtSs K G ps v a → (a.all fun f => slLt n f.2) = true → AtSs K G (ps.take n) v a
  | _, _, .nil, _ => .nil
  | _, _, .cons h t, l => by
    rw [List.all_cons, Bool.and_eq_true] at l
    exact .cons (h.take l.1) (AtSs.take t l.2)
theorem CeAt.take {n : Nat} {p : Addr} {cl : Ce} (h : CeAt K G ps H p cl) (l : ceLt n cl = true) : CeAt K G (ps.take n) H p cl := by
  cases cl with
  | gone => trivial
  | lst ds => exact h
  | dct ds => exact h
  | ins C fs => obtain ⟨z1, dx, vs, z2, z3⟩ := h; exact ⟨z1, dx, vs, z2, z3.take l⟩
/-- the cells from n on are forgotten -/
theorem SOk.takeN (o : SOk K F G ps ρ S σ H) {n : Nat} (hn : F.P0.length ≤ n) (hl : n ≤ S.length) (ok : okTake n S = true) (hr : ∀ (i : Nat) (a : Sl), ρ[i]? = some a → slLt n a = true) : SOk K F G (ps.take n) ρ (S.take n) σ H := by
  refine ⟨o.sub, o.base, o.keep, o.new, List.prefix_take_iff.mpr ⟨o.pre, hn⟩, o.nd.sublist (List.take_sublist _ _), fun p hp => o.fresh p (List.mem_of_mem_take hp), fun p hp => o.there p (List.mem_of_mem_take hp), by rw [List.length_take, List.length_take, o.plen], o.slen, fun i a h m => ?_, fun k p cl h1 h2 => ?_⟩
  · obtain ⟨v, q1, q2⟩ := o.slot i a h m
    exact ⟨v, q1, q2.take (hr i a h)⟩
  · obtain ⟨_, q1⟩ := take_get h1
    obtain ⟨_, q2⟩ := take_get h2
    exact (o.cell k p cl q1 q2).take (List.all_eq_true.mp ok cl (List.mem_of_getElem? h2))
end
/-! ### the last cell as data; a def's answer -/
/-- a fresh cell as data -/
def thaw : Ce → Option D := ceD
/-- the cell j, the last one, made above n, becomes data -/
def frzL (n : Nat) (r : RE Sl) : RE Sl := match r with
  | .ok (.own j) S => if n ≤ j ∧ j + 1 = S.length ∧ okTake j S = true then
      match (S[j]?).bind ceD with
      | some d => .ok (.dat d) (S.take j)
      | none => .ok (.own j) S
    else .ok (.own j) S
  | r => r
/-- what a def hands back, the cells of its own forgotten -/
def cut (n : Nat) (r : Sl) (S : List Ce) : RE Sl := if okTake n S = true then
    match r with
    | .dat d => .ok (.dat d) (S.take n)
    | .own j => if j < n then .ok (.own j) (S.take n) else match S[j]? with
      | some cl => if ceLt n cl = true then .ok (.own n) (S.take n ++ [cl]) else .ok (.own j) S
      | none => .stuck
    | _ => .stuck
  else match r with
    | .dat d => .ok (.dat d) S
    | .own j => .ok (.own j) S
    | _ => .stuck
def cutX (n : Nat) (i : Nat) (pl : Option (Str × D)) (S : List Ce) : RE Sl := if okTake n S = true then .exc i pl (S.take n) else .exc i pl S
section
variable {K : PySem.W.Frag} {F : Fx} {G H : Hp} {ps : List Addr} {ρ : List Sl} {S : List Ce} {σ : L2.St}
/-- a cell of this frame as data -/
theorem SOk.toData (o : SOk K F G ps ρ S σ H) {j : Nat} {p : Addr} {cl : Ce} {d : D} (hj : F.P0.length ≤ j) (hp : ps[j]? = some p) (hS : S[j]? = some cl) (hd : ceD cl = some d) (hl : j + 1 = S.length) (ok : okTake j S = true) (hr : ∀ (i : Nat) (a : Sl), ρ[i]? = some a → slLt j a = true) :
    ∃ G', Ex G G' ∧ SOk K F G' (ps.take j) ρ (S.take j) σ H ∧ AtD K G' (.ref p) d := by
  obtain ⟨u, hu⟩ := o.there p (List.mem_of_getElem? hp)
  have gp : G p = none := by
    have z := o.cell j p cl hp hS
    cases cl with
    | gone => cases hd
    | lst ds => exact z.1
    | dct ds => exact z.1
    | ins C fs => exact z.1
  have eg : Ex G (upd G p u) := Ex.new gp
  have top := ceD_ok (o.cell j p cl hp hS) hd
  have q := o.takeN hj (by omega) ok hr
  have n0 : F.H0 p = none := by
    rcases o.fresh p (List.mem_of_getElem? hp) with z | z
    · exfalso
      obtain ⟨t, ht⟩ := o.pre
      obtain ⟨m, hm, hz⟩ := List.mem_iff_getElem.mp z
      have h1 : ps[m]? = some p := by rw [← ht, List.getElem?_append_left hm, List.getElem?_eq_getElem hm, hz]
      by_cases e : m = j
      · omega
      · exact pnd o.nd hp h1 e rfl
    · exact z
  have pout : p ∉ ps.take j := fun hm => by
    obtain ⟨m, hm, hz⟩ := List.mem_iff_getElem.mp hm
    have h1 : (ps.take j)[m]? = some p := by rw [List.getElem?_eq_getElem hm, hz]
    obtain ⟨h2, h3⟩ := take_get h1
    exact pnd o.nd hp h3 (by omega) rfl
  refine ⟨upd G p u, eg, ⟨fun a w e => ?_, q.base.trans eg, q.keep, fun a w e => ?_, q.pre, q.nd, q.fresh, q.there, q.plen, q.slen, fun i a h m => ?_, fun k r c2 h1 h2 => ?_⟩, ?_⟩
  · by_cases ha : a = p
    · subst ha; rw [upd_same] at e; cases e; exact hu
    · rw [upd_ne ha] at e; exact q.sub a w e
  · by_cases ha : a = p
    · subst ha; exact .inr n0
    · rw [upd_ne ha] at e; exact q.new a w e
  · obtain ⟨v, q1, q2⟩ := q.slot i a h m
    exact ⟨v, q1, q2.mono eg (List.prefix_refl _)⟩
  · have hrp : r ≠ p := fun z => pout (z ▸ List.mem_of_getElem? h1)
    exact (q.cell k r c2 h1 h2).grow eg (List.prefix_refl _) (fun z _ => by rw [upd_ne hrp]; exact z) rfl
  · cases top with
    | dat a => cases a with
      | lst h hs => rw [gp] at h; cases h
      | dct h hs => rw [gp] at h; cases h
      | ins h hs => rw [gp] at h; cases h
      | sq h hs => cases cl <;> first | (cases hd; done) | (simp only [ceD, Option.map_eq_some_iff] at hd; obtain ⟨_, _, e⟩ := hd; cases e)
      | tup h hs => cases cl <;> first | (cases hd; done) | (simp only [ceD, Option.map_eq_some_iff] at hd; obtain ⟨_, _, e⟩ := hd; cases e)
      | obj k => cases cl <;> first | (cases hd; done) | (simp only [ceD, Option.map_eq_some_iff] at hd; obtain ⟨_, _, e⟩ := hd; cases e)
    | lst h hs => rw [hu] at h; cases h; exact .lst upd_same (hs.mono eg)
    | dct h hs => rw [hu] at h; cases h; exact .dct upd_same (hs.mono eg)
    | ins h hs => rw [hu] at h; cases h; exact .ins upd_same (hs.mono eg)
end
section
variable {c : Cz} {e : Expr} {f : ME}
theorem sl_lt {K : PySem.W.Frag} {F : Fx} {G H : Hp} {ps : List Addr} {ρ : List Sl} {S : List Ce} {σ : L2.St} (o : SOk K F G ps ρ S σ H) {n : Nat} (hn : S.length ≤ n) (i : Nat) (a : Sl) (h : ρ[i]? = some a) : slLt n a = true := by
  cases a with
  | own k => exact decide_eq_true (Nat.lt_of_lt_of_le (o.ownlt i k h) hn)
  | no => rfl
  | dat _ => rfl
  | err _ _ => rfl
theorem pre_len {K : PySem.W.Frag} {F : Fx} {G H : Hp} {ps : List Addr} {ρ : List Sl} {S : List Ce} {σ : L2.St} (o : SOk K F G ps ρ S σ H) : F.P0.length ≤ S.length := by
  rw [← o.plen]; exact o.pre.length_le
/-- a fresh list, dict or object is data -/
theorem sat_frz {ρ : List Sl} {S : List Ce} {σ : L2.St} {G : Hp} {ps : List Addr} {H : Hp} {k : VK} {r : RE Sl} (o : SOk c.X.K c.F G ps ρ S σ H) (q : Sat c G ps ρ σ (RA c) k (frzL S.length r)) : Sat c G ps ρ σ (RA c) k r := by
  revert q
  cases r with
  | stuck => exact id
  | exc i pl S => exact id
  | ok r S1 =>
    cases r with
    | no => exact id
    | dat d => exact id
    | err _ _ => exact id
    | own j =>
      unfold frzL
      by_cases h : S.length ≤ j ∧ j + 1 = S1.length ∧ okTake j S1 = true
      · dsimp only
        rw [if_pos h]
        obtain ⟨h1, h2, h3⟩ := h
        cases q1 : S1[j]? with
        | none => exact id
        | some cl =>
          dsimp only [Option.bind]
          cases q2 : ceD cl with
          | none => exact id
          | some d =>
            dsimp only
            intro q v G' ps' H' o' e' p' a'
            cases a' with
            | own hp =>
              obtain ⟨G2, e2, o2, a2⟩ := o'.toData (Nat.le_trans (pre_len o) h1) hp q1 q2 h2 h3 fun i a h => sl_lt o h1 i a h
              refine q _ G2 _ H' o2 (e'.trans e2) ?_ (.dat a2)
              exact List.prefix_take_iff.mpr ⟨p', by rw [o.plen]; exact h1⟩
      · dsimp only
        rw [if_neg h]
        exact id
theorem de_frz (ha : DE c e f) : DE c e (fun ρ S => frzL S.length (f ρ S)) := fun ρ S σ G ps H k o q => ha _ _ _ _ _ _ _ o (sat_frz o q)
theorem de_lstO {es : List Expr} {pos : Pos} {fa : MA'} (ha : DA c es fa) : DE c (.List es pos) (mLstO fa) := fun ρ S σ G ps H k o q =>
  ⟨_, pe_lst wa_pa, ha _ _ _ _ _ _ _ o (Sat.bind q fun x S1 v1 G1 ps1 H1 o1 e1 p1 a1 q => by
    cases ed : datas x with
    | none => rw [ed] at q; exact q.elim
    | some ds =>
      rw [ed] at q
      dsimp only at q
      have hv := AtAs.toDs a1 ed
      by_cases hl : ds.length ≤ 1000
      · rw [if_pos hl] at q
        refine ⟨by rw [hv.len]; exact Nat.le_trans hl (by decide), fun p hp => ?_⟩
        exact q (.ref p) G1 (ps1 ++ [p]) _ (o1.pushL hp hv) (Ex.refl _) (List.prefix_append _ _) (.own (by rw [← o1.plen]; simp))
      · rw [if_neg hl] at q; exact q.elim)⟩
end
end Mir

/-! Defs and their calls. -/
namespace Mir
open PySem PySem.Spec L2
variable [CM : ClsMap]
abbrev MF := List Sl → List Ce → RE Sl
/-- what a call's answer promises -/
def Ret (K : PySem.W.Frag) (ps : List Addr) (H G : Hp) (Q : VK) (E : XK) : RE Sl → Prop
  | .ok r S' => ∀ v G' ps' H', SOk K ⟨ps, H, G, 0, 0⟩ G' ps' [] S' [] H' → AtA K G' ps' v r → Q v H'
  | .exc i pl S' => ∀ dd G' ps' H', SOk K ⟨ps, H, G, 0, 0⟩ G' ps' [] S' [] H' → ExcAt K G' dd pl → E (.ref (CM.A i)) dd H'
  | .stuck => False
def spM (K : PySem.W.Frag) (n : Nat) (F : MF) : Sp := fun vs H Q E => ∃ (G : Hp) (ps : List Addr) (S : List Ce) (as : List Sl), as.length = n ∧ SOk K ⟨ps, H, G, 0, 0⟩ G ps [] S [] H ∧ AtAs K G ps vs as ∧ Ret K ps H G Q E (F as S)
def mCall (F : MF) (a : MA') : ME := fun ρ S => (a ρ S).bind fun xs S1 => F xs S1
/-- a def as a function: n slots beyond its parameters -/
def outF (n : Nat) : RS → RE Sl
  | .nx _ S' => cut n (.dat .non) S'
  | .rt r S' => cut n r S'
  | .exc i pl _ S' => cutX n i pl S'
  | _ => .stuck
def mkF (m : Nat) (g : Nat → MS) : MF := fun as S => outF S.length (g S.length (as ++ List.replicate m .no) S)
theorem AtAs.len {K : PySem.W.Frag} {G : Hp} {ps : List Addr} : ∀ {v : List V} {d : List Sl}, AtAs K G ps v d → v.length = d.length
  | _, _, .nil => rfl
  | _, _, .cons _ hs => by rw [List.length_cons, List.length_cons, AtAs.len hs]
theorem AtAs.get {K : PySem.W.Frag} {G : Hp} {ps : List Addr} : ∀ {v : List V} {d : List Sl} {i : Nat} {x : Sl}, AtAs K G ps v d → d[i]? = some x → ∃ u, v[i]? = some u ∧ AtA K G ps u x
  | _, _, i, _, .nil, e => by simp at e
  | _, _, 0, _, .cons h _, e => by simp at e; subst e; exact ⟨_, rfl, h⟩
  | _, _, i + 1, x, .cons _ hs, e => by
    obtain ⟨u, h1, h2⟩ := AtAs.get (i := i) (x := x) hs (by simpa using e)
    exact ⟨u, by simpa using h1, h2⟩
/-- the length of what arguments come to -/
class LenA (f : MA') (n : outParam Nat) : Prop where
  ln : ∀ ρ S, match f ρ S with | .ok xs _ => xs.length = n | _ => True
instance : LenA aNil 0 := ⟨fun _ _ => rfl⟩
instance {a : ME} {f : MA'} {n : Nat} [h : LenA f n] : LenA (aCons a f) (n + 1) := ⟨fun ρ S => by
  unfold aCons
  cases e : a ρ S with
  | stuck => trivial
  | exc i pl S => trivial
  | ok x S1 =>
    have z := h.ln ρ S1
    dsimp only [RE.bind]
    cases e2 : f ρ S1 with
    | stuck => trivial
    | exc i pl S => trivial
    | ok xs S2 => rw [e2] at z; dsimp only at z ⊢; rw [List.length_cons, z]⟩
/-- a def of the module that keeps a promise -/
def Cal (P : Program) (w : World) (K : PySem.W.Frag) (mg : Str → Option Value) (base : Heap) (k : Nat) (x : Str) (sp : Sp) : Prop :=
  ∃ (f : Addr) (fd : FuncData) (ps : List Str), FnOk P w K mg base (L2.CX P w) k f fd ps sp ∧ mg x = some (.ref f) ∧ PySem.W.keepIn K (.ref f) = true ∧ Binds K fd ps []
section
variable {c : Cz} {e : Expr} {es : List Expr} {pos p1 : Pos} {fa : MA'}
theorem ret_of {G1 H1 : Hp} {ps1 : List Addr} {ρ : List Sl} {σ : L2.St} {S1 : List Ce} {k : VK} {r : RE Sl} (o1 : SOk c.X.K c.F G1 ps1 ρ S1 σ H1) (q : Sat c G1 ps1 ρ σ (RA c) k r) : Ret c.X.K ps1 H1 G1 k (fun cls d H => c.W cls d σ H) r := by
  cases r with
  | stuck => exact q
  | ok r S => exact fun v G' ps' H' o a => q v G' ps' H' (o1.ret o) o.base o.pre a
  | exc i pl S => exact fun dd G' ps' H' o a => q dd G' ps' H' (o1.ret o) o.base o.pre a
theorem de_call {k n : Nat} {x : Str} {F : MF} (C : Cal c.X.prog c.X.w c.X.K c.X.mg c.X.base k x (spM c.X.K n F)) (hr : Room k c.X.A) (ha : DA c (e :: es) fa) (hl : (e :: es).length = n := by rfl) (hg : Gl c.X x := by rfl) (hdb : (x == ("__debug__" : Str)) = false := by decide)
    (he : starEach (e :: es) c.X.env = (false, eval e c.X.env) :: starEach es c.X.env := by rfl) (hpl : (backTo pos (starEach es c.X.env)).any (·.1) = false := by rfl) [hA : LenA fa n] : DE c (.Call (.Name x p1) (e :: es) [] pos) (mCall F fa) := fun ρ S σ G ps H k o q => by
  obtain ⟨f, fd, pn, F, hm, hk, hb⟩ := C
  refine ⟨_, pe_callS F hr hg hm hk hb (fun σ => passAt c.tk σ) wa_pa (hdb := hdb) (he := he) (hpl := hpl), ha _ _ _ _ _ _ _ o ?_⟩
  have hn := hA.ln ρ S
  unfold mCall at q
  cases efa : fa ρ S with
  | stuck => rw [efa] at q; exact q
  | exc i pl S1 => rw [efa] at q; exact q
  | ok xs S1 =>
    rw [efa] at q hn
    intro v1 G1 ps1 H1 o1 e1 p1 a1
    exact ⟨G1, ps1, S1, xs, hn, o1.ent', a1, ret_of o1 (Sat.mono q e1 p1)⟩
theorem de_call0 {k : Nat} {x : Str} {F0 : MF} (C : Cal c.X.prog c.X.w c.X.K c.X.mg c.X.base k x (spM c.X.K 0 F0)) (hr : Room k c.X.A) (hg : Gl c.X x := by rfl) (hdb : (x == ("__debug__" : Str)) = false := by decide) : DE c (.Call (.Name x p1) [] [] pos) (mCall F0 aNil) := fun ρ S σ G ps H k o q => by
  obtain ⟨f, fd, pn, F, hm, hk, hb⟩ := C
  have pe : PE c.X (.Call (.Name x p1) [] [] pos) (tCallS (spM c.X.K 0 F0) (L2.WE c.W) tNil) := ⟨fun pins s σ H Q I h =>
    wpAny_Call_Name_kw (ld_glob I hg hm (PySem.W.callWith_K0 I.kIn hk (run_fnS (us := []) F hr hb (passAt c.tk σ) I .nil h)) hdb)⟩
  exact ⟨_, pe, G, ps, S, [], rfl, o.ent', .nil, ret_of o q⟩
end
/-! ### a def's body -/
abbrev czOf (P : Program) (w : World) (K : PySem.W.Frag) (mg : Str → Option Value) (base : Heap) (N : List Str) (qual : Str) (scope : Scope) (f : Addr) (cd : Value) (A : Around) (outer : List Env) (s : Shared) (H : Hp) (E : XK) (F : Fx) : Cz :=
  ⟨cxOf (L2.CX P w) P w K mg base N qual scope f cd A outer s H E, F, fun cls d _ H => E cls d H, takes_of rfl rfl rfl rfl⟩
omit CM in
theorem start_len {N : List Str} {vs : List V} (h : vs.length ≤ N.length) : (L2.start N vs).length = N.length := by
  unfold L2.start
  rw [List.length_append, List.length_map, List.length_replicate]; omega
omit CM in
theorem start_get {N : List Str} {vs : List V} {i : Nat} {v : V} (h : vs[i]? = some v) : (L2.start N vs)[i]? = some (some v) := by
  unfold L2.start
  have hl := (List.getElem?_eq_some_iff.mp h).1
  rw [List.getElem?_append_left (by rw [List.length_map]; exact hl), List.getElem?_map, h]
  rfl
theorem SOk.begin {K : PySem.W.Frag} {N : List Str} {G H : Hp} {ps : List Addr} {S : List Ce} {vs : List V} {as : List Sl} {n m : Nat} (o : SOk K ⟨ps, H, G, 0, 0⟩ G ps [] S [] H) (a : AtAs K G ps vs as) (hl : as.length = n) (hN : n + m = N.length) : SOk K ⟨ps, H, G, 0, 0⟩ G ps (as ++ List.replicate m .no) S (L2.start N vs) H := by
  refine ⟨o.sub, o.base, o.keep, o.new, o.pre, o.nd, o.fresh, o.there, o.plen, ?_, fun i x q nn => ?_, o.cell⟩
  · rw [start_len (by rw [a.len, hl]; omega), List.length_append, List.length_replicate, hl]; omega
  · by_cases hi : i < as.length
    · rw [List.getElem?_append_left hi] at q
      obtain ⟨v, h1, h2⟩ := a.get q
      exact ⟨v, start_get h1, .val h2⟩
    · rw [List.getElem?_append_right (by omega)] at q
      exact absurd (List.eq_of_mem_replicate (List.mem_of_getElem? q)) nn
theorem ret_cut {K : PySem.W.Frag} {ps ps' : List Addr} {H G G' H' : Hp} {ρ : List Sl} {σ : L2.St} {S S' : List Ce} {Q : VK} {E : XK} {r : Sl} {v : V} (hS : ps.length = S.length) (o : SOk K ⟨ps, H, G, 0, 0⟩ G' ps' ρ S' σ H') (a : AtA K G' ps' v r) (q : Ret K ps H G Q E (cut S.length r S')) : Q v H' := by
  have ob := o.bare
  have hle : S.length ≤ S'.length := by rw [← hS, ← o.plen]; exact o.pre.length_le
  have no : ∀ (i : Nat) (a : Sl), ([] : List Sl)[i]? = some a → slLt S.length a = true := fun i a h => by simp at h
  unfold cut at q
  by_cases h : okTake S.length S' = true
  · rw [if_pos h] at q
    have ot := ob.takeN (by rw [← hS]; exact Nat.le_refl _) hle h no
    cases a with
    | dat a => exact q v G' _ H' ot (.dat a)
    | @own p j hp =>
      dsimp only at q
      by_cases hj : j < S.length
      · rw [if_pos hj] at q
        exact q _ G' _ H' ot (.own (by rw [List.getElem?_take_of_lt hj]; exact hp))
      · rw [if_neg hj] at q
        cases e : S'[j]? with
        | none => rw [e] at q; exact q.elim
        | some cl =>
          rw [e] at q
          dsimp only at q
          by_cases hc : ceLt S.length cl = true
          · rw [if_pos hc] at q
            have ce := (o.cell j p cl hp e).take hc
            have pout : p ∉ ps'.take S.length := fun hm => by
              obtain ⟨m, hm, hz⟩ := List.mem_iff_getElem.mp hm
              have h1 : (ps'.take S.length)[m]? = some p := by rw [List.getElem?_eq_getElem hm, hz]
              obtain ⟨h2, h3⟩ := take_get h1
              exact pnd o.nd hp h3 (by omega) rfl
            have pl : (ps'.take S.length).length = S.length := by rw [List.length_take, o.plen]; omega
            have pp : ps'.take S.length <+: ps'.take S.length ++ [p] := List.prefix_append _ _
            refine q _ G' (ps'.take S.length ++ [p]) H' ⟨ot.sub, ot.base, ot.keep, ot.new, ot.pre.trans pp, ?_, fun r hr => ?_, fun r hr => ?_, ?_, rfl, fun i a h => by simp at h, fun k r c2 h1 h2 => ?_⟩ (.own (by rw [List.getElem?_append_right (by omega), pl, Nat.sub_self] <;> rfl))
            · rw [List.nodup_append]
              exact ⟨ot.nd, by simp, fun a ha b hb => by
                have e : b = p := by simpa using hb
                subst e
                exact fun e => pout (e ▸ ha)⟩
            · rcases List.mem_append.mp hr with z | z
              · exact ot.fresh r z
              · have e : r = p := by simpa using z
                rw [e]; exact o.fresh p (List.mem_of_getElem? hp)
            · rcases List.mem_append.mp hr with z | z
              · exact ot.there r z
              · have e : r = p := by simpa using z
                rw [e]; exact o.there p (List.mem_of_getElem? hp)
            · rw [List.length_append, List.length_append, pl, List.length_take, Nat.min_eq_left hle] <;> rfl
            · have sl : (S'.take S.length).length = S.length := by rw [List.length_take]; omega
              by_cases hk : k < S.length
              · rw [List.getElem?_append_left (by omega)] at h1 h2
                exact (ot.cell k r c2 h1 h2).grow (Ex.refl _) pp (fun z _ => z) rfl
              · have hk' := (List.getElem?_eq_some_iff.mp h1).1
                rw [List.length_append, pl] at hk'
                have e1 : ([p] : List Addr).length = 1 := rfl
                have ek : k = S.length := by omega
                subst ek
                rw [List.getElem?_append_right (by omega), pl, Nat.sub_self] at h1
                rw [List.getElem?_append_right (by omega), sl, Nat.sub_self] at h2
                cases h1; cases h2
                exact ce.grow (Ex.refl _) pp (fun z _ => z) rfl
          · rw [if_neg hc] at q
            exact q _ G' ps' H' ob (.own hp)
  · rw [if_neg h] at q
    cases a with
    | dat a => exact q v G' _ H' ob (.dat a)
    | own hp => exact q _ G' _ H' ob (.own hp)
theorem ret_cutX {K : PySem.W.Frag} {ps ps' : List Addr} {H G G' H' : Hp} {ρ : List Sl} {σ : L2.St} {S S' : List Ce} {Q : VK} {E : XK} {i : Nat} {pl : Option (Str × D)} {dd : Option Addr} (hS : ps.length = S.length) (o : SOk K ⟨ps, H, G, 0, 0⟩ G' ps' ρ S' σ H') (a : ExcAt K G' dd pl) (q : Ret K ps H G Q E (cutX S.length i pl S')) : E (.ref (CM.A i)) dd H' := by
  have ob := o.bare
  have hle : S.length ≤ S'.length := by rw [← hS, ← o.plen]; exact o.pre.length_le
  unfold cutX at q
  by_cases h : okTake S.length S' = true
  · rw [if_pos h] at q
    exact q dd G' _ H' (ob.takeN (by rw [← hS]; exact Nat.le_refl _) hle h fun i a h => by simp at h) a
  · rw [if_neg h] at q
    exact q dd G' _ H' ob a
/-- the body's result as the ends of a def -/
theorem body_ends {K : PySem.W.Frag} {c : Cz} {ps : List Addr} {H G : Hp} {S : List Ce} {Q : VK} {E : XK} {m : Nat} {g : Nat → MS} {as : List Sl} (hK : c.X.K = K) (hF : c.F = ⟨ps, H, G, 0, 0⟩) (hW : ∀ cls d σ H, E cls d H → c.W cls d σ H) (hS : ps.length = S.length) (q : Ret K ps H G Q E (mkF m g as S)) :
    SatS c G ps { nx := fun _ H' => Q .non H', rt := Q } (g S.length (as ++ List.replicate m .no) S) := by
  subst hK
  unfold mkF at q
  cases e : g S.length (as ++ List.replicate m .no) S with
  | stuck => rw [e] at q; exact q.elim
  | bk _ _ => rw [e] at q; exact q.elim
  | ct _ _ => rw [e] at q; exact q.elim
  | nx ρ' S' => rw [e] at q; exact fun σ G' ps' H' o e' p' => ret_cut hS (hF ▸ o) (.dat .non) q
  | rt r S' => rw [e] at q; exact fun v ρ σ G' ps' H' o e' p' a => ret_cut hS (hF ▸ o) a q
  | exc i pl ρ' S' => rw [e] at q; exact fun σ dd G' ps' H' o e' p' a => hW _ _ _ _ (ret_cutX hS (hF ▸ o) a q)
section
variable {P : Program} {w : World} {K : PySem.W.Frag} {mg : Str → Option Value} {base : Heap}
theorem fnM {x : Str} {st : Stmt} {f : Addr} {fd : FuncData} {N ps : List Str} {k n m : Nat} {g : Nat → MS} (F : Fun K x x st f fd) (S : FnScope N ps (defScope st)) (hm : mg x = some (.ref f)) (hb : Binds K fd ps [])
    (body : ∀ (cdv : Value) (A : Around) (outer : List Env) (s : Shared) (H : Hp) (E : XK) (F : Fx) (n0 : Nat), Room k (A.deeper (PyProof.Rows.envOfC x (defScope st) s.heap.objs.size f cdv)) → F.P0.length = n0 →
      DS (czOf P w K mg base N x (defScope st) f cdv A outer s H E F) (defBody st) (g n0)) (hn : ps.length = n := by rfl) (hN : n + m = N.length := by rfl) : Cal P w K mg base (k + 1) x (spM K n (mkF m g)) := by
  refine ⟨f, fd, ps, F.okX S (fun vs H Q E h => ?_) (fun cdv A outer s H vs Q E hr h => ?_), hm, F.kp, hb⟩
  · obtain ⟨G, ps', S', as, hl, _, a, _⟩ := h
    rw [a.len, hl, hn]
  · obtain ⟨G, ps', S', as, hl, o, a, q⟩ := h
    exact ⟨_, wss_pss, body cdv A outer s H E ⟨ps', H, G, 0, 0⟩ S'.length hr o.plen _ S' _ G ps' H _ (o.begin a hl hN) (body_ends rfl rfl (fun _ _ _ _ z => z) o.plen q)⟩
end
/-! ### with no guards about (repr of lists and tuples) -/
def RunG (P : Program) (w : World) (K : PySem.W.Frag) (mg : Str → Option Value) (base : Heap) (k : Nat) (f : Addr) (sp : Sp) : Prop :=
  ∀ (A : Around) (outer : List Env) (s : Shared) (H : Hp) (us : List Value) (vs : List V) (Q : VK) (E : XK), Room k A → A.guards = some [] → Env0 P w K mg base A outer s H → Vals vs us → sp vs H Q E →
    codeAny (model P w) A (.call (.ref f) ⟨us, []⟩) (CR (L2.CX P w) outer P w H s Q E) s
omit CM in
section
variable {P : Program} {w : World} {K : PySem.W.Frag} {mg : Str → Option Value} {base : Heap}
theorem RunG.of {k : Nat} {f : Addr} {fd : FuncData} {ps : List Str} {sp : Sp} (F : FnOk P w K mg base (L2.CX P w) k f fd ps sp) (hb : Binds K fd ps []) : RunG P w K mg base k f sp := fun A outer s H us vs Q E hr _ e0 r hs => by
  have KX : K.In s.heap := PySem.W.Frag.In.keeps e0.mod.kin fun b o e => (e0.bs b o e).1
  have n : us.length = ps.length := r.length.symm.trans (F.len _ _ _ _ hs)
  have bb := hb s us KX (by rw [List.append_nil]; exact n)
  rw [List.append_nil] at bb
  exact F.run A outer s H ⟨us, []⟩ us vs Q E hr e0 bb r hs
theorem runG_mk {x : Str} {st : Stmt} {f : Addr} {fd : FuncData} {N ps : List Str} {k : Nat} {sp : Sp} (F : Fun K x x st f fd) (hb : Binds K fd ps []) (S : FnScope N ps (defScope st)) (len : ∀ vs H Q E, sp vs H Q E → vs.length = ps.length)
    (body : ∀ (cdv : Value) (A : Around) (outer : List Env) (s : Shared) (H : Hp) (vs : List V) (Q : VK) (E : XK), Room k (A.deeper (PyProof.Rows.envOfC x (defScope st) s.heap.objs.size f cdv)) → A.guards = some [] → sp vs H Q E →
      ∃ t, PSs (cxOf (L2.CX P w) P w K mg base N x (defScope st) f cdv A outer s H E) (defBody st) t ∧ t { nx := fun _ H' => Q .non H', rt := Q } (L2.start N vs) H) : RunG P w K mg base (k + 1) f sp := fun A outer s H us vs Q E hr hG e0 r hsp => by
  obtain ⟨oc, od, kV, doc, pm, an, cdv, ct, osl, rfl, lk, hcd⟩ := F.ex
  have old := fun (b : Addr) (o : Obj) (e : base.get? b = some o) => (e0.bs b o e).1
  have inK := PySem.W.Frag.In.keeps e0.mod.kin old
  have n := len _ _ _ _ hsp
  have bb := hb s us inK (by rw [List.append_nil]; exact r.length.symm.trans n)
  rw [List.append_nil] at bb
  have places : ∀ z ∈ ps.zip us, (defScope st).names.lookup z.1 = some .local ∨ ((defScope st).names.lookup z.1 = some .cell ∧ ((cellsFrom (s.heap.objs.size + 1) (defScope st).names []).lookup z.1).isSome = true) := by
    rintro ⟨y, u⟩ hz
    exact (S.par y (List.of_mem_zip hz).1).imp id fun c => ⟨c, PySem.W.cellsFrom_some _ _ _ (.inl c)⟩
  refine codeAny_call_function hr.depth (inK _ _ lk) rfl S.co S.gen rfl (PySem.W.codeRec_of inK hcd) (bb _ _ _ _ (wpAny_newFunctionEnv_cells S.kind places fun env he s1 ic => ?_))
  cases he
  refine ⟨(e0.mod.nolimit.keeps old).keeps ic.toInCall.keep, codeAny_func ?_⟩
  obtain ⟨t, ht, q⟩ := body cdv A outer s H vs Q E (hr.deeper _) hG hsp
  refine wpAny_mono (ht.run [] s1 (L2.start N vs) H _ (inv_start S hr.hd e0 n r ic) q) ?_ fun _ _ z => z
  intro fl s' z
  cases fl with
  | brk => obtain ⟨_, _, _, y⟩ := z; exact y.elim
  | cont => obtain ⟨_, _, _, y⟩ := z; exact y.elim
  | next =>
    obtain ⟨_, H', J, y⟩ := z
    exact ⟨.non, H', J.os, J.bare, J.base, J.hok, rfl, y⟩
  | ret u =>
    obtain ⟨v, _, H', J, rv, y⟩ := z
    exact ⟨v, H', J.os, J.bare, J.base, J.hok, rv, y⟩
/-- a def that is called with no guards about, and keeps a promise -/
def CalG (P : Program) (w : World) (K : PySem.W.Frag) (mg : Str → Option Value) (base : Heap) (k : Nat) (x : Str) (sp : Sp) : Prop :=
  ∃ f : Addr, RunG P w K mg base k f sp ∧ mg x = some (.ref f) ∧ PySem.W.keepIn K (.ref f) = true
theorem Cal.toG {k : Nat} {x : Str} {sp : Sp} (h : Cal P w K mg base k x sp) : CalG P w K mg base k x sp := by
  obtain ⟨f, fd, ps, h1, h2, h3, h4⟩ := h
  exact ⟨f, .of h1 h4, h2, h3⟩
end
section
variable {P : Program} {w : World} {K : PySem.W.Frag} {mg : Str → Option Value} {base : Heap}
theorem fnMG {x : Str} {st : Stmt} {f : Addr} {fd : FuncData} {N ps : List Str} {k n m : Nat} {g : Nat → MS} (F : Fun K x x st f fd) (S : FnScope N ps (defScope st)) (hm : mg x = some (.ref f)) (hb : Binds K fd ps [])
    (body : ∀ (cdv : Value) (A : Around) (outer : List Env) (s : Shared) (H : Hp) (E : XK) (F : Fx) (n0 : Nat), Room k (A.deeper (PyProof.Rows.envOfC x (defScope st) s.heap.objs.size f cdv)) → A.guards = some [] → F.P0.length = n0 →
      DS (czOf P w K mg base N x (defScope st) f cdv A outer s H E F) (defBody st) (g n0)) (hn : ps.length = n := by rfl) (hN : n + m = N.length := by rfl) : CalG P w K mg base (k + 1) x (spM K n (mkF m g)) := by
  refine ⟨f, runG_mk F hb S (fun vs H Q E h => ?_) (fun cdv A outer s H vs Q E hr hGu h => ?_), hm, F.kp⟩
  · obtain ⟨G, ps', S', as, hl, _, a, _⟩ := h
    rw [a.len, hl, hn]
  · obtain ⟨G, ps', S', as, hl, o, a, q⟩ := h
    exact ⟨_, wss_pss, body cdv A outer s H E ⟨ps', H, G, 0, 0⟩ S'.length hr hGu o.plen _ S' _ G ps' H _ (o.begin a hl hN) (body_ends rfl rfl (fun _ _ _ _ z => z) o.plen q)⟩
end
section
variable {X : Cx} {k : Nat} {f : Addr} {sp : Sp} {E : L2.St → XK} {x : Str} {p pos : Pos} {e : Expr} {es : List Expr} {t : TA}
omit CM in
theorem pe_callG (F : RunG X.prog X.w X.K X.mg X.base k f sp) (hr : Room k X.A) (hGu : X.A.guards = some []) (hg : Gl X x) (hm : X.mg x = some (.ref f)) (hk : PySem.W.keepIn X.K (.ref f) = true) (hx : ∀ σ, PassesAt (L2.CX X.prog X.w) X σ (E σ)) (ha : PA X (e :: es) t)
    (hdb : (x == ("__debug__" : Str)) = false := by decide) (he : starEach (e :: es) X.env = (false, eval e X.env) :: starEach es X.env := by rfl) (hpl : (backTo pos (starEach es X.env)).any (·.1) = false := by rfl) : PE X (.Call (.Name x p) (e :: es) [] pos) (tCallS sp E t) :=
  ⟨fun pins s σ H Q I h => wpAny_Call_Name_kw (ld_glob I hg hm (PySem.W.callWith_K (h₀ := X.base) I.ok.mod.kin hk (thn (ha.run pos pins s σ H _ I h) fun us s1 ⟨vs, H1, I1, r, q⟩ => ⟨I1.kIn,
    wpAny_call (codeAny_mono (F X.A X.stack s1 H1 us vs Q (E σ) hr hGu I1.env0 r q) fun y s' z => by
      cases y with
      | error u => exact hx σ pins H1 s1 u s' I1 z
      | ok fl => cases fl <;> first | exact I1.after z | exact (show False from z).elim)⟩) he hpl) hdb)⟩
variable {c : Cz} {fa : MA'}
theorem de_callG {k n : Nat} {x : Str} {F : MF} (C : CalG c.X.prog c.X.w c.X.K c.X.mg c.X.base k x (spM c.X.K n F)) (hr : Room k c.X.A) (hGu : c.X.A.guards = some []) (ha : DA c (e :: es) fa) (hl : (e :: es).length = n := by rfl) (hg : Gl c.X x := by rfl) (hdb : (x == ("__debug__" : Str)) = false := by decide)
    (he : starEach (e :: es) c.X.env = (false, eval e c.X.env) :: starEach es c.X.env := by rfl) (hpl : (backTo pos (starEach es c.X.env)).any (·.1) = false := by rfl) [hA : LenA fa n] : DE c (.Call (.Name x p) (e :: es) [] pos) (mCall F fa) := fun ρ S σ G ps H k o q => by
  obtain ⟨f, F, hm, hk⟩ := C
  refine ⟨_, pe_callG F hr hGu hg hm hk (fun σ => passAt c.tk σ) wa_pa (hdb := hdb) (he := he) (hpl := hpl), ha _ _ _ _ _ _ _ o ?_⟩
  have hn := hA.ln ρ S
  unfold mCall at q
  cases efa : fa ρ S with
  | stuck => rw [efa] at q; exact q
  | exc i pl S1 => rw [efa] at q; exact q
  | ok xs S1 =>
    rw [efa] at q hn
    intro v1 G1 ps1 H1 o1 e1 p1 a1
    exact ⟨G1, ps1, S1, xs, hn, o1.ent', a1, ret_of o1 (Sat.mono q e1 p1)⟩
end
end Mir

set_option maxHeartbeats 2000000
/-! errors of the program's own with one field: self.F = F in __init__; any built-in base -/
namespace Mir
open PySem PySem.W PySem.Calls PySem.HandSPX
section
variable {prog : Program} {w : World} {A : Around} {R : Result → Shared → Prop} {hp : Heap} {g : Array GenState} {d : Drawn} {t : Nat} {os : OsState}
/-- the first field of a fresh own error -/
theorem err_store {B : String} {bmB : List Value} {K : Frag} {name : Str} {tk : Tok} {v : Value} {x C t0 : Addr} (SF : StoreFacts B bmB "object.__setattr__" "object") (X : K.In hp) (hx : hp.get? x = some (PySem.W.excObj C t0 none .none))
    (ho : excOver K C bmB = true) (ht : takerIn K C name = some none) (hh : hasDictIn K C = true)
    (hq : ∀ h' tk' dx, (∀ b o, b ≠ x → hp.get? b = some o → h'.get? b = some o) → hp.objs.size ≤ dx → dx ≠ x → h'.get? x = some (PySem.W.excObj C t0 (some dx) .none) →
      h'.Ns1 dx (fun y => if y = name then some v else none) → R (.ok (.ret .none)) ⟨h', g, d, tk', os⟩) :
    codeAny (model prog w) A (.call (.builtin "object.__setattr__") ⟨[.ref x, .str name tk, v], []⟩) R ⟨hp, g, d, t, os⟩ := by
  have hxs : x ≠ hp.objs.size := Nat.ne_of_lt (Heap.lt_size hx)
  refine osa_openX (s := ⟨hp, g, d, t, os⟩) (od := none) SF X ⟨hx, rfl, rfl, trivial⟩ ho ht fun b => ?_
  obtain ⟨cd, hc, hd'⟩ := any_some hh
  refine wpAny_bind (wpAny_pure (wpAny_bind (instanceDict_exc (s := ⟨hp, g, d, t, os⟩) hx (looks_clsIn X hc) hd' ?_)))
  show wpAny _ _ (Builtin.ObjectAttr.storeInDict hp.objs.size (.str name tk) name v) _ _ _
  refine store_in_new (dx := hp.objs.size) ?_ ?_
  · exact ⟨_, #[], _, (Heap.get?_update_ne _ _ _ _ hxs.symm).trans (Heap.get?_push_at rfl rfl), rfl, fun e he => absurd he (by simp), fun _ => rfl⟩
  · intro h' tk' hn' hs
    have old : ∀ b o, hp.get? b = some o → (hp.push (dictOf [] 0)).get? b = some o := fun b o e => Heap.get?_push_of_some _ e
    refine hq h' tk' hp.objs.size (fun b o hb e => ?_) (Nat.le_refl _) hxs.symm ?_ hn'
    · rw [hs.2 b (Nat.ne_of_lt (Heap.lt_size e)), Heap.get?_update_ne _ _ _ _ hb]
      exact old b o e
    · rw [hs.2 x hxs]
      exact Heap.get?_update_self _ (old x _ hx) rfl
end
/-- what the written part says of such a class, at C -/
structure ErrCls (K : Frag) (mg : Str → Option Value) (x fl : Str) (C fI : Addr) : Prop where
  gC : mg x = some (.ref C)
  cls : ∃ (bmB : List Value) (B newId initId : String), ExcBaseFacts B newId initId bmB ∧ StoreFacts B bmB "object.__setattr__" "object" ∧ ∃ nm q N bs bm sn sub ab col dd k0 k1 k2 k3 k5, K.lookup C = some (excClassObj nm q C N bs bm true sn sub ab col dd k0 k1 k2 k3 k5 newId) ∧ excTail bmB bm = true
  sa : findIn K (.ref C) "__setattr__" = some (some (.builtin "object.__setattr__"))
  ga : findIn K (.ref C) "__getattribute__" = some (some (.builtin "BaseException.__getattribute__"))
  gg : findIn K (.ref C) "__getattr__" = some none
  noF : findIn K (.ref C) fl = some none
  iC : findIn K (.ref C) "__init__" = some (some (.ref fI))
  tI : typeIn K (.ref fI) = some (.type "function")
  kC : keepIn K (.ref C) = true
  exC : subIn K (.ref C) (.type "BaseException") = some true
  tyC : typeIn K (.ref C) = some (.type "type")
  hdC : hasDictIn K C = true
/-- what its __init__ does of a fresh error at x -/
def InitDoes (prog : Program) (w : World) (K : Frag) (C fI : Addr) (fl : Str) : Prop :=
  ∀ (A : Around) (R : Result → Shared → Prop) (s : Shared) (x t0 : Addr) (v : Value), K.In s.heap → s.heap.NoLimit → s.heap.get? x = some (PySem.W.excObj C t0 none .none) → K.lookup x = none → A.depth < recursionLimit →
    (∀ h' tk dx, (∀ b o, b ≠ x → s.heap.get? b = some o → h'.get? b = some o) → h'.get? x = some (PySem.W.excObj C t0 (some dx) .none) → s.heap.objs.size ≤ dx → dx ≠ x → h'.Ns1 dx (fun y => if y = fl then some v else none) → R (.ok (.ret .none)) { s with heap := h', toks := tk }) →
    codeAny (model prog w) A (.call (.ref fI) ⟨[.ref x, v], []⟩) R s
theorem kept_out {K : Frag} {h h' : Heap} {x : Addr} (X : K.In h) (hx : K.lookup x = none) (k : ∀ b o, b ≠ x → h.get? b = some o → h'.get? b = some o) : K.In h' := fun a o e =>
  k a o (fun z => by rw [z, hx] at e; cases e) (X a o e)
section
variable {prog : Program} {w : World} {A : Around} {R : Result → Shared → Prop} {s : Shared} {K : Frag} {mg : Str → Option Value} {xn fl : Str} {C fI : Addr}
theorem clsIn_of {nm q : Str} {N : Addr} {bs bm : List Value} {sn : List Str} {sub : List Value} {ab : Bool} {col : Option Bool} {dd : Option Addr} {k0 k1 k2 k3 k5 : Option Value} {newId : String}
    (h : K.lookup C = some (excClassObj nm q C N bs bm true sn sub ab col dd k0 k1 k2 k3 k5 newId)) :
    clsIn K C = some { name := nm, bases := bs, mro := .ref C :: bm, ns := N, qualname := q, hasDict := true, slotNames := sn, subclasses := sub, abstract := ab, collection := col, hasDel := false } := by
  unfold clsIn
  rw [h] <;> rfl
/-- X(v) -/
theorem err_made (T : ErrCls K mg xn fl C fI) (hI : InitDoes prog w K C fI fl) {v : Value} (X : K.In s.heap) (hlim : s.heap.NoLimit) (hroom : A.depth + 1 < recursionLimit)
    (hq : ∀ h' tk e dx t0, (∀ b o, s.heap.get? b = some o → h'.get? b = some o) → s.heap.objs.size ≤ e → h'.get? e = some (PySem.W.excObj C t0 (some dx) .none) → s.heap.objs.size ≤ dx → dx ≠ e → h'.Ns1 dx (fun y => if y = fl then some v else none) → R (.ok (.ret (.ref e))) { s with heap := h', toks := tk }) :
    codeAny (model prog w) A (.call (.ref C) ⟨[v], []⟩) R s := by
  obtain ⟨bmB, B, newId, initId, FB, SF, nm, q, N, bs, bm, sn, sub, ab, col, dd, k0, k1, k2, k3, k5, hC, hbm⟩ := T.cls
  obtain ⟨hp, g, dr, tk, os⟩ := s
  have old : ∀ b o, hp.get? b = some o → ((hp.push (kdv_tup [v])).push (excO C hp.objs.size)).get? b = some o := fun b o e => Heap.get?_push_of_some _ (Heap.get?_push_of_some _ e)
  have at1 : ((hp.push (kdv_tup [v])).push (excO C hp.objs.size)).get? (hp.objs.size + 1) = some (excO C hp.objs.size) := by heap_get
  have out : K.lookup (hp.objs.size + 1) = none := by
    cases e : K.lookup (hp.objs.size + 1) with
    | none => rfl
    | some o =>
      have z : hp.objs.size + 1 < hp.objs.size := Heap.lt_size (X _ _ e)
      omega
  refine call_own FB (fun Y => excTail_contains Y bm hbm) (X _ _ hC) (looks_findIn X T.iC) (fun self => bind_fn X self T.tI) (by show 1 ≤ sizeLine; decide) ?_
  refine hI _ _ ⟨(hp.push (kdv_tup [v])).push (excO C hp.objs.size), g, dr, tk, os⟩ (hp.objs.size + 1) hp.objs.size v (X.keeps old) (hlim.keeps old) at1 out (show A.depth + 1 < recursionLimit from hroom) fun h' tk' dx k' hx dn dne hns => ?_
  have more : hp.objs.size + 2 ≤ dx := by
    have z : ((hp.push (kdv_tup [v])).push (excO C hp.objs.size)).objs.size ≤ dx := dn
    rw [Heap.size_push, Heap.size_push] at z
    exact z
  have b1 : hp.objs.size ≤ hp.objs.size + 1 := Nat.le_succ _
  have b2 : hp.objs.size ≤ dx := by omega
  exact ⟨rfl, hq h' tk' (hp.objs.size + 1) dx hp.objs.size (fun b o e => k' b o (Nat.ne_of_lt (Nat.lt_succ_of_lt (show b < hp.objs.size from Heap.lt_size e))) (old b o e)) b1 hx b2 dne hns⟩
end
end Mir
namespace Mir
open PySem PySem.Spec L2
theorem relO_one {v : V} {v' : Value} (r : RelV v v') (fl f : Str) : RelO (List.lookup f [(fl, v)]) (if f = fl then some v' else none) := by
  by_cases h : f = fl
  · subst h
    have q : List.lookup f [(f, v)] = some v := by simp [List.lookup]
    rw [if_pos rfl, q]
    exact r
  · have z : (f == fl) = false := by simpa using h
    have q : List.lookup f [(fl, v)] = none := by simp [List.lookup, z]
    rw [if_neg h, q]
    trivial
section
variable {X : Cx} {C fI : Addr} {xn fl : Str}
def tMkE (C : Addr) (fl : Str) (ta : TA) : L2.St → Hp → XK → Prop := fun σ H Q => ta σ H fun vs H1 => ∃ v, vs = [v] ∧ ∀ d, H1 d = none → Q (.ref C) (some d) (upd H1 d (.xd [(fl, v)]))
theorem pmk_err {a : Expr} {ta : TA} {p pos : Pos} {k : Nat} (T : ErrCls X.K X.mg xn fl C fI) (hI : InitDoes X.prog X.w X.K C fI fl) (hr : Room k X.A) (ha : PA X [a] ta) (hg : Gl X xn) (hdb : (xn == ("__debug__" : Str)) = false)
    (he : starEach (a :: []) X.env = (false, eval a X.env) :: starEach [] X.env) (hpl : (backTo pos (starEach [] X.env)).any (·.1) = false) : PMk X (.Call (.Name xn p) [a] [] pos) (tMkE C fl ta) := by
  intro pins s σ H Q I h
  refine wpAny_Call_Name_kw (ld_glob I hg T.gC ?_ hdb)
  refine PySem.W.callWith_K (h₀ := X.base) I.ok.mod.kin T.kC (thn (ha.run pos pins s σ H _ I h) fun us s1 hh => ?_) he hpl
  obtain ⟨vs, H1, I1, r1, v, ev, q1⟩ := hh
  subst ev
  refine ⟨I1.kIn, ?_⟩
  cases r1 with
  | cons rv rn =>
    rename_i v' us'
    cases rn
    show wpAny _ _ (call (.ref C) [v']) _ _ _
    have hlim := I1.nolimit
    obtain ⟨hp, g, dr, tk, os⟩ := s1
    refine wpAny_call (err_made T hI I1.kIn hlim (by have := hr.dp; omega) fun h' tk' e d t0 keep new obj dbig dne ns => ?_)
    show MkP X pins σ Q (.ref e) ⟨h', g, dr, tk', os⟩
    obtain ⟨G', g1, g2⟩ := restrict h' fun b => decide (b ≠ e)
    have gk : ∀ b, b ≠ e → G'.get? b = h'.get? b := fun b hb => g1 b (decide_eq_true hb)
    have ge : G'.get? e = none := g2 e (by simp)
    have old : ∀ b o, hp.get? b = some o → G'.get? b = some o := fun b o q => (gk b (Nat.ne_of_lt (Nat.lt_of_lt_of_le (Heap.lt_size q) new))).trans (keep b o q)
    have ob : ObjOk X.prog X.w (upd H1 d (.xd [(fl, v)])) G' d (.xd [(fl, v)]) := ⟨_, ns.at (fun o q => (gk d dne).trans q), fun f => relO_one rv fl f⟩
    have J : Inv X pins σ (upd H1 d (.xd [(fl, v)])) ⟨G', g, dr, tk', os⟩ := I1.laid (t' := tk') old dbig ob
    refine ⟨e, _, _, ⟨G', g, dr, tk', os⟩, _, .ref C, some d, rfl, J, fun b o q => ?_, ge, obj, ⟨rfl, rfl⟩, rfl, rfl, ?_, rfl, I1.bare, raises_own T.exC T.tyC, q1 d (I1.hok.fresh dbig)⟩
    · by_cases hb : b = e
      · have q' : G'.get? b = some o := q
        rw [hb, ge] at q'; cases q'
      · exact (gk b hb).symm.trans q
    · rw [upd_ne (Ne.symm dne)]
      exact I1.hok.fresh new
end
end Mir
namespace Mir
open PySem
/-- a local name of a frame -/
theorem err_ld {M : Model} {s : Shared} {name : Str} {scope : Scope} {L a : Addr} {cd : Value} {m : Str → Option Value} {x : Str} {pos : Pos} {v : Value} {Q : Value → Shared → Prop} {A : Around} {E : Value → Shared → Prop} (hn : s.heap.Ns L m) (hv : m x = some v) (h : Q v s)
    (hk : scope.kind = .function := by rfl) (hl : (PyProof.Rows.envOfC name scope L a cd).kindOf x = some .local := by rfl) (hd : (x == ("__debug__" : Str)) = false := by decide) :
    wpAny M A (eval (.Name x pos) (PyProof.Rows.envOfC name scope L a cd)) Q E s := wpAny_Name (wpAny_loadName_local hk hl hn hv h) hd
end Mir

set_option maxHeartbeats 2000000
/-! try with several clauses, each with or without a name -/
namespace Mir
open PySem PySem.Spec L2
open PyProof.Rows (AllBare)
abbrev Suite := Addr → Value → Option Addr → TS
/-- the ends of a suite whose name (slot i) goes behind it -/
def goneE (E : Ends) : Option Nat → Ends
  | none => E
  | some i => { nx := fun σ H => E.nx (σ.set i none) H, rt := E.rt, bk := fun σ H => E.bk (σ.set i none) H, ct := fun σ H => E.ct (σ.set i none) H }
def nameS (a : Addr) (σ : L2.St) : Option Nat → L2.St
  | none => σ
  | some i => σ.set i (some (.ref a))
structure Cla where
  cl : Value
  sl : Option Nat
  su : Suite
def wCla (K : PySem.W.Frag) (W : WX) (E : Ends) : List Cla → WX
  | [] => W
  | k :: r => fun cls d σ H => ∃ b, PySem.W.exmOne K cls k.cl = some b ∧ (b = true → ∀ a, H a = none → k.su a cls d (goneE E k.sl) (nameS a σ k.sl) H) ∧ (b = false → wCla K W E r cls d σ H)
inductive ClaOk (X : Cx) : List ExceptHandler → List Cla → Prop
  | nil : ClaOk X [] []
  | bare {x : Str} {c : Value} {u : Suite} {b : Stmt} {bs : List Stmt} {p q : Pos} {hs : List ExceptHandler} {l : List Cla} : Names X x c →
      (∀ (a : Addr) (oe : Obj) (cls : Value) (d : Option Addr) (pn : List (Addr × Obj)), Zc cls d oe → (∃ vs, oe.data = .fields vs) → PSs (X.suite a ((a, oe) :: pn)) (b :: bs) (u a cls d)) → ClaOk X hs l →
      ClaOk X (.ExceptHandler (some (.Name x p)) none (b :: bs) q :: hs) (⟨c, none, u⟩ :: l)
  | named {x n : Str} {i : Nat} {c : Value} {u : Suite} {b : Stmt} {bs : List Stmt} {p q : Pos} {hs : List ExceptHandler} {l : List Cla} : Names X x c → X.N[i]? = some n → X.env.kindOf n = some .local →
      (∀ (a : Addr) (oe : Obj) (cls : Value) (d : Option Addr) (pn : List (Addr × Obj)), Zc cls d oe → (∃ vs, oe.data = .fields vs) → PSs (X.suite a ((a, oe) :: pn)) (b :: bs) (u a cls d)) → ClaOk X hs l →
      ClaOk X (.ExceptHandler (some (.Name x p)) (some n) (b :: bs) q :: hs) (⟨c, some i, u⟩ :: l)
section
variable {X : Cx} {W : WX} {pos : Pos}
/-- the class test of a clause -/
theorem cla_test {a : Addr} {x : Str} {c : Value} {p : Pos} {pn : List (Addr × Obj)} {σ : L2.St} {H : Hp} {s : Shared} {Q : Value → Shared → Prop} {E : Value → Shared → Prop} (nm : Names X x c) (J : Inv (X.suite a pn) [] σ H s) (q : Q c s) :
    wpAny (model X.prog X.w) (X.A.mark (some (.ref a))) (eval (.Name x p) X.env) Q E s := by
  rcases nm with ⟨g, db, m | ⟨m, bv, ne⟩⟩
  · exact ld_glob (X := X.suite a pn) J g m q db
  · exact ld_blt (X := X.suite a pn) J g m bv q ne db
theorem sp_unsuite {a : Addr} {y : Addr × Obj} {pins : List (Addr × Obj)} {E : Ends} {f : Flow} {s : Shared} (ok : X.Ok) (h : SP (X.suite a (y :: (X.pn ++ pins))) [] E f s) : SP X pins E f s := by
  cases f with
  | next => exact let ⟨σ, H, J, z⟩ := h; ⟨σ, H, J.unsuite ok, z⟩
  | brk => exact let ⟨σ, H, J, z⟩ := h; ⟨σ, H, J.unsuite ok, z⟩
  | cont => exact let ⟨σ, H, J, z⟩ := h; ⟨σ, H, J.unsuite ok, z⟩
  | ret u => exact let ⟨v, σ, H, J, r, z⟩ := h; ⟨v, σ, H, J.unsuite ok, r, z⟩
theorem sp_ofTry {pins : List (Addr × Obj)} {xe : Value → Shared → Prop} {E : Ends} {f : Flow} {s : Shared} (ok : X.Ok) (h : SP (X.tr (X.pn ++ pins) xe) [] E f s) : SP X pins E f s := by
  cases f with
  | next => exact let ⟨σ, H, J, z⟩ := h; ⟨σ, H, J.ofTry ok, z⟩
  | brk => exact let ⟨σ, H, J, z⟩ := h; ⟨σ, H, J.ofTry ok, z⟩
  | cont => exact let ⟨σ, H, J, z⟩ := h; ⟨σ, H, J.ofTry ok, z⟩
  | ret u => exact let ⟨v, σ, H, J, r, z⟩ := h; ⟨v, σ, H, J.ofTry ok, r, z⟩
/-- a caught error on the ground, then the clauses -/
theorem clauses_go (fr : X.env.frame = some X.env.locals) (st : X.stack = X.env :: X.outer) (nd : X.N.Nodup) (tk : Takes X W) {pins : List (Addr × Obj)} {E : Ends} {a : Addr} {B : Heap} {s0 sz : Shared} {σ : L2.St} {H : Hp} {cls : Value} {d : Option Addr}
    (J0 : Inv X pins σ H s0) (nb : ∀ b o, s0.heap.get? b = some o → b ∉ frs X.stack → B.get? b = some o) (fly : HandSPX.FlyingZ B (X.env :: X.outer) a (Zc cls d) sz.heap) (ups : s0.heap.UpToSlots sz.heap) (na : H a = none) (os : sz.os = s0.os) (ag : AllBare sz.gens)
    (nL : a ≠ X.env.locals) (nF : a ∉ X.fs) : ∀ {hs : List ExceptHandler} {l : List Cla}, ClaOk X hs l → wCla X.K W E l cls d σ H → wpAny (model X.prog X.w) X.A (handleBy (.ref a) X.env hs) (SP X pins E) X.xe sz := by
  intro hs l ok
  have okx := J0.ok
  have Jz : Inv X pins σ H sz := by
    have := J0.landed (s' := sz) nb fly.1 ups os ag
    exact this
  obtain ⟨oz, vz, gz, zz, dz⟩ := fly.there
  have Sz := Jz.suite gz dz na nL nF
  have lands : ∀ {Q : Unit → Shared → Prop} {E' : Value → Shared → Prop} {A' : Around}, (∀ h4 o4, HandSPX.FlyingZ B (X.env :: X.outer) a (Zc cls d) h4 → Zc cls d o4 → (∃ vs, o4.data = .fields vs) → Inv (X.suite a ((a, o4) :: (X.pn ++ pins))) [] σ H { sz with heap := h4 } → Q () { sz with heap := h4 }) →
      wpAny (model X.prog X.w) A' (setFlight (.ref a) none) Q E' sz := fun {Q E' A'} hq => HandSPX.lands_againZ fly fun h4 fly4 up4 => by
    obtain ⟨o4, v4, g4, z4, d4⟩ := fly4.there
    exact hq h4 o4 fly4 z4 ⟨_, d4⟩ ((J0.landed (s' := { sz with heap := h4 }) nb fly4.1 (ups.trans up4) os ag).suite g4 d4 na nL nF)
  have look : PySem.W.Looks (model X.prog X.w) sz.heap (typeOf (.ref a)) cls := fun A' Q E' s k q => wpAny_typeOf_ref (k _ _ gz) (by rw [zz.1]; exact q)
  induction ok with
  | nil =>
    intro w
    refine wpAny_handleBy_nil ?_
    obtain ⟨_, _, _, oe, vs, T, oT, ts, he, _, hd, h1, _⟩ := id fly
    unfold PySem.passOn
    refine wpAny_bind (wpAny_field he hd h1 ?_)
    rw [if_neg (by simp : ¬ ((Value.ref T == Value.none) = true))]
    have up1 : wpAny (model X.prog X.w) X.A (setFlight (.ref a) X.env.frame) (fun _ s4 => wpAny (model X.prog X.w) X.A (throw (.ref a) : Sem Flow) (SP X pins E) X.xe s4) X.xe sz := by
      rw [fr]
      exact HandSPX.setFlight_upZ fly fun h4 held up4 => wpAny_throw (tk _ _ ⟨a, B, s0, pins, σ, H, cls, d, rfl, J0, nb, ups.trans up4, .inr (.inr (by rw [st]; exact held)), na, os, ag, w⟩)
    first | exact wpAny_bind (wpAny_pure (wpAny_bind up1)) | exact wpAny_bind up1
  | @bare x c u b bs p q hs l nm su _ ih =>
    rintro ⟨t, e, yes, no⟩
    have LM := PySem.W.exm_one (M := model X.prog X.w) Jz.kIn look e
    refine wpAny_handleBy_cons (codeAny_handlers_test (cla_test nm Sz (LM.here ?_))) (by intro z; cases z)
    cases t with
    | false =>
      show wpAny _ X.A (handleBy (.ref a) X.env hs) _ _ _
      exact ih (no rfl)
    | true =>
      refine codeAny_handlers_suite (lands fun h4 o4 _ z4 d4 S4 => ?_)
      exact wpAny_mono ((su a o4 cls d _ z4 d4).run [] _ _ H _ S4 (yes rfl a na)) (fun f s6 h => sp_unsuite okx h) (fun _ _ z => False.elim z)
  | @named x n i c u b bs p q hs l nm hi hk su _ ih =>
    rintro ⟨t, e, yes, no⟩
    have LM := PySem.W.exm_one (M := model X.prog X.w) Jz.kIn look e
    refine wpAny_handleBy_cons (codeAny_handlers_test (cla_test nm Sz (LM.here ?_))) (by intro z; cases z)
    cases t with
    | false =>
      show wpAny _ X.A (handleBy (.ref a) X.env hs) _ _ _
      exact ih (no rfl)
    | true =>
      refine codeAny_handlers_suite_as (lands fun h4 o4 _ z4 d4 S4 => ?_)
      refine store_ok (X := X.suite a ((a, o4) :: (X.pn ++ pins))) (v := .ref a) S4 nd hi (.inl hk) rfl (fun s5 S5 => ?_) (.inr hk)
      refine wpAny_mono ((su a o4 cls d _ z4 d4).run [] s5 _ H _ S5 (yes rfl a na)) (fun f s6 h => ?_) (fun _ _ z => False.elim z)
      have bye : ∀ {σ6 : L2.St} {H6 : Hp} {Q : Shared → Prop}, Inv (X.suite a ((a, o4) :: (X.pn ++ pins))) [] σ6 H6 s6 → (∀ s7, Inv X pins (σ6.set i none) H6 s7 → Q s7) → wpAny (model X.prog X.w) X.A (do bindName X.env n .none; unbindBehindTheSuite X.env n q) (fun _ s7 => Q s7) X.xe s6 :=
        fun S6 hq => gone_ok (S6.unsuite okx) nd hi hk hq
      cases f with
      | next => exact let ⟨σ6, H6, S6, y⟩ := h; bye S6 fun s7 J7 => ⟨_, _, J7, y⟩
      | brk => exact let ⟨σ6, H6, S6, y⟩ := h; bye S6 fun s7 J7 => ⟨_, _, J7, y⟩
      | cont => exact let ⟨σ6, H6, S6, y⟩ := h; bye S6 fun s7 J7 => ⟨_, _, J7, y⟩
      | ret v => exact let ⟨v6, σ6, H6, S6, r6, y⟩ := h; bye S6 fun s7 J7 => ⟨_, _, _, J7, r6, y⟩
theorem ps_clauses {body : List Stmt} {h0 : ExceptHandler} {hs : List ExceptHandler} {l : List Cla} {tb : WX → TS} (st : X.stack = X.env :: X.outer) (fr : X.env.frame = some X.env.locals) (nd : X.N.Nodup) (tk : Takes X W)
    (hb : ∀ (W : WX) (pn : List (Addr × Obj)) (xe : Value → Shared → Prop), Takes (X.tr pn xe) W → PassesOwn (model X.prog X.w) X.A X.env xe → PSs (X.tr pn xe) body (tb W)) (hh : ClaOk X (h0 :: hs) l) :
    PS X (.Try body (h0 :: hs) [] [] pos) (fun E σ H => tb (wCla X.K W E l) E σ H) := by
  constructor
  intro pins s σ H E I h
  have okx := I.ok
  have afr : X.A.frames = some (X.env :: X.outer) := okx.frames.trans (by rw [st])
  refine wpAny_Try_except (wpAny_mono ((hb (wCla X.K W E l) (X.pn ++ pins) (fun e s₁ => wpAny (model X.prog X.w) X.A (noteFrame e X.env) (fun _ s₂ => wpAny (model X.prog X.w) X.A (setFlight e none) (fun _ s₃ =>
    wpAny (model X.prog X.w) X.A (handleBy e X.env (h0 :: hs)) (SP X pins E) X.xe s₃) X.xe s₂) X.xe s₁) (fun u s' xx => ?_) PassesOwn.looking).run [] s σ H E (I.toTry _) h) (fun f s1 sp => ?_) (fun e s1 he => he))
  · obtain ⟨a, B, s0, pins', σ1, H1, cls, d, eu, J', nb, up, sky, na, os, ag, w⟩ := xx
    subst eu
    have J := J'.ofTry okx
    have sky1 : Sky B (X.env :: X.outer) a (Zc cls d) X.env.locals s'.heap := st ▸ sky
    refine Sky.land Zc.steady afr fr sky1 fun hz fly up2 => ?_
    obtain ⟨oz, vz, gz, zz, dz⟩ := fly.there
    have out : a ∉ frs (X.env :: X.outer) := fun m => by
      obtain ⟨_, o2, g2, no⟩ := fly.2.2.1.mem m
      rw [gz] at g2
      cases g2
      exact no _ dz
    exact clauses_go fr st nd tk (sz := { s' with heap := hz }) J nb fly (up.trans up2) na os ag
      (fun z => out (List.mem_filterMap.mpr ⟨X.env, List.mem_cons_self, by rw [fr, z]⟩))
      (fun m => out (by
        obtain ⟨e, he, q⟩ := List.mem_filterMap.mp m
        exact List.mem_filterMap.mpr ⟨e, List.mem_cons_of_mem _ he, q⟩)) hh w
  · have z := sp_ofTry okx sp
    cases f with
    | next =>
      obtain ⟨σ2, H2, J2, q⟩ := z
      exact wpAny_execs_nil ⟨σ2, H2, J2, q⟩
    | brk => exact z
    | cont => exact z
    | ret u => exact z
end
end Mir

/-! Statements. -/
namespace Mir
open PySem PySem.Spec L2
variable [CM : ClsMap]
section
def gNil : MS := fun ρ S => .nx ρ S
def gSeq (a b : MS) : MS := fun ρ S => (a ρ S).bind b
def gIf (t : MT) (A B : MS) : MS := fun ρ S => (t ρ S).toS ρ fun x S1 => bif x then A ρ S1 else B ρ S1
def gRet (a : ME) : MS := fun ρ S => (a ρ S).toS ρ fun r S1 => .rt r S1
def gRetN : MS := fun _ S => .rt (.dat .non) S
def gBk : MS := fun ρ S => .bk ρ S
def gCt : MS := fun ρ S => .ct ρ S
def gEx (a : ME) : MS := fun ρ S => (a ρ S).toS ρ fun _ S1 => .nx ρ S1
def gSet (i : Nat) (a : ME) : MS := fun ρ S => (a ρ S).toS ρ fun r S1 => .nx (ρ.set i r) S1
def gRaise (i : Nat) : MS := fun ρ S => .exc i none ρ S
def gRaise1 (i : Nat) (f : Str) (a : ME) : MS := fun ρ S => (a ρ S).toS ρ fun r S1 => match r with
  | .dat d => .exc i (some (f, d)) ρ S1
  | _ => .stuck
def gAug (i : Nat) (f : D → D → Option D) (a : ME) : MS := fun ρ S => match ρ[i]? with
  | some (.dat u) => (a ρ S).toS ρ fun r S1 => match r with
    | .dat v => match f u v with
      | some d => .nx (ρ.set i (.dat d)) S1
      | none => .stuck
    | _ => .stuck
  | _ => .stuck
def gPar (i j : Nat) (a : MA') : MS := fun ρ S => (a ρ S).toS ρ fun xs S1 => match xs with
  | [x, y] => .nx ((ρ.set i x).set j y) S1
  | _ => .stuck
def forL (j : Nat) (g : MS) : List D → MS
  | [], ρ, S => .nx ρ S
  | d :: ds, ρ, S => match g (ρ.set j (.dat d)) S with
    | .nx ρ1 S1 => forL j g ds ρ1 S1
    | .ct ρ1 S1 => forL j g ds ρ1 S1
    | .bk ρ1 S1 => .nx ρ1 S1
    | r => r
abbrev MI := List Sl → List Ce → RE (List D)
def gFor (j : Nat) (it : MI) (g : MS) : MS := fun ρ S => (it ρ S).toS ρ fun ds S1 => forL j g ds ρ S1
def whileL (t : MT) (g : MS) : Nat → MS
  | 0, _, _ => .stuck
  | n + 1, ρ, S => (t ρ S).toS ρ fun x S1 => bif x then (match g ρ S1 with
    | .nx ρ1 S1 => whileL t g n ρ1 S1
    | .ct ρ1 S1 => whileL t g n ρ1 S1
    | .bk ρ1 S1 => .nx ρ1 S1
    | r => r) else .nx ρ S1
def gWhile (n : Nat) (t : MT) (g : MS) : MS := whileL t g n
/-- x.append(e), x a cell -/
def gApp (i : Nat) (a : ME) : MS := fun ρ S => (a ρ S).toS ρ fun r S1 => match r, ρ[i]? with
  | .dat d, some (.own j) => match S1[j]? with
    | some (.lst cs) => if cs.length < 100000 then .nx ρ (S1.set j (.lst (cs ++ [d]))) else .stuck
    | _ => .stuck
  | _, _ => .stuck
/-- x[b] = e, x a list's cell -/
def gSto (i : Nat) (b a : ME) : MS := fun ρ S => (a ρ S).toS ρ fun r S1 => (b ρ S1).toS ρ fun n S2 => match r, n, ρ[i]? with
  | .dat d, .dat (.int n), some (.own j) => match S2[j]? with
    | some (.lst cs) => match ixN cs.length n with
      | some m => .nx ρ (S2.set j (.lst (cs.set m d)))
      | none => .stuck
    | _ => .stuck
  | _, _, _ => .stuck
end
section
variable {c : Cz} {a b e t : Expr} {es : List Expr} {pos p1 p2 p3 : Pos} {st : Stmt} {sts A B body : List Stmt} {f g : ME} {ft : MT} {fa : MA'} {s1 s2 : MS}
theorem ds_nil : DS c [] gNil := fun ρ S σ G ps H E o q => ⟨_, pss_nil, q.nx' o⟩
theorem ds_cons (h1 : D1 c st s1) (h2 : DS c sts s2) : DS c (st :: sts) (gSeq s1 s2) := fun ρ S σ G ps H E o q =>
  ⟨_, pss_cons ws_ps wss_pss, h1 _ _ _ _ _ _ _ o (SatS.bind q fun ρ1 S1 σ1 G1 ps1 H1 o1 e1 p1 q => h2 _ _ _ _ _ _ _ o1 q)⟩
theorem ds_one (h1 : D1 c st s1) : DS c [st] s1 := fun ρ S σ G ps H E o q => ⟨_, pss_one ws_ps, h1 _ _ _ _ _ _ _ o q⟩
theorem d1_if (ht : DT c t ft) (ha : DS c A s1) (hb : DS c B s2) : D1 c (.If t A B pos) (gIf ft s1 s2) := fun ρ S σ G ps H E o q =>
  ⟨_, ps_if wt_pt wss_pss wss_pss, ht _ _ _ _ _ _ _ o (Sat.toS q fun x S1 v G1 ps1 H1 o1 e1 p1 a1 q => by
    cases a1
    cases x with
    | true => exact iteT (ha _ _ _ _ _ _ _ o1 q)
    | false => exact iteF (hb _ _ _ _ _ _ _ o1 q))⟩
theorem d1_ret (ha : DE c e f) : D1 c (.Return (some e) pos) (gRet f) := fun ρ S σ G ps H E o q =>
  ⟨_, ps_ret we_pe, ha _ _ _ _ _ _ _ o (Sat.toS q fun x S1 v G1 ps1 H1 o1 e1 p1 a1 q => q v _ _ G1 ps1 H1 o1 (Ex.refl _) (List.prefix_refl _) a1)⟩
theorem d1_retN : D1 c (.Return none pos) gRetN := fun ρ S σ G ps H E o q => ⟨_, ps_retN, q .non _ _ G ps H o (Ex.refl G) (List.prefix_refl _) (.dat .non)⟩
theorem d1_pass : D1 c (.Pass pos) gNil := fun ρ S σ G ps H E o q => ⟨_, ps_pass, q.nx' o⟩
theorem d1_break : D1 c (.Break pos) gBk := fun ρ S σ G ps H E o q => ⟨_, ps_break, q σ G ps H o (Ex.refl G) (List.prefix_refl _)⟩
theorem d1_continue : D1 c (.Continue pos) gCt := fun ρ S σ G ps H E o q => ⟨_, ps_continue, q σ G ps H o (Ex.refl G) (List.prefix_refl _)⟩
theorem d1_doc {x : Str} {j : Nat} : D1 c (.Expr (.Constant (.str x) j p2) pos) gNil := fun ρ S σ G ps H E o q => ⟨_, ps_doc, q.nx' o⟩
theorem d1_expr (ha : DE c e f) (hs : swapsWith e none pos.line c.X.env = pure false := by rfl) : D1 c (.Expr e pos) (gEx f) := fun ρ S σ G ps H E o q =>
  ⟨_, ps_expr we_pe hs, ha _ _ _ _ _ _ _ o (Sat.toS q fun x S1 v G1 ps1 H1 o1 e1 p1 a1 q => q σ G1 ps1 H1 o1 (Ex.refl _) (List.prefix_refl _))⟩
/-- x = e -/
theorem d1_set (i : Nat) {x : Str} (hN : c.X.N.Nodup) (ha : DE c e f) (hi : c.X.N[i]? = some x := by rfl) (hx : Loc c.X.env.scope x := by first | exact Or.inl rfl | exact Or.inr rfl)
    (hs : swapsWith e (some (.Name x p2)) pos.line c.X.env = pure false := by rfl) (hf : c.X.fn x = true ∨ c.X.env.scope.names.lookup x = some .local := by first | exact .inl rfl | exact .inr rfl) : D1 c (.Assign [.Name x p2] e pos) (gSet i f) := fun ρ S σ G ps H E o q =>
  ⟨_, ps_set hN hi hx we_pe hs hf, ha _ _ _ _ _ _ _ o (Sat.toS q fun x S1 v G1 ps1 H1 o1 e1 p1 a1 q => q _ G1 ps1 H1 (o1.setA i a1) (Ex.refl _) (List.prefix_refl _))⟩
/-- x op= e -/
def RIp (X : Cx) (op : Operator) (u : D → D → Option D) : Prop := ∃ ti : TIp, PIp X op ti ∧ ∀ (G : Hp) (H : Hp) (x y : V) (k : VK) (d1 d2 d : D), Ex G H → AtD X.K G x d1 → AtD X.K G y d2 → u d1 d2 = some d → (∀ z G' H', Grow G H G' H' → AtD X.K G' z d → k z H') → ti x y H k
theorem d1_aug (i : Nat) {x : Str} {op : Operator} {u : D → D → Option D} (hop : RIp c.X op u) (hN : c.X.N.Nodup) (ha : DE c e f) (hi : c.X.N[i]? = some x := by rfl) (hl : Loc c.X.env.scope x := by first | exact Or.inl rfl | exact Or.inr rfl)
    (hf : c.X.fn x = true ∨ c.X.env.scope.names.lookup x = some .local := by first | exact .inl rfl | exact .inr rfl) : D1 c (.AugAssign (.Name x p1) op e pos) (gAug i u f) := fun ρ S σ G ps H E o q => by
  obtain ⟨ti, h1, h2⟩ := hop
  unfold gAug at q
  cases er : ρ[i]? with
  | none => rw [er] at q; exact q.elim
  | some a =>
    rw [er] at q
    cases a with
    | dat d1 =>
      obtain ⟨v0, hs, hv⟩ := o.slot i _ er (fun z => nomatch z)
      cases hv with | val hv => cases hv with | dat hv =>
      refine ⟨_, ps_aug hN hi hl we_pe h1 hf, v0, hs, ha _ _ _ _ _ _ _ o (Sat.toS q fun r S1 v G1 ps1 H1 o1 e1 p1 a1 q => ?_)⟩
      cases a1 with
      | own _ => exact q.elim
      | @dat _ d2 a1 =>
        dsimp only at q
        cases eu : u d1 d2 with
        | none => rw [eu] at q; exact q.elim
        | some d =>
          rw [eu] at q
          exact h2 G1 H1 v0 v _ d1 d2 d o1.sub (hv.mono e1) a1 eu fun z G' H' g az => q _ G' ps1 H' ((o1.grow g).setA i (.dat az)) (g.ex o1.sub).1 (List.prefix_refl _)
    | _ => exact q.elim
/-- a, b = e1, e2 -/
theorem d1_par (i j : Nat) {x y : Str} {px py pt : Pos} {kt k2 : Nat} {pt2 : Pos} (hc : c.X.calm = true) (hN : c.X.N.Nodup) (ha : DA c [a, b] fa) (hij : i ≠ j := by decide)
    (hi : c.X.N[i]? = some x := by rfl) (hj : c.X.N[j]? = some y := by rfl) (hx : c.X.env.scope.names.lookup x = some .local := by rfl) (hy : c.X.env.scope.names.lookup y = some .local := by rfl)
    (hw : swappedStores [.Tuple [.Name x px, .Name y py] kt pt] (.Tuple [a, b] k2 pt2) c.X.env = pure (some [x, y]) := by rfl) (hs : swapsWithSole [.Tuple [.Name x px, .Name y py] kt pt] (.Tuple [a, b] k2 pt2) pos.line c.X.env = pure false := by rfl) : D1 c (.Assign [.Tuple [.Name x px, .Name y py] kt pt] (.Tuple [a, b] k2 pt2) pos) (gPar i j fa) := fun ρ S σ G ps H E o q =>
  ⟨_, ps_par hc hN hi hj hij hx hy wa_pa hw hs, ha _ _ _ _ _ _ _ o (Sat.toS q fun xs S1 v G1 ps1 H1 o1 e1 p1 a1 q => by
    cases a1 with
    | nil => exact q.elim
    | cons a1 t1 => cases t1 with
      | nil => exact q.elim
      | cons a2 t2 => cases t2 with
        | cons _ _ => exact q.elim
        | nil => exact ⟨_, _, rfl, q _ G1 ps1 H1 ((o1.setA i a1).setA j a2) (Ex.refl _) (List.prefix_refl _)⟩)⟩
/-! raise -/
/-- an own error class without an __init__ of its own -/
structure OwnE (K : PySem.W.Frag) (mg : Str → Option Value) (x : Str) (C : Addr) : Prop where
  gC : mg x = some (.ref C)
  ex : ∃ (bmB : List Value) (B newId initId : String), ExcBaseFacts B newId initId bmB ∧ PySem.W.excIn K C bmB newId = true
  kC : PySem.W.keepIn K (.ref C) = true
  bC : PySem.W.subIn K (.ref C) (.type "BaseException") = some true
  tC : PySem.W.typeIn K (.ref C) = some (.type "type")
theorem d1_raise0 (i : Nat) {x m : Str} {j : Nat} (hc : c.X.calm = true) (T : OwnE c.X.K c.X.mg x (CM.A i)) (hg : Gl c.X x := by rfl) (hdb : (x == ("__debug__" : Str)) = false := by decide) : D1 c (.Raise (some (.Call (.Name x p1) [.Constant (.str m) j p2] [] p3)) none pos) (gRaise i) := fun ρ S σ G ps H E o q => by
  obtain ⟨bmB, B, newId, initId, F, hex⟩ := T.ex
  exact ⟨_, ps_raise hc c.tk (pmk_own F hex T.gC T.kC (raises_own T.bC T.tC) hg hdb), q σ none G ps H o (Ex.refl G) (List.prefix_refl _) rfl⟩
theorem d1_raise1 (i : Nat) {x fl : Str} {fI : Addr} {k : Nat} (hc : c.X.calm = true) (T : ErrCls c.X.K c.X.mg x fl (CM.A i) fI) (hI : InitDoes c.X.prog c.X.w c.X.K (CM.A i) fI fl) (hr : Room k c.X.A) (ha : DE c e f)
    (hg : Gl c.X x := by rfl) (hdb : (x == ("__debug__" : Str)) = false := by decide) (he : starEach [e] c.X.env = (false, eval e c.X.env) :: starEach [] c.X.env := by rfl) (hpl : (backTo p3 (starEach [] c.X.env)).any (·.1) = false := by rfl) :
    D1 c (.Raise (some (.Call (.Name x p1) [e] [] p3)) none pos) (gRaise1 i fl f) := fun ρ S σ G ps H E o q =>
  ⟨_, ps_raise hc c.tk (pmk_err T hI hr (pa_cons we_pe pa_nil he) hg hdb he hpl), ha _ _ _ _ _ _ _ o (Sat.toS q fun r S1 v G1 ps1 H1 o1 e1 p1 a1 q => ⟨v, rfl, fun dd hd => by
    have gd := o1.sub.back hd
    cases a1 with
    | own _ => exact q.elim
    | dat a1 => exact q σ (some dd) _ ps1 _ (o1.put (.xd [(fl, v)]) hd) (Ex.new gd) (List.prefix_refl _) ⟨dd, v, rfl, upd_same, a1.mono (Ex.new gd)⟩⟩)⟩
/-! loops -/
/-- an iterator that gives these data one by one while G0 stands -/
structure WkD (K : PySem.W.Frag) (J : It) (G0 : Hp) (ds : List D) : Prop where
  goes : ∀ i H, i < ds.length → Ex G0 H → J.go i H
  stops : ∀ H, Ex G0 H → J.stop ds.length H
  yields : ∀ (i : Nat) G H x H', i < ds.length → Ex G0 G → Ex G H → J.yld i H x H' → ∃ d G', ds[i]? = some d ∧ Grow G H G' H' ∧ AtD K G' x d
def RW (c : Cz) : Hp → Hp → List Addr → It → List D → Prop := fun G _ _ J ds => WkD c.X.K J G ds
def DI (c : Cz) (tg e : Expr) (f : MI) : Prop := ∀ ρ S σ G ps H R, SOk c.X.K c.F G ps ρ S σ H → Sat c G ps ρ σ (RW c) R (f ρ S) → WI c.X tg e σ H R
/-- the signs of a text; the ints of a range -/
def sgs (s : Str) : List D := s.cps.toList.map fun n => .str ⟨#[n]⟩
def rgs (lo : Int) (n : Nat) : List D := (List.range n).map fun (i : Nat) => .int (lo + (i : Int))
omit CM in
theorem sgs_len (s : Str) : (sgs s).length = s.cps.size := by unfold sgs; rw [List.length_map]; exact Array.length_toList
omit CM in
theorem rgs_len (lo : Int) (n : Nat) : (rgs lo n).length = n := by unfold rgs; rw [List.length_map, List.length_range]
omit CM in
theorem rgs_get {lo : Int} {n i : Nat} (h : i < n) : (rgs lo n)[i]? = some (.int (lo + (i : Int))) := by
  unfold rgs
  rw [List.getElem?_map, List.getElem?_range h] <;> rfl
/-- what a value is walked by -/
def itD : D → Option (List D)
  | .lst ds => some ds
  | .sq ds => some ds
  | .tup ds => some ds
  | .str s => some (sgs s)
  | _ => none
def mIt (a : ME) : MI := fun ρ S => (a ρ S).bind fun r S1 => match r with
  | .dat d => ofO (itD d) S1
  | _ => .stuck
def mRng1 (a : ME) : MI := fun ρ S => (a ρ S).bind fun r S1 => match r with
  | .dat (.int n) => if n.natAbs ≤ 4000000000000000000 then .ok (rgs 0 n.toNat) S1 else .stuck
  | _ => .stuck
def mRng2 (a b : ME) : MI := fun ρ S => (a ρ S).bind fun r S1 => (b ρ S1).bind fun r2 S2 => match r, r2 with
  | .dat (.int i), .dat (.int j) => if i.natAbs ≤ 4000000000000000000 ∧ j.natAbs ≤ 4000000000000000000 then .ok (rgs i (j - i).toNat) S2 else .stuck
  | _, _ => .stuck
theorem wk_rng {K : PySem.W.Frag} {lo : Int} {n : Nat} {G0 : Hp} : WkD K (Itr lo n) G0 (rgs lo n) := ⟨fun i H' hi _ => by rw [rgs_len] at hi; exact hi, fun H' _ => by rw [rgs_len]; exact Nat.le_refl _, fun i G' H' x H2 hi h1 h2 hy => by
    rw [rgs_len] at hi
    obtain ⟨rfl, rfl⟩ := hy
    exact ⟨_, G', rgs_get hi, .refl _ _, .int _⟩⟩
omit CM in
theorem PI.or {X : Cx} {tg e : Expr} {w1 w2 : TI} (h1 : PI X tg e w1) (h2 : PI X tg e w2) : PI X tg e (fun σ H R => w1 σ H R ∨ w2 σ H R) := ⟨fun pins s σ H R I h => h.elim (h1.run pins s σ H R I) (h2.run pins s σ H R I)⟩
theorem di_it {tg : Expr} (ha : DE c e f) : DI c tg e (mIt f) := fun ρ S σ G ps H R o q => by
  unfold mIt at q
  have hv := ha ρ S σ G ps H
  cases ef : f ρ S with
  | stuck => rw [ef] at q; exact q.elim
  | exc i pl S1 => rw [ef] at q; exact ⟨_, pi_list we_pe, ha _ _ _ _ _ _ _ o (by rw [ef]; exact q)⟩
  | ok r S1 =>
    rw [ef] at q
    dsimp only [RE.bind] at q
    cases r with
    | dat d =>
      dsimp only at q
      cases d with
      | lst ds =>
        refine ⟨_, pi_list we_pe, ha _ _ _ _ _ _ _ o (by
          rw [ef]
          intro v G1 ps1 H1 o1 e1 p1 a1
          cases a1 with | dat a1 => cases a1 with
          | @lst a vs _ h hv =>
            refine ⟨a, rfl, ⟨vs, SqL.of (o1.sub _ _ h)⟩, q (Itl c.X.K a) G1 ps1 H1 o1 e1 p1 ⟨fun i H' hi hx => ?_, fun H' hx => ⟨vs, SqL.of (hx _ _ h), by rw [hv.len]; exact Nat.le_refl _⟩, fun i G' H' x H2 hi h1 h2 hy => ?_⟩⟩
            · exact ⟨vs, vs[i]'(by rw [hv.len]; exact hi), SqL.of (hx _ _ h), by simp⟩
            · obtain ⟨rfl, hy⟩ := hy
              obtain ⟨d, d1, d2⟩ := hv.getV (hy vs (SqL.of ((h1.trans h2) _ _ h)))
              exact ⟨d, G', d1, .refl _ _, d2.mono h1⟩)⟩
      | sq ds =>
        refine ⟨_, pi_list we_pe, ha _ _ _ _ _ _ _ o (by
          rw [ef]
          intro v G1 ps1 H1 o1 e1 p1 a1
          cases a1 with | dat a1 => cases a1 with
          | @sq a vs _ h hv =>
            refine ⟨a, rfl, ⟨vs, o1.sub.sl h⟩, q (Itl c.X.K a) G1 ps1 H1 o1 e1 p1 ⟨fun i H' hi hx => ?_, fun H' hx => ⟨vs, hx.sl h, by rw [hv.len]; exact Nat.le_refl _⟩, fun i G' H' x H2 hi h1 h2 hy => ?_⟩⟩
            · exact ⟨vs, vs[i]'(by rw [hv.len]; exact hi), hx.sl h, by simp⟩
            · obtain ⟨rfl, hy⟩ := hy
              obtain ⟨d, d1, d2⟩ := hv.getV (hy vs ((h1.trans h2).sl h))
              exact ⟨d, G', d1, .refl _ _, d2.mono h1⟩)⟩
      | tup ds =>
        refine ⟨_, pi_tup we_pe, ha _ _ _ _ _ _ _ o (by
          rw [ef]
          intro v G1 ps1 H1 o1 e1 p1 a1
          cases a1 with | dat a1 => cases a1 with
          | @tup a vs _ h hv =>
            refine ⟨a, rfl, ⟨vs, o1.sub.st h⟩, q (Itt c.X.K a) G1 ps1 H1 o1 e1 p1 ⟨fun i H' hi hx => ?_, fun H' hx => ⟨vs, hx.st h, by rw [hv.len]; exact Nat.le_refl _⟩, fun i G' H' x H2 hi h1 h2 hy => ?_⟩⟩
            · exact ⟨vs, vs[i]'(by rw [hv.len]; exact hi), hx.st h, by simp⟩
            · obtain ⟨rfl, hy⟩ := hy
              obtain ⟨d, d1, d2⟩ := hv.getV (hy vs ((h1.trans h2).st h))
              exact ⟨d, G', d1, .refl _ _, d2.mono h1⟩)⟩
      | str s =>
        refine ⟨_, pi_str we_pe, ha _ _ _ _ _ _ _ o (by
          rw [ef]
          intro v G1 ps1 H1 o1 e1 p1 a1
          cases a1 with | dat a1 => cases a1 with
          | str =>
            refine ⟨s, rfl, q _ G1 ps1 H1 o1 e1 p1 ⟨fun i H' hi hx => by rw [sgs_len] at hi; exact hi, fun H' hx => by rw [sgs_len]; exact Nat.le_refl _, fun i G' H' x H2 hi h1 h2 hy => ?_⟩⟩
            obtain ⟨rfl, n, hn, rfl⟩ := hy
            refine ⟨.str ⟨#[n]⟩, G', ?_, .refl _ _, .str _⟩
            unfold sgs
            rw [List.getElem?_map, Array.getElem?_toList, hn] <;> rfl)⟩
      | _ => exact q.elim
    | _ => exact q.elim
omit CM in
theorem nb62 {n : Int} (h : n.natAbs ≤ 4000000000000000000) : -(2 ^ 62) ≤ n ∧ n < 2 ^ 62 := by
  have p : (2 : Int) ^ 62 = 4611686018427387904 := by decide +kernel
  rw [p]
  omega
theorem di_rng1 {tg : Expr} (hm : c.X.mg "range" = none) (ha : DE c e f) (hg : Gl c.X "range" := by rfl) (hse : starEach [e] c.X.env = [(false, eval e c.X.env)] := by rfl) : DI c tg (.Call (.Name "range" p1) [e] [] p3) (mRng1 f) := fun ρ S σ G ps H R o q =>
  ⟨_, pi_range1 hg hm (pa_cons we_pe pa_nil (by rw [hse]; rfl)) hse, ha _ _ _ _ _ _ _ o (Sat.bind q fun r S1 v1 G1 ps1 H1 o1 e1 p1 a1 q => by
    cases a1 with
    | own _ => exact q.elim
    | dat a1 => cases a1 with
      | int n =>
        dsimp only at q
        by_cases h : n.natAbs ≤ 4000000000000000000
        · rw [if_pos h] at q
          exact ⟨n, rfl, (nb62 h).1, (nb62 h).2, q.ok o1 wk_rng⟩
        · rw [if_neg h] at q; exact q.elim
      | _ => exact q.elim)⟩
theorem di_rng2 {tg : Expr} (hm : c.X.mg "range" = none) (ha : DE c a f) (hb : DE c b g) (hg : Gl c.X "range" := by rfl)
    (hse : starEach [a, b] c.X.env = [(false, eval a c.X.env), (false, eval b c.X.env)] := by rfl) (hs1 : starEach [b] c.X.env = (false, eval b c.X.env) :: starEach [] c.X.env := by rfl) (hs2 : starEach [b] c.X.env = [(false, eval b c.X.env)] := by rfl) : DI c tg (.Call (.Name "range" p1) [a, b] [] p3) (mRng2 f g) := fun ρ S σ G ps H R o q =>
  ⟨_, pi_range2 hg hm (pa_cons we_pe (pa_cons we_pe pa_nil hs1) (by rw [hse, hs1]; rfl)) hse hs2, ha _ _ _ _ _ _ _ o (Sat.bind q fun r S1 v1 G1 ps1 H1 o1 e1 p1 a1 q => hb _ _ _ _ _ _ _ o1 (Sat.bind q fun r2 S2 v2 G2 ps2 H2 o2 e2 p2 a2 q => by
    cases a1 with
    | own _ => exact q.elim
    | dat a1 => cases a1 with
      | int i =>
        cases a2 with
        | own _ => exact q.elim
        | dat a2 => cases a2 with
          | int j =>
            dsimp only at q
            by_cases h : i.natAbs ≤ 4000000000000000000 ∧ j.natAbs ≤ 4000000000000000000
            · rw [if_pos h] at q
              exact ⟨i, j, rfl, ⟨(nb62 h.1).1, (nb62 h.1).2, (nb62 h.2).1, (nb62 h.2).2⟩, q.ok o2 wk_rng⟩
            · rw [if_neg h] at q; exact q.elim
          | _ => exact q.elim
      | _ => exact q.elim))⟩
/-- for x in e -/
theorem d1_for (j : Nat) {x : Str} {fi : MI} (hp : PassesOwn (model c.X.prog c.X.w) c.X.A c.X.env c.X.xe) (hc : c.X.calm = true) (hN : c.X.N.Nodup) (hit : DI c (.Name x p2) e fi) (hb : DS c body s1)
    (hi : c.X.N[j]? = some x := by rfl) (hx : Loc c.X.env.scope x := by first | exact Or.inl rfl | exact Or.inr rfl) (hf : c.X.fn x = true ∨ c.X.env.scope.names.lookup x = some .local := by first | exact .inl rfl | exact .inr rfl)
    (hs : ∀ x, foldedSetIterable e c.X.env x = pure x := by intro _; rfl) : D1 c (.For (.Name x p2) e body [] pos) (gFor j fi s1) := fun ρ S σ G ps H E o q =>
  ⟨_, ps_for hp hc wi_pi (pg_name hN hi hx hf) wss_pss hs, hit _ _ _ _ _ _ _ o (Sat.toS q fun ds S1 J G1 ps1 H1 o1 e1 p1 wk q => by
    have wk : WkD c.X.K J G1 ds := wk
    refine ⟨fun i m σ' H' => m = ds.length - i ∧ i ≤ ds.length ∧ ∃ G' ps' ρ' S', SOk c.X.K c.F G' ps' ρ' S' σ' H' ∧ Ex G1 G' ∧ ps1 <+: ps' ∧ SatS c G' ps' E (forL j s1 (ds.drop i) ρ' S'), ⟨ds.length, by simp, Nat.zero_le _, G1, ps1, ρ, S1, o1, Ex.refl _, List.prefix_refl _, q⟩, ?_⟩
    rintro i m σ' H' ⟨rfl, hi, G', ps', ρ', S', o', e', p', q'⟩
    by_cases hlt : i < ds.length
    · refine .inr ⟨wk.goes i H' hlt (e'.trans o'.sub), fun σ2 H2 => ∃ G' ps' ρ' S', SOk c.X.K c.F G' ps' ρ' S' σ2 H2 ∧ Ex G1 G' ∧ ps1 <+: ps' ∧ SatS c G' ps' E (forL j s1 (ds.drop (i + 1)) ρ' S'), fun σ2 H2 p' => ⟨ds.length - (i + 1), by omega, rfl, hlt, p'⟩, fun x H2 y => ?_⟩
      obtain ⟨d, G2, hd1, g, hat⟩ := wk.yields i G' H' x H2 hlt e' o'.sub y
      have o2 := o'.grow g
      have e2 := (g.ex o'.sub).1
      have ed : ds.drop i = d :: ds.drop (i + 1) := by
        rw [List.drop_eq_getElem_cons hlt]
        congr 1
        rw [List.getElem?_eq_getElem hlt] at hd1
        cases hd1; rfl
      rw [ed] at q'
      unfold forL at q'
      refine hb (ρ'.set j (.dat d)) S' _ G2 ps' H2 _ (o2.setA j (.dat hat)) ?_
      have q' := q'.mono e2 (List.prefix_refl ps')
      revert q'
      cases s1 (ρ'.set j (.dat d)) S' with
      | nx ρ3 S3 => exact fun q' σ3 G3 ps3 H3 o3 e3 p3 => ⟨G3, ps3, ρ3, S3, o3, (e'.trans e2).trans e3, p'.trans p3, q'.mono e3 p3⟩
      | ct ρ3 S3 => exact fun q' σ3 G3 ps3 H3 o3 e3 p3 => ⟨G3, ps3, ρ3, S3, o3, (e'.trans e2).trans e3, p'.trans p3, q'.mono e3 p3⟩
      | bk ρ3 S3 => exact fun q' => q'
      | rt r3 S3 => exact fun q' => q'
      | exc i3 pl ρ3 S3 => exact fun q' => q'
      | stuck => exact fun q' => q'
    · have e : i = ds.length := by omega
      subst e
      rw [List.drop_length] at q'
      exact .inl ⟨wk.stops H' (e'.trans o'.sub), q'.nx' o'⟩)⟩
/-- while -/
theorem d1_while (n : Nat) (hp : PassesOwn (model c.X.prog c.X.w) c.X.A c.X.env c.X.xe) (ht : DT c t ft) (hb : DS c body s1) : D1 c (.While t body [] pos) (gWhile n ft s1) := fun ρ S σ G ps H E o q =>
  ⟨_, ps_while hp wt_pt wss_pss, fun m σ' H' => ∃ G' ps' ρ' S', SOk c.X.K c.F G' ps' ρ' S' σ' H' ∧ SatS c G' ps' E (whileL ft s1 m ρ' S'), ⟨n, G, ps, ρ, S, o, q⟩, fun m σ' H' hh => by
    obtain ⟨G', ps', ρ', S', o', q'⟩ := hh
    cases m with
    | zero => exact q'.elim
    | succ m =>
      unfold whileL at q'
      refine ht _ _ _ _ _ _ _ o' (Sat.toS q' fun x S1 v G1 ps1 H1 o1 e1 p1 a1 q => ?_)
      cases a1
      cases x with
      | true =>
        refine iteT ⟨fun σ2 H2 => ∃ G' ps' ρ' S', SOk c.X.K c.F G' ps' ρ' S' σ2 H2 ∧ SatS c G' ps' E (whileL ft s1 m ρ' S'), fun σ2 H2 z => ⟨m, Nat.lt_succ_self m, z⟩, hb _ _ _ _ _ _ _ o1 ?_⟩
        dsimp only [cond] at q
        revert q
        cases s1 ρ' S1 with
        | nx ρ3 S3 => exact fun q' σ3 G3 ps3 H3 o3 e3 p3 => ⟨G3, ps3, ρ3, S3, o3, q'.mono e3 p3⟩
        | ct ρ3 S3 => exact fun q' σ3 G3 ps3 H3 o3 e3 p3 => ⟨G3, ps3, ρ3, S3, o3, q'.mono e3 p3⟩
        | bk ρ3 S3 => exact fun q' => q'
        | rt r3 S3 => exact fun q' => q'
        | exc i3 pl ρ3 S3 => exact fun q' => q'
        | stuck => exact fun q' => q'
      | false => exact iteF (q.nx' o1)⟩
/-! cells -/
theorem d1_app (i : Nat) {x : Str} (ha : DE c e f) (hN : c.X.N[i]? = some x := by rfl)
    (hv : Vis c.X.env.scope x := by first | exact Or.inl rfl | exact Or.inr (Or.inl rfl) | exact Or.inr (Or.inr rfl)) (h1 : (x == ("__debug__" : Str)) = false := by decide) (h2 : (x == ("__classdict__" : Str)) = false := by decide)
    (he : starEach [e] c.X.env = (false, eval e c.X.env) :: starEach [] c.X.env := by rfl) (hpl : (backTo p3 (starEach [] c.X.env)).any (·.1) = false := by rfl)
    (hfew : ((backTo p3 (starEach [e] c.X.env)).all (fun x => !x.1) && (backToKw p3 (keywordEach [] c.X.env)).all (fun x => x.1.isSome)
      && decide (([e] : List Expr).length + ([] : List Keyword).length + (if ([] : List Keyword).isEmpty then 0 else 1) < 30)) = true := by rfl)
    (hline : (p2.endLine == p3.line) = true := by rfl)
    (hba : attributeBase (.Name x p1) "append" c.X.env (eval (.Name x p1) c.X.env) = eval (.Name x p1) c.X.env := by rfl) (hs : swapsWith (.Call (.Attribute (.Name x p1) "append" p2) [e] [] p3) none pos.line c.X.env = pure false := by rfl) :
    D1 c (.Expr (.Call (.Attribute (.Name x p1) "append" p2) [e] [] p3) pos) (fun ρ S => match ρ[i]? with | some (.own j) => (match S[j]? with | some (.lst _) => gApp i f ρ S | _ => .stuck) | _ => .stuck) := fun ρ S σ G ps H E o q => by
  dsimp only at q
  cases er : ρ[i]? with
  | none => rw [er] at q; exact q.elim
  | some r => cases r with
    | own j =>
      obtain ⟨v0, hsx, hv0⟩ := o.slot i _ er (fun z => nomatch z)
      rw [er] at q
      dsimp only at q
      cases hv0 with | val hv0 => cases hv0 with | @own p _ hp =>
      cases eS : S[j]? with
      | none => rw [eS] at q; exact q.elim
      | some cl => cases cl with
        | lst cs0 =>
          rw [eS] at q
          dsimp only at q
          unfold gApp at q
          obtain ⟨z1, vs, z2, z3⟩ := (o.cell j p _ hp eS : CeAt c.X.K G ps H p (.lst cs0))
          refine ⟨_, ps_expr (pe_bm PySem.F.plainAttrs_list PySem.F.slot_list_append PySem.F.type_list_append mt_append (pe_var hN hv h1 h2) (pa_cons we_pe pa_nil he) (hfew := hfew) (hline := hline) (hs := he) (hplain := hpl) (hbase := hba)) hs, .ref p, hsx, .inl ⟨rfl, vs, SqL.of z2⟩, ?_⟩
          refine ha _ _ _ _ _ _ _ o (Sat.toS q fun r S1 v G1 ps1 H1 o1 e1 p1 a1 q => ?_)
          rw [er] at q
          cases a1 with
          | own _ => exact q.elim
          | dat a1 =>
            dsimp only at q
            cases eS1 : S1[j]? with
            | none => rw [eS1] at q; exact q.elim
            | some cl => cases cl with
              | lst cs =>
                rw [eS1] at q
                dsimp only at q
                by_cases hl : cs.length < 100000
                · rw [if_pos hl] at q
                  have hp1 := pre_get p1 hp
                  obtain ⟨y1, us, y2, y3⟩ := (o1.cell j p _ hp1 eS1 : CeAt c.X.K G1 ps1 H1 p (.lst cs))
                  exact ⟨p, us, v, rfl, rfl, y2, by rw [y3.len]; exact Nat.lt_of_lt_of_le hl (by decide), q σ G1 ps1 _ (o1.wr hp1 eS1 y1 ⟨y1, _, upd_same, y3.append (.one a1)⟩) (Ex.refl _) (List.prefix_refl _)⟩
                · rw [if_neg hl] at q; exact q.elim
              | _ => rw [eS1] at q; exact q.elim
        | _ => rw [eS] at q; exact q.elim
    | _ => rw [er] at q; exact q.elim
theorem d1_sto (i : Nat) {x : Str} (ha : DE c e f) (hb : DE c b g) (hN : c.X.N[i]? = some x := by rfl)
    (hv : Vis c.X.env.scope x := by first | exact Or.inl rfl | exact Or.inr (Or.inl rfl) | exact Or.inr (Or.inr rfl)) (h1 : (x == ("__debug__" : Str)) = false := by decide) (h2 : (x == ("__classdict__" : Str)) = false := by decide)
    (ha' : ∀ v, assign (.Subscript (.Name x p1) b p2) c.X.env v = (do
      let ov ← holding [v] (eval (.Name x p1) c.X.env)
      let iv ← holding [v, ov] (eval b c.X.env)
      standAt p2
      holding [v, ov, iv] (setItem ov iv v)
      release [v, ov, iv] []) := by intro _; rfl)
    (hs : swapsWithSole [.Subscript (.Name x p1) b p2] e pos.line c.X.env = pure false := by rfl) (hw : swappedStores [.Subscript (.Name x p1) b p2] e c.X.env = pure none := by rfl)
    (h3 : (assignEach [.Subscript (.Name x p1) b p2] c.X.env).map (·.2) = [assign (.Subscript (.Name x p1) b p2) c.X.env] := by rfl) :
    D1 c (.Assign [.Subscript (.Name x p1) b p2] e pos) (fun ρ S => match ρ[i]? with | some (.own j) => gSto i g f ρ S | _ => .stuck) := fun ρ S σ G ps H E o q => by
  dsimp only at q
  cases er : ρ[i]? with
  | none => rw [er] at q; exact q.elim
  | some r => cases r with
    | own j =>
      obtain ⟨v0, hsx, hv0⟩ := o.slot i _ er (fun z => nomatch z)
      rw [er] at q
      dsimp only at q
      unfold gSto at q
      cases hv0 with | val hv0 => cases hv0 with | @own p _ hp =>
      refine ⟨_, ps_asg we_pe (pg_sub (pe_var hN hv h1 h2) we_pe set_list ha') hs hw h3, ha _ _ _ _ _ _ _ o (Sat.toS q fun r S1 v G1 ps1 H1 o1 e1 p1 a1 q => ⟨.ref p, hsx, hb _ _ _ _ _ _ _ o1 (Sat.toS q fun r2 S2 v2 G2 ps2 H2 o2 e2 p2 a2 q => ?_)⟩)⟩
      rw [er] at q
      cases a1 with
      | own _ => exact q.elim
      | dat a1 => cases a2 with
        | own _ => exact q.elim
        | dat a2 => cases a2 with
          | int n =>
            dsimp only at q
            cases eS1 : S2[j]? with
            | none => rw [eS1] at q; exact q.elim
            | some cl => cases cl with
              | lst cs =>
                rw [eS1] at q
                dsimp only at q
                cases em : ixN cs.length n with
                | none => rw [em] at q; exact q.elim
                | some m =>
                  rw [em] at q
                  have hp1 := pre_get (p1.trans p2) hp
                  obtain ⟨y1, us, y2, y3⟩ := (o2.cell j p _ hp1 eS1 : CeAt c.X.K G2 ps2 H2 p (.lst cs))
                  exact ⟨p, us, n, m, rfl, rfl, y2, by rw [y3.len]; exact em, q σ G2 ps2 _ (o2.wr hp1 eS1 y1 ⟨y1, _, upd_same, y3.set m (a1.mono e2)⟩) (Ex.refl _) (List.prefix_refl _)⟩
              | _ => rw [eS1] at q; exact q.elim
          | _ => exact q.elim
    | _ => rw [er] at q; exact q.elim
end
end Mir

/-! Comprehensions, try, cells that become data. -/
namespace Mir
open PySem PySem.Spec L2
variable [CM : ClsMap]
section
variable {K : PySem.W.Frag} {F : Fx} {G H : Hp} {ps : List Addr} {ρ : List Sl} {S : List Ce} {σ : L2.St}
theorem SOk.swap (o : SOk K F G ps ρ S σ H) {G2 H2 : Hp} {ps2 : List Addr} {ρ2 : List Sl} {S2 : List Ce} {σ2 : L2.St} (o2 : SOk K F G2 ps2 ρ2 S2 σ2 H2) (e : Ex G G2) (p : ps <+: ps2) : SOk K F G2 ps2 ρ S2 σ H2 :=
  ⟨o2.sub, o2.base, o2.keep, o2.new, o2.pre, o2.nd, o2.fresh, o2.there, o2.plen, o.slen, fun i a h n => by
    obtain ⟨v, h1, h2⟩ := o.slot i a h n
    exact ⟨v, h1, h2.mono e p⟩, o2.cell⟩
end
abbrev Cz.blk (c : Cz) (s : Shared) (H : Hp) (scope : Scope) (cl : List (Str × Addr)) (C : Addr) (fp : List Addr) : Cz :=
  ⟨c.X.blk s H scope (compEnvC scope cl C c.X.env) fp, c.F, fun _ _ _ _ => False, takes0⟩
def RE.noX {α : Type} : RE α → RE α
  | .exc _ _ _ => .stuck
  | r => r
omit CM in
@[simp] theorem RE.noX_ok {α : Type} (a : α) (S : List Ce) : (RE.ok a S).noX = .ok a S := rfl
omit CM in
@[simp] theorem RE.noX_stuck {α : Type} : (RE.stuck : RE α).noX = .stuck := rfl
/-- the turns of a comprehension whose list is the cell n -/
def lcL (n j : Nat) (t : MT) (elt : ME) : List D → List Sl → List Ce → RE Unit
  | [], _, S => .ok () S
  | d :: ds, ρ, S => (t (ρ.set j (.dat d)) S).noX.bind fun b S1 => bif b then (elt (ρ.set j (.dat d)) S1).noX.bind fun r S2 => (match r, S2[n]? with
      | .dat y, some (.lst acc) => if acc.length < 1000000 then lcL n j t elt ds ρ (S2.set n (.lst (acc ++ [y]))) else .stuck
      | _, _ => .stuck) else lcL n j t elt ds ρ S1
def tYes' : MT := fun _ S => .ok true S
def mLcO (j : Nat) (it : MI) (t : MT) (elt : ME) : ME := fun ρ S => (it ρ S).bind fun ds S1 => (lcL S1.length j t elt ds ρ (S1 ++ [.lst []])).bind fun _ S2 => .ok (.own S1.length) S2
def mLc (j : Nat) (it : MI) (t : MT) (elt : ME) : ME := fun ρ S => frzL S.length (mLcO j it t elt ρ S)
section
variable {c : Cz}
omit CM in
def teB (X : Cx) (scope : Scope) (elt : Expr) : TE := fun σ H Q => ∀ (s : Shared) (H' : Hp) (C : Addr) (cl : List (Str × Addr)) (fp : List Addr), WE (X.blk s H' scope (compEnvC scope cl C X.env) fp) elt σ H Q
omit CM in
theorem teB_pe {X : Cx} {scope : Scope} {elt : Expr} (s : Shared) (H' : Hp) (C : Addr) (cl : List (Str × Addr)) (fp : List Addr) : PE (X.blk s H' scope (compEnvC scope cl C X.env) fp) elt (teB X scope elt) :=
  ⟨fun pins s1 σ H Q I h => we_pe.run pins s1 σ H Q I (h s H' C cl fp)⟩
omit CM in
def ttB (X : Cx) (scope : Scope) (ifs : List Expr) : TT := fun σ H Q => (ifs = [] ∧ Q true H) ∨ ∃ t, ifs = [t] ∧ ∀ (s : Shared) (H' : Hp) (C : Addr) (cl : List (Str × Addr)) (fp : List Addr), WT (X.blk s H' scope (compEnvC scope cl C X.env) fp) t σ H Q
omit CM in
theorem ttB_pts {X : Cx} {scope : Scope} {ifs : List Expr} (s : Shared) (H' : Hp) (C : Addr) (cl : List (Str × Addr)) (fp : List Addr) : PTs (X.blk s H' scope (compEnvC scope cl C X.env) fp) ifs (ttB X scope ifs) :=
  ⟨fun pins s1 σ H Q I h => by
    rcases h with ⟨e, h⟩ | ⟨t, e, h⟩
    · subst e; exact pts_nil.run pins s1 σ H Q I h
    · subst e; exact (pts_one wt_pt).run pins s1 σ H Q I (h s H' C cl fp)⟩
/-- the tests of a comprehension -/
inductive LcT (c : Cz) (scope : Scope) : List Expr → MT → Prop
  | no : LcT c scope [] tYes'
  | one {t : Expr} {f : MT} : (∀ (s : Shared) (H : Hp) (C : Addr) (cl : List (Str × Addr)) (fp : List Addr), DT (c.blk s H scope cl C fp) t f) → LcT c scope [t] f
variable {scope : Scope} {elt iter : Expr} {ifs : List Expr} {own : List (Str × Nat)} {x : Str} {p2 pos : Pos} {it : MI} {t : MT} {fe : ME}
theorem lc_run (j : Nat) (hit : DI c (.Name x p2) iter it) (ht : LcT c scope ifs t) (he : ∀ (s : Shared) (H : Hp) (C : Addr) (cl : List (Str × Addr)) (fp : List Addr), DE (c.blk s H scope cl C fp) elt fe)
    {ρ : List Sl} {S : List Ce} {σ : L2.St} {G : Hp} {ps : List Addr} {H : Hp} {k : VK} (o : SOk c.X.K c.F G ps ρ S σ H) (q : Sat c G ps ρ σ (RA c) k (mLcO j it t fe ρ S)) : tLc (WI c.X (.Name x p2) iter) (gName j) (ttB c.X scope ifs) (teB c.X scope elt) [j] σ H k := by
  refine hit _ _ _ _ _ _ _ o (Sat.bind q fun ds S1 J G1 ps1 H1 o1 e1 p1 wk q => ?_)
  have wk : WkD c.X.K J G1 ds := wk
  intro Dl hD
  have oD := o1.pushL (ds := []) hD .nil
  have pD : ps1 <+: ps1 ++ [Dl] := List.prefix_append _ _
  have at_ : (ps1 ++ [Dl])[S1.length]? = some Dl := by rw [← o1.plen]; simp
  have q0 : Sat c G1 (ps1 ++ [Dl]) ρ σ (β := Unit) (fun _ _ _ _ _ => True) (fun _ H2 => k (.ref Dl) H2) (lcL S1.length j t fe ds ρ (S1 ++ [.lst []])) :=
    Sat.bind (q.mono (Ex.refl _) pD) fun u S2 v G2 ps2 H2 o2 e2 p2 _ q => q.ok o2 (AtA.own (pre_get p2 at_))
  refine ⟨fun i m H' => m = ds.length - i ∧ i ≤ ds.length ∧ ∃ G' ps' S', SOk c.X.K c.F G' ps' ρ S' σ H' ∧ Ex G1 G' ∧ ps1 ++ [Dl] <+: ps' ∧ Sat c G' ps' ρ σ (β := Unit) (fun _ _ _ _ _ => True) (fun _ H2 => k (.ref Dl) H2) (lcL S1.length j t fe (ds.drop i) ρ S'), ⟨ds.length, by simp, Nat.zero_le _, G1, _, _, oD, Ex.refl _, List.prefix_refl _, q0⟩, ?_⟩
  rintro i m H' ⟨rfl, hi, G', ps', S', o', e', p', q'⟩
  by_cases hlt : i < ds.length
  · refine .inr ⟨wk.goes i H' hlt (e'.trans o'.sub), fun H2 => ∃ G' ps' S', SOk c.X.K c.F G' ps' ρ S' σ H2 ∧ Ex G1 G' ∧ ps1 ++ [Dl] <+: ps' ∧ Sat c G' ps' ρ σ (β := Unit) (fun _ _ _ _ _ => True) (fun _ H2 => k (.ref Dl) H2) (lcL S1.length j t fe (ds.drop (i + 1)) ρ S'), fun H2 p' => ⟨ds.length - (i + 1), by omega, rfl, hlt, p'⟩, fun v H2 y => ?_⟩
    obtain ⟨d, G2, hd1, g, hat⟩ := wk.yields i G' H' v H2 hlt e' o'.sub y
    have o2 := o'.grow g
    have e2 := (g.ex o'.sub).1
    have ed : ds.drop i = d :: ds.drop (i + 1) := by
      rw [List.drop_eq_getElem_cons hlt]
      congr 1
      rw [List.getElem?_eq_getElem hlt] at hd1
      cases hd1; rfl
    rw [ed] at q'
    unfold lcL at q'
    have q' := q'.mono e2 (List.prefix_refl ps')
    have es : (wipe σ [j]).set j (some v) = σ.set j (some v) := by
      show (σ.set j none).set j (some v) = σ.set j (some v)
      rw [List.set_set]
    refine ⟨by rw [es]; show (σ.set j (some v)).set j none = σ.set j none; rw [List.set_set], ?_⟩
    rw [es]
    have oj := o2.setA j (.dat hat)
    have eltOk : ∀ {S3 : List Ce} {G3 H3 : Hp} {ps3 : List Addr}, SOk c.X.K c.F G3 ps3 (ρ.set j (.dat d)) S3 (σ.set j (some v)) H3 → Ex G2 G3 → ps' <+: ps3 →
        Sat c G3 ps3 ρ σ (β := Unit) (fun _ _ _ _ _ => True) (fun _ H2 => k (.ref Dl) H2) ((fe (ρ.set j (.dat d)) S3).noX.bind fun r S2 => (match r, S2[S1.length]? with
          | .dat y, some (.lst acc) => if acc.length < 1000000 then lcL S1.length j t fe (ds.drop (i + 1)) ρ (S2.set S1.length (.lst (acc ++ [y]))) else .stuck
          | _, _ => .stuck)) →
        teB c.X scope elt (σ.set j (some v)) H3 fun y H4 => ∃ ac, H4 Dl = some (.lst ac) ∧ ac.length < sizeLine ∧ ∃ G' ps' S', SOk c.X.K c.F G' ps' ρ S' σ (upd H4 Dl (.lst (ac ++ [y]))) ∧ Ex G1 G' ∧ ps1 ++ [Dl] <+: ps' ∧ Sat c G' ps' ρ σ (β := Unit) (fun _ _ _ _ _ => True) (fun _ H2 => k (.ref Dl) H2) (lcL S1.length j t fe (ds.drop (i + 1)) ρ S') := by
      intro S3 G3 H3 ps3 o3 e3 p3 q3 s H5 C cl fp
      refine he s H5 C cl fp _ _ _ G3 ps3 H3 _ o3 ?_
      cases ef : fe (ρ.set j (.dat d)) S3 with
      | stuck => rw [ef] at q3; exact q3
      | exc _ _ _ => rw [ef] at q3; exact q3.elim
      | ok r S4 =>
        rw [ef] at q3
        intro u G4 ps4 H4 o4 e4 p4 a4
        dsimp only [RE.noX, RE.bind] at q3
        cases a4 with
        | own _ => exact q3.elim
        | @dat _ dy a4 =>
          cases ec : S4[S1.length]? with
          | none => rw [ec] at q3; exact q3.elim
          | some cl => cases cl with
            | lst acc =>
              rw [ec] at q3
              dsimp only at q3
              by_cases hz : acc.length < 1000000
              · rw [if_pos hz] at q3
                have hp4 := pre_get (p'.trans (p3.trans p4)) at_
                obtain ⟨y1, us, y2, y3⟩ := (o4.cell _ Dl _ hp4 ec : CeAt c.X.K G4 ps4 H4 Dl (.lst acc))
                have o5 := (o2.swap o4 (e3.trans e4) (p3.trans p4)).wr hp4 ec y1 (cl' := .lst (acc ++ [dy])) (u := .lst (us ++ [u])) ⟨y1, _, upd_same, y3.append (.one a4)⟩
                exact ⟨us, y2, by rw [y3.len]; exact Nat.lt_of_lt_of_le hz (by decide), G4, ps4, _, o5, (e'.trans e2).trans (e3.trans e4), p'.trans (p3.trans p4), q3.mono e4 p4⟩
              · rw [if_neg hz] at q3; exact q3.elim
            | _ => rw [ec] at q3; exact q3.elim
    cases ht with
    | no =>
      exact .inl ⟨rfl, iteT (eltOk oj (Ex.refl _) (List.prefix_refl _) q')⟩
    | one ht =>
      refine .inr ⟨_, rfl, fun s H5 C cl fp => ?_⟩
      refine ht s H5 C cl fp _ _ _ G2 ps' H2 _ oj ?_
      cases ef : t (ρ.set j (.dat d)) S' with
      | stuck => rw [ef] at q'; exact q'
      | exc _ _ _ => rw [ef] at q'; exact q'.elim
      | ok b S3 =>
        rw [ef] at q'
        intro u G3 ps3 H3 o3 e3 p3 a3
        cases a3
        dsimp only [RE.noX, RE.bind] at q'
        cases b with
        | true => exact iteT (eltOk o3 e3 p3 (q'.mono e3 p3))
        | false => exact iteF ⟨G3, ps3, S3, o2.swap o3 e3 p3, (e'.trans e2).trans e3, p'.trans p3, q'.mono e3 p3⟩
  · have e : i = ds.length := by omega
    subst e
    rw [List.drop_length] at q'
    exact .inl ⟨wk.stops H' (e'.trans o'.sub), q' () G' ps' H' o' (Ex.refl _) (List.prefix_refl _) trivial⟩
section
variable {i : Nat} {y : Str} {py spos : Pos}
theorem de_lcO (j : Nat) (hc : c.X.calm = true) (hN : c.X.N.Nodup) (ok : BlkOk c.X.N c.X.env.scope scope own) (ho : own.map (·.2) = [j])
    (hg : ∀ (s : Shared) (H : Hp) (C : Addr) (cl : List (Str × Addr)) (fp : List Addr), PG (c.X.blk s H scope (compEnvC scope cl C c.X.env) fp) (.Name x p2) (gName j))
    (hit : DI c (.Name x p2) iter it) (ht : LcT c scope ifs t) (he : ∀ (s : Shared) (H : Hp) (C : Addr) (cl : List (Str × Addr)) (fp : List Addr), DE (c.blk s H scope cl C fp) elt fe)
    (hs : ∀ x, foldedSetIterable iter c.X.env x = pure x := by intro _; rfl) : DE c (.ListComp elt [⟨.Name x p2, iter, ifs, 0⟩] scope pos) (mLcO j it t fe) := fun ρ S σ G ps H k o q =>
  ⟨_, pe_lc hc hN wi_pi ok hg (fun s H C cl fp => ttB_pts s H C cl fp) (fun s H C cl fp => teB_pe s H C cl fp) hs, by rw [ho]; exact lc_run j hit ht he o q⟩
theorem de_lc (j : Nat) (hc : c.X.calm = true) (hN : c.X.N.Nodup) (ok : BlkOk c.X.N c.X.env.scope scope own) (ho : own.map (·.2) = [j])
    (hg : ∀ (s : Shared) (H : Hp) (C : Addr) (cl : List (Str × Addr)) (fp : List Addr), PG (c.X.blk s H scope (compEnvC scope cl C c.X.env) fp) (.Name x p2) (gName j))
    (hit : DI c (.Name x p2) iter it) (ht : LcT c scope ifs t) (he : ∀ (s : Shared) (H : Hp) (C : Addr) (cl : List (Str × Addr)) (fp : List Addr), DE (c.blk s H scope cl C fp) elt fe)
    (hs : ∀ x, foldedSetIterable iter c.X.env x = pure x := by intro _; rfl) : DE c (.ListComp elt [⟨.Name x p2, iter, ifs, 0⟩] scope pos) (mLc j it t fe) := de_frz (de_lcO j hc hN ok ho hg hit ht he hs)
/-- y = [..], on one line, y a local -/
theorem d1_setLcO (i j : Nat) (hc : c.X.calm = true) (hN : c.X.N.Nodup) (ok : BlkOk c.X.N c.X.env.scope scope own) (ho : own.map (·.2) = [j])
    (hg : ∀ (s : Shared) (H : Hp) (C : Addr) (cl : List (Str × Addr)) (fp : List Addr), PG (c.X.blk s H scope (compEnvC scope cl C c.X.env) fp) (.Name x p2) (gName j))
    (hsw : swapsWith (.ListComp elt [⟨.Name x p2, iter, ifs, 0⟩] scope pos) (some (.Name y py)) spos.line c.X.env = pure true)
    (hit : DI c (.Name x p2) iter it) (ht : LcT c scope ifs t) (he : ∀ (s : Shared) (H : Hp) (C : Addr) (cl : List (Str × Addr)) (fp : List Addr), DE (c.blk s H scope cl C fp) elt fe)
    (hy : c.X.N[i]? = some y := by rfl) (hyl : c.X.env.scope.names.lookup y = some .local := by rfl) (hs : ∀ x, foldedSetIterable iter c.X.env x = pure x := by intro _; rfl) : D1 c (.Assign [.Name y py] (.ListComp elt [⟨.Name x p2, iter, ifs, 0⟩] scope pos) spos) (gSet i (mLcO j it t fe)) := fun ρ S σ G ps H E o q =>
  ⟨_, ps_setLc (i := i) hc hN hy hyl hsw wi_pi ok hg (fun s H C cl fp => ttB_pts s H C cl fp) (fun s H C cl fp => teB_pe s H C cl fp) hs, by
    rw [ho]
    exact lc_run j hit ht he o (Sat.toS q fun x S1 v G1 ps1 H1 o1 e1 p1 a1 q => q _ G1 ps1 H1 (o1.setA i a1) (Ex.refl _) (List.prefix_refl _))⟩
theorem d1_setLc (i j : Nat) (hc : c.X.calm = true) (hN : c.X.N.Nodup) (ok : BlkOk c.X.N c.X.env.scope scope own) (ho : own.map (·.2) = [j])
    (hg : ∀ (s : Shared) (H : Hp) (C : Addr) (cl : List (Str × Addr)) (fp : List Addr), PG (c.X.blk s H scope (compEnvC scope cl C c.X.env) fp) (.Name x p2) (gName j))
    (hsw : swapsWith (.ListComp elt [⟨.Name x p2, iter, ifs, 0⟩] scope pos) (some (.Name y py)) spos.line c.X.env = pure true)
    (hit : DI c (.Name x p2) iter it) (ht : LcT c scope ifs t) (he : ∀ (s : Shared) (H : Hp) (C : Addr) (cl : List (Str × Addr)) (fp : List Addr), DE (c.blk s H scope cl C fp) elt fe)
    (hy : c.X.N[i]? = some y := by rfl) (hyl : c.X.env.scope.names.lookup y = some .local := by rfl) (hs : ∀ x, foldedSetIterable iter c.X.env x = pure x := by intro _; rfl) : D1 c (.Assign [.Name y py] (.ListComp elt [⟨.Name x p2, iter, ifs, 0⟩] scope pos) spos) (gSet i (mLc j it t fe)) := fun ρ S σ G ps H E o q =>
  ⟨_, ps_setLc (i := i) hc hN hy hyl hsw wi_pi ok hg (fun s H C cl fp => ttB_pts s H C cl fp) (fun s H C cl fp => teB_pe s H C cl fp) hs, by
    rw [ho]
    exact lc_run j hit ht he o (sat_frz o (Sat.toS (r := frzL S.length (mLcO j it t fe ρ S)) q fun x S1 v G1 ps1 H1 o1 e1 p1 a1 q => q _ G1 ps1 H1 (o1.setA i a1) (Ex.refl _) (List.prefix_refl _)))⟩
end
end
/-! ### a name's cell is data from now on -/
def slNe (j : Nat) : Sl → Bool
  | .own k => decide (k ≠ j)
  | _ => true
def ceNe (j : Nat) : Ce → Bool
  | .ins _ fs => fs.all fun f => slNe j f.2
  | _ => true
def frzSl (j : Nat) (d : D) : Sl → Sl
  | .own k => if k = j then .dat d else .own k
  | a => a
def gFrz (n0 i : Nat) (g : MS) : MS := fun ρ S => match ρ[i]? with
  | some (.own j) => if n0 ≤ j ∧ S.all (ceNe j) = true then match (S[j]?).bind ceD with
      | some d => g (ρ.map (frzSl j d)) (S.set j .gone)
      | none => .stuck
    else .stuck
  | some (.dat _) => g ρ S
  | _ => .stuck
section
variable {K : PySem.W.Frag} {F : Fx} {G H : Hp} {ps : List Addr} {ρ : List Sl} {S : List Ce} {σ : L2.St}
theorem SOk.frz (o : SOk K F G ps ρ S σ H) {j : Nat} {cl : Ce} {d : D} (hj : F.P0.length ≤ j) (hS : S[j]? = some cl) (hd : ceD cl = some d) (hn : S.all (ceNe j) = true) : ∃ G', Ex G G' ∧ SOk K F G' ps (ρ.map (frzSl j d)) (S.set j .gone) σ H := by
  have hlt : j < S.length := (List.getElem?_eq_some_iff.mp hS).1
  obtain ⟨p, hp⟩ : ∃ p, ps[j]? = some p := ⟨_, List.getElem?_eq_getElem (by rw [o.plen]; exact hlt)⟩
  obtain ⟨u, hu⟩ := o.there p (List.mem_of_getElem? hp)
  have gp : G p = none := by
    have z := o.cell j p cl hp hS
    cases cl with
    | gone => cases hd
    | lst ds => exact z.1
    | dct ds => exact z.1
    | ins C fs => exact z.1
  have eg : Ex G (upd G p u) := Ex.new gp
  have top := ceD_ok (o.cell j p cl hp hS) hd
  have n0 : F.H0 p = none := by
    rcases o.fresh p (List.mem_of_getElem? hp) with z | z
    · exfalso
      obtain ⟨t, ht⟩ := o.pre
      obtain ⟨m, hm, hz⟩ := List.mem_iff_getElem.mp z
      have h1 : ps[m]? = some p := by rw [← ht, List.getElem?_append_left hm, List.getElem?_eq_getElem hm, hz]
      by_cases e : m = j
      · omega
      · exact pnd o.nd hp h1 e rfl
    · exact z
  have ad : AtD K (upd G p u) (.ref p) d := by
    cases top with
    | dat a => cases a with
      | lst h hs => rw [gp] at h; cases h
      | dct h hs => rw [gp] at h; cases h
      | ins h hs => rw [gp] at h; cases h
      | sq h hs => cases cl <;> first | (cases hd; done) | (simp only [ceD, Option.map_eq_some_iff] at hd; obtain ⟨_, _, e⟩ := hd; cases e)
      | tup h hs => cases cl <;> first | (cases hd; done) | (simp only [ceD, Option.map_eq_some_iff] at hd; obtain ⟨_, _, e⟩ := hd; cases e)
      | obj k => cases cl <;> first | (cases hd; done) | (simp only [ceD, Option.map_eq_some_iff] at hd; obtain ⟨_, _, e⟩ := hd; cases e)
    | lst h hs => rw [hu] at h; cases h; exact .lst upd_same (hs.mono eg)
    | dct h hs => rw [hu] at h; cases h; exact .dct upd_same (hs.mono eg)
    | ins h hs => rw [hu] at h; cases h; exact .ins upd_same (hs.mono eg)
  refine ⟨_, eg, ⟨fun a w e => ?_, o.base.trans eg, o.keep, fun a w e => ?_, o.pre, o.nd, o.fresh, o.there, by rw [List.length_set]; exact o.plen, by rw [List.length_map]; exact o.slen, fun i a h m => ?_, fun k r c2 h1 h2 => ?_⟩⟩
  · by_cases ha : a = p
    · subst ha; rw [upd_same] at e; cases e; exact hu
    · rw [upd_ne ha] at e; exact o.sub a w e
  · by_cases ha : a = p
    · subst ha; exact .inr n0
    · rw [upd_ne ha] at e; exact o.new a w e
  · rw [List.getElem?_map] at h
    cases e : ρ[i]? with
    | none => rw [e] at h; cases h
    | some b =>
      rw [e] at h
      have h : frzSl j d b = a := by simpa using h
      subst h
      cases b with
      | no => exact (m rfl).elim
      | dat x =>
        obtain ⟨v, h1, h2⟩ := o.slot i _ e (fun z => nomatch z)
        exact ⟨v, h1, h2.mono eg (List.prefix_refl _)⟩
      | err f x =>
        obtain ⟨v, h1, h2⟩ := o.slot i _ e (fun z => nomatch z)
        exact ⟨v, h1, h2.mono eg (List.prefix_refl _)⟩
      | own k =>
        obtain ⟨v, h1, h2⟩ := o.slot i _ e (fun z => nomatch z)
        by_cases hk : k = j
        · subst hk
          cases h2 with | val h2 => cases h2 with | own h2 =>
          rw [hp] at h2; cases h2
          refine ⟨_, h1, ?_⟩
          show SlAt K (upd G p u) ps F.ea F.ed (.ref p) (if k = k then .dat d else .own k)
          rw [if_pos rfl]
          exact .val (.dat ad)
        · refine ⟨v, h1, ?_⟩
          show SlAt K (upd G p u) ps F.ea F.ed v (if k = j then .dat d else .own k)
          rw [if_neg hk]
          exact h2.mono eg (List.prefix_refl _)
  · by_cases hk : k = j
    · subst hk
      rw [List.getElem?_set_self hlt] at h2
      cases h2; trivial
    · rw [List.getElem?_set_ne (Ne.symm hk)] at h2
      have hrp := pnd o.nd hp h1 hk
      exact (o.cell k r c2 h1 h2).grow eg (List.prefix_refl _) (fun z _ => by rw [upd_ne hrp]; exact z) rfl
end
section
variable {c : Cz} {sts : List Stmt} {g : MS}
theorem ds_frz {n0 : Nat} (i : Nat) (h0 : c.F.P0.length = n0) (h : DS c sts g) : DS c sts (gFrz n0 i g) := fun ρ S σ G ps H E o q => by
  unfold gFrz at q
  cases e : ρ[i]? with
  | none => rw [e] at q; exact q.elim
  | some a =>
    rw [e] at q
    cases a with
    | no => exact q.elim
    | err _ _ => exact q.elim
    | dat _ => exact h _ _ _ _ _ _ _ o q
    | own j =>
      dsimp only at q
      by_cases hc : n0 ≤ j ∧ S.all (ceNe j) = true
      · rw [if_pos hc] at q
        cases e1 : S[j]? with
        | none => rw [e1] at q; exact q.elim
        | some cl =>
          rw [e1] at q
          dsimp only [Option.bind] at q
          cases e2 : ceD cl with
          | none => rw [e2] at q; exact q.elim
          | some d =>
            rw [e2] at q
            obtain ⟨G', eg, o'⟩ := o.frz (by rw [h0]; exact hc.1) e1 e2 hc.2
            exact h _ _ _ _ _ _ _ o' (q.mono eg (List.prefix_refl _))
      · rw [if_neg hc] at q; exact q.elim
end
/-! ### try -/
/-- which class is which -/
structure Subs (K : PySem.W.Frag) (nk : Nat) (sub : Nat → Nat → Bool) : Prop where
  is : ∀ i j, i < nk → j < nk → PySem.W.exmOne K (.ref (CM.A i)) (.ref (CM.A j)) = some (sub i j)
def slE : Sl → Sl
  | .err _ _ => .no
  | a => a
/-- a suite's result behind it: the name is gone -/
def gone (i : Nat) : RS → RS
  | .nx ρ S => .nx ((ρ.map slE).set i .no) S
  | .bk ρ S => .bk ((ρ.map slE).set i .no) S
  | .ct ρ S => .ct ((ρ.map slE).set i .no) S
  | .rt r S => .rt r S
  | _ => .stuck
def bareE : RS → RS
  | .exc _ _ _ _ => .stuck
  | r => r
/-- except clauses: the class, the name's slot, the suite -/
inductive Hd where
  | bare (k : Nat) (g : MS) | named (k i : Nat) (g : MS)
def hdl (nk : Nat) (sub : Nat → Nat → Bool) : List Hd → Nat → Option (Str × D) → MS
  | [], i, pl, ρ, S => .exc i pl ρ S
  | .bare k g :: r, i, pl, ρ, S => if i < nk ∧ k < nk then (bif sub i k then bareE (g ρ S) else hdl nk sub r i pl ρ S) else .stuck
  | .named k j g :: r, i, pl, ρ, S => if i < nk ∧ k < nk then (bif sub i k then (match pl with
      | some (f, x) => gone j (g ((ρ.map slE).set j (.err f x)) S)
      | none => .stuck) else hdl nk sub r i pl ρ S) else .stuck
def gTry (nk : Nat) (sub : Nat → Nat → Bool) (body : MS) (hs : List Hd) : MS := fun ρ S => match body ρ S with
  | .exc i pl ρ1 S1 => hdl nk sub hs i pl ρ1 S1
  | r => r
/-- within an except suite; within a try's body -/
abbrev Cz.sui (c : Cz) (a : Addr) (oe : Obj) (pn : List (Addr × Obj)) (F : Fx) : Cz := ⟨c.X.suite a ((a, oe) :: pn), F, fun _ _ _ _ => False, takes0⟩
abbrev Cz.try' (c : Cz) (W : WX) (pn : List (Addr × Obj)) (xe : Value → Shared → Prop) (tk : Takes (c.X.tr pn xe) W) : Cz := ⟨c.X.tr pn xe, c.F, W, tk⟩
inductive HX (c : Cz) (nk : Nat) (sub : Nat → Nat → Bool) : List ExceptHandler → List Hd → Prop
  | nil : HX c nk sub [] []
  | bare {x : Str} {k : Nat} {b : Stmt} {bs : List Stmt} {p q : Pos} {hs : List ExceptHandler} {g : MS} {l : List Hd} : Names c.X x (.ref (CM.A k)) → (∀ a oe pn, DS (c.sui a oe pn c.F) (b :: bs) g) → HX c nk sub hs l →
      HX c nk sub (.ExceptHandler (some (.Name x p)) none (b :: bs) q :: hs) (.bare k g :: l)
  | named {x n : Str} {k i : Nat} {b : Stmt} {bs : List Stmt} {p q : Pos} {hs : List ExceptHandler} {g : MS} {l : List Hd} : Names c.X x (.ref (CM.A k)) → c.X.N[i]? = some n → c.X.env.kindOf n = some .local →
      (∀ a oe pn dd j, j < nk → sub j k = true → Zc (.ref (CM.A j)) (some dd) oe → (∃ vs, oe.data = .fields vs) → DS (c.sui a oe pn { c.F with ea := a, ed := dd }) (b :: bs) g) → HX c nk sub hs l → HX c nk sub (.ExceptHandler (some (.Name x p)) (some n) (b :: bs) q :: hs) (.named k i g :: l)
def suU (c : Cz) (sts : List Stmt) : Suite := fun a cls d E σ H => ∀ (oe : Obj) (pn : List (Addr × Obj)), Zc cls d oe → (∃ vs, oe.data = .fields vs) → WSs (c.X.suite a ((a, oe) :: pn)) sts E σ H
theorem suU_ok {c : Cz} {sts : List Stmt} (a : Addr) (oe : Obj) (cls : Value) (d : Option Addr) (pn : List (Addr × Obj)) (hz : Zc cls d oe) (hf : ∃ vs, oe.data = .fields vs) : PSs (c.X.suite a ((a, oe) :: pn)) sts (suU c sts a cls d) :=
  ⟨fun pins s σ H E I h => wss_pss.run pins s σ H E I (h oe pn hz hf)⟩
section
variable {K : PySem.W.Frag} {F : Fx} {G H : Hp} {ps : List Addr} {ρ : List Sl} {S : List Ce} {σ : L2.St}
theorem SOk.slE (o : SOk K F G ps ρ S σ H) (ea ed : Addr) : SOk K { F with ea := ea, ed := ed } G ps (ρ.map slE) S σ H :=
  ⟨o.sub, o.base, o.keep, o.new, o.pre, o.nd, o.fresh, o.there, o.plen, by rw [List.length_map]; exact o.slen, fun i a h n => by
    rw [List.getElem?_map] at h
    cases e : ρ[i]? with
    | none => rw [e] at h; cases h
    | some b =>
      rw [e] at h
      have h : Mir.slE b = a := by simpa using h
      subst h
      cases b with
      | no => exact (n rfl).elim
      | err _ _ => exact (n rfl).elim
      | dat x =>
        obtain ⟨v, h1, h2⟩ := o.slot i _ e (fun z => nomatch z)
        cases h2 with | val h2 => exact ⟨v, h1, .val h2⟩
      | own x =>
        obtain ⟨v, h1, h2⟩ := o.slot i _ e (fun z => nomatch z)
        cases h2 with | val h2 => exact ⟨v, h1, .val h2⟩, o.cell⟩
theorem SOk.setErr (o : SOk K F G ps ρ S σ H) (i : Nat) {ea ed : Addr} {f : Str} {v : V} {d : D} (h : G ed = some (.xd [(f, v)])) (a : AtD K G v d) : SOk K { F with ea := ea, ed := ed } G ps ((ρ.map Mir.slE).set i (.err f d)) S (σ.set i (some (.ref ea))) H := by
  have o2 := o.slE ea ed
  refine ⟨o2.sub, o2.base, o2.keep, o2.new, o2.pre, o2.nd, o2.fresh, o2.there, o2.plen, by rw [List.length_set, List.length_set]; exact o2.slen, fun j x q n => ?_, o2.cell⟩
  by_cases hj : j = i
  · subst hj
    have hlt : j < (ρ.map Mir.slE).length := by
      have z := (List.getElem?_eq_some_iff.mp q).1
      rw [List.length_set] at z; exact z
    rw [List.getElem?_set_self hlt] at q
    cases q
    exact ⟨_, List.getElem?_set_self (by rw [o2.slen]; exact hlt), .err h a⟩
  · rw [List.getElem?_set_ne (Ne.symm hj)] at q ⊢
    exact o2.slot j x q n
end
/-- whatever error comes, the clauses take it as hdl says -/
theorem hx_cla {c : Cz} {nk : Nat} {sub : Nat → Nat → Bool} (sb : Subs c.X.K nk sub) {hs : List ExceptHandler} {l : List Hd} (h : HX c nk sub hs l) : ∃ l', ClaOk c.X hs l' ∧ ∀ G ps E i pl ρ S, SatS c G ps E (hdl nk sub l i pl ρ S) →
    ∀ σ G' ps' H dd, SOk c.X.K c.F G' ps' ρ S σ H → Ex G G' → ps <+: ps' → ExcAt c.X.K G' dd pl → wCla c.X.K c.W E l' (.ref (CM.A i)) dd σ H := by
  induction h with
  | nil => exact ⟨[], .nil, fun G ps E i pl ρ S q σ G' ps' H dd o e p x => q σ dd G' ps' H o e p x⟩
  | @bare x k b bs p q hs g l nm hsu _ ih =>
    obtain ⟨l', h1, h2⟩ := ih
    refine ⟨⟨.ref (CM.A k), none, suU c (b :: bs)⟩ :: l', .bare nm (fun a oe cls d pn hz hf => suU_ok a oe cls d pn hz hf) h1, fun G ps E i pl ρ S q σ G' ps' H dd o e p x => ?_⟩
    unfold hdl at q
    by_cases hk : i < nk ∧ k < nk
    · rw [if_pos hk] at q
      refine ⟨sub i k, sb.is i k hk.1 hk.2, fun y a na oe pn hz hf => ?_, fun y => ?_⟩
      · rw [y] at q
        dsimp only [cond] at q
        refine hsu a oe pn _ _ _ G' ps' H _ o ?_
        have q := q.mono e p
        revert q
        cases g ρ S with
        | nx ρ1 S1 => exact fun q => q
        | bk ρ1 S1 => exact fun q => q
        | ct ρ1 S1 => exact fun q => q
        | rt ρ1 S1 => exact fun q => q
        | exc _ _ _ _ => exact fun q => q.elim
        | stuck => exact fun q => q
      · rw [y] at q
        exact h2 G ps E i pl ρ S q σ G' ps' H dd o e p x
    · rw [if_neg hk] at q; exact q.elim
  | @named x n k i b bs p q hs g l nm hi hk' hsu _ ih =>
    obtain ⟨l', h1, h2⟩ := ih
    refine ⟨⟨.ref (CM.A k), some i, suU c (b :: bs)⟩ :: l', .named nm hi hk' (fun a oe cls d pn hz hf => suU_ok a oe cls d pn hz hf) h1, fun G ps E i' pl ρ S q σ G' ps' H dd o e p x => ?_⟩
    unfold hdl at q
    by_cases hk : i' < nk ∧ k < nk
    · rw [if_pos hk] at q
      refine ⟨sub i' k, sb.is i' k hk.1 hk.2, fun y a na oe pn hz hf => ?_, fun y => ?_⟩
      · rw [y] at q
        dsimp only [cond] at q
        cases pl with
        | none => exact q.elim
        | some fx =>
          obtain ⟨f, d⟩ := fx
          obtain ⟨d0, v, ed, gd, av⟩ := x
          subst ed
          dsimp only at q
          have oe' := o.setErr i (ea := a) (ed := d0) gd av
          refine hsu a oe pn d0 i' hk.1 y hz hf _ _ _ G' ps' H _ oe' ?_
          have q := q.mono e p
          have back : ∀ {ρ1 : List Sl} {S1 : List Ce} {G3 : Hp} {ps3 : List Addr} {σ3 : L2.St} {H3 : Hp}, SOk c.X.K { c.F with ea := a, ed := d0 } G3 ps3 ρ1 S1 σ3 H3 → SOk c.X.K c.F G3 ps3 ((ρ1.map slE).set i .no) S1 (σ3.set i none) H3 := fun o3 => (o3.slE c.F.ea c.F.ed).setN i none
          revert q
          cases g ((ρ.map slE).set i (.err f d)) S with
          | nx ρ1 S1 => exact fun q σ3 G3 ps3 H3 o3 e3 p3 => q _ G3 ps3 H3 (back o3) e3 p3
          | bk ρ1 S1 => exact fun q σ3 G3 ps3 H3 o3 e3 p3 => q _ G3 ps3 H3 (back o3) e3 p3
          | ct ρ1 S1 => exact fun q σ3 G3 ps3 H3 o3 e3 p3 => q _ G3 ps3 H3 (back o3) e3 p3
          | rt r S1 => exact fun q v ρ3 σ3 G3 ps3 H3 o3 e3 p3 a3 => q v _ _ G3 ps3 H3 (back o3) e3 p3 a3
          | exc _ _ _ _ => exact fun q => q.elim
          | stuck => exact fun q => q
      · rw [y] at q
        exact h2 G ps E i' pl ρ S q σ G' ps' H dd o e p x
    · rw [if_neg hk] at q; exact q.elim
def tryU (c : Cz) (body : List Stmt) (W : WX) : TS := fun E σ H => ∀ (pn : List (Addr × Obj)) (xe : Value → Shared → Prop), Takes (c.X.tr pn xe) W → PassesOwn (model c.X.prog c.X.w) c.X.A c.X.env xe → WSs (c.X.tr pn xe) body E σ H
/-- try: body except X: .. except Y as n: .. -/
theorem d1_try {c : Cz} {nk : Nat} {sub : Nat → Nat → Bool} {body : List Stmt} {h0 : ExceptHandler} {hs : List ExceptHandler} {l : List Hd} {g : MS} {pos : Pos} (sb : Subs c.X.K nk sub) (nd : c.X.N.Nodup)
    (hb : ∀ (W : WX) (pn : List (Addr × Obj)) (xe : Value → Shared → Prop) (tk : Takes (c.X.tr pn xe) W), PassesOwn (model c.X.prog c.X.w) c.X.A c.X.env xe → DS (c.try' W pn xe tk) body g) (hx : HX c nk sub (h0 :: hs) l)
    (st : c.X.stack = c.X.env :: c.X.outer := by rfl) (fr : c.X.env.frame = some c.X.env.locals := by rfl) : D1 c (.Try body (h0 :: hs) [] [] pos) (gTry nk sub g l) := fun ρ S σ G ps H E o q => by
  obtain ⟨l', h1, h2⟩ := hx_cla sb hx
  refine ⟨_, ps_clauses (tb := tryU c body) st fr nd c.tk (fun W pn xe tk hp => ⟨fun pins s σ H E I hh => wss_pss.run pins s σ H E I (hh pn xe tk hp)⟩) h1, ?_⟩
  intro pn xe tk hp
  refine hb _ pn xe tk hp _ _ _ G ps H E o ?_
  unfold gTry at q
  revert q
  cases g ρ S with
  | nx ρ1 S1 => exact fun q => q
  | bk ρ1 S1 => exact fun q => q
  | ct ρ1 S1 => exact fun q => q
  | rt ρ1 S1 => exact fun q => q
  | exc i pl ρ1 S1 => exact fun q σ3 dd G3 ps3 H3 o3 e3 p3 x3 => h2 G ps E i pl ρ1 S1 q σ3 G3 ps3 H3 dd o3 e3 p3 x3
  | stuck => exact fun q => q
/-- n.f, n the caught error -/
def mErr (i : Nat) (f : Str) : ME := fun ρ S => match ρ[i]? with
  | some (.err g d) => if g = f then .ok (.dat d) S else .stuck
  | _ => .stuck
/-- the errors of class k keep f -/
def Keeps (K : PySem.W.Frag) (nk : Nat) (sub : Nat → Nat → Bool) (k : Nat) (f : Str) : Prop := ∀ j, j < nk → sub j k = true → XfC K (CM.A j) ∧ PySem.W.findIn K (.ref (CM.A j)) f = some none
theorem de_err {c : Cz} (i : Nat) {n f : Str} {C a dd : Addr} {oe : Obj} {pn : List (Addr × Obj)} {p1 pos : Pos} (TT : XfC c.X.K C ∧ PySem.W.findIn c.X.K (.ref C) f = some none) (hz : Zc (.ref C) (some dd) oe) (hf : ∃ vs, oe.data = .fields vs)
    (hN : c.X.N[i]? = some n := by rfl) (hv : Vis c.X.env.scope n := by first | exact Or.inl rfl | exact Or.inr (Or.inl rfl) | exact Or.inr (Or.inr rfl))
    (h1 : (n == ("__debug__" : Str)) = false := by decide) (h2 : (n == ("__classdict__" : Str)) = false := by decide)
    (hb : attributeBase (.Name n p1) f (c.X.suite a ((a, oe) :: pn)).env (eval (.Name n p1) (c.X.suite a ((a, oe) :: pn)).env) = eval (.Name n p1) (c.X.suite a ((a, oe) :: pn)).env := by rfl) :
    DE (c.sui a oe pn { c.F with ea := a, ed := dd }) (.Attribute (.Name n p1) f pos) (mErr i f) := fun ρ S σ G ps H k o q => by
  unfold mErr at q
  cases e : ρ[i]? with
  | none => rw [e] at q; exact q.elim
  | some b =>
    rw [e] at q
    cases b with
    | err g d =>
      dsimp only at q
      by_cases hg : g = f
      · subst hg
        rw [if_pos rfl] at q
        obtain ⟨v, hs, hv'⟩ := o.slot i _ e (fun z => nomatch z)
        obtain ⟨T, no⟩ := TT
        cases hv' with
        | err gd av =>
          exact ⟨_, pe_xf (X := c.X) T no hz hf (pe_var (X := c.X.suite a ((a, oe) :: pn)) hN hv h1 h2) hb, _, hs, rfl, rfl, dd, _, _, rfl, o.sub _ _ gd, by simp [List.lookup], q.ok o (AtA.dat av)⟩
        | val z => cases z
      · rw [if_neg hg] at q; exact q.elim
    | _ => exact q.elim
end Mir

set_option maxHeartbeats 1000000
/-! Operators and built-ins, on data. -/
namespace Mir
open PySem PySem.Spec L2
variable [CM : ClsMap]
/-! ### ints, texts, sequences -/
section
def okMul (i j : Int) : Bool := decide (i.natAbs.log2 + j.natAbs.log2 < 1000000)
def okDiv (j : Int) : Bool := decide (0 < j ∧ j.natAbs.log2 < 9000)
def repS (s : Str) (n : Int) : Str := ⟨(List.replicate n.toNat s.cps).foldl (· ++ ·) #[]⟩
def addF : D → D → Option D
  | .int i, .int j => some (.int (i + j))
  | .str a, .str b => if a.length + b.length ≤ sizeLine then some (.str (a ++ b)) else none
  | .lst a, .lst b => if a.length + b.length ≤ 100000 then some (.lst (a ++ b)) else none
  | .tup a, .tup b => if a.length + b.length ≤ 100000 then some (.tup (a ++ b)) else none
  | _, _ => none
def subF : D → D → Option D
  | .int i, .int j => some (.int (i - j))
  | _, _ => none
def mulF : D → D → Option D
  | .int i, .int j => if okMul i j = true then some (.int (i * j)) else none
  | .str s, .int n => if n < 1 ∧ -1000000 ≤ n then some (.str Str.empty) else if n = 1 then some (.str s) else if 2 ≤ n ∧ n ≤ 100000 ∧ 0 < s.length ∧ s.length ≤ 100 then some (.str (repS s n)) else none
  | .lst ds, .int n => if 0 ≤ n ∧ n ≤ 100000 ∧ ds.length ≤ 100 then some (.lst (List.replicate n.toNat ds).flatten) else none
  | .tup ds, .int n => if 2 ≤ n ∧ n ≤ 100000 ∧ ds ≠ [] ∧ ds.length ≤ 100 then some (.tup (List.replicate n.toNat ds).flatten) else none
  | _, _ => none
def divF : D → D → Option D
  | .int i, .int j => if okDiv j = true then some (.int (i / j)) else none
  | _, _ => none
def modF : D → D → Option D
  | .int i, .int j => if 0 < j then some (.int (i % j)) else none
  | _, _ => none
def powF : D → D → Option D
  | .int i, .int j => if 0 ≤ j ∧ j ≤ 1000000 ∧ i.natAbs < 2 ^ 64 then some (.int (i ^ j.toNat)) else none
  | _, _ => none
def negF : D → Option D
  | .int i => some (.int (-i))
  | _ => none
def ltF : D → D → Option D
  | .int i, .int j => some (.bl (decide (i < j)))
  | .str a, .str b => some (.bl (decide (a.cps.toList < b.cps.toList)))
  | _, _ => none
def leF : D → D → Option D
  | .int i, .int j => some (.bl (decide (i ≤ j)))
  | .str a, .str b => some (.bl (!decide (b.cps.toList < a.cps.toList)))
  | _, _ => none
def gtF : D → D → Option D
  | .int i, .int j => some (.bl (decide (j < i)))
  | .str a, .str b => some (.bl (decide (b.cps.toList < a.cps.toList)))
  | _, _ => none
def geF : D → D → Option D
  | .int i, .int j => some (.bl (decide (j ≤ i)))
  | .str a, .str b => some (.bl (!decide (a.cps.toList < b.cps.toList)))
  | _, _ => none
def isNonD : D → Bool
  | .non => true
  | _ => false
def isF : D → D → Option D
  | d, .non => some (.bl (isNonD d))
  | .bl a, .bl b => some (.bl (decide (a = b)))
  | _, _ => none
def isnF : D → D → Option D
  | d, .non => some (.bl (!isNonD d))
  | .bl a, .bl b => some (.bl (!decide (a = b)))
  | _, _ => none
def subS (a b : Str) : Bool := !(Builtin.Str.occurrences b a 0 b.length 1).isEmpty
/-- flat data -/
def flatD : D → Option V
  | .non => some .non
  | .bl b => some (.bl b)
  | .int i => some (.int i)
  | .str s => some (.str s)
  | _ => none
def flatDs : List D → Option (List V)
  | [] => some []
  | d :: r => match flatD d, flatDs r with
    | some v, some vs => some (v :: vs)
    | _, _ => none
def inSeq (d : D) (ds : List D) : Option Bool := match flatD d, flatDs ds with
  | some v, some vs => some (inV v vs)
  | _, _ => none
def kOf : D → Option Key
  | .int i => some (.inl i)
  | .str s => some (.inr s)
  | _ => none
def hasK (kvs : List (Key × D)) (k : Key) : Bool := (kvs.lookup k).isSome
def inF : D → D → Option D
  | .str a, .str b => some (.bl (subS a b))
  | d, .tup ds => (inSeq d ds).map .bl
  | d, .lst ds => (inSeq d ds).map .bl
  | _, _ => none
def ninF : D → D → Option D
  | .str a, .str b => some (.bl (!subS a b))
  | d, .tup ds => (inSeq d ds).map fun b => .bl !b
  | d, .lst ds => (inSeq d ds).map fun b => .bl !b
  | _, _ => none
def ixF : D → D → Option D
  | .tup ds, .int n => atI ds n
  | .lst ds, .int n => atI ds n
  | .sq ds, .int n => atI ds n
  | .str z, .int n => if z.length ≤ sizeLine then (atI z.cps.toList n).map fun x => .str ⟨#[x]⟩ else none
  | _, _ => none
end
section
variable {X : Cx} {K : PySem.W.Frag} {d d1 d2 : D}
theorem RD2.or {r r' : R2} {f g : D → D → Option D} (h : RD2 K r f) (h' : RD2 K r' g) {u : D → D → Option D} (hu : ∀ a b d, u a b = some d → f a b = some d ∨ g a b = some d) : RD2 K (fun x y H Q => r x y H Q ∨ r' x y H Q) u := fun G H x y k d1 d2 d s a b e q =>
  (hu d1 d2 d e).elim (fun z => .inl (h G H x y k d1 d2 d s a b z q)) fun z => .inr (h' G H x y k d1 d2 d s a b z q)
/-- ints to flat data -/
theorem rd_I {C : Int → Int → Prop} {g : Int → Int → V} {f : D → D → Option D} (h : ∀ a b d, f a b = some d → ∃ i j, a = .int i ∧ b = .int j ∧ C i j ∧ ∀ G, AtD K G (g i j) d) : RD2 K (rI C g) f := fun G H x y k d1 d2 d s a b e q => by
  obtain ⟨i, j, rfl, rfl, hc, hd⟩ := h _ _ _ e
  exact ⟨i, j, a.int_, b.int_, hc, q _ G H (.refl _ _) (hd G)⟩
theorem rd_I0 {g : Int → Int → V} {f : D → D → Option D} (h : ∀ a b d, f a b = some d → ∃ i j, a = .int i ∧ b = .int j ∧ ∀ G, AtD K G (g i j) d) : RD2 K (rI0 g) f := fun G H x y k d1 d2 d s a b e q => by
  obtain ⟨i, j, rfl, rfl, hd⟩ := h _ _ _ e
  exact ⟨i, j, a.int_, b.int_, q _ G H (.refl _ _) (hd G)⟩
/-- texts to flat data -/
theorem rd_S {C : Str → Str → Prop} {g : Str → Str → V} {f : D → D → Option D} (h : ∀ a b d, f a b = some d → ∃ i j, a = .str i ∧ b = .str j ∧ C i j ∧ ∀ G, AtD K G (g i j) d) : RD2 K (fun x y H Q => ∃ i j, x = .str i ∧ y = .str j ∧ C i j ∧ Q (g i j) H) f := fun G H x y k d1 d2 d s a b e q => by
  obtain ⟨i, j, rfl, rfl, hc, hd⟩ := h _ _ _ e
  exact ⟨i, j, a.str_, b.str_, hc, q _ G H (.refl _ _) (hd G)⟩
theorem rd_S0 {g : Str → Str → V} {f : D → D → Option D} (h : ∀ a b d, f a b = some d → ∃ i j, a = .str i ∧ b = .str j ∧ ∀ G, AtD K G (g i j) d) : RD2 K (fun x y H Q => ∃ i j, x = .str i ∧ y = .str j ∧ Q (g i j) H) f := fun G H x y k d1 d2 d s a b e q => by
  obtain ⟨i, j, rfl, rfl, hd⟩ := h _ _ _ e
  exact ⟨i, j, a.str_, b.str_, q _ G H (.refl _ _) (hd G)⟩
def rStrCat : R2 := fun x y H Q => ∃ i j, x = .str i ∧ y = .str j ∧ i.length + j.length ≤ sizeLine ∧ Q (.str (i ++ j)) H
def rAddA (K : PySem.W.Frag) : R2 := fun x y H Q => rI0 (fun i j => .int (i + j)) x y H Q ∨ rStrCat x y H Q ∨ rCat x y H Q ∨ rCatA K x y H Q
omit CM in
theorem opAdd : OpR X (binaryOp .Add) (rAddA X.K) := OpR.or op_add (OpR.or op_add_str (OpR.or op_cat op_catA))
theorem rdAdd : RD2 K (rAddA K) addF := fun G H x y k d1 d2 d s a b e q => by
  unfold addF at e
  split at e
  · cases e; exact .inl ⟨_, _, a.int_, b.int_, q _ G H (.refl _ _) (.int _)⟩
  · split at e
    · rename_i h; cases e; exact .inr (.inl ⟨_, _, a.str_, b.str_, h, q _ G H (.refl _ _) (.str _)⟩)
    · cases e
  · split at e
    · rename_i h; cases e
      obtain ⟨p1, v1, rfl, h1, s1⟩ := a.lst_ s
      obtain ⟨p2, v2, rfl, h2, s2⟩ := b.lst_ s
      refine .inr (.inr (.inl ⟨_, _, _, _, rfl, rfl, h1, h2, by rw [s1.len, s2.len]; exact Nat.le_trans h (by decide), fun p hp => q _ _ _ (.one hp) ?_⟩))
      exact .lst upd_same ((s1.append s2).mono (Ex.new (s.back hp)))
    · cases e
  · split at e
    · rename_i h; cases e
      obtain ⟨p1, v1, rfl, h1, g1, s1⟩ := a.tup_ s
      obtain ⟨p2, v2, rfl, h2, g2, s2⟩ := b.tup_ s
      refine .inr (.inr (.inr ⟨_, _, _, _, rfl, rfl, h1, h2, by rw [s1.len, s2.len]; exact Nat.le_trans h (by decide), fun e => ?_, fun n e => ?_, fun n n' p hp => q _ _ _ (.one hp) ?_⟩))
      · subst e
        cases s1
        exact q _ _ _ (.refl _ _) (.tup g2 s2)
      · subst e
        cases s2
        rw [List.append_nil] at q
        exact q _ _ _ (.refl _ _) (.tup g1 s1)
      · exact .tup (SqT.of upd_same) ((s1.append s2).mono (Ex.new (s.back hp)))
    · cases e
  · cases e
omit CM in
theorem opSub : OpR X (binaryOp .Sub) (rI0 fun i j => .int (i - j)) := op_sub
theorem rdSub : RD2 K (rI0 fun i j => .int (i - j)) subF := rd_I0 fun a b d e => by
  unfold subF at e
  split at e
  · cases e; exact ⟨_, _, rfl, rfl, fun G => .int _⟩
  · cases e
omit CM in
theorem opDiv : OpR X (binaryOp .FloorDiv) (rI CDivW fun i j => .int (i / j)) := op_fdivW
theorem rdDiv : RD2 K (rI CDivW fun i j => .int (i / j)) divF := rd_I fun a b d e => by
  unfold divF at e
  split at e
  · split at e
    · rename_i h; cases e; exact ⟨_, _, rfl, rfl, (show _ ∧ _ from of_decide_eq_true (p := _ ∧ _) h), fun G => .int _⟩
    · cases e
  · cases e
omit CM in
theorem opMod : OpR X (binaryOp .Mod) (rI (fun _ j => 0 < j) fun i j => .int (i % j)) := op_mod
theorem rdMod : RD2 K (rI (fun _ j => 0 < j) fun i j => .int (i % j)) modF := rd_I fun a b d e => by
  unfold modF at e
  split at e
  · split at e
    · rename_i h; cases e; exact ⟨_, _, rfl, rfl, h, fun G => .int _⟩
    · cases e
  · cases e
omit CM in
theorem opPow : OpR X (binaryOp .Pow) (rI CPow fun i j => .int (i ^ j.toNat)) := op_pow
theorem rdPow : RD2 K (rI CPow fun i j => .int (i ^ j.toNat)) powF := rd_I fun a b d e => by
  unfold powF at e
  split at e
  · split at e
    · rename_i h; cases e; exact ⟨_, _, rfl, rfl, h, fun G => .int _⟩
    · cases e
  · cases e
theorem rdNeg : RD1 K (fun x H Q => ∃ i, x = .int i ∧ Q (.int (-i)) H) negF := fun G H x k d1 d s a e q => by
  unfold negF at e
  split at e
  · cases e; exact ⟨_, a.int_, q _ G H (.refl _ _) (.int _)⟩
  · cases e
/-! order -/
def rLtA : R2 := fun x y H Q => rI0 (fun i j => .bl (decide (i < j))) x y H Q ∨ ∃ i j, x = .str i ∧ y = .str j ∧ Q (.bl (decide (i.cps.toList < j.cps.toList))) H
def rLeA : R2 := fun x y H Q => rI0 (fun i j => .bl (decide (i ≤ j))) x y H Q ∨ ∃ i j, x = .str i ∧ y = .str j ∧ Q (.bl (!decide (j.cps.toList < i.cps.toList))) H
def rGtA : R2 := fun x y H Q => rI0 (fun i j => .bl (decide (j < i))) x y H Q ∨ ∃ i j, x = .str i ∧ y = .str j ∧ Q (.bl (decide (j.cps.toList < i.cps.toList))) H
def rGeA : R2 := fun x y H Q => rI0 (fun i j => .bl (decide (j ≤ i))) x y H Q ∨ ∃ i j, x = .str i ∧ y = .str j ∧ Q (.bl (!decide (i.cps.toList < j.cps.toList))) H
omit CM in
theorem opLt : OpR X (compareOp .Lt) rLtA := OpR.or op_lt op_lt_str
omit CM in
theorem opLe : OpR X (compareOp .LtE) rLeA := OpR.or op_le op_le_str
omit CM in
theorem opGt : OpR X (compareOp .Gt) rGtA := OpR.or op_gt op_gt_str
omit CM in
theorem opGe : OpR X (compareOp .GtE) rGeA := OpR.or op_ge op_ge_str
theorem rdLt : RD2 K rLtA ltF := fun G H x y k d1 d2 d s a b e q => by
  unfold ltF at e
  split at e
  · cases e; exact .inl ⟨_, _, a.int_, b.int_, q _ G H (.refl _ _) (.bl _)⟩
  · cases e; exact .inr ⟨_, _, a.str_, b.str_, q _ G H (.refl _ _) (.bl _)⟩
  · cases e
theorem rdLe : RD2 K rLeA leF := fun G H x y k d1 d2 d s a b e q => by
  unfold leF at e
  split at e
  · cases e; exact .inl ⟨_, _, a.int_, b.int_, q _ G H (.refl _ _) (.bl _)⟩
  · cases e; exact .inr ⟨_, _, a.str_, b.str_, q _ G H (.refl _ _) (.bl _)⟩
  · cases e
theorem rdGt : RD2 K rGtA gtF := fun G H x y k d1 d2 d s a b e q => by
  unfold gtF at e
  split at e
  · cases e; exact .inl ⟨_, _, a.int_, b.int_, q _ G H (.refl _ _) (.bl _)⟩
  · cases e; exact .inr ⟨_, _, a.str_, b.str_, q _ G H (.refl _ _) (.bl _)⟩
  · cases e
theorem rdGe : RD2 K rGeA geF := fun G H x y k d1 d2 d s a b e q => by
  unfold geF at e
  split at e
  · cases e; exact .inl ⟨_, _, a.int_, b.int_, q _ G H (.refl _ _) (.bl _)⟩
  · cases e; exact .inr ⟨_, _, a.str_, b.str_, q _ G H (.refl _ _) (.bl _)⟩
  · cases e
/-! is -/
theorem isNonD_ok {G H : Hp} {v : V} (s : Ex G H) (h : TopD K G H v d) : decide (v = V.non) = isNonD d := by
  cases h with
  | dat h => cases h <;> first | rfl | exact decide_eq_false (fun z => nomatch z)
  | lst _ _ => exact decide_eq_false (fun z => nomatch z)
  | dct _ _ => exact decide_eq_false (fun z => nomatch z)
  | ins _ _ => exact decide_eq_false (fun z => nomatch z)
def rIsA : R2 := fun x y H Q => (y = .non ∧ Q (.bl (decide (x = .non))) H) ∨ rIsB x y H Q
def rNotA : R2 := fun x y H Q => (y = .non ∧ Q (.bl (!decide (x = .non))) H) ∨ rNotB x y H Q
omit CM in
theorem opIs : OpR X (compareOp .Is) rIsA := OpR.or op_isN op_isBl
omit CM in
theorem opNot : OpR X (compareOp .IsNot) rNotA := OpR.or op_notN op_notBl
theorem rdIs : RD2 K rIsA isF := fun G H x y k d1 d2 d s a b e q => by
  unfold isF at e
  split at e
  · cases e
    refine .inl ⟨b.non_, q _ G H (.refl _ _) ?_⟩
    rw [isNonD_ok s a]; exact .bl _
  · cases e; exact .inr ⟨_, _, a.bl_, b.bl_, q _ G H (.refl _ _) (.bl _)⟩
  · cases e
theorem rdNot : RD2 K rNotA isnF := fun G H x y k d1 d2 d s a b e q => by
  unfold isnF at e
  split at e
  · cases e
    refine .inl ⟨b.non_, q _ G H (.refl _ _) ?_⟩
    rw [isNonD_ok s a]; exact .bl _
  · cases e; exact .inr ⟨_, _, a.bl_, b.bl_, q _ G H (.refl _ _) (.bl _)⟩
  · cases e
/-! in -/
theorem flatD_ok {G H : Hp} {v u : V} (h : TopD K G H v d) (e : flatD d = some u) : v = u ∧ flatV u = true := by
  cases h with
  | dat h => cases h <;> cases e <;> exact ⟨rfl, rfl⟩
  | lst _ _ => cases e
  | dct _ _ => cases e
  | ins _ _ => cases e
theorem flatDs_ok {G : Hp} : ∀ {vs : List V} {ds : List D} {us : List V}, AtDs K G vs ds → flatDs ds = some us → vs = us ∧ us.all flatV = true
  | _, _, _, .nil, e => by cases e; exact ⟨rfl, rfl⟩
  | _ :: vs, d :: ds, us, .cons h hs, e => by
    unfold flatDs at e
    cases e1 : flatD d with
    | none => rw [e1] at e; cases e
    | some u =>
      cases e2 : flatDs ds with
      | none => rw [e1, e2] at e; cases e
      | some ws =>
        rw [e1, e2] at e
        cases e
        obtain ⟨q1, q2⟩ := flatD_ok (H := G) (.dat h) e1
        obtain ⟨q3, q4⟩ := flatDs_ok hs e2
        subst q1 q3
        exact ⟨rfl, by rw [List.all_cons, q2, q4] <;> rfl⟩
def rInA (K : PySem.W.Frag) : R2 := fun x y H Q => (∃ i j, x = .str i ∧ y = .str j ∧ Q (.bl (!(Builtin.Str.occurrences j i 0 j.length 1).isEmpty)) H) ∨ rIn K false x y H Q
def rNinA (K : PySem.W.Frag) : R2 := fun x y H Q => (∃ i j, x = .str i ∧ y = .str j ∧ Q (.bl (!(!(Builtin.Str.occurrences j i 0 j.length 1).isEmpty))) H) ∨ rIn K true x y H Q
omit CM in
theorem opIn : OpR X (compareOp .In) (rInA X.K) := OpR.or op_in_str op_in_seq
omit CM in
theorem opNin : OpR X (compareOp .NotIn) (rNinA X.K) := OpR.or op_notin_str op_notIn_seq
theorem inSeq_ok {neg : Bool} {G H : Hp} {x y : V} {k : VK} {ds : List D} {t : Bool} (s : Ex G H) (a : TopD K G H x d) (b : TopD K G H y (.tup ds) ∨ TopD K G H y (.lst ds)) (e : inSeq d ds = some t) (q : k (.bl (if neg then !t else t)) H) : rIn K neg x y H k := by
  unfold inSeq at e
  cases e1 : flatD d with
  | none => rw [e1] at e; cases e
  | some v =>
    cases e2 : flatDs ds with
    | none => rw [e1, e2] at e; cases e
    | some vs =>
      rw [e1, e2] at e
      cases e
      obtain ⟨rfl, f1⟩ := flatD_ok a e1
      rcases b with b | b
      · obtain ⟨p, ws, rfl, h1, _, h2⟩ := b.tup_ s
        obtain ⟨rfl, f2⟩ := flatDs_ok h2 e2
        exact ⟨_, _, rfl, .inr h1, f1, f2, q⟩
      · obtain ⟨p, ws, rfl, h1, h2⟩ := b.lst_ s
        obtain ⟨rfl, f2⟩ := flatDs_ok h2 e2
        exact ⟨_, _, rfl, .inl (SqL.of h1), f1, f2, q⟩
theorem rdIn : RD2 K (rInA K) inF := fun G H x y k d1 d2 d s a b e q => by
  unfold inF at e
  split at e
  · cases e; exact .inl ⟨_, _, a.str_, b.str_, q _ G H (.refl _ _) (.bl _)⟩
  · rename_i ds
    cases ei : inSeq d1 ds with
    | none => rw [ei] at e; cases e
    | some t => rw [ei] at e; cases e; exact .inr (inSeq_ok (neg := false) s a (.inl b) ei (q _ G H (.refl _ _) (.bl _)))
  · rename_i ds
    cases ei : inSeq d1 ds with
    | none => rw [ei] at e; cases e
    | some t => rw [ei] at e; cases e; exact .inr (inSeq_ok (neg := false) s a (.inr b) ei (q _ G H (.refl _ _) (.bl _)))
  · cases e
theorem rdNin : RD2 K (rNinA K) ninF := fun G H x y k d1 d2 d s a b e q => by
  unfold ninF at e
  split at e
  · cases e; exact .inl ⟨_, _, a.str_, b.str_, q _ G H (.refl _ _) (.bl _)⟩
  · rename_i ds
    cases ei : inSeq d1 ds with
    | none => rw [ei] at e; cases e
    | some t => rw [ei] at e; cases e; exact .inr (inSeq_ok (neg := true) s a (.inl b) ei (q _ G H (.refl _ _) (.bl _)))
  · rename_i ds
    cases ei : inSeq d1 ds with
    | none => rw [ei] at e; cases e
    | some t => rw [ei] at e; cases e; exact .inr (inSeq_ok (neg := true) s a (.inr b) ei (q _ G H (.refl _ _) (.bl _)))
  · cases e
/-! subscripts -/
theorem atI_of {G : Hp} {vs : List V} {ds : List D} {n : Int} {x : D} (h : AtDs K G vs ds) (e : atI ds n = some x) : ∃ u, atI vs n = some u ∧ AtD K G u x := by
  unfold atI at e ⊢
  rw [h.len]
  cases hi : ixN ds.length n with
  | none => rw [hi] at e; cases e
  | some w =>
    rw [hi] at e
    exact h.get e
theorem ixSeq : IxR X (rIx X.K) := ix_seq
theorem rdIx : RD2 K (rIx K) ixF := fun G H x y k d1 d2 d s a b e q => by
  unfold ixF at e
  split at e
  · obtain ⟨p, vs, rfl, h1, _, h2⟩ := a.tup_ s
    obtain ⟨u, e1, e2⟩ := atI_of h2 e
    exact .inr (.inl ⟨_, _, _, u, rfl, b.int_, h1, e1, q _ G H (.refl _ _) e2⟩)
  · obtain ⟨p, vs, rfl, h1, h2⟩ := a.lst_ s
    obtain ⟨u, e1, e2⟩ := atI_of h2 e
    exact .inl ⟨_, _, _, u, rfl, b.int_, SqL.of h1, e1, q _ G H (.refl _ _) e2⟩
  · obtain ⟨p, vs, rfl, h1, h2⟩ := a.sq_ s
    obtain ⟨u, e1, e2⟩ := atI_of h2 e
    exact .inl ⟨_, _, _, u, rfl, b.int_, h1, e1, q _ G H (.refl _ _) e2⟩
  · split at e
    · rename_i z n hz
      cases ea : atI z.cps.toList n with
      | none => rw [ea] at e; cases e
      | some c => rw [ea] at e; cases e; exact .inr (.inr ⟨_, _, _, a.str_, b.int_, hz, ea, q _ G H (.refl _ _) (.str _)⟩)
    · cases e
  · cases e
end
/-! ### products -/
section
variable {X : Cx} {K : PySem.W.Frag}
omit CM in
theorem rep_size (a : Array Nat) : ∀ (m : Nat) (acc : Array Nat), ((List.replicate m a).foldl (· ++ ·) acc).size = acc.size + m * a.size := by
  intro m
  induction m with
  | zero => intro acc; simp
  | succ m ih =>
    intro acc
    rw [List.replicate_succ, List.foldl_cons, ih, Array.size_append, Nat.succ_mul]
    omega
omit CM in
theorem repS_len (s : Str) (n : Int) : (repS s n).length = n.toNat * s.length := by
  show ((List.replicate n.toNat s.cps).foldl (· ++ ·) #[]).size = _
  rw [rep_size]
  show 0 + _ = _
  rw [Nat.zero_add]
  rfl
def rRepS : R2 := fun x y H Q => ∃ s n, x = .str s ∧ y = .int n ∧ 2 ≤ n ∧ n ≤ 100000 ∧ 0 < s.length ∧ s.length ≤ 100 ∧ Q (.str (repS s n)) H
omit CM in
theorem op_repS : OpR X (binaryOp .Mult) rRepS := by
  intro pins s σ H x y v u Q I rx ry h
  obtain ⟨z, n, e1, e2, h1, h2, h3, h4, q⟩ := h
  subst e1 e2
  obtain ⟨t, e⟩ := rx
  obtain ⟨t', e'⟩ := ry
  subst e e'
  have nz : (n == 1 || z.length == 0) = false := by
    have a1 : (n == 1) = false := beq_eq_false_iff_ne.mpr (by omega)
    have a2 : (z.length == 0) = false := beq_eq_false_iff_ne.mpr (by omega)
    rw [a1, a2] <;> rfl
  refine PySem.P.mul_str (by rw [decide_eq_false (by omega), decide_eq_false (by omega)] <;> rfl) (fun _ _ => ?_) (fun _ _ => ?_) ?_
  · have d1 : (92233720368547 : Int) ≤ (2 ^ 63 - 1) / n := (Int.le_ediv_iff_mul_le (by omega)).mpr (by omega)
    omega
  · unfold Builtin.Str.tooLong
    refine decide_eq_false ?_
    have a1 : z.length * n.toNat ≤ 100 * 100000 := Nat.mul_le_mul h4 (by omega)
    rw [sizeLine_eq]
    omega
  · rw [if_neg (by omega), if_neg (by rw [nz]; decide)]
    refine ⟨?_, ⟨.str (repS z n), H, I.tok _, ⟨_, rfl⟩, q⟩⟩
    show (repS z n).length ≤ sizeLine
    rw [repS_len, sizeLine_eq]
    have a1 : n.toNat * z.length ≤ 100000 * 100 := Nat.mul_le_mul (by omega) h4
    omega
def rRepTu (K : PySem.W.Frag) : R2 := fun x y H Q => ∃ (l : Addr) (k : Int) (xs : List V), x = .ref l ∧ y = .int k ∧ SqT K H l xs ∧ xs ≠ [] ∧ 2 ≤ k ∧ k ≤ 100000 ∧ xs.length ≤ 100 ∧ ∀ p, H p = none → Q (.ref p) (upd H p (.tup (List.replicate k.toNat xs).flatten))
omit CM in
theorem op_repTu : OpR X (binaryOp .Mult) (rRepTu X.K) := by
  intro pins s σ H x y v u Q I rx ry h
  obtain ⟨l, k, xs, e1, e2, hT, hne, h1, h2, hz, q⟩ := h
  subst e1 e2
  cases rx
  obtain ⟨t, e⟩ := ry
  subst e
  obtain ⟨its, r, tp, hs⟩ := I.tuple hT
  obtain ⟨⟨cls, dd, data, sl⟩, ho, hc, n, hd⟩ := tp
  dsimp only at hc hd
  subst hc hd
  have len : its.length = xs.length := r.length.symm
  have some1 : its.toArray.isEmpty = false := by
    cases its with
    | nil => exact absurd (List.eq_nil_of_length_eq_zero len.symm) hne
    | cons a b => rfl
  have size : its.toArray.size = xs.length := by rw [List.size_toArray, len]
  have prod : xs.length * k.toNat ≤ 100 * 100000 := Nat.mul_le_mul hz (by omega)
  have prodI : ((its.toArray.size : Nat) : Int) * k ≤ 10000000 := by
    rw [size]
    have e : ((xs.length * k.toNat : Nat) : Int) = (xs.length : Int) * k := by rw [Int.natCast_mul, Int.toNat_of_nonneg (by omega)]
    rw [← e]
    omega
  have flat : (List.replicate k.toNat its).flatten.length ≤ sizeLine := by
    rw [PyProof.Rows.lm_len_rep_flat, len, sizeLine_eq, Nat.mul_comm]
    omega
  have t0 : (decide (k < -(2 ^ 63)) || decide (k ≥ 2 ^ 63)) = false := by rw [decide_eq_false (by omega), decide_eq_false (by omega)] <;> rfl
  have t1 : (its.toArray.isEmpty || k == 1) = false := by rw [some1, Bool.false_or, beq_eq_false_iff_ne]; omega
  have t2 : (decide (k ≤ 0) || its.toArray.isEmpty) = false := by rw [some1, Bool.or_false, decide_eq_false_iff_not]; omega
  have t4 : Builtin.Tuple.tupleTooMany (((its.toArray.size : Nat) : Int) * k) = false := by
    show decide (_ > (sizeLine : Int)) = false
    rw [sizeLine_eq, decide_eq_false_iff_not]
    omega
  have made := tuple_mulW l its.toArray n dd sl k t t0 t1 t2 (by omega) t4 (by rw [size_rep, List.size_toArray]; exact flat)
  refine wpAny_binaryOp_repeat_ref (T := "tuple") (U := "int") (by decide) ⟨_, ho, rfl⟩ (fun s' => typeIs_int s' k t) noFill_tuple_mul F.fills_int_mul F.slot_int_rmul repeat_tuple F.slot_int_index.lookup
    (PySem.call_meets F.slot_int_rmul (typeIs_int s k t) F.entry_int_rmul (F.args_int_rmul_2 _ _) (int_rmul_tuple k t l its.toArray n dd sl) ⟨ho, rfl, ⟨_, ho, rfl⟩, PySem.call_meets F.slot_tuple_mul ⟨_, ho, rfl⟩ F.entry_tuple_mul (F.args_tuple_mul_2 _ _) made ⟨ho, ?_⟩⟩)
  rw [size_rep]
  have new : ObjOk X.prog X.w (upd H s.heap.objs.size (.tup (List.replicate k.toNat xs).flatten)) (s.heap.push { cls := .type "tuple", data := .seq (List.replicate k.toNat its).flatten.toArray }) s.heap.objs.size (.tup (List.replicate k.toNat xs).flatten) :=
    ⟨by rw [PyProof.Rows.lm_len_rep_flat, sizeLine_eq, Nat.mul_comm]; omega, _, r.rep k.toNat, PyProof.Rows.IsTup.new _ _⟩
  exact ⟨.ref s.heap.objs.size, _, I.laid (t' := s.toks) (fun b ob z => Heap.get?_push_of_some _ z) (Nat.le_refl _) new, rfl, q _ (I.hok.fresh (Nat.le_refl _))⟩
theorem AtDs.rep {G : Hp} {vs : List V} {ds : List D} (h : AtDs K G vs ds) : ∀ m : Nat, AtDs K G (List.replicate m vs).flatten (List.replicate m ds).flatten
  | 0 => .nil
  | m + 1 => by
    rw [List.replicate_succ, List.replicate_succ, List.flatten_cons, List.flatten_cons]
    exact h.append (h.rep m)
def rRepS1 : R2 := fun x y H Q => ∃ s, x = .str s ∧ y = .int 1 ∧ Q (.str s) H
omit CM in
theorem op_repS1 {X : Cx} : OpR X (binaryOp .Mult) rRepS1 := by
  intro pins s σ H x y v u Q I rx ry h
  obtain ⟨z, e1, e2, q⟩ := h
  subst e1 e2
  obtain ⟨t, e⟩ := rx
  obtain ⟨t', e'⟩ := ry
  subst e e'
  refine PySem.P.mul_str (by decide) (fun _ h => by cases h) (fun _ h => by cases h) ?_
  exact ⟨.str z, H, I, ⟨t, rfl⟩, q⟩
def rRepS0 : R2 := fun x y H Q => ∃ s n, x = .str s ∧ y = .int n ∧ n < 1 ∧ -1000000 ≤ n ∧ Q (.str Str.empty) H
omit CM in
theorem op_repS0 {X : Cx} : OpR X (binaryOp .Mult) rRepS0 := by
  intro pins s σ H x y v u Q I rx ry h
  obtain ⟨z, n, e1, e2, h1, h2, q⟩ := h
  subst e1 e2
  obtain ⟨t, e⟩ := rx
  obtain ⟨t', e'⟩ := ry
  subst e e'
  exact PySem.P.mul_str_none h1 (by omega) ⟨.str Str.empty, H, I.tok _, ⟨_, rfl⟩, q⟩
def rMulA (K : PySem.W.Frag) : R2 := fun x y H Q => rI CMulW (fun i j => .int (i * j)) x y H Q ∨ rRepS x y H Q ∨ rRepTu K x y H Q ∨ rRep x y H Q ∨ rRepS1 x y H Q ∨ rRepS0 x y H Q
omit CM in
theorem opMul : OpR X (binaryOp .Mult) (rMulA X.K) := OpR.or op_mulW (OpR.or op_repS (OpR.or op_repTu (OpR.or op_rep (OpR.or op_repS1 op_repS0))))
theorem rdMul : RD2 K (rMulA K) mulF := fun G H x y k d1 d2 d s a b e q => by
  unfold mulF at e
  split at e
  · split at e
    · rename_i h; cases e; exact .inl ⟨_, _, a.int_, b.int_, (show _ < 1000000 from of_decide_eq_true (p := _ < 1000000) h), q _ G H (.refl _ _) (.int _)⟩
    · cases e
  · split at e
    · rename_i h; cases e; exact .inr (.inr (.inr (.inr (.inr ⟨_, _, a.str_, b.int_, h.1, h.2, q _ G H (.refl _ _) (.str _)⟩))))
    · split at e
      · rename_i h; cases e; subst h; exact .inr (.inr (.inr (.inr (.inl ⟨_, a.str_, b.int_, q _ G H (.refl _ _) (.str _)⟩))))
      · split at e
        · rename_i h; cases e; exact .inr (.inl ⟨_, _, a.str_, b.int_, h.1, h.2.1, h.2.2.1, h.2.2.2, q _ G H (.refl _ _) (.str _)⟩)
        · cases e
  · split at e
    · rename_i ds n h; cases e
      obtain ⟨p, vs, rfl, h1, hs⟩ := a.lst_ s
      have z : vs.length * n.toNat ≤ 100 * 100000 := Nat.mul_le_mul (by rw [hs.len]; exact h.2.2) (by omega)
      refine .inr (.inr (.inr (.inl ⟨p, n, vs, rfl, b.int_, h1, by omega, by omega, by rw [sizeLine_eq]; omega, fun r hr => q _ _ _ (.one hr) (.lst upd_same ((hs.rep _).mono (Ex.new (s.back hr))))⟩)))
    · cases e
  · split at e
    · rename_i ds n h; cases e
      obtain ⟨p, vs, rfl, h1, _, hs⟩ := a.tup_ s
      refine .inr (.inr (.inl ⟨p, n, vs, rfl, b.int_, h1, fun z => h.2.2.1 ?_, h.1, h.2.1, by rw [hs.len]; exact h.2.2.2, fun r hr => q _ _ _ (.one hr) (.tup (SqT.of upd_same) ((hs.rep _).mono (Ex.new (s.back hr))))⟩))
      subst z
      cases hs
      rfl
    · cases e
  · cases e
end
end Mir

set_option maxHeartbeats 1000000
/-! Equality, built-ins, texts, slices. -/
namespace Mir
open PySem PySem.Spec L2
variable [CM : ClsMap]
/-! ### equality -/
mutual
def toPy : D → Option PyData
  | .non => some .none
  | .bl b => some (.bool b)
  | .int i => some (.int i)
  | .str s => some (.str s)
  | .lst ds => (toPys ds).map PyData.list
  | .sq ds => (toPys ds).map PyData.list
  | .tup ds => (toPys ds).map PyData.tuple
  | _ => none
def toPys : List D → Option (List PyData)
  | [] => some []
  | d :: r => match toPy d, toPys r with
    | some x, some xs => some (x :: xs)
    | _, _ => none
end
/-- data of flat kinds and sequences, not too deep, with fair texts -/
def okP : Nat → D → Bool
  | 0, _ => false
  | n + 1, .non => true
  | n + 1, .bl _ => true
  | n + 1, .int _ => true
  | n + 1, .str s => decide (s.length ≤ 100000) && PyData.strOk s
  | n + 1, .lst ds => ds.all (okP n)
  | n + 1, .tup ds => ds.all (okP n)
  | n + 1, _ => false
def pyOf (d : D) : PyData := (toPy d).getD .none
mutual
/-- equality of such data -/
def eqB : D → D → Bool
  | .non, .non => true
  | .bl a, .bl b => a == b
  | .bl a, .int j => (if a then 1 else 0) == j
  | .int i, .bl b => i == (if b then 1 else 0)
  | .int i, .int j => i == j
  | .str x, .str y => x == y
  | .lst xs, .lst ys => eqBs xs ys
  | .tup xs, .tup ys => eqBs xs ys
  | _, _ => false
def eqBs : List D → List D → Bool
  | [], [] => true
  | x :: xs, y :: ys => eqB x y && eqBs xs ys
  | _, _ => false
end
def eqF (a b : D) : Option D := match flatD a, flatD b with
  | some v, some u => if scal v u = true then some (.bl (decide (v = u))) else if okP 60 a = true ∧ okP 60 b = true then some (.bl (eqB a b)) else none
  | _, _ => if okP 60 a = true ∧ okP 60 b = true then some (.bl (eqB a b)) else none
def neF (a b : D) : Option D := match eqF a b with
  | some (.bl t) => some (.bl !t)
  | _ => none
omit CM in
theorem okP_py : ∀ (n : Nat) (d : D), okP n d = true → toPy d = some (pyOf d) ∧ (pyOf d).canLay0 = true ∧ (pyOf d).depth ≤ n := by
  intro n
  induction n with
  | zero => intro d h; unfold okP at h; cases h
  | succ n ih =>
    have all : ∀ ds : List D, ds.all (okP n) = true → ∃ l, toPys ds = some l ∧ PyData.canLayAll0 l = true ∧ PyData.depthAll l ≤ n := by
      intro ds
      induction ds with
      | nil => intro _; exact ⟨[], by simp only [toPys], by simp only [PyData.canLayAll0], by simp only [PyData.depthAll]; omega⟩
      | cons d r ihr =>
        intro h
        rw [List.all_cons, Bool.and_eq_true] at h
        obtain ⟨l, h1, h2, h3⟩ := ihr h.2
        obtain ⟨g1, g2, g3⟩ := ih d h.1
        exact ⟨pyOf d :: l, by simp only [toPys, g1, h1], by simp only [PyData.canLayAll0, g2, h2, Bool.and_self], by simp only [PyData.depthAll]; omega⟩
    intro d h
    cases d with
    | non => exact ⟨rfl, by simp only [pyOf, toPy, Option.getD, PyData.canLay0], by simp only [pyOf, toPy, Option.getD, PyData.depth]; omega⟩
    | bl b => exact ⟨rfl, by simp only [pyOf, toPy, Option.getD, PyData.canLay0], by simp only [pyOf, toPy, Option.getD, PyData.depth]; omega⟩
    | int i => exact ⟨rfl, by simp only [pyOf, toPy, Option.getD, PyData.canLay0], by simp only [pyOf, toPy, Option.getD, PyData.depth]; omega⟩
    | str s =>
      simp only [okP, Bool.and_eq_true] at h
      exact ⟨rfl, by simp only [pyOf, toPy, Option.getD, PyData.canLay0]; exact h.2, by simp only [pyOf, toPy, Option.getD, PyData.depth]; omega⟩
    | lst ds =>
      simp only [okP] at h
      obtain ⟨l, h1, h2, h3⟩ := all ds h
      have e : toPy (.lst ds) = some (.list l) := by simp only [toPy, h1, Option.map]
      refine ⟨by simp only [pyOf, e, Option.getD], ?_, ?_⟩
      · simp only [pyOf, e, Option.getD, PyData.canLay0]; exact h2
      · simp only [pyOf, e, Option.getD, PyData.depth]; omega
    | tup ds =>
      simp only [okP] at h
      obtain ⟨l, h1, h2, h3⟩ := all ds h
      have e : toPy (.tup ds) = some (.tuple l) := by simp only [toPy, h1, Option.map]
      refine ⟨by simp only [pyOf, e, Option.getD], ?_, ?_⟩
      · simp only [pyOf, e, Option.getD, PyData.canLay0]; exact h2
      · simp only [pyOf, e, Option.getD, PyData.depth]; omega
    | _ => simp only [okP] at h; cases h
omit CM in
theorem shaped_of {n : Nat} {d : D} (h : okP n d = true) (hn : n ≤ 64) : SeqAt.shaped (pyOf d) = true := by
  obtain ⟨_, h2, h3⟩ := okP_py n d h
  unfold SeqAt.shaped
  rw [h2, decide_eq_true (by omega)] <;> rfl
omit CM in
theorem pyOfs : ∀ {n : Nat} {ds : List D}, ds.all (okP n) = true → toPys ds = some (ds.map pyOf)
  | n, [], _ => by simp only [toPys, List.map]
  | n, d :: r, h => by
    rw [List.all_cons, Bool.and_eq_true] at h
    simp only [toPys, (okP_py n d h.1).1, pyOfs h.2, List.map]
omit CM in
theorem eqv_eqB : ∀ (n : Nat) (a b : D), okP n a = true → okP n b = true → PyData.eqv (pyOf a) (pyOf b) = eqB a b := by
  intro n
  induction n with
  | zero => intro a b h; unfold okP at h; cases h
  | succ n ih =>
    have all : ∀ (xs ys : List D), xs.all (okP n) = true → ys.all (okP n) = true → PyData.eqvAll (xs.map pyOf) (ys.map pyOf) = eqBs xs ys := by
      intro xs
      induction xs with
      | nil => intro ys _ _; cases ys <;> simp only [List.map, PyData.eqvAll, eqBs]
      | cons x xs ihx =>
        intro ys h1 h2
        cases ys with
        | nil => simp only [List.map, PyData.eqvAll, eqBs]
        | cons y ys =>
          rw [List.all_cons, Bool.and_eq_true] at h1 h2
          simp only [List.map, PyData.eqvAll, eqBs, ih x y h1.1 h2.1, ihx ys h1.2 h2.2]
    have lstP : ∀ ds : List D, ds.all (okP n) = true → pyOf (.lst ds) = .list (ds.map pyOf) := fun ds h => by simp only [pyOf, toPy, pyOfs h, Option.map, Option.getD]
    have tupP : ∀ ds : List D, ds.all (okP n) = true → pyOf (.tup ds) = .tuple (ds.map pyOf) := fun ds h => by simp only [pyOf, toPy, pyOfs h, Option.map, Option.getD]
    intro a b ha hb
    cases a <;> cases b <;> first
      | (simp only [okP] at ha; cases ha; done)
      | (simp only [okP] at hb; cases hb; done)
      | (simp only [okP] at ha hb
         first
         | rw [lstP _ ha, lstP _ hb, PyData.eqv, eqB, all _ _ ha hb]
         | rw [tupP _ ha, tupP _ hb, PyData.eqv, eqB, all _ _ ha hb]
         | (rw [lstP _ ha, tupP _ hb]; simp only [PyData.eqv, eqB])
         | (rw [tupP _ ha, lstP _ hb]; simp only [PyData.eqv, eqB])
         | (rw [lstP _ ha]; simp only [pyOf, toPy, Option.getD, PyData.eqv, eqB])
         | (rw [lstP _ hb]; simp only [pyOf, toPy, Option.getD, PyData.eqv, eqB])
         | (rw [tupP _ ha]; simp only [pyOf, toPy, Option.getD, PyData.eqv, eqB])
         | (rw [tupP _ hb]; simp only [pyOf, toPy, Option.getD, PyData.eqv, eqB])
         | simp only [pyOf, toPy, Option.getD, PyData.eqv, eqB])
section
variable {X : Cx} {K : PySem.W.Frag} {G : Hp}
mutual
theorem toPy_ok : ∀ {v : V} {d : D} {p : PyData}, AtD K G v d → toPy d = some p → Dp K G v p
  | _, _, _, .non, e => by simp only [toPy] at e; cases e; exact .non
  | _, _, _, .bl b, e => by simp only [toPy] at e; cases e; exact .bl b
  | _, _, _, .int b, e => by simp only [toPy] at e; cases e; exact .int b
  | _, _, _, .str b, e => by simp only [toPy] at e; cases e; exact .str b
  | _, .lst ds, _, .lst h hs, e => by
    simp only [toPy] at e
    cases q : toPys ds with
    | none => rw [q] at e; cases e
    | some l => rw [q] at e; cases e; exact .lst (SqL.of h) (toPys_ok hs q)
  | _, .sq ds, _, .sq h hs, e => by
    simp only [toPy] at e
    cases q : toPys ds with
    | none => rw [q] at e; cases e
    | some l => rw [q] at e; cases e; exact .lst h (toPys_ok hs q)
  | _, .tup ds, _, .tup h hs, e => by
    simp only [toPy] at e
    cases q : toPys ds with
    | none => rw [q] at e; cases e
    | some l => rw [q] at e; cases e; exact .tup h (toPys_ok hs q)
  | _, _, _, .ty n, e => by simp only [toPy] at e; cases e
  | _, _, _, .obj n, e => by simp only [toPy] at e; cases e
  | _, _, _, .dct h hs, e => by simp only [toPy] at e; cases e
  | _, _, _, .ins h hs, e => by simp only [toPy] at e; cases e
theorem toPys_ok : ∀ {v : List V} {d : List D} {p : List PyData}, AtDs K G v d → toPys d = some p → DpAll K G v p
  | _, _, _, .nil, e => by simp only [toPys] at e; cases e; exact .nil
  | _ :: _, d :: ds, _, .cons h hs, e => by
    simp only [toPys] at e
    cases q1 : toPy d with
    | none => rw [q1] at e; cases e
    | some x =>
      cases q2 : toPys ds with
      | none => rw [q1, q2] at e; cases e
      | some xs => rw [q1, q2] at e; cases e; exact .cons (toPy_ok h q1) (toPys_ok hs q2)
end
def rEqA (K : PySem.W.Frag) : R2 := fun x y H Q => rEq x y H Q ∨ rEqD K x y H Q
def rNeA (K : PySem.W.Frag) : R2 := fun x y H Q => rNe x y H Q ∨ rNeD K x y H Q
omit CM in
theorem opEq (hu : X.A.units + 64 < cLine) : OpR X (compareOp .Eq) (rEqA X.K) := OpR.or op_eq (op_eqD hu)
omit CM in
theorem opNe (hu : X.A.units + 64 < cLine) : OpR X (compareOp .NotEq) (rNeA X.K) := OpR.or op_ne (op_neD hu)
theorem eqF_cases {a b d : D} (e : eqF a b = some d) : (∃ v u, flatD a = some v ∧ flatD b = some u ∧ scal v u = true ∧ d = .bl (decide (v = u))) ∨ (okP 60 a = true ∧ okP 60 b = true ∧ d = .bl (eqB a b)) := by
  unfold eqF at e
  split at e
  · rename_i v u h1 h2
    by_cases h : scal v u = true
    · rw [if_pos h] at e; cases e; exact .inl ⟨v, u, h1, h2, h, rfl⟩
    · rw [if_neg h] at e
      by_cases h : okP 60 a = true ∧ okP 60 b = true
      · rw [if_pos h] at e; cases e; exact .inr ⟨h.1, h.2, rfl⟩
      · rw [if_neg h] at e; cases e
  · by_cases h : okP 60 a = true ∧ okP 60 b = true
    · rw [if_pos h] at e; cases e; exact .inr ⟨h.1, h.2, rfl⟩
    · rw [if_neg h] at e; cases e
theorem rdEq : RD2 K (rEqA K) eqF := fun G H x y k d1 d2 d s a b e q => by
  rcases eqF_cases e with ⟨v, u, h1, h2, h3, rfl⟩ | ⟨h1, h2, rfl⟩
  · obtain ⟨rfl, _⟩ := flatD_ok a h1
    obtain ⟨rfl, _⟩ := flatD_ok b h2
    exact .inl ⟨h3, q _ G H (.refl _ _) (.bl _)⟩
  · refine .inr ⟨pyOf d1, pyOf d2, toPy_ok (a.atH s) (okP_py _ _ h1).1, toPy_ok (b.atH s) (okP_py _ _ h2).1, shaped_of h1 (by decide), shaped_of h2 (by decide), ?_⟩
    rw [eqv_eqB 60 _ _ h1 h2]
    exact q _ G H (.refl _ _) (.bl _)
theorem rdNe : RD2 K (rNeA K) neF := fun G H x y k d1 d2 d s a b e q => by
  unfold neF at e
  cases e1 : eqF d1 d2 with
  | none => rw [e1] at e; cases e
  | some d' =>
    rw [e1] at e
    rcases eqF_cases e1 with ⟨v, u, h1, h2, h3, rfl⟩ | ⟨h1, h2, rfl⟩
    · cases e
      obtain ⟨rfl, _⟩ := flatD_ok a h1
      obtain ⟨rfl, _⟩ := flatD_ok b h2
      exact .inl ⟨h3, q _ G H (.refl _ _) (.bl _)⟩
    · cases e
      refine .inr ⟨pyOf d1, pyOf d2, toPy_ok (a.atH s) (okP_py _ _ h1).1, toPy_ok (b.atH s) (okP_py _ _ h2).1, shaped_of h1 (by decide), shaped_of h2 (by decide), ?_⟩
      rw [eqv_eqB 60 _ _ h1 h2]
      exact q _ G H (.refl _ _) (.bl _)
end
/-! ### built-ins -/
section
def lenF : List D → Option D
  | [.str s] => if s.length ≤ sizeLine then some (.int s.length) else none
  | [.lst ds] => some (.int ds.length)
  | [.sq ds] => some (.int ds.length)
  | [.tup ds] => some (.int ds.length)
  | _ => none
def absF : List D → Option D
  | [.int i] => some (.int (if i < 0 then -i else i))
  | _ => none
def max2F : List D → Option D
  | [.int i, .int j] => some (.int (if j > i then j else i))
  | _ => none
def min2F : List D → Option D
  | [.int i, .int j] => some (.int (if j < i then j else i))
  | _ => none
def intF : List D → Option D
  | [.int i] => some (.int i)
  | [.bl b] => some (.int (if b then 1 else 0))
  | [.str a] => match PySem.intText? a with
    | some n => if a.length ≤ 640 then some (.int n) else none
    | none => none
  | _ => none
def strF : List D → Option D
  | [.int i] => if i.natAbs.log2 < 1920 then some (.str (toString i)) else none
  | [.str a] => some (.str a)
  | _ => none
def reprV : D → Option Str
  | .non => some "None"
  | .bl b => some (if b then "True" else "False")
  | .int i => if i.natAbs.log2 < 1920 then some (toString i) else none
  | .str s => if (PySem.reprText s).length ≤ sizeLine then some (PySem.reprText s) else none
  | _ => none
def reprF : List D → Option D
  | [d] => (reprV d).map .str
  | _ => none
def tyD : D → Option String
  | .non => some "NoneType"
  | .bl _ => some "bool"
  | .int _ => some "int"
  | .str _ => some "str"
  | .lst _ => some "list"
  | .tup _ => some "tuple"
  | .dct _ => some "dict"
  | _ => none
/-- isinstance, of a built-in class -/
def isiF : List D → Option D
  | [d, .ty n] => match tyD d with
    | some m => (kitB m n).map .bl
    | none => none
  | _ => none
def blsOf : List D → Option (List Bool)
  | [] => some []
  | .bl b :: r => (blsOf r).map (b :: ·)
  | _ => none
def intsOf : List D → Option (List Int)
  | [] => some []
  | .int b :: r => (intsOf r).map (b :: ·)
  | _ => none
def strsOf : List D → Option (List Str)
  | [] => some []
  | .str b :: r => (strsOf r).map (b :: ·)
  | _ => none
def allF : List D → Option D
  | [.lst ds] => (blsOf ds).map fun bs => .bl (bs.all id)
  | _ => none
def anyF : List D → Option D
  | [.lst ds] => (blsOf ds).map fun bs => .bl (bs.any id)
  | _ => none
def listF : List D → Option D
  | [.lst ds] => some (.lst ds)
  | [.sq ds] => some (.lst ds)
  | [.tup ds] => some (.lst ds)
  | _ => none
def tupF : List D → Option D
  | [.lst ds] => some (.tup ds)
  | [.sq ds] => some (.tup ds)
  | [.tup ds] => some (.tup ds)
  | _ => none
def divmodF : List D → Option D
  | [.int i, .int j] => if 0 < j ∧ j < 1073741824 then some (.tup [.int (i / j), .int (i % j)]) else none
  | _ => none
def minL : List Int → Int
  | [] => 0
  | x :: xs => xs.foldl (fun a b => if b < a then b else a) x
end
section
variable {X : Cx} {K : PySem.W.Frag}
theorem TopDs.one {G H : Hp} {vs : List V} {d : D} (h : TopDs K G H vs [d]) : ∃ v, vs = [v] ∧ TopD K G H v d := by
  cases h with | cons a t => cases t; exact ⟨_, rfl, a⟩
theorem TopDs.two {G H : Hp} {vs : List V} {d e : D} (h : TopDs K G H vs [d, e]) : ∃ v u, vs = [v, u] ∧ TopD K G H v d ∧ TopD K G H u e := by
  cases h with | cons a t => cases t with | cons b t => cases t; exact ⟨_, _, rfl, a, b⟩
theorem TopDs.nil_ {G H : Hp} {vs : List V} (h : TopDs K G H vs []) : vs = [] := by cases h; rfl
def rLenD (K : PySem.W.Frag) : List V → Hp → VK → Prop := fun xs H Q => ∃ x n, xs = [x] ∧ LenV K x H n ∧ Q (.int n) H
omit CM in
theorem cr_len : CallR X (.builtin "len") (rLenD X.K) := call_len
theorem rdLen : RDN K (rLenD K) lenF := fun G H xs k ds d s a e q => by
  unfold lenF at e
  split at e
  · split at e
    · rename_i hs; cases e
      obtain ⟨v, rfl, ha⟩ := a.one
      rw [ha.str_]
      exact ⟨_, _, rfl, ⟨hs, rfl⟩, q _ G H (.refl _ _) (.int _)⟩
    · cases e
  · cases e
    obtain ⟨v, rfl, ha⟩ := a.one
    obtain ⟨p, vs, rfl, h1, h2⟩ := ha.lst_ s
    exact ⟨_, _, rfl, .inl ⟨_, SqL.of h1, h2.len.symm⟩, q _ G H (.refl _ _) (.int _)⟩
  · cases e
    obtain ⟨v, rfl, ha⟩ := a.one
    obtain ⟨p, vs, rfl, h1, h2⟩ := ha.sq_ s
    exact ⟨_, _, rfl, .inl ⟨_, h1, h2.len.symm⟩, q _ G H (.refl _ _) (.int _)⟩
  · cases e
    obtain ⟨v, rfl, ha⟩ := a.one
    obtain ⟨p, vs, rfl, h1, _, h2⟩ := ha.tup_ s
    exact ⟨_, _, rfl, .inr ⟨_, h1, h2.len.symm⟩, q _ G H (.refl _ _) (.int _)⟩
  · cases e
def rAbsD : List V → Hp → VK → Prop := fun xs H Q => ∃ i, xs = [.int i] ∧ Q (.int (if i < 0 then -i else i)) H
omit CM in
theorem cr_abs : CallR X (.builtin "abs") rAbsD := call_abs
theorem rdAbs : RDN K rAbsD absF := fun G H xs k ds d s a e q => by
  unfold absF at e
  split at e
  · cases e
    obtain ⟨v, rfl, ha⟩ := a.one
    rw [ha.int_]
    exact ⟨_, rfl, q _ G H (.refl _ _) (.int _)⟩
  · cases e
def rMax2D : List V → Hp → VK → Prop := fun xs H Q => ∃ i j, xs = [.int i, .int j] ∧ Q (.int (if j > i then j else i)) H
def rMin2D : List V → Hp → VK → Prop := fun xs H Q => ∃ i j, xs = [.int i, .int j] ∧ Q (.int (if j < i then j else i)) H
omit CM in
theorem cr_max2 (hc : X.calm = true) : CallR X (.builtin "max") rMax2D := call_max2 hc
omit CM in
theorem cr_min2 (hc : X.calm = true) : CallR X (.builtin "min") rMin2D := call_min2 hc
theorem rdMax2 : RDN K rMax2D max2F := fun G H xs k ds d s a e q => by
  unfold max2F at e
  split at e
  · cases e
    obtain ⟨v, u, rfl, ha, hb⟩ := a.two
    rw [ha.int_, hb.int_]
    exact ⟨_, _, rfl, q _ G H (.refl _ _) (.int _)⟩
  · cases e
theorem rdMin2 : RDN K rMin2D min2F := fun G H xs k ds d s a e q => by
  unfold min2F at e
  split at e
  · cases e
    obtain ⟨v, u, rfl, ha, hb⟩ := a.two
    rw [ha.int_, hb.int_]
    exact ⟨_, _, rfl, q _ G H (.refl _ _) (.int _)⟩
  · cases e
omit CM in
theorem CallR.or {f : Value} {r r' : List V → Hp → VK → Prop} (h : CallR X f r) (h' : CallR X f r') : CallR X f (fun xs H Q => r xs H Q ∨ r' xs H Q) := fun pins s σ H xs us Q I v q => q.elim (h pins s σ H xs us Q I v) (h' pins s σ H xs us Q I v)
def rIntD : List V → Hp → VK → Prop := fun xs H Q => ((∃ i, xs = [.int i] ∧ Q (.int i) H) ∨ ∃ k, xs = [.bl k] ∧ Q (.int (if k then 1 else 0)) H) ∨ ∃ a n, xs = [.str a] ∧ PySem.intText? a = some n ∧ a.length ≤ 640 ∧ Q (.int n) H
omit CM in
theorem cr_int : CallR X (.type "int") rIntD := CallR.or call_int1 call_int_str
theorem rdInt : RDN K rIntD intF := fun G H xs k ds d s a e q => by
  unfold intF at e
  split at e
  · cases e
    obtain ⟨v, rfl, ha⟩ := a.one
    rw [ha.int_]
    exact .inl (.inl ⟨_, rfl, q _ G H (.refl _ _) (.int _)⟩)
  · cases e
    obtain ⟨v, rfl, ha⟩ := a.one
    rw [ha.bl_]
    exact .inl (.inr ⟨_, rfl, q _ G H (.refl _ _) (.int _)⟩)
  · obtain ⟨v, rfl, ha⟩ := a.one
    rw [ha.str_]
    split at e
    · split at e
      · rename_i n0 h1 h2; cases e; exact .inr ⟨_, _, rfl, h1, h2, q _ G H (.refl _ _) (.int _)⟩
      · cases e
    · cases e
  · cases e
def rStrD : List V → Hp → VK → Prop := fun xs H Q => (∃ i, xs = [.int i] ∧ i.natAbs.log2 < 1920 ∧ Q (.str (toString i)) H) ∨ ∃ a, xs = [.str a] ∧ Q (.str a) H
omit CM in
theorem cr_str : CallR X (.type "str") rStrD := CallR.or call_str_int SkE.call_str_str
theorem rdStr : RDN K rStrD strF := fun G H xs k ds d s a e q => by
  unfold strF at e
  split at e
  · split at e
    · rename_i h; cases e
      obtain ⟨v, rfl, ha⟩ := a.one
      rw [ha.int_]
      exact .inl ⟨_, rfl, h, q _ G H (.refl _ _) (.str _)⟩
    · cases e
  · cases e
    obtain ⟨v, rfl, ha⟩ := a.one
    rw [ha.str_]
    exact .inr ⟨_, rfl, q _ G H (.refl _ _) (.str _)⟩
  · cases e
def vReprV : V → Option Str
  | .non => some "None"
  | .bl b => some (if b then "True" else "False")
  | .int i => if i.natAbs.log2 < 1920 then some (toString i) else none
  | .str s => if (PySem.reprText s).length ≤ sizeLine then some (PySem.reprText s) else none
  | _ => none
def rReprV : List V → Hp → VK → Prop := fun xs H Q => ∃ x s, xs = [x] ∧ vReprV x = some s ∧ Q (.str s) H
omit CM in
theorem cr_repr : CallR X (.builtin "repr") rReprV := by
  intro pins s σ H xs us Q I r h
  obtain ⟨x, z, e, hz, q⟩ := h
  subst e
  obtain ⟨u, e, rx⟩ := vals1 r
  subst e
  cases x with
  | non =>
    cases hz
    cases (show u = Value.none from rx)
    exact PySem.P.repr_of_none ⟨.str _, H, I.tok _, ⟨_, rfl⟩, q⟩
  | bl b =>
    cases hz
    cases (show u = Value.bool b from rx)
    exact PySem.P.repr_of_bool ⟨.str _, H, I.tok _, ⟨_, rfl⟩, q⟩
  | int i =>
    obtain ⟨t, e⟩ := (show ∃ t, u = Value.int i t from rx)
    subst e
    have hz : (if i.natAbs.log2 < 1920 then some (toString i : Str) else none) = some z := hz
    by_cases h : i.natAbs.log2 < 1920
    · rw [if_pos h] at hz
      cases hz
      exact PySem.P.repr_of_int h ⟨.str _, H, I.tok _, ⟨_, rfl⟩, q⟩
    · rw [if_neg h] at hz; cases hz
  | str y =>
    obtain ⟨t, e⟩ := (show ∃ t, u = Value.str y t from rx)
    subst e
    have hz : (if (PySem.reprText y).length ≤ sizeLine then some (PySem.reprText y) else none) = some z := hz
    by_cases h : (PySem.reprText y).length ≤ sizeLine
    · rw [if_pos h] at hz
      cases hz
      exact PySem.P.repr_of_str ⟨.str _, H, I.tok _, ⟨_, rfl⟩, q⟩ h
    · rw [if_neg h] at hz; cases hz
  | byt b => cases hz
  | flt b => cases hz
  | ref b => cases hz
  | ty b => cases hz
theorem reprV_ok {G H : Hp} {v : V} {d : D} {z : Str} (h : TopD K G H v d) (e : reprV d = some z) : vReprV v = some z := by
  cases h with
  | dat h => cases h <;> first | exact e | cases e
  | lst _ _ => cases e
  | dct _ _ => cases e
  | ins _ _ => cases e
theorem rdRepr : RDN K rReprV reprF := fun G H xs k ds d s a e q => by
  unfold reprF at e
  split at e
  · rename_i d0
    cases e1 : reprV d0 with
    | none => rw [e1] at e; cases e
    | some z =>
      rw [e1] at e; cases e
      obtain ⟨v, rfl, ha⟩ := a.one
      exact ⟨_, _, rfl, reprV_ok ha e1, q _ G H (.refl _ _) (.str _)⟩
  · cases e
theorem tyD_ok {G H : Hp} {v : V} {d : D} {n : String} (s : Ex G H) (a : TopD K G H v d) (e : tyD d = some n) : TyX K H v (.type n) := by
  cases a with
  | lst h hs => cases e; exact .base (.lst h)
  | dct h hs => cases e; exact .base (.dK h)
  | ins h hs => cases e
  | dat a =>
    cases a with
    | non => cases e; exact .base .non
    | bl b => cases e; exact .base (.bl b)
    | int b => cases e; exact .base (.int b)
    | str b => cases e; exact .base (.str b)
    | lst h hs => cases e; exact .base (.lst (s _ _ h))
    | tup h hs =>
      cases e
      rcases h with (h | ⟨o, h⟩) | ⟨o, its, n, h1, h2, _⟩
      · exact .base (.tup (s _ _ h))
      · exact .fTuple (s _ _ h)
      · exact .kTuple h1 h2
    | dct h hs => cases e; exact .base (.dK (s _ _ h))
    | ins h hs => cases e
    | sq h hs => cases e
    | ty n => cases e
    | obj _ => cases e
omit CM in
theorem cr_isi : CallR X (.builtin "isinstance") (rIsi X.K) := call_isi
theorem rdIsi : RDN K (rIsi K) isiF := fun G H xs k ds d s a e q => by
  unfold isiF at e
  split at e
  · obtain ⟨v, u, rfl, ha, hb⟩ := a.two
    rw [hb.ty_]
    split at e
    · rename_i m hm
      cases ek : kitB m _ with
      | none => rw [ek] at e; cases e
      | some t => rw [ek] at e; cases e; exact ⟨v, .ty _, .type m, .type _, t, rfl, .ty _, tyD_ok s ha hm, kit_ty ek, q _ G H (.refl _ _) (.bl _)⟩
    · cases e
  · cases e
theorem blsOf_ok {G : Hp} : ∀ {vs : List V} {ds : List D} {bs : List Bool}, AtDs K G vs ds → blsOf ds = some bs → vs = bs.map V.bl
  | _, _, _, .nil, e => by cases e; rfl
  | _ :: vs, .bl b :: ds, bs, .cons (.bl _) hs, e => by
    unfold blsOf at e
    cases e1 : blsOf ds with
    | none => rw [e1] at e; cases e
    | some r => rw [e1] at e; cases e; rw [blsOf_ok hs e1] <;> rfl
  | _ :: _, .non :: _, _, .cons _ _, e => by cases e
  | _ :: _, .int _ :: _, _, .cons _ _, e => by cases e
  | _ :: _, .str _ :: _, _, .cons _ _, e => by cases e
  | _ :: _, .lst _ :: _, _, .cons _ _, e => by cases e
  | _ :: _, .tup _ :: _, _, .cons _ _, e => by cases e
  | _ :: _, .dct _ :: _, _, .cons _ _, e => by cases e
  | _ :: _, .ins _ _ :: _, _, .cons _ _, e => by cases e
  | _ :: _, .sq _ :: _, _, .cons _ _, e => by cases e
  | _ :: _, .ty _ :: _, _, .cons _ _, e => by cases e
  | _ :: _, .obj _ :: _, _, .cons _ _, e => by cases e
theorem intsOf_ok {G : Hp} : ∀ {vs : List V} {ds : List D} {bs : List Int}, AtDs K G vs ds → intsOf ds = some bs → vs = bs.map V.int
  | _, _, _, .nil, e => by cases e; rfl
  | _ :: vs, .int b :: ds, bs, .cons (.int _) hs, e => by
    unfold intsOf at e
    cases e1 : intsOf ds with
    | none => rw [e1] at e; cases e
    | some r => rw [e1] at e; cases e; rw [intsOf_ok hs e1] <;> rfl
  | _ :: _, .non :: _, _, .cons _ _, e => by cases e
  | _ :: _, .bl _ :: _, _, .cons _ _, e => by cases e
  | _ :: _, .str _ :: _, _, .cons _ _, e => by cases e
  | _ :: _, .lst _ :: _, _, .cons _ _, e => by cases e
  | _ :: _, .tup _ :: _, _, .cons _ _, e => by cases e
  | _ :: _, .dct _ :: _, _, .cons _ _, e => by cases e
  | _ :: _, .ins _ _ :: _, _, .cons _ _, e => by cases e
  | _ :: _, .sq _ :: _, _, .cons _ _, e => by cases e
  | _ :: _, .ty _ :: _, _, .cons _ _, e => by cases e
  | _ :: _, .obj _ :: _, _, .cons _ _, e => by cases e
theorem strsOf_ok {G : Hp} : ∀ {vs : List V} {ds : List D} {bs : List Str}, AtDs K G vs ds → strsOf ds = some bs → vs = bs.map V.str
  | _, _, _, .nil, e => by cases e; rfl
  | _ :: vs, .str b :: ds, bs, .cons (.str _) hs, e => by
    unfold strsOf at e
    cases e1 : strsOf ds with
    | none => rw [e1] at e; cases e
    | some r => rw [e1] at e; cases e; rw [strsOf_ok hs e1] <;> rfl
  | _ :: _, .non :: _, _, .cons _ _, e => by cases e
  | _ :: _, .bl _ :: _, _, .cons _ _, e => by cases e
  | _ :: _, .int _ :: _, _, .cons _ _, e => by cases e
  | _ :: _, .lst _ :: _, _, .cons _ _, e => by cases e
  | _ :: _, .tup _ :: _, _, .cons _ _, e => by cases e
  | _ :: _, .dct _ :: _, _, .cons _ _, e => by cases e
  | _ :: _, .ins _ _ :: _, _, .cons _ _, e => by cases e
  | _ :: _, .sq _ :: _, _, .cons _ _, e => by cases e
  | _ :: _, .ty _ :: _, _, .cons _ _, e => by cases e
  | _ :: _, .obj _ :: _, _, .cons _ _, e => by cases e
omit CM in
theorem cr_all (hc : X.calm = true) : CallR X (.builtin "all") (rAll X.K) := L2.cr_all hc
omit CM in
theorem cr_any (hc : X.calm = true) : CallR X (.builtin "any") (rAny X.K) := L2.cr_any hc
theorem rdAll : RDN K (rAll K) allF := fun G H xs k ds d s a e q => by
  unfold allF at e
  split at e
  · rename_i ds0
    cases e1 : blsOf ds0 with
    | none => rw [e1] at e; cases e
    | some bs =>
      rw [e1] at e; cases e
      obtain ⟨v, rfl, ha⟩ := a.one
      obtain ⟨p, vs, rfl, h1, h2⟩ := ha.lst_ s
      have := blsOf_ok h2 e1
      subst this
      exact ⟨_, bs, rfl, SqL.of h1, q _ G H (.refl _ _) (.bl _)⟩
  · cases e
theorem rdAny : RDN K (rAny K) anyF := fun G H xs k ds d s a e q => by
  unfold anyF at e
  split at e
  · rename_i ds0
    cases e1 : blsOf ds0 with
    | none => rw [e1] at e; cases e
    | some bs =>
      rw [e1] at e; cases e
      obtain ⟨v, rfl, ha⟩ := a.one
      obtain ⟨p, vs, rfl, h1, h2⟩ := ha.lst_ s
      have := blsOf_ok h2 e1
      subst this
      exact ⟨_, bs, rfl, SqL.of h1, q _ G H (.refl _ _) (.bl _)⟩
  · cases e
def rListD (K : PySem.W.Frag) : List V → Hp → VK → Prop := fun xs H Q => ∃ p ys, xs = [.ref p] ∧ (SqL K H p ys ∨ SqT K H p ys) ∧ ∀ l, H l = none → Q (.ref l) (upd H l (.lst ys))
omit CM in
theorem cr_list : CallR X (.type "list") (rListD X.K) := call_list_of
theorem rdList : RDN K (rListD K) listF := fun G H xs k ds d s a e q => by
  unfold listF at e
  split at e
  · cases e
    obtain ⟨v, rfl, ha⟩ := a.one
    obtain ⟨p, vs, rfl, h1, h2⟩ := ha.lst_ s
    exact ⟨p, vs, rfl, .inl (SqL.of h1), fun l hl => q _ _ _ (.one hl) (.lst upd_same (h2.mono (Ex.new (s.back hl))))⟩
  · cases e
    obtain ⟨v, rfl, ha⟩ := a.one
    obtain ⟨p, vs, rfl, h1, h2⟩ := ha.sq_ s
    exact ⟨p, vs, rfl, .inl h1, fun l hl => q _ _ _ (.one hl) (.lst upd_same (h2.mono (Ex.new (s.back hl))))⟩
  · cases e
    obtain ⟨v, rfl, ha⟩ := a.one
    obtain ⟨p, vs, rfl, h1, _, h2⟩ := ha.tup_ s
    exact ⟨p, vs, rfl, .inr h1, fun l hl => q _ _ _ (.one hl) (.lst upd_same (h2.mono (Ex.new (s.back hl))))⟩
  · cases e
def rTupD (K : PySem.W.Frag) : List V → Hp → VK → Prop := fun xs H Q => ∃ p ys, xs = [.ref p] ∧ ((SqL K H p ys ∧ ∀ l, H l = none → Q (.ref l) (upd H l (.tup ys))) ∨ (SqT K H p ys ∧ Q (.ref p) H))
omit CM in
theorem cr_tuple : CallR X (.type "tuple") (rTupD X.K) := call_tuple_of
theorem rdTuple : RDN K (rTupD K) tupF := fun G H xs k ds d s a e q => by
  unfold tupF at e
  split at e
  · cases e
    obtain ⟨v, rfl, ha⟩ := a.one
    obtain ⟨p, vs, rfl, h1, h2⟩ := ha.lst_ s
    exact ⟨p, vs, rfl, .inl ⟨SqL.of h1, fun l hl => q _ _ _ (.one hl) (.tup (SqT.of upd_same) (h2.mono (Ex.new (s.back hl))))⟩⟩
  · cases e
    obtain ⟨v, rfl, ha⟩ := a.one
    obtain ⟨p, vs, rfl, h1, h2⟩ := ha.sq_ s
    exact ⟨p, vs, rfl, .inl ⟨h1, fun l hl => q _ _ _ (.one hl) (.tup (SqT.of upd_same) (h2.mono (Ex.new (s.back hl))))⟩⟩
  · cases e
    obtain ⟨v, rfl, ha⟩ := a.one
    obtain ⟨p, vs, rfl, h1, h3, h2⟩ := ha.tup_ s
    exact ⟨p, vs, rfl, .inr ⟨h1, q _ G H (.refl _ _) (.tup h3 h2)⟩⟩
  · cases e
def rDivmodD : List V → Hp → VK → Prop := fun xs H Q => ∃ i j, xs = [.int i, .int j] ∧ CDiv i j ∧ ∀ p, H p = none → Q (.ref p) (upd H p (.tup [.int (i / j), .int (i % j)]))
omit CM in
theorem cr_divmod : CallR X (.builtin "divmod") rDivmodD := call_divmod
theorem rdDivmod : RDN K rDivmodD divmodF := fun G H xs k ds d s a e q => by
  unfold divmodF at e
  split at e
  · split at e
    · rename_i h; cases e
      obtain ⟨v, u, rfl, ha, hb⟩ := a.two
      rw [ha.int_, hb.int_]
      exact ⟨_, _, rfl, h, fun p hp => q _ _ _ (.one hp) (.tup (SqT.of upd_same) (.cons (.int _) (.cons (.int _) .nil)))⟩
    · cases e
  · cases e
end
end Mir

/-! Texts: methods, slices, written texts; ranges as lists. -/
namespace PySem
open Builtin Builtin.Str Builtin.Int
variable {prog : Program} {w : World} {A : Around} {E : Value → Shared → Prop} {s : Shared} {x : Str} {t : Tok} {Q : Value → Shared → Prop}
theorem gives_ljust3 (x : Str) (i : Int) (c : Nat) (t u v : Tok) (hr : (decide (i < -(2 ^ 63 : Int)) || decide (i ≥ 2 ^ 63)) = false) (hl : tooLong i.toNat = false) :
    Gives («str.ljust» ⟨[.str x t, .int i u, .str ⟨#[c]⟩ v], []⟩) (if i ≤ x.length then .val (.str x t) else .str (padded x 0 (i.toNat - x.length) c)) := by
  show Gives (do
    let n ← asSsize "str.ljust" (.int i u)
    let fill ← fillChar "ljust" (some (.str ⟨#[c]⟩ v))
    if n ≤ x.length then (do rule "str.ljust.long-enough"; ret (.str x t)) else if tooLong n.toNat = true then unsupported "str.ljust:memory" else retStr (padded x 0 (n.toNat - x.length) fill)) _
  rw [asSsize_int _ _ _ hr]
  show Gives (if i ≤ x.length then (do rule "str.ljust.long-enough"; ret (.str x t)) else if tooLong i.toNat = true then unsupported "str.ljust:memory" else retStr (padded x 0 (i.toNat - x.length) c)) _
  by_cases h : i ≤ (x.length : Int)
  · rw [if_pos h, if_pos h]
    exact .rule (.of_eq rfl)
  · rw [if_neg h, if_neg h, hl]
    exact .of_eq rfl
def ljust3 (a : Str) (i : Int) (c : Nat) : Str := if i ≤ a.length then a else padded a 0 (i.toNat - a.length) c
theorem run_ljust3 {i : Int} {c : Nat} {u v : Tok} (hp : PadOk i = true) (hq : ∀ t' k, Q (.str (ljust3 x i c) t') { s with toks := k }) : wpAny (model prog w) A (call (.builtin "str.ljust") [.str x t, .int i u, .str ⟨#[c]⟩ v]) Q E s :=
  call_gives F.slot_str_ljust (typeIs_str _ _ _) F.entry_str_ljust (F.args_str_ljust_3 _ _ _) (gives_ljust3 x i c t u v (PadOk.parts hp).1 (PadOk.parts hp).2) (post_val_or_made (fits_padR c (PadOk.parts hp).2) hq)
end PySem
namespace Mir
open PySem PySem.Spec L2
variable [CM : ClsMap]
theorem mt_ljust3 {X : Cx} : MtR X "str.ljust" (fun x xs H Q => ∃ (a : Str) (i : Int) (c : Nat), x = .str a ∧ xs = [.int i, .str ⟨#[c]⟩] ∧ PadOk i = true ∧ Q (.str (ljust3 a i c)) H) := by
  intro pins s σ H x xs v us Q I rx rs h
  obtain ⟨a, i, c, rfl, rfl, hp, q⟩ := h
  obtain ⟨t, rfl⟩ := rx
  obtain ⟨u1, u2, rfl, r1, r2⟩ := vals2 rs
  obtain ⟨t1, rfl⟩ := r1
  obtain ⟨t2, rfl⟩ := r2
  exact run_ljust3 hp fun t' k => ⟨.str _, H, I.tok k, ⟨t', rfl⟩, q⟩
/-! ### methods of a text -/
def mMs (f : Str → List D → Option D) (g : ME) (fa : MA') : ME := fun ρ S => (g ρ S).bind fun x S1 => match x with
  | .dat (.str z) => (fa ρ S1).bind fun xs S2 => opN (f z) xs S2
  | _ => .stuck
section
variable {c : Cz} {o e : Expr} {es : List Expr} {pos apos : Pos} {id : String} {name : Str} {f : Str → List D → Option D} {g ge : ME} {fa : MA'} {r : V → List V → Hp → VK → Prop}
theorem de_m0 (slot : Slot "str" name id) (ty : typeOf (.builtin id) = pure (.type "method_descriptor")) (rule : MtR c.X id r) (hr : ∀ z, RDN c.X.K (fun xs H Q => r (.str z) xs H Q) (f z)) (ha : DE c o g)
    (hbase : attributeBase o name c.X.env (eval o c.X.env) = eval o c.X.env := by rfl) (hline : (apos.endLine == pos.line) = true := by rfl) : DE c (.Call (.Attribute o name apos) [] [] pos) (mMs f g aNil) := fun ρ S σ G ps H k ok q =>
  ⟨_, pe_m0 slot ty rule we_pe hbase hline, ha _ _ _ _ _ _ _ ok (Sat.bind q fun x S1 v1 G1 ps1 H1 o1 e1 p1 a1 q => by
    cases a1 with
    | own _ => exact q.elim
    | dat a1 => cases a1 with
      | str z => exact ⟨⟨z, rfl⟩, sat_opN (hr z) q o1 AtAs.nil⟩
      | _ => exact q.elim)⟩
theorem de_mA (slot : Slot "str" name id) (ty : typeOf (.builtin id) = pure (.type "method_descriptor")) (rule : MtR c.X id r) (hr : ∀ z, RDN c.X.K (fun xs H Q => r (.str z) xs H Q) (f z)) (ha : DE c o g) (hb : DA c (e :: es) fa)
    (hbase : attributeBase o name c.X.env (eval o c.X.env) = eval o c.X.env := by rfl)
    (hfew : ((backTo pos (starEach (e :: es) c.X.env)).all (fun x => !x.1) && (backToKw pos (keywordEach [] c.X.env)).all (fun x => x.1.isSome)
      && decide ((e :: es).length + ([] : List Keyword).length + (if ([] : List Keyword).isEmpty then 0 else 1) < 30)) = true := by rfl)
    (hline : (apos.endLine == pos.line) = true := by rfl) (hs : starEach (e :: es) c.X.env = (false, eval e c.X.env) :: starEach es c.X.env := by rfl) (hpl : (backTo pos (starEach es c.X.env)).any (·.1) = false := by rfl) :
    DE c (.Call (.Attribute o name apos) (e :: es) [] pos) (mMs f g fa) := fun ρ S σ G ps H k ok q =>
  ⟨_, pe_bm F.plainAttrs_str slot ty rule we_pe wa_pa hbase hfew hline hs hpl, ha _ _ _ _ _ _ _ ok (Sat.bind q fun x S1 v1 G1 ps1 H1 o1 e1 p1 a1 q => by
    cases a1 with
    | own _ => exact q.elim
    | dat a1 => cases a1 with
      | str z => exact ⟨by first | trivial | exact rfl, hb _ _ _ _ _ _ _ o1 (Sat.bind q fun xs S2 v2 G2 ps2 H2 o2 e2 p2 a2 q => sat_opN (hr z) q o2 a2)⟩
      | _ => exact q.elim)⟩
end
section
variable {K : PySem.W.Frag}
theorem rdm1 {C : Str → Str → Prop} {g : Str → Str → V} {f : Str → List D → Option D} (h : ∀ z ds d, f z ds = some d → ∃ b, ds = [.str b] ∧ C z b ∧ ∀ G, AtD K G (g z b) d) : ∀ z, RDN K (fun xs H Q => ∃ a b, V.str z = .str a ∧ xs = [.str b] ∧ C a b ∧ Q (g a b) H) (f z) := fun z G H xs k ds d s a e q => by
  obtain ⟨b, rfl, hc, hd⟩ := h z ds d e
  obtain ⟨v, rfl, ha⟩ := a.one
  exact ⟨z, b, rfl, by rw [ha.str_], hc, q _ G H (.refl _ _) (hd G)⟩
theorem rdm1' {g : Str → Str → V} {f : Str → List D → Option D} (h : ∀ z ds d, f z ds = some d → ∃ b, ds = [.str b] ∧ ∀ G, AtD K G (g z b) d) : ∀ z, RDN K (fun xs H Q => ∃ a b, V.str z = .str a ∧ xs = [.str b] ∧ Q (g a b) H) (f z) := fun z G H xs k ds d s a e q => by
  obtain ⟨b, rfl, hd⟩ := h z ds d e
  obtain ⟨v, rfl, ha⟩ := a.one
  exact ⟨z, b, rfl, by rw [ha.str_], q _ G H (.refl _ _) (hd G)⟩
theorem rdm0 {C : Str → Prop} {g : Str → V} {f : Str → List D → Option D} (h : ∀ z ds d, f z ds = some d → ds = [] ∧ C z ∧ ∀ G, AtD K G (g z) d) : ∀ z, RDN K (fun xs H Q => ∃ a, V.str z = .str a ∧ xs = [] ∧ C a ∧ Q (g a) H) (f z) := fun z G H xs k ds d s a e q => by
  obtain ⟨rfl, hc, hd⟩ := h z ds d e
  exact ⟨z, rfl, a.nil_, hc, q _ G H (.refl _ _) (hd G)⟩
def startswithF (z : Str) : List D → Option D
  | [.str b] => some (.bl (Txt.startswith z b))
  | _ => none
def endswithF (z : Str) : List D → Option D
  | [.str b] => some (.bl (Txt.endswith z b))
  | _ => none
def findF (z : Str) : List D → Option D
  | [.str b] => some (.int (Txt.find z b))
  | _ => none
def countF (z : Str) : List D → Option D
  | [.str b] => some (.int (Txt.count z b))
  | _ => none
def stripF (z : Str) : List D → Option D
  | [.str b] => if z.length ≤ sizeLine then some (.str (Txt.stripChars z b)) else none
  | _ => none
def lstripF (z : Str) : List D → Option D
  | [.str b] => if z.length ≤ sizeLine then some (.str (Txt.lstripChars z b)) else none
  | _ => none
def rstripF (z : Str) : List D → Option D
  | [.str b] => if z.length ≤ sizeLine then some (.str (Txt.rstripChars z b)) else none
  | _ => none
def rmprefixF (z : Str) : List D → Option D
  | [.str b] => if z.length ≤ sizeLine then some (.str (Txt.removeprefix z b)) else none
  | _ => none
def rmsuffixF (z : Str) : List D → Option D
  | [.str b] => if z.length ≤ sizeLine then some (.str (Txt.removesuffix z b)) else none
  | _ => none
def isalphaF (z : Str) : List D → Option D
  | [] => some (.bl (Txt.isalpha z))
  | _ => none
def isdigitF (z : Str) : List D → Option D
  | [] => some (.bl (Txt.isdigit z))
  | _ => none
def zfillF (z : Str) : List D → Option D
  | [.int i] => if PadOk i = true then some (.str (Txt.zfill z i)) else none
  | _ => none
def ljust3F (z : Str) : List D → Option D
  | [.int i, .str b] => match b.cps.toList with
    | [c] => if PadOk i = true then some (.str (ljust3 z i c)) else none
    | _ => none
  | _ => none
def splitF (z : Str) : List D → Option D
  | [.str b] => if (b.length == 0) = false ∧ z.length + 2 ≤ sizeLine then some (.lst ((Txt.split z b).map .str)) else none
  | _ => none
def joinF (z : Str) : List D → Option D
  | [.lst ds] => match strsOf ds with
    | some ys => if (ys.map (·.length)).sum + ys.length * z.length ≤ 16777216 then some (.str (Txt.join z ys)) else none
    | none => none
  | [.tup ds] => match strsOf ds with
    | some ys => if (ys.map (·.length)).sum + ys.length * z.length ≤ 16777216 then some (.str (Txt.join z ys)) else none
    | none => none
  | _ => none
theorem rdStartswith : ∀ z, RDN K (fun xs H Q => ∃ a b, V.str z = .str a ∧ xs = [.str b] ∧ Q (.bl (Txt.startswith a b)) H) (startswithF z) := rdm1' fun z ds d e => by
  unfold startswithF at e
  split at e
  · cases e; exact ⟨_, rfl, fun G => .bl _⟩
  · cases e
theorem rdEndswith : ∀ z, RDN K (fun xs H Q => ∃ a b, V.str z = .str a ∧ xs = [.str b] ∧ Q (.bl (Txt.endswith a b)) H) (endswithF z) := rdm1' fun z ds d e => by
  unfold endswithF at e
  split at e
  · cases e; exact ⟨_, rfl, fun G => .bl _⟩
  · cases e
theorem rdFind : ∀ z, RDN K (fun xs H Q => ∃ a b, V.str z = .str a ∧ xs = [.str b] ∧ Q (.int (Txt.find a b)) H) (findF z) := rdm1' fun z ds d e => by
  unfold findF at e
  split at e
  · cases e; exact ⟨_, rfl, fun G => .int _⟩
  · cases e
theorem rdCount : ∀ z, RDN K (fun xs H Q => ∃ a b, V.str z = .str a ∧ xs = [.str b] ∧ Q (.int (Txt.count a b)) H) (countF z) := rdm1' fun z ds d e => by
  unfold countF at e
  split at e
  · cases e; exact ⟨_, rfl, fun G => .int _⟩
  · cases e
theorem rdStrip : ∀ z, RDN K (fun xs H Q => ∃ a b, V.str z = .str a ∧ xs = [.str b] ∧ a.length ≤ sizeLine ∧ Q (.str (Txt.stripChars a b)) H) (stripF z) := rdm1 (C := fun a _ => a.length ≤ sizeLine) fun z ds d e => by
  unfold stripF at e
  split at e
  · split at e
    · rename_i h; cases e; exact ⟨_, rfl, h, fun G => .str _⟩
    · cases e
  · cases e
theorem rdLstrip : ∀ z, RDN K (fun xs H Q => ∃ a b, V.str z = .str a ∧ xs = [.str b] ∧ a.length ≤ sizeLine ∧ Q (.str (Txt.lstripChars a b)) H) (lstripF z) := rdm1 (C := fun a _ => a.length ≤ sizeLine) fun z ds d e => by
  unfold lstripF at e
  split at e
  · split at e
    · rename_i h; cases e; exact ⟨_, rfl, h, fun G => .str _⟩
    · cases e
  · cases e
theorem rdRstrip : ∀ z, RDN K (fun xs H Q => ∃ a b, V.str z = .str a ∧ xs = [.str b] ∧ a.length ≤ sizeLine ∧ Q (.str (Txt.rstripChars a b)) H) (rstripF z) := rdm1 (C := fun a _ => a.length ≤ sizeLine) fun z ds d e => by
  unfold rstripF at e
  split at e
  · split at e
    · rename_i h; cases e; exact ⟨_, rfl, h, fun G => .str _⟩
    · cases e
  · cases e
theorem rdRmprefix : ∀ z, RDN K (fun xs H Q => ∃ a b, V.str z = .str a ∧ xs = [.str b] ∧ a.length ≤ sizeLine ∧ Q (.str (Txt.removeprefix a b)) H) (rmprefixF z) := rdm1 (C := fun a _ => a.length ≤ sizeLine) fun z ds d e => by
  unfold rmprefixF at e
  split at e
  · split at e
    · rename_i h; cases e; exact ⟨_, rfl, h, fun G => .str _⟩
    · cases e
  · cases e
theorem rdRmsuffix : ∀ z, RDN K (fun xs H Q => ∃ a b, V.str z = .str a ∧ xs = [.str b] ∧ a.length ≤ sizeLine ∧ Q (.str (Txt.removesuffix a b)) H) (rmsuffixF z) := rdm1 (C := fun a _ => a.length ≤ sizeLine) fun z ds d e => by
  unfold rmsuffixF at e
  split at e
  · split at e
    · rename_i h; cases e; exact ⟨_, rfl, h, fun G => .str _⟩
    · cases e
  · cases e
theorem rdIsalpha : ∀ z, RDN K (fun xs H Q => ∃ a, V.str z = .str a ∧ xs = [] ∧ True ∧ Q (.bl (Txt.isalpha a)) H) (isalphaF z) := rdm0 (C := fun _ => True) fun z ds d e => by
  unfold isalphaF at e
  split at e
  · cases e; exact ⟨rfl, trivial, fun G => .bl _⟩
  · cases e
theorem rdIsdigit : ∀ z, RDN K (fun xs H Q => ∃ a, V.str z = .str a ∧ xs = [] ∧ True ∧ Q (.bl (Txt.isdigit a)) H) (isdigitF z) := rdm0 (C := fun _ => True) fun z ds d e => by
  unfold isdigitF at e
  split at e
  · cases e; exact ⟨rfl, trivial, fun G => .bl _⟩
  · cases e
theorem rdZfill : ∀ z, RDN K (fun xs H Q => ∃ (a : Str) (i : Int), V.str z = .str a ∧ xs = [.int i] ∧ PadOk i = true ∧ Q (.str (Txt.zfill a i)) H) (zfillF z) := fun z G H xs k ds d s a e q => by
  unfold zfillF at e
  split at e
  · split at e
    · rename_i h; cases e
      obtain ⟨v, rfl, ha⟩ := a.one
      exact ⟨z, _, rfl, by rw [ha.int_], h, q _ G H (.refl _ _) (.str _)⟩
    · cases e
  · cases e
theorem rdLjust3 : ∀ z, RDN K (fun xs H Q => ∃ (a : Str) (i : Int) (c : Nat), V.str z = .str a ∧ xs = [.int i, .str ⟨#[c]⟩] ∧ PadOk i = true ∧ Q (.str (ljust3 a i c)) H) (ljust3F z) := fun z G H xs k ds d s a e q => by
  unfold ljust3F at e
  split at e
  · rename_i i b
    split at e
    · rename_i c hb
      split at e
      · rename_i h; cases e
        obtain ⟨v, u, rfl, ha, hb'⟩ := a.two
        have eb : b = ⟨#[c]⟩ := by
          cases b with | mk cps => 
          have : cps = #[c] := by rw [← Array.toArray_toList (xs := cps), hb]
          rw [this]
        subst eb
        exact ⟨z, _, _, rfl, by rw [ha.int_, hb'.str_], h, q _ G H (.refl _ _) (.str _)⟩
      · cases e
    · cases e
  · cases e
theorem strs_at {G : Hp} : ∀ ys : List Str, AtDs K G (ys.map V.str) (ys.map D.str)
  | [] => .nil
  | y :: r => .cons (.str y) (strs_at r)
theorem ints_at {G : Hp} : ∀ ys : List Int, AtDs K G (ys.map V.int) (ys.map D.int)
  | [] => .nil
  | y :: r => .cons (.int y) (ints_at r)
theorem rdSplit : ∀ z, RDN K (fun xs H Q => ∃ a b, V.str z = .str a ∧ xs = [.str b] ∧ (b.length == 0) = false ∧ a.length + 2 ≤ sizeLine ∧ rNewStrs (Txt.split a b) H Q) (splitF z) := fun z G H xs k ds d s a e q => by
  unfold splitF at e
  split at e
  · split at e
    · rename_i h; cases e
      obtain ⟨v, rfl, ha⟩ := a.one
      exact ⟨z, _, rfl, by rw [ha.str_], h.1, h.2, fun p hp => q _ _ _ (.one hp) (.lst upd_same (strs_at _))⟩
    · cases e
  · cases e
theorem rdJoin : ∀ z, RDN K (fun xs H Q => ∃ a p, ∃ ys : List Str, V.str z = .str a ∧ xs = [.ref p] ∧ (SqL K H p (ys.map V.str) ∨ SqT K H p (ys.map V.str)) ∧
    (ys.map (·.length)).sum + ys.length * a.length ≤ 16777216 ∧ Q (.str (Txt.join a ys)) H) (joinF z) := fun z G H xs k ds d s a e q => by
  unfold joinF at e
  split at e
  · split at e
    · rename_i ys hy
      split at e
      · rename_i h; cases e
        obtain ⟨v, rfl, ha⟩ := a.one
        obtain ⟨p, vs, rfl, h1, h2⟩ := ha.lst_ s
        have := strsOf_ok h2 hy
        subst this
        exact ⟨z, p, ys, rfl, rfl, .inl (SqL.of h1), h, q _ G H (.refl _ _) (.str _)⟩
      · cases e
    · cases e
  · split at e
    · rename_i ys hy
      split at e
      · rename_i h; cases e
        obtain ⟨v, rfl, ha⟩ := a.one
        obtain ⟨p, vs, rfl, h1, _, h2⟩ := ha.tup_ s
        have := strsOf_ok h2 hy
        subst this
        exact ⟨z, p, ys, rfl, rfl, .inr h1, h, q _ G H (.refl _ _) (.str _)⟩
      · cases e
    · cases e
  · cases e
end
/-! ### slices -/
def cutD (xs : List D) (lo hi : Option Int) : List D := (xs.drop (HT.sIx xs.length 0 lo)).take (HT.sIx xs.length xs.length hi - HT.sIx xs.length 0 lo)
theorem AtDs.cut {K : PySem.W.Frag} {G : Hp} {vs : List V} {ds : List D} (h : AtDs K G vs ds) (lo hi : Option Int) : AtDs K G (cutV vs lo hi) (cutD ds lo hi) := by
  unfold cutV cutD
  rw [h.len]
  exact (h.drop _).take _
def slF : D → Option Int → Option Int → Option D
  | .str z, i, j => if z.length ≤ sizeLine then some (.str (cutS z i j)) else none
  | .tup ds, i, j => some (.tup (cutD ds i j))
  | .lst ds, i, j => some (.lst (cutD ds i j))
  | .sq ds, i, j => some (.lst (cutD ds i j))
  | _, _, _ => none
abbrev MO := List Sl → List Ce → RE (Option Int)
def oNo : MO := fun _ S => .ok none S
def oSome (a : ME) : MO := fun ρ S => (a ρ S).bind fun r S1 => match r with
  | .dat (.int n) => .ok (some n) S1
  | _ => .stuck
def mSl (a : ME) (lo hi : MO) : ME := fun ρ S => (a ρ S).bind fun x S1 => (lo ρ S1).bind fun i S2 => (hi ρ S2).bind fun j S3 => dat' ((vw x S3).bind fun d => slF d i j) S3
def WO (X : Cx) (o : Option Expr) : TO := fun σ H Q => ∃ t, PO X o t ∧ t σ H Q
omit CM in
theorem wo_po {X : Cx} {o : Option Expr} : PO X o (WO X o) := ⟨fun pins s σ H Q I ⟨t, h, q⟩ => h.run pins s σ H Q I q⟩
def RO : Hp → Hp → List Addr → Option Int → Option Int → Prop := fun _ _ _ v r => v = r
def DO (c : Cz) (o : Option Expr) (f : MO) : Prop := ∀ ρ S σ G ps H k, SOk c.X.K c.F G ps ρ S σ H → Sat c G ps ρ σ RO k (f ρ S) → WO c.X o σ H k
section
variable {c : Cz} {e : Expr} {f : ME} {lo hi : Option Expr} {fl fh : MO} {pos p2 : Pos}
theorem do_no : DO c none oNo := fun ρ S σ G ps H k o q => ⟨_, po_none, q.ok o rfl⟩
theorem do_some (ha : DE c e f) : DO c (some e) (oSome f) := fun ρ S σ G ps H k o q => ⟨_, po_some we_pe, ha _ _ _ _ _ _ _ o (Sat.bind q fun r S1 v1 G1 ps1 H1 o1 e1 p1 a1 q => by
  cases a1 with
  | own _ => exact q.elim
  | dat a1 => cases a1 with
    | int n => exact ⟨n, rfl, q.ok o1 rfl⟩
    | _ => exact q.elim)⟩
def rSlAll (K : PySem.W.Frag) : V → Option Int → Option Int → Hp → VK → Prop := fun x lo hi H Q => rSlS x lo hi H Q ∨ (rSlA K x lo hi H Q ∨ rSlL K x lo hi H Q)
omit CM in
theorem slAll {X : Cx} : SlR X (rSlAll X.K) := sl_str.or (sl_tupA.or sl_list)
theorem de_sl (ha : DE c e f) (hl : DO c lo fl) (hh : DO c hi fh) : DE c (.Subscript e (.Slice lo hi none p2) pos) (mSl f fl fh) := fun ρ S σ G ps H k o q =>
  ⟨_, pe_slice slAll we_pe wo_po wo_po, ha _ _ _ _ _ _ _ o (Sat.bind q fun x S1 v1 G1 ps1 H1 o1 e1 p1 a1 q => hl _ _ _ _ _ _ _ o1 (Sat.bind q fun i S2 v2 G2 ps2 H2 o2 e2 p2 a2 q => hh _ _ _ _ _ _ _ o2 (Sat.bind q fun j S3 v3 G3 ps3 H3 o3 e3 p3 a3 q => by
    cases a2; cases a3
    cases ev : vw x S3 with
    | none => rw [ev] at q; exact q.elim
    | some d =>
      rw [ev] at q
      have top := vw_ok o3 (AtA.mono (e2.trans e3) (p2.trans p3) a1) ev
      refine sat_dat q o3 fun d' ed kk => ?_
      replace ed : slF d i j = some d' := ed
      unfold slF at ed
      split at ed
      · split at ed
        · rename_i hz; cases ed
          rw [top.str_]
          exact .inl ⟨_, rfl, hz, kk _ G3 H3 (.refl _ _) (.str _)⟩
        · cases ed
      · rename_i ds
        cases ed
        obtain ⟨p, vs, rfl, h1, h0, h2⟩ := top.tup_ o3.sub
        refine .inr (.inl ⟨p, vs, rfl, h1, fun w => ?_, fun _ r hr => ?_⟩)
        · have hc : cutD ds i j = ds := by
            unfold cutD
            rw [h2.len] at w
            rw [w.1, w.2, List.drop_zero, Nat.sub_zero, List.take_length]
          rw [hc] at kk
          exact kk _ G3 H3 (.refl _ _) (.tup h0 h2)
        · exact kk _ _ _ (.one hr) (.tup (SqT.of upd_same) ((h2.cut i j).mono (Ex.new (o3.sub.back hr))))
      · cases ed
        obtain ⟨p, vs, rfl, h1, h2⟩ := top.lst_ o3.sub
        exact .inr (.inr ⟨p, vs, rfl, SqL.of h1, fun r hr => kk _ _ _ (.one hr) (.lst upd_same ((h2.cut i j).mono (Ex.new (o3.sub.back hr))))⟩)
      · cases ed
        obtain ⟨p, vs, rfl, h1, h2⟩ := top.sq_ o3.sub
        exact .inr (.inr ⟨p, vs, rfl, h1, fun r hr => kk _ _ _ (.one hr) (.lst upd_same ((h2.cut i j).mono (Ex.new (o3.sub.back hr))))⟩)
      · cases ed)))⟩
end
/-! ### f-strings -/
def fmtF : D → Option D
  | .str y => if y.length ≤ sizeLine then some (.str y) else none
  | .int i => if i.natAbs.log2 < 1920 then some (.str (toString i)) else none
  | _ => none
def mFmt (a : ME) : ME := fun ρ S => (a ρ S).bind fun x S1 => op1 fmtF x S1
def fsL : List ME → Str → List Sl → List Ce → RE Sl
  | [], acc, _, S => .ok (.dat (.str acc)) S
  | a :: r, acc, ρ, S => (a ρ S).bind fun x S1 => match x with
    | .dat (.str y) => if (acc ++ y).length ≤ sizeLine then fsL r (acc ++ y) ρ S1 else .stuck
    | _ => .stuck
def mFs (as : List ME) : ME := fun ρ S => fsL as Str.empty ρ S
inductive DJ (c : Cz) : List Expr → List ME → Prop
  | nil : DJ c [] []
  | cons {e : Expr} {f : ME} {es : List Expr} {fs : List ME} : DE c e f → DJ c es fs → DJ c (e :: es) (f :: fs)
section
variable {c : Cz} {e : Expr} {f : ME} {pos : Pos}
theorem de_fmt (ha : DE c e f) : DE c (.FormattedValue e (-1) none pos) (mFmt f) := fun ρ S σ G ps H k o q =>
  ⟨_, pe_fmt we_pe, ha _ _ _ _ _ _ _ o (Sat.bind q fun x S1 v1 G1 ps1 H1 o1 e1 p1 a1 q => by
    unfold op1 at q
    cases ev : vw x S1 with
    | none => rw [ev] at q; exact q.elim
    | some d =>
      rw [ev] at q
      have top := vw_ok o1 a1 ev
      refine sat_dat q o1 fun d' ed kk => ?_
      replace ed : fmtF d = some d' := ed
      unfold fmtF at ed
      split at ed
      · split at ed
        · rename_i h; cases ed; rw [top.str_]; exact .inl ⟨_, rfl, h, kk _ G1 H1 (.refl _ _) (.str _)⟩
        · cases ed
      · split at ed
        · rename_i h; cases ed; rw [top.int_]; exact .inr ⟨_, rfl, h, kk _ G1 H1 (.refl _ _) (.str _)⟩
        · cases ed
      · cases ed)⟩
omit CM in
theorem pj_all {X : Cx} : ∀ es : List Expr, PJ X es (es.map (WE X))
  | [] => .nil
  | e :: es => .cons we_pe (pj_all es)
theorem fs_run : ∀ {es : List Expr} {fs : List ME} {acc : Str} {ρ : List Sl} {S : List Ce} {σ : L2.St} {G : Hp} {ps : List Addr} {H : Hp} {k : VK}, DJ c es fs → SOk c.X.K c.F G ps ρ S σ H → Sat c G ps ρ σ (RA c) k (fsL fs acc ρ S) →
    tJs (es.map (WE c.X)) acc σ H fun out H1 => k (.str out) H1
  | _, _, acc, ρ, S, σ, G, ps, H, k, .nil, o, q => q.ok o (AtA.dat (.str acc))
  | _, _, acc, ρ, S, σ, G, ps, H, k, .cons ha r, o, q => ha _ _ _ _ _ _ _ o (Sat.bind q fun x S1 v1 G1 ps1 H1 o1 e1 p1 a1 q => by
      cases a1 with
      | own _ => exact q.elim
      | dat a1 => cases a1 with
        | str y =>
          dsimp only at q
          by_cases h : (acc ++ y).length ≤ sizeLine
          · rw [if_pos h] at q
            exact ⟨y, rfl, h, fs_run r o1 q⟩
          · rw [if_neg h] at q; exact q.elim
        | _ => exact q.elim)
theorem de_fs {v1 v2 : Expr} {rest : List Expr} {fs : List ME} (h : DJ c (v1 :: v2 :: rest) fs) : DE c (.JoinedStr (v1 :: v2 :: rest) pos) (mFs fs) := fun ρ S σ G ps H k o q =>
  ⟨_, pe_joined (pj_all (v1 :: v2 :: rest)), fs_run h o q⟩
theorem de_fs1 (ha : DE c e f) : DE c (.JoinedStr [e] pos) f := fun ρ S σ G ps H k o q => ⟨_, pe_joined1 we_pe, ha _ _ _ _ _ _ _ o q⟩
end
/-! ### targets -/
/-- what is stored where by a target -/
abbrev MTg := Sl → List Sl → Option (List Sl)
def tN (i : Nat) : MTg := fun r ρ => some (ρ.set i r)
def tAll : List MTg → List D → List Sl → Option (List Sl)
  | [], [], ρ => some ρ
  | t :: ts, d :: ds, ρ => (t (.dat d) ρ).bind (tAll ts ds)
  | _, _, _ => none
def tTup (ts : List MTg) : MTg := fun r ρ => match r with
  | .dat (.tup ds) => tAll ts ds ρ
  | _ => none
def gAsg (t : MTg) (a : ME) : MS := fun ρ S => (a ρ S).toS ρ fun r S1 => match t r ρ with
  | some ρ1 => .nx ρ1 S1
  | none => .stuck
/-- the slots js alone are changed -/
def Sto (js : List Nat) (σ σ' : L2.St) : Prop := ∀ ks : List Nat, (∀ j ∈ js, j ∈ ks) → wipe σ' ks = wipe σ ks
omit CM in
theorem wipe_set {σ : L2.St} {i : Nat} {v : Option V} : ∀ {ks : List Nat}, i ∈ ks → wipe (σ.set i v) ks = wipe σ ks
  | k :: ks, h => by
    unfold wipe
    by_cases hk : i ∈ ks
    · rw [wipe_set hk]
    · have e : i = k := by
        rcases List.mem_cons.mp h with e | e
        · exact e
        · exact (hk e).elim
      subst e
      have : ∀ ks : List Nat, i ∉ ks → (wipe (σ.set i v) ks).set i none = (wipe σ ks).set i none := by
        intro ks
        induction ks with
        | nil => intro _; unfold wipe; rw [List.set_set]
        | cons k r ih =>
          intro hn
          have n1 : i ≠ k := fun z => hn (z ▸ List.mem_cons_self ..)
          have n2 : i ∉ r := fun z => hn (List.mem_cons_of_mem _ z)
          unfold wipe
          rw [List.set_comm _ _ n1.symm, ih n2, List.set_comm _ _ n1]
      exact this ks hk
def WG (X : Cx) (tg : Expr) : TG := fun v σ H Q => ∃ t, PG X tg t ∧ t v σ H Q
omit CM in
theorem wg_pg {X : Cx} {tg : Expr} : PG X tg (WG X tg) := ⟨fun pins s σ H v u Q I r ⟨t, h, q⟩ => h.run pins s σ H v u Q I r q⟩
def WGs (X : Cx) (tgs : List Expr) : TGs := fun vs σ H Q => ∃ t, PGs X tgs t ∧ t vs σ H Q
omit CM in
theorem wgs_pgs {X : Cx} {tgs : List Expr} : PGs X tgs (WGs X tgs) := ⟨fun pins s σ H v u Q I r ⟨t, h, q⟩ => h.run pins s σ H v u Q I r q⟩
def DG (c : Cz) (tg : Expr) (js : List Nat) (t : MTg) : Prop := ∀ ρ S σ G ps H (Q : L2.St → Hp → Prop) v r ρ', SOk c.X.K c.F G ps ρ S σ H → AtA c.X.K G ps v r → t r ρ = some ρ' → (∀ σ', SOk c.X.K c.F G ps ρ' S σ' H → Sto js σ σ' → Q σ' H) → WG c.X tg v σ H Q
def DGs (c : Cz) (tgs : List Expr) (js : List Nat) (ts : List MTg) : Prop := ∀ ρ S σ G ps H (Q : L2.St → Hp → Prop) vs ds ρ', SOk c.X.K c.F G ps ρ S σ H → AtDs c.X.K G vs ds → tAll ts ds ρ = some ρ' → (∀ σ', SOk c.X.K c.F G ps ρ' S σ' H → Sto js σ σ' → Q σ' H) → WGs c.X tgs vs σ H Q
section
variable {c : Cz} {tg e : Expr} {tgs : List Expr} {js ks : List Nat} {t : MTg} {ts : List MTg} {f : ME} {pos : Pos}
theorem dg_name (i : Nat) {x : Str} (hN : c.X.N.Nodup) (hi : c.X.N[i]? = some x := by rfl) (hx : Loc c.X.env.scope x := by first | exact Or.inl rfl | exact Or.inr rfl)
    (hf : c.X.fn x = true ∨ c.X.env.scope.names.lookup x = some .local := by first | exact .inl rfl | exact .inr rfl) : DG c (.Name x pos) [i] (tN i) := fun ρ S σ G ps H Q v r ρ' o a e q => by
  cases e
  exact ⟨_, pg_name hN hi hx hf, q _ (o.setA i a) fun ks h => wipe_set (h i (List.mem_cons_self ..))⟩
theorem dgs_nil : DGs c [] [] [] := fun ρ S σ G ps H Q vs ds ρ' o a e q => by
  cases ds with
  | cons _ _ => cases e
  | nil => cases e; cases a; exact ⟨_, pgs_nil, rfl, q σ o fun ks h => rfl⟩
theorem dgs_cons (h1 : DG c tg js t) (h2 : DGs c tgs ks ts) (hs : (assignEach (tg :: tgs) c.X.env).map (·.2) = assign tg c.X.env :: (assignEach tgs c.X.env).map (·.2) := by rfl) : DGs c (tg :: tgs) (js ++ ks) (t :: ts) := fun ρ S σ G ps H Q vs ds ρ' o a e q => by
  cases ds with
  | nil => cases e
  | cons d ds =>
    cases a with
    | cons a as =>
      unfold tAll at e
      cases et : t (.dat d) ρ with
      | none => rw [et] at e; cases e
      | some ρ1 =>
        rw [et] at e
        refine ⟨_, pgs_cons wg_pg wgs_pgs hs, _, _, rfl, h1 _ _ _ _ _ _ _ _ _ _ o (.dat a) et fun σ1 o1 s1 => h2 _ _ _ _ _ _ _ _ _ _ o1 as e fun σ2 o2 s2 => q σ2 o2 fun l hl => ?_⟩
        rw [s2 l fun j hj => hl j (List.mem_append_right _ hj), s1 l fun j hj => hl j (List.mem_append_left _ hj)]
theorem dg_tup {k : Nat} (hc : c.X.calm = true) (h : DGs c tgs js ts) (hst : (assignEach tgs c.X.env).findIdx? (·.1) = none := by rfl) (hn : (assignEach tgs c.X.env).length = ts.length := by rfl) : DG c (.Tuple tgs k pos) js (tTup ts) := fun ρ S σ G ps H Q v r ρ' o a e q => by
  cases a with
  | own _ => cases e
  | dat a =>
    cases a with
    | @tup p vs ds hT hv =>
      have e : tAll ts ds ρ = some ρ' := e
      have hl : ∀ (ts : List MTg) (ds : List D) (ρ ρ' : List Sl), tAll ts ds ρ = some ρ' → ds.length = ts.length := by
        intro ts
        induction ts with
        | nil => intro ds ρ ρ' e; cases ds with
          | nil => rfl
          | cons _ _ => cases e
        | cons t r ih => intro ds ρ ρ' e; cases ds with
          | nil => cases e
          | cons d ds =>
            unfold tAll at e
            cases et : t (.dat d) ρ with
            | none => rw [et] at e; cases e
            | some ρ1 => rw [et] at e; rw [List.length_cons, List.length_cons, ih ds ρ1 ρ' e]
      exact ⟨_, pg_tup hc wgs_pgs rfl hst, p, vs, rfl, o.sub.st hT, by rw [hv.len, hl ts ds ρ ρ' e, ← hn], h _ _ _ _ _ _ _ _ _ _ o hv e q⟩
    | _ => cases e
/-- target = e, any target -/
theorem d1_asg (hg : DG c tg js t) (ha : DE c e f) (hs : swapsWithSole [tg] e pos.line c.X.env = pure false := by rfl) (hw : swappedStores [tg] e c.X.env = pure none := by rfl)
    (h1 : (assignEach [tg] c.X.env).map (·.2) = [assign tg c.X.env] := by rfl) : D1 c (.Assign [tg] e pos) (gAsg t f) := fun ρ S σ G ps H E o q =>
  ⟨_, ps_asg we_pe wg_pg hs hw h1, ha _ _ _ _ _ _ _ o (Sat.toS q fun r S1 v G1 ps1 H1 o1 e1 p1 a1 q => by
    cases et : t r ρ with
    | none => rw [et] at q; exact q.elim
    | some ρ1 => rw [et] at q; exact hg _ _ _ _ _ _ _ _ _ _ o1 a1 et fun σ2 o2 _ => q _ G1 ps1 H1 o2 (Ex.refl _) (List.prefix_refl _))⟩
end
end Mir
namespace Mir
open PySem PySem.Spec L2
variable [CM : ClsMap]
/-- x.append(e); x[b] = e -/
def gAppV (i : Nat) (f : ME) : MS := fun ρ S => match ρ[i]? with
  | some (.own j) => (match S[j]? with
    | some (.lst _) => gApp i f ρ S
    | _ => .stuck)
  | _ => .stuck
def gStoV (i : Nat) (g f : ME) : MS := fun ρ S => match ρ[i]? with
  | some (.own _) => gSto i g f ρ S
  | _ => .stuck
end Mir
namespace Mir
open PySem PySem.Spec L2
variable [CM : ClsMap]
/-! ### x op= e -/
def iaddF : D → D → Option D
  | .int i, .int j => some (.int (i + j))
  | .str a, .str b => if a.length + b.length ≤ sizeLine then some (.str (a ++ b)) else none
  | _, _ => none
def imulF : D → D → Option D
  | .int i, .int j => if okMul i j = true then some (.int (i * j)) else none
  | _, _ => none
section
variable {X : Cx}
theorem ripAdd : RIp X .Add iaddF := by
  refine ⟨fun x y H Q => (∃ i j, x = .int i ∧ y = .int j ∧ Q (.int (i + j)) H) ∨ ∃ a b, x = .str a ∧ y = .str b ∧ a.length + b.length ≤ sizeLine ∧ Q (.str (a ++ b)) H, ?_, ?_⟩
  · intro pins s σ H x y v u Q I r1 r2 h
    rcases h with ⟨i, j, e1, e2, q⟩ | ⟨a, b, e1, e2, hz, q⟩
    · subst e1 e2
      obtain ⟨t, rfl⟩ := r1
      obtain ⟨t', rfl⟩ := r2
      exact PyProof.Rows.iadd_int ⟨.int _, H, I.tok _, ⟨_, rfl⟩, q⟩
    · subst e1 e2
      obtain ⟨t, rfl⟩ := r1
      obtain ⟨t', rfl⟩ := r2
      exact PyProof.Rows.iadd_str (fun t' tk => ⟨.str _, H, I.tok _, ⟨_, rfl⟩, q⟩) hz
  · intro G H x y k d1 d2 d s a b e q
    unfold iaddF at e
    split at e
    · cases e; cases a; cases b; exact .inl ⟨_, _, rfl, rfl, q _ G H (.refl _ _) (.int _)⟩
    · split at e
      · rename_i h; cases e; cases a; cases b; exact .inr ⟨_, _, rfl, rfl, h, q _ G H (.refl _ _) (.str _)⟩
      · cases e
    · cases e
theorem ripSub : RIp X .Sub subF := by
  refine ⟨_, ip_sub, ?_⟩
  intro G H x y k d1 d2 d s a b e q
  unfold subF at e
  split at e
  · cases e; cases a; cases b; exact ⟨_, _, rfl, rfl, q _ G H (.refl _ _) (.int _)⟩
  · cases e
end
end Mir
namespace Mir
open PySem PySem.Spec L2
variable [CM : ClsMap]
section
variable {X : Cx}
theorem ripMul : RIp X .Mult imulF := by
  refine ⟨fun x y H Q => ∃ i j, x = .int i ∧ y = .int j ∧ CMulW i j ∧ Q (.int (i * j)) H, ?_, ?_⟩
  · intro pins s σ H x y v u Q I r1 r2 h
    obtain ⟨i, j, e1, e2, hc, q⟩ := h
    subst e1 e2
    obtain ⟨t, rfl⟩ := r1
    obtain ⟨t', rfl⟩ := r2
    exact PyProof.Rows.imul_int ⟨.int _, H, I.tok _, ⟨_, rfl⟩, q⟩ hc.ok
  · intro G H x y k d1 d2 d s a b e q
    unfold imulF at e
    split at e
    · split at e
      · rename_i h; cases e; cases a; cases b; exact ⟨_, _, rfl, rfl, (show _ < 1000000 from of_decide_eq_true (p := _ < 1000000) h), q _ G H (.refl _ _) (.int _)⟩
      · cases e
    · cases e
end
end Mir
namespace Mir
open PySem PySem.Spec L2
variable [CM : ClsMap]
theorem de_dict0 {c : Cz} {pos : Pos} : DE c (.Dict [] [] pos) (mK (.dct [])) := fun ρ S σ G ps H k o q =>
  ⟨_, pe_dnewK, fun p hp => q _ _ ps _ (o.put (.dK []) hp) (Ex.new (o.sub.back hp)) (List.prefix_refl _) (.dat (.dct upd_same .nil))⟩
end Mir

/-! The least and the greatest of a list of data. -/
namespace Mir
open PySem PySem.Spec L2
mutual
/-- ints, texts and tuples of such -/
def simpD : D → Bool
  | .int _ => true
  | .str _ => true
  | .tup ds => simpDs ds
  | _ => false
def simpDs : List D → Bool
  | [] => true
  | d :: r => simpD d && simpDs r
end
theorem simpDs_mem : ∀ {ds : List D} {d : D}, simpDs ds = true → d ∈ ds → simpD d = true
  | x :: r, d, h, m => by
    simp only [simpDs, Bool.and_eq_true] at h
    rcases List.mem_cons.mp m with rfl | m
    · exact h.1
    · exact simpDs_mem h.2 m
mutual
theorem toPy_inj : ∀ {d e : D} {p : PyData}, simpD d = true → simpD e = true → toPy d = some p → toPy e = some p → d = e
  | .int i, e, p, _, he, h1, h2 => by
    simp only [toPy] at h1
    cases h1
    cases e with
    | int j => simp only [toPy] at h2; cases h2; rfl
    | str s => simp only [toPy] at h2; cases h2
    | tup ds => simp only [toPy] at h2; cases q : toPys ds <;> rw [q] at h2 <;> cases h2
    | _ => simp only [simpD] at he; cases he
  | .str s, e, p, _, he, h1, h2 => by
    simp only [toPy] at h1
    cases h1
    cases e with
    | int j => simp only [toPy] at h2; cases h2
    | str s => simp only [toPy] at h2; cases h2; rfl
    | tup ds => simp only [toPy] at h2; cases q : toPys ds <;> rw [q] at h2 <;> cases h2
    | _ => simp only [simpD] at he; cases he
  | .tup ds, e, p, hd, he, h1, h2 => by
    simp only [toPy] at h1
    cases q : toPys ds with
    | none => rw [q] at h1; cases h1
    | some l =>
      rw [q] at h1
      cases h1
      cases e with
      | int j => simp only [toPy] at h2; cases h2
      | str s => simp only [toPy] at h2; cases h2
      | tup es =>
        simp only [toPy] at h2
        cases q2 : toPys es with
        | none => rw [q2] at h2; cases h2
        | some l2 =>
          rw [q2] at h2
          cases h2
          simp only [simpD] at hd he
          exact congrArg D.tup (toPys_inj hd he q q2)
      | _ => simp only [simpD] at he; cases he
theorem toPys_inj : ∀ {ds es : List D} {l : List PyData}, simpDs ds = true → simpDs es = true → toPys ds = some l → toPys es = some l → ds = es
  | [], [], _, _, _, _, _ => rfl
  | [], e :: es, l, _, _, h1, h2 => by
    simp only [toPys] at h1 h2
    cases h1
    cases q : toPy e <;> rw [q] at h2
    · cases h2
    · cases q2 : toPys es <;> rw [q2] at h2 <;> cases h2
  | d :: ds, [], l, _, _, h1, h2 => by
    simp only [toPys] at h1 h2
    cases h2
    cases q : toPy d <;> rw [q] at h1
    · cases h1
    · cases q2 : toPys ds <;> rw [q2] at h1 <;> cases h1
  | d :: ds, e :: es, l, hd, he, h1, h2 => by
    simp only [simpDs, Bool.and_eq_true] at hd he
    simp only [toPys] at h1 h2
    cases q1 : toPy d with
    | none => rw [q1] at h1; cases h1
    | some x =>
      cases q2 : toPys ds with
      | none => rw [q1, q2] at h1; cases h1
      | some xs =>
        rw [q1, q2] at h1
        cases h1
        cases q3 : toPy e with
        | none => rw [q3] at h2; cases h2
        | some y =>
          cases q4 : toPys es with
          | none => rw [q3, q4] at h2; cases h2
          | some ys =>
            rw [q3, q4] at h2
            cases h2
            rw [toPy_inj hd.1 he.1 q1 q3, toPys_inj hd.2 he.2 q2 q4]
end
/-- the least, the first of equal ones -/
def minS (d : D) (ds : List D) : D := ds.foldl (fun a y => if PySem.W.dataLt (pyOf y) (pyOf a) = true then y else a) d
theorem minS_mem : ∀ (ds : List D) (d : D), minS d ds ∈ d :: ds
  | [], d => List.mem_cons_self ..
  | y :: r, d => by
    show minS (if PySem.W.dataLt (pyOf y) (pyOf d) = true then y else d) r ∈ _
    rcases List.mem_cons.mp (minS_mem r (if PySem.W.dataLt (pyOf y) (pyOf d) = true then y else d)) with h | h
    · rw [h]
      split
      · exact List.mem_cons_of_mem _ (List.mem_cons_self ..)
      · exact List.mem_cons_self ..
    · exact List.mem_cons_of_mem _ (List.mem_cons_of_mem _ h)
theorem minS_py : ∀ (ds : List D) (d : D), PySem.W.minD (pyOf d) (ds.map pyOf) = pyOf (minS d ds)
  | [], d => rfl
  | y :: r, d => by
    show PySem.W.minD (if PySem.W.dataLt (pyOf y) (pyOf d) = true then pyOf y else pyOf d) (r.map pyOf) = pyOf (minS (if PySem.W.dataLt (pyOf y) (pyOf d) = true then y else d) r)
    rw [← minS_py r]
    split <;> rfl
def alikeB (l : List PyData) : Bool := l.all fun x => l.all (PySem.W.alike x)
/-- min(xs) of data -/
def minDF : List D → Option D
  | [.lst (d :: ds)] => if (d :: ds).all (okP 60) = true ∧ simpDs (d :: ds) = true ∧ alikeB ((d :: ds).map pyOf) = true then some (minS d ds) else none
  | _ => none
theorem mem_mapPy {ds : List D} {p : PyData} (h : p ∈ ds.map pyOf) : ∃ d ∈ ds, pyOf d = p := List.mem_map.mp h
theorem depth_all {n : Nat} : ∀ {ds : List D}, ds.all (okP n) = true → PyData.depthAll (ds.map pyOf) ≤ n
  | [], _ => by simp only [List.map, PyData.depthAll]; omega
  | d :: r, h => by
    rw [List.all_cons, Bool.and_eq_true] at h
    have h1 := (okP_py n d h.1).2.2
    have h2 := depth_all h.2
    simp only [List.map, PyData.depthAll]
    omega
theorem simp_no {d : D} (h : simpD d = true) (k : okP 60 d = true) : pyOf d ≠ .none := by
  cases d with
  | int i => intro e; cases e
  | str i => intro e; cases e
  | tup ds =>
    intro e
    have := (okP_py 60 _ k).1
    rw [e] at this
    simp only [toPy] at this
    cases q : toPys ds <;> rw [q] at this <;> cases this
  | _ => simp only [simpD] at h; cases h
section
variable {X : Cx}
def rMinDt (K : PySem.W.Frag) : List V → Hp → VK → Prop := fun vs H Q => ∃ (p : Addr) (ys : List V) (x : PyData) (xs : List PyData), vs = [.ref p] ∧ SqL K H p ys ∧ DpAll K H ys (x :: xs) ∧ PySem.W.AlikeAll (x :: xs) ∧ PyData.depthAll (x :: xs) ≤ 60 ∧ PySem.W.minD x xs ∈ x :: xs ∧
  ∀ (i : Nat) y, ys[i]? = some y → (x :: xs)[i]? = some (PySem.W.minD x xs) → Q y H
theorem vals_at : ∀ {ys : List V} {us : List Value} {i : Nat} {u : Value}, Vals ys us → us[i]? = some u → ∃ y, ys[i]? = some y ∧ RelV y u
  | [], _, i, u, h, e => by cases h; simp at e
  | y :: ys, _, 0, u, h, e => by
    cases h with
    | cons h1 h2 => simp at e; exact ⟨y, rfl, e ▸ h1⟩
  | y :: ys, _, i + 1, u, h, e => by
    cases h with
    | cons h1 h2 =>
      obtain ⟨z, hz, hr⟩ := vals_at (i := i) (u := u) h2 (by simpa using e)
      exact ⟨z, by simpa using hz, hr⟩
theorem cr_minDt (hc : X.calm = true) (hu : X.A.units + 64 < cLine) : CallR X (.builtin "min") (rMinDt X.K) := by
  intro pins s σ H vs us Q I r h
  obtain ⟨p, ys, x, xs, rfl, hs, hd, ha, hdep, hmem, q⟩ := h
  obtain ⟨its, rv, hl, _⟩ := I.list hs
  rw [Vals.ref1 r]
  obtain ⟨as, hr⟩ := Dp.readsAll I _ _ _ hd rv
  refine PySem.W.min_list_data (x := x) (xs := xs) (as := as) (I.ok.hd hc) hl.isList (by simpa using hr) ha (by omega) fun i v h' tk bs hv rd hk => ?_
  have hv' : its[i]? = some v := by simpa using hv
  obtain ⟨y, hy, hrel⟩ := vals_at rv hv'
  obtain ⟨bs2, r2, hi, hm, _⟩ := PySem.W.readsAll_at hr i v hv'
  have e := PySem.W.alike_unique _ _ v _ _ (ha.1 _ hm _ hmem) (PySem.W.reads_keeps hk r2) rd
  refine ⟨y, H, I.kept hk, hrel, q i y hy ?_⟩
  rw [← e, List.getD_eq_getElem?_getD, List.getElem?_eq_getElem hi] <;> rfl
end
variable [CM : ClsMap]
variable {K : PySem.W.Frag}
theorem atDs_at {G : Hp} : ∀ {ys : List V} {ds : List D} {i : Nat} {y : V}, AtDs K G ys ds → ys[i]? = some y → ∃ d, ds[i]? = some d ∧ AtD K G y d
  | _, _, i, y, .nil, e => by simp at e
  | y0 :: ys, d0 :: ds, 0, y, .cons h1 h2, e => by simp at e; exact ⟨d0, rfl, e ▸ h1⟩
  | y0 :: ys, d0 :: ds, i + 1, y, .cons h1 h2, e => by
    obtain ⟨z, hz, hr⟩ := atDs_at (i := i) (y := y) h2 (by simpa using e)
    exact ⟨z, by simpa using hz, hr⟩
theorem rdMinDt : RDN K (rMinDt K) minDF := fun G H xs k ds d s a e q => by
  unfold minDF at e
  split at e
  · rename_i d0 r
    split at e
    · rename_i hh
      obtain ⟨ok, sm, al⟩ := hh
      cases e
      obtain ⟨v, rfl, hv⟩ := a.one
      obtain ⟨p, vs, rfl, h1, hs⟩ := hv.lst_ s
      have py := pyOfs ok
      have mem := minS_mem r d0
      refine ⟨p, vs, pyOf d0, r.map pyOf, rfl, SqL.of h1, ?_, ⟨fun x hx y hy => ?_, fun x hx => ?_⟩, ?_, ?_, fun i y hy hi => ?_⟩
      · exact toPys_ok (hs.mono s) py
      · have := List.all_eq_true.mp (List.all_eq_true.mp al x hx) y hy
        exact this
      · obtain ⟨d, hd, rfl⟩ := mem_mapPy (ds := d0 :: r) hx
        exact simp_no (simpDs_mem sm hd) (List.all_eq_true.mp ok d hd)
      · exact depth_all (ds := d0 :: r) ok
      · rw [minS_py]
        exact List.mem_map_of_mem (f := pyOf) mem
      · obtain ⟨dd, hdd, hat⟩ := atDs_at hs hy
        have e2 : pyOf dd = pyOf (minS d0 r) := by
          rw [← minS_py]
          have e3 : ((d0 :: r).map pyOf)[i]? = some (pyOf dd) := by rw [List.getElem?_map, hdd] <;> rfl
          exact Option.some.inj (e3.symm.trans hi)
        have hm1 := List.mem_of_getElem? hdd
        have o1 := (okP_py 60 dd (List.all_eq_true.mp ok dd hm1)).1
        have o2 := (okP_py 60 _ (List.all_eq_true.mp ok _ mem)).1
        have := toPy_inj (simpDs_mem sm hm1) (simpDs_mem sm mem) o1 (by rw [e2]; exact o2)
        rw [this] at hat
        exact q _ G H (.refl _ _) hat
    · cases e
  · cases e
end Mir

/-! The end of a law whose def keeps its promise with no guards about. -/
namespace Mir
open PySem PySem.Spec L2
section
variable {P : Program} {w : World} {K : PySem.W.Frag} {mg mb : Str → Option Value} {k : Nat} {fa a : Addr} {sp : Sp} {s1 : Shared} {vs : List Value} {ns : List Int}
/-- the script, and nothing else, is in sight -/
def onlyS (K : PySem.W.Frag) (a : Addr) (ob : Obj) (ns : List Int) : Hp := fun b => if b = a ∧ K.lookup a = none then some (.frz ob (.lst (ns.map V.int))) else none
theorem onlyS_at {ob : Obj} {b : Addr} {u : HO} (h : onlyS K a ob ns b = some u) : b = a ∧ K.lookup a = none ∧ u = .frz ob (.lst (ns.map V.int)) := by
  unfold onlyS at h
  by_cases z : b = a ∧ K.lookup a = none
  · rw [if_pos z] at h
    exact ⟨z.1, z.2, (Option.some.inj h).symm⟩
  · rw [if_neg z] at h
    cases h
theorem topG (inK : K.In s1.heap) (nsM : s1.heap.Ns mainGlobals mg) (nsB : s1.heap.Ns builtinsNs mb) (boot : ∀ x : Str, x ≠ "__name__" → mb x = bootBuiltins x) (nl : s1.heap.NoLimit) (gens : s1.gens = #[])
    (scr : s1.heap.get? a = some { cls := .type "list", data := .seq vs.toArray }) (hin : PyProof.Rows.IntsAre vs ns) (len : ns.length ≤ sizeLine) (hr : Room k callerA)
    (F : ∀ b : Heap, K.In b → b.Ns mainGlobals mg → RunG P w K mg b k fa sp)
    (hsp : ∀ H : Hp, SqL K H a (ns.map V.int) → sp [.ref a] H (fun v _ => v = .bl true) fun _ _ _ => False) :
    codeAny (model P w) callerA (.call (.ref fa) ⟨[.ref a], []⟩) (fun r s' => r = .ok (.ret (.bool true)) ∧ OldK s1.heap s'.heap ∧ s'.os = s1.os ∧ PyProof.Rows.AllBare s'.gens) s1 := by
  let ob : Obj := { cls := .type "list", data := .seq vs.toArray }
  let H : Hp := onlyS K a ob ns
  have rel := vals_ints hin
  have many := hin.length
  have seq : SqL K H a (ns.map V.int) := by
    cases z : K.lookup a with
    | none => exact .inl (.inr ⟨ob, if_pos ⟨rfl, z⟩⟩)
    | some o =>
      cases (inK _ _ z).symm.trans scr
      exact .inr ⟨_, vs.toArray, _, z, rfl, rfl, rfl, by rw [List.size_toArray, many]; exact len, rel⟩
  have ok : HOk P w H s1.heap := fun b u z => by
    obtain ⟨rfl, _, rfl⟩ := onlyS_at z
    exact ⟨scr, by rw [List.length_map]; exact len, vs, _, rel, scr⟩
  have clear : ∀ {b : Addr} {o : Obj} {es : Array DictEntry} {n : Nat}, s1.heap.get? b = some o → o.data = .dict es n → H b = none := fun {b o es n} e d => by
    cases z : H b with
    | none => rfl
    | some u =>
      obtain ⟨rfl, _, _⟩ := onlyS_at z
      cases e.symm.trans scr
      cases d
  have nsH : ∀ {b : Addr} {m : Str → Option Value}, s1.heap.Ns b m → (hidT s1.heap H).Ns b m := fun ⟨o, es, n, e, d, z⟩ => ⟨o, es, n, hidT_get e (clear e d), d, z⟩
  have inH : K.In (hidT s1.heap H) := fun b o e => hidT_get (inK b o e) (by
    cases z : H b with
    | none => rfl
    | some u =>
      obtain ⟨rfl, y, _⟩ := onlyS_at z
      cases e.symm.trans y)
  obtain ⟨mc, c1, c2⟩ := nl
  have e0 : Env0 P w K mg (hidT s1.heap H) callerA [] s1 H := ⟨rfl, ⟨inH, nsH nsM, ⟨mb, nsH nsB, boot⟩, mc, nsH c1, c2⟩, fun b o e => of_hidT e, Nat.le_of_eq (hidT_size _ _), trivial, fun b hb => (nomatch hb), ok, .of_eq gens⟩
  refine codeAny_mono (F _ inH (nsH nsM) callerA [] s1 H [.ref a] [.ref a] _ _ hr rfl e0 (.cons rfl .nil) (hsp H seq)) fun r s' z => ?_
  match r, z with
  | .error _, z =>
    obtain ⟨_, _, _, _, _, _, _, _, _, _, _, _, no⟩ := z
    exact no.elim
  | .ok (.ret u), ⟨v, H', os, bare, un, ok', ru, hv⟩ =>
    cases (show v = .bl true from hv)
    cases (show u = Value.bool true from ru)
    refine ⟨rfl, OldK.of_keep fun b o e => ?_, os, bare⟩
    cases z : H b with
    | none => exact un.keep b o e z (fun y => nomatch y) (fun y => nomatch y)
    | some u =>
      obtain ⟨rfl, _, rfl⟩ := onlyS_at z
      have new := (ok' _ _ (un.frzs _ _ _ z)).1
      have was := (ok _ _ z).1
      cases e.symm.trans was
      exact new
theorem walk_ofG {l : PySem.W.OpenLaw} {n k : Nat} {q : Program} {loose : List Str} {XP : (Str → Option Value) → Heap → Prop} {YP : World → Heap → Prop} {d : DefRec} {K : Params → PySem.W.Frag} {sp : World → Sp}
    (hn : l.most = some n) (hn2 : n ≤ sizeLine) (hdf : d.params.defaults = []) (hr : Room k callerA) (hY : ∀ (w : World) (h : Heap), YP w h → (K w.params).In h)
    (F : ∀ (w : World) (mg : Str → Option Value) (fa : Addr) (h : Heap), (K w.params).In h → h.Ns mainGlobals mg → mg d.name = some (.ref fa) → ∀ b : Heap, (K w.params).In b → b.Ns mainGlobals mg → RunG l.prog w (K w.params) mg b k fa (sp w))
    (hsp : ∀ (w : World) (H : Hp) (a : Addr) (ns : List Int), ns.length ≤ n → SqL (K w.params) H a (ns.map V.int) → sp w [.ref a] H (fun v _ => v = .bl true) fun _ _ _ => False) :
    PySem.W.WalkO q loose XP YP l.row.toRowW d [] (fun f vs => PySem.call f vs) :=
  Att.attach_call hn hdf fun w s₀ s₁ mg mb fa o pm cd doc a vs ns G Y ho hd hcd hmg hobj hints hlen hg =>
    topG (hY w _ Y) G.T.g G.T.b G.T.builtins G.T.nolimit hg hobj hints (Nat.le_trans hlen hn2) hr (F w mg fa _ (hY w _ Y) G.T.g hmg) fun H => hsp w H a ns hlen
end
end Mir

/-! Mirrors evaluated. -/
namespace Mir
open PySem PySem.Spec L2
@[simp] theorem vw_own (j : Nat) (S : List Ce) : vw (.own j) S = (S[j]?).bind ceD := rfl
@[simp] theorem ceD_lst (ds : List D) : ceD (.lst ds) = some (.lst ds) := rfl
@[simp] theorem ceD_dct (ds : List (Key × D)) : ceD (.dct ds) = some (.dct ds) := rfl
theorem op2_vw {f : D → D → Option D} {x y : Sl} {S : List Ce} : op2 f x y S = dat' ((vw x S).bind fun a => (vw y S).bind (f a)) S := rfl
theorem op1_vw {f : D → Option D} {x : Sl} {S : List Ce} : op1 f x S = dat' ((vw x S).bind f) S := rfl
theorem opN_vw {f : List D → Option D} {x : List Sl} {S : List Ce} : opN f x S = dat' ((vws x S).bind f) S := rfl
@[simp] theorem vws_nil (S : List Ce) : vws [] S = some [] := rfl
theorem vws_cons (x : Sl) (r : List Sl) (S : List Ce) : vws (x :: r) S = (vw x S).bind fun d => (vws r S).map (d :: ·) := rfl
theorem truS_vw (x : Sl) (S : List Ce) : truS x S = (vw x S).bind truD := rfl
theorem mk_ok (d : D) (ρ : List Sl) (S : List Ce) : mK d ρ S = .ok (.dat d) S := rfl
theorem mvar_dat {i : Nat} {ρ : List Sl} {S : List Ce} {d : D} (h : ρ[i]? = some (.dat d)) : mVar i ρ S = .ok (.dat d) S := by unfold mVar; rw [h]
theorem mvar_own {i : Nat} {ρ : List Sl} {S : List Ce} {j : Nat} (h : ρ[i]? = some (.own j)) : mVar i ρ S = .ok (.own j) S := by unfold mVar; rw [h]
theorem cond_dec {α : Type} {p : Prop} [Decidable p] (a b : α) : (bif decide p then a else b) = if p then a else b := by by_cases h : p <;> simp [h]
theorem atI_nat {α : Type} {l : List α} {i : Nat} (h : i < l.length) : atI l (i : Int) = l[i]? := by
  unfold atI ixN
  have : ¬ ((i : Int) < 0) := by omega
  simp [this, h]
theorem atI_0 {α : Type} (x : α) (r : List α) : atI (x :: r) 0 = some x := atI_nat (l := x :: r) (i := 0) (by simp)
theorem atI_1 {α : Type} (x y : α) (r : List α) : atI (x :: y :: r) 1 = some y := atI_nat (l := x :: y :: r) (i := 1) (by simp)
theorem atI_2 {α : Type} (x y z : α) (r : List α) : atI (x :: y :: z :: r) 2 = some z := atI_nat (l := x :: y :: z :: r) (i := 2) (by simp)
theorem ixN_nat {n i : Nat} (h : i < n) : ixN n (i : Int) = some i := by
  unfold ixN
  have : ¬ ((i : Int) < 0) := by omega
  simp [this, h]
theorem okMul_of {i j : Int} {a b : Nat} (h1 : i.natAbs < 2 ^ a) (h2 : j.natAbs < 2 ^ b) (h : a + b ≤ 1000000 := by decide) (ha : 0 < a := by decide) (hb : 0 < b := by decide) : okMul i j = true := by
  have := wide_mul h1 h2 ha hb h
  exact decide_eq_true this
theorem okDiv_of {j : Int} {b : Nat} (h1 : 0 < j) (h2 : j.natAbs < 2 ^ b) (h : b ≤ 9000 := by decide) (hb : 0 < b := by decide) : okDiv j = true := decide_eq_true (wide_div (i := 0) h1 h2 hb h)
theorem addF_i {i j : Int} : addF (.int i) (.int j) = some (.int (i + j)) := rfl
theorem subF_i {i j : Int} : subF (.int i) (.int j) = some (.int (i - j)) := rfl
theorem addF_s {a b : Str} : addF (.str a) (.str b) = if a.length + b.length ≤ sizeLine then some (.str (a ++ b)) else none := rfl
theorem addF_l {a b : List D} : addF (.lst a) (.lst b) = if a.length + b.length ≤ 100000 then some (.lst (a ++ b)) else none := rfl
theorem addF_t {a b : List D} : addF (.tup a) (.tup b) = if a.length + b.length ≤ 100000 then some (.tup (a ++ b)) else none := rfl
theorem iaddF_i {i j : Int} : iaddF (.int i) (.int j) = some (.int (i + j)) := rfl
theorem iaddF_s {a b : Str} : iaddF (.str a) (.str b) = if a.length + b.length ≤ sizeLine then some (.str (a ++ b)) else none := rfl
theorem imulF_i {i j : Int} : imulF (.int i) (.int j) = if okMul i j = true then some (.int (i * j)) else none := rfl
theorem mulF_i {i j : Int} : mulF (.int i) (.int j) = if okMul i j = true then some (.int (i * j)) else none := rfl
theorem mulF_s {s : Str} {n : Int} : mulF (.str s) (.int n) = if n < 1 ∧ -1000000 ≤ n then some (.str Str.empty) else if n = 1 then some (.str s) else if 2 ≤ n ∧ n ≤ 100000 ∧ 0 < s.length ∧ s.length ≤ 100 then some (.str (repS s n)) else none := rfl
theorem mulF_l {ds : List D} {n : Int} : mulF (.lst ds) (.int n) = if 0 ≤ n ∧ n ≤ 100000 ∧ ds.length ≤ 100 then some (.lst (List.replicate n.toNat ds).flatten) else none := rfl
theorem mulF_t {ds : List D} {n : Int} : mulF (.tup ds) (.int n) = if 2 ≤ n ∧ n ≤ 100000 ∧ ds ≠ [] ∧ ds.length ≤ 100 then some (.tup (List.replicate n.toNat ds).flatten) else none := rfl
theorem divF_i {i j : Int} : divF (.int i) (.int j) = if okDiv j = true then some (.int (i / j)) else none := rfl
theorem modF_i {i j : Int} : modF (.int i) (.int j) = if 0 < j then some (.int (i % j)) else none := rfl
theorem powF_i {i j : Int} : powF (.int i) (.int j) = if 0 ≤ j ∧ j ≤ 1000000 ∧ i.natAbs < 2 ^ 64 then some (.int (i ^ j.toNat)) else none := rfl
theorem negF_i {i : Int} : negF (.int i) = some (.int (-i)) := rfl
theorem ltF_i {i j : Int} : ltF (.int i) (.int j) = some (.bl (decide (i < j))) := rfl
theorem ltF_s {a b : Str} : ltF (.str a) (.str b) = some (.bl (decide (a.cps.toList < b.cps.toList))) := rfl
theorem leF_i {i j : Int} : leF (.int i) (.int j) = some (.bl (decide (i ≤ j))) := rfl
theorem leF_s {a b : Str} : leF (.str a) (.str b) = some (.bl (!decide (b.cps.toList < a.cps.toList))) := rfl
theorem gtF_i {i j : Int} : gtF (.int i) (.int j) = some (.bl (decide (j < i))) := rfl
theorem gtF_s {a b : Str} : gtF (.str a) (.str b) = some (.bl (decide (b.cps.toList < a.cps.toList))) := rfl
theorem geF_i {i j : Int} : geF (.int i) (.int j) = some (.bl (decide (j ≤ i))) := rfl
theorem geF_s {a b : Str} : geF (.str a) (.str b) = some (.bl (!decide (a.cps.toList < b.cps.toList))) := rfl
theorem isF_n {d : D} : isF d .non = some (.bl (isNonD d)) := by cases d <;> rfl
theorem isnF_n {d : D} : isnF d .non = some (.bl (!isNonD d)) := by cases d <;> rfl
theorem isF_b {a b : Bool} : isF (.bl a) (.bl b) = some (.bl (decide (a = b))) := rfl
theorem isnF_b {a b : Bool} : isnF (.bl a) (.bl b) = some (.bl (!decide (a = b))) := rfl
theorem inF_s {a b : Str} : inF (.str a) (.str b) = some (.bl (subS a b)) := rfl
theorem ninF_s {a b : Str} : ninF (.str a) (.str b) = some (.bl (!subS a b)) := rfl
theorem ixF_l {ds : List D} {n : Int} : ixF (.lst ds) (.int n) = atI ds n := rfl
theorem ixF_t {ds : List D} {n : Int} : ixF (.tup ds) (.int n) = atI ds n := rfl
theorem ixF_q {ds : List D} {n : Int} : ixF (.sq ds) (.int n) = atI ds n := rfl
theorem ixF_s {z : Str} {n : Int} : ixF (.str z) (.int n) = if z.length ≤ sizeLine then (atI z.cps.toList n).map fun x => .str ⟨#[x]⟩ else none := rfl
theorem lenF_s {s : Str} : lenF [.str s] = if s.length ≤ sizeLine then some (.int s.length) else none := rfl
theorem lenF_lst {ds : List D} : lenF [.lst ds] = some (.int ds.length) := rfl
theorem lenF_sq {ds : List D} : lenF [.sq ds] = some (.int ds.length) := rfl
theorem lenF_tup {ds : List D} : lenF [.tup ds] = some (.int ds.length) := rfl
theorem absF_i {i : Int} : absF [.int i] = some (.int (if i < 0 then -i else i)) := rfl
theorem max2F_i {i j : Int} : max2F [.int i, .int j] = some (.int (if j > i then j else i)) := rfl
theorem min2F_i {i j : Int} : min2F [.int i, .int j] = some (.int (if j < i then j else i)) := rfl
theorem intF_i {i : Int} : intF [.int i] = some (.int i) := rfl
theorem intF_b {b : Bool} : intF [.bl b] = some (.int (if b then 1 else 0)) := rfl
theorem intF_s {a : Str} {n : Int} (h : PySem.intText? a = some n) (hl : a.length ≤ 640) : intF [.str a] = some (.int n) := by simp only [intF, h, if_pos hl]
theorem strF_i {i : Int} : strF [.int i] = if i.natAbs.log2 < 1920 then some (.str (toString i)) else none := rfl
theorem strF_s {a : Str} : strF [.str a] = some (.str a) := rfl
theorem reprF_d {d : D} : reprF [d] = (reprV d).map .str := rfl
theorem listF_lst {ds : List D} : listF [.lst ds] = some (.lst ds) := rfl
theorem tupF_lst {ds : List D} : tupF [.lst ds] = some (.tup ds) := rfl
theorem itD_lst {ds : List D} : itD (.lst ds) = some ds := rfl
theorem listF_sq {ds : List D} : listF [.sq ds] = some (.lst ds) := rfl
theorem tupF_sq {ds : List D} : tupF [.sq ds] = some (.tup ds) := rfl
theorem itD_sq {ds : List D} : itD (.sq ds) = some ds := rfl
theorem listF_tup {ds : List D} : listF [.tup ds] = some (.lst ds) := rfl
theorem tupF_tup {ds : List D} : tupF [.tup ds] = some (.tup ds) := rfl
theorem itD_tup {ds : List D} : itD (.tup ds) = some ds := rfl
theorem itD_s {s : Str} : itD (.str s) = some (sgs s) := rfl
theorem divmodF_i {i j : Int} : divmodF [.int i, .int j] = if 0 < j ∧ j < 1073741824 then some (.tup [.int (i / j), .int (i % j)]) else none := rfl
theorem slF_s {z : Str} {i j : Option Int} : slF (.str z) i j = if z.length ≤ sizeLine then some (.str (cutS z i j)) else none := rfl
theorem slF_t {ds : List D} {i j : Option Int} : slF (.tup ds) i j = some (.tup (cutD ds i j)) := rfl
theorem slF_l {ds : List D} {i j : Option Int} : slF (.lst ds) i j = some (.lst (cutD ds i j)) := rfl
theorem fmtF_s {y : Str} : fmtF (.str y) = if y.length ≤ sizeLine then some (.str y) else none := rfl
theorem fmtF_i {i : Int} : fmtF (.int i) = if i.natAbs.log2 < 1920 then some (.str (toString i)) else none := rfl
theorem startswithF_s {z b : Str} : startswithF z [.str b] = some (.bl (Txt.startswith z b)) := rfl
theorem endswithF_s {z b : Str} : endswithF z [.str b] = some (.bl (Txt.endswith z b)) := rfl
theorem findF_s {z b : Str} : findF z [.str b] = some (.int (Txt.find z b)) := rfl
theorem countF_s {z b : Str} : countF z [.str b] = some (.int (Txt.count z b)) := rfl
theorem stripF_s {z b : Str} : stripF z [.str b] = if z.length ≤ sizeLine then some (.str (Txt.stripChars z b)) else none := rfl
theorem lstripF_s {z b : Str} : lstripF z [.str b] = if z.length ≤ sizeLine then some (.str (Txt.lstripChars z b)) else none := rfl
theorem rstripF_s {z b : Str} : rstripF z [.str b] = if z.length ≤ sizeLine then some (.str (Txt.rstripChars z b)) else none := rfl
theorem rmprefixF_s {z b : Str} : rmprefixF z [.str b] = if z.length ≤ sizeLine then some (.str (Txt.removeprefix z b)) else none := rfl
theorem rmsuffixF_s {z b : Str} : rmsuffixF z [.str b] = if z.length ≤ sizeLine then some (.str (Txt.removesuffix z b)) else none := rfl
theorem isalphaF_n {z : Str} : isalphaF z [] = some (.bl (Txt.isalpha z)) := rfl
theorem isdigitF_n {z : Str} : isdigitF z [] = some (.bl (Txt.isdigit z)) := rfl
theorem zfillF_i {z : Str} {i : Int} : zfillF z [.int i] = if PadOk i = true then some (.str (Txt.zfill z i)) else none := rfl
theorem splitF_s {z b : Str} : splitF z [.str b] = if (b.length == 0) = false ∧ z.length + 2 ≤ sizeLine then some (.lst ((Txt.split z b).map .str)) else none := rfl
theorem strsOf_map (ys : List Str) : strsOf (ys.map .str) = some ys := by induction ys with | nil => rfl | cons y r ih => simp only [List.map, strsOf, ih, Option.map]
theorem intsOf_map (ys : List Int) : intsOf (ys.map .int) = some ys := by induction ys with | nil => rfl | cons y r ih => simp only [List.map, intsOf, ih, Option.map]
theorem blsOf_map (ys : List Bool) : blsOf (ys.map .bl) = some ys := by induction ys with | nil => rfl | cons y r ih => simp only [List.map, blsOf, ih, Option.map]
theorem joinF_m {z : Str} {ys : List Str} : joinF z [.lst (ys.map .str)] = if (ys.map (·.length)).sum + ys.length * z.length ≤ 16777216 then some (.str (Txt.join z ys)) else none := by simp only [joinF, strsOf_map]
theorem allF_m {ys : List Bool} : allF [.lst (ys.map .bl)] = some (.bl (ys.all id)) := by simp only [allF, blsOf_map, Option.map]
theorem anyF_m {ys : List Bool} : anyF [.lst (ys.map .bl)] = some (.bl (ys.any id)) := by simp only [anyF, blsOf_map, Option.map]
theorem isi_non_int  : isiF [.non, .ty "int"] = some (.bl false) := by unfold isiF; show (kitB "NoneType" "int").map D.bl = _; rw [show kitB "NoneType" "int" = some false by decide +kernel] <;> rfl
theorem isi_non_bool  : isiF [.non, .ty "bool"] = some (.bl false) := by unfold isiF; show (kitB "NoneType" "bool").map D.bl = _; rw [show kitB "NoneType" "bool" = some false by decide +kernel] <;> rfl
theorem isi_non_str  : isiF [.non, .ty "str"] = some (.bl false) := by unfold isiF; show (kitB "NoneType" "str").map D.bl = _; rw [show kitB "NoneType" "str" = some false by decide +kernel] <;> rfl
theorem isi_non_list  : isiF [.non, .ty "list"] = some (.bl false) := by unfold isiF; show (kitB "NoneType" "list").map D.bl = _; rw [show kitB "NoneType" "list" = some false by decide +kernel] <;> rfl
theorem isi_non_tuple  : isiF [.non, .ty "tuple"] = some (.bl false) := by unfold isiF; show (kitB "NoneType" "tuple").map D.bl = _; rw [show kitB "NoneType" "tuple" = some false by decide +kernel] <;> rfl
theorem isi_non_dict  : isiF [.non, .ty "dict"] = some (.bl false) := by unfold isiF; show (kitB "NoneType" "dict").map D.bl = _; rw [show kitB "NoneType" "dict" = some false by decide +kernel] <;> rfl
theorem isi_bl_int {x : Bool} : isiF [(.bl x), .ty "int"] = some (.bl true) := by unfold isiF; show (kitB "bool" "int").map D.bl = _; rw [show kitB "bool" "int" = some true by decide +kernel] <;> rfl
theorem isi_bl_bool {x : Bool} : isiF [(.bl x), .ty "bool"] = some (.bl true) := by unfold isiF; show (kitB "bool" "bool").map D.bl = _; rw [show kitB "bool" "bool" = some true by decide +kernel] <;> rfl
theorem isi_bl_str {x : Bool} : isiF [(.bl x), .ty "str"] = some (.bl false) := by unfold isiF; show (kitB "bool" "str").map D.bl = _; rw [show kitB "bool" "str" = some false by decide +kernel] <;> rfl
theorem isi_bl_list {x : Bool} : isiF [(.bl x), .ty "list"] = some (.bl false) := by unfold isiF; show (kitB "bool" "list").map D.bl = _; rw [show kitB "bool" "list" = some false by decide +kernel] <;> rfl
theorem isi_bl_tuple {x : Bool} : isiF [(.bl x), .ty "tuple"] = some (.bl false) := by unfold isiF; show (kitB "bool" "tuple").map D.bl = _; rw [show kitB "bool" "tuple" = some false by decide +kernel] <;> rfl
theorem isi_bl_dict {x : Bool} : isiF [(.bl x), .ty "dict"] = some (.bl false) := by unfold isiF; show (kitB "bool" "dict").map D.bl = _; rw [show kitB "bool" "dict" = some false by decide +kernel] <;> rfl
theorem isi_int_int {x : Int} : isiF [(.int x), .ty "int"] = some (.bl true) := by unfold isiF; show (kitB "int" "int").map D.bl = _; rw [show kitB "int" "int" = some true by decide +kernel] <;> rfl
theorem isi_int_bool {x : Int} : isiF [(.int x), .ty "bool"] = some (.bl false) := by unfold isiF; show (kitB "int" "bool").map D.bl = _; rw [show kitB "int" "bool" = some false by decide +kernel] <;> rfl
theorem isi_int_str {x : Int} : isiF [(.int x), .ty "str"] = some (.bl false) := by unfold isiF; show (kitB "int" "str").map D.bl = _; rw [show kitB "int" "str" = some false by decide +kernel] <;> rfl
theorem isi_int_list {x : Int} : isiF [(.int x), .ty "list"] = some (.bl false) := by unfold isiF; show (kitB "int" "list").map D.bl = _; rw [show kitB "int" "list" = some false by decide +kernel] <;> rfl
theorem isi_int_tuple {x : Int} : isiF [(.int x), .ty "tuple"] = some (.bl false) := by unfold isiF; show (kitB "int" "tuple").map D.bl = _; rw [show kitB "int" "tuple" = some false by decide +kernel] <;> rfl
theorem isi_int_dict {x : Int} : isiF [(.int x), .ty "dict"] = some (.bl false) := by unfold isiF; show (kitB "int" "dict").map D.bl = _; rw [show kitB "int" "dict" = some false by decide +kernel] <;> rfl
theorem isi_str_int {x : Str} : isiF [(.str x), .ty "int"] = some (.bl false) := by unfold isiF; show (kitB "str" "int").map D.bl = _; rw [show kitB "str" "int" = some false by decide +kernel] <;> rfl
theorem isi_str_bool {x : Str} : isiF [(.str x), .ty "bool"] = some (.bl false) := by unfold isiF; show (kitB "str" "bool").map D.bl = _; rw [show kitB "str" "bool" = some false by decide +kernel] <;> rfl
theorem isi_str_str {x : Str} : isiF [(.str x), .ty "str"] = some (.bl true) := by unfold isiF; show (kitB "str" "str").map D.bl = _; rw [show kitB "str" "str" = some true by decide +kernel] <;> rfl
theorem isi_str_list {x : Str} : isiF [(.str x), .ty "list"] = some (.bl false) := by unfold isiF; show (kitB "str" "list").map D.bl = _; rw [show kitB "str" "list" = some false by decide +kernel] <;> rfl
theorem isi_str_tuple {x : Str} : isiF [(.str x), .ty "tuple"] = some (.bl false) := by unfold isiF; show (kitB "str" "tuple").map D.bl = _; rw [show kitB "str" "tuple" = some false by decide +kernel] <;> rfl
theorem isi_str_dict {x : Str} : isiF [(.str x), .ty "dict"] = some (.bl false) := by unfold isiF; show (kitB "str" "dict").map D.bl = _; rw [show kitB "str" "dict" = some false by decide +kernel] <;> rfl
theorem isi_lst_int {x : List D} : isiF [(.lst x), .ty "int"] = some (.bl false) := by unfold isiF; show (kitB "list" "int").map D.bl = _; rw [show kitB "list" "int" = some false by decide +kernel] <;> rfl
theorem isi_lst_bool {x : List D} : isiF [(.lst x), .ty "bool"] = some (.bl false) := by unfold isiF; show (kitB "list" "bool").map D.bl = _; rw [show kitB "list" "bool" = some false by decide +kernel] <;> rfl
theorem isi_lst_str {x : List D} : isiF [(.lst x), .ty "str"] = some (.bl false) := by unfold isiF; show (kitB "list" "str").map D.bl = _; rw [show kitB "list" "str" = some false by decide +kernel] <;> rfl
theorem isi_lst_list {x : List D} : isiF [(.lst x), .ty "list"] = some (.bl true) := by unfold isiF; show (kitB "list" "list").map D.bl = _; rw [show kitB "list" "list" = some true by decide +kernel] <;> rfl
theorem isi_lst_tuple {x : List D} : isiF [(.lst x), .ty "tuple"] = some (.bl false) := by unfold isiF; show (kitB "list" "tuple").map D.bl = _; rw [show kitB "list" "tuple" = some false by decide +kernel] <;> rfl
theorem isi_lst_dict {x : List D} : isiF [(.lst x), .ty "dict"] = some (.bl false) := by unfold isiF; show (kitB "list" "dict").map D.bl = _; rw [show kitB "list" "dict" = some false by decide +kernel] <;> rfl
theorem isi_tup_int {x : List D} : isiF [(.tup x), .ty "int"] = some (.bl false) := by unfold isiF; show (kitB "tuple" "int").map D.bl = _; rw [show kitB "tuple" "int" = some false by decide +kernel] <;> rfl
theorem isi_tup_bool {x : List D} : isiF [(.tup x), .ty "bool"] = some (.bl false) := by unfold isiF; show (kitB "tuple" "bool").map D.bl = _; rw [show kitB "tuple" "bool" = some false by decide +kernel] <;> rfl
theorem isi_tup_str {x : List D} : isiF [(.tup x), .ty "str"] = some (.bl false) := by unfold isiF; show (kitB "tuple" "str").map D.bl = _; rw [show kitB "tuple" "str" = some false by decide +kernel] <;> rfl
theorem isi_tup_list {x : List D} : isiF [(.tup x), .ty "list"] = some (.bl false) := by unfold isiF; show (kitB "tuple" "list").map D.bl = _; rw [show kitB "tuple" "list" = some false by decide +kernel] <;> rfl
theorem isi_tup_tuple {x : List D} : isiF [(.tup x), .ty "tuple"] = some (.bl true) := by unfold isiF; show (kitB "tuple" "tuple").map D.bl = _; rw [show kitB "tuple" "tuple" = some true by decide +kernel] <;> rfl
theorem isi_tup_dict {x : List D} : isiF [(.tup x), .ty "dict"] = some (.bl false) := by unfold isiF; show (kitB "tuple" "dict").map D.bl = _; rw [show kitB "tuple" "dict" = some false by decide +kernel] <;> rfl
theorem isi_dct_int {x : List (Key × D)} : isiF [(.dct x), .ty "int"] = some (.bl false) := by unfold isiF; show (kitB "dict" "int").map D.bl = _; rw [show kitB "dict" "int" = some false by decide +kernel] <;> rfl
theorem isi_dct_bool {x : List (Key × D)} : isiF [(.dct x), .ty "bool"] = some (.bl false) := by unfold isiF; show (kitB "dict" "bool").map D.bl = _; rw [show kitB "dict" "bool" = some false by decide +kernel] <;> rfl
theorem isi_dct_str {x : List (Key × D)} : isiF [(.dct x), .ty "str"] = some (.bl false) := by unfold isiF; show (kitB "dict" "str").map D.bl = _; rw [show kitB "dict" "str" = some false by decide +kernel] <;> rfl
theorem isi_dct_list {x : List (Key × D)} : isiF [(.dct x), .ty "list"] = some (.bl false) := by unfold isiF; show (kitB "dict" "list").map D.bl = _; rw [show kitB "dict" "list" = some false by decide +kernel] <;> rfl
theorem isi_dct_tuple {x : List (Key × D)} : isiF [(.dct x), .ty "tuple"] = some (.bl false) := by unfold isiF; show (kitB "dict" "tuple").map D.bl = _; rw [show kitB "dict" "tuple" = some false by decide +kernel] <;> rfl
theorem isi_dct_dict {x : List (Key × D)} : isiF [(.dct x), .ty "dict"] = some (.bl true) := by unfold isiF; show (kitB "dict" "dict").map D.bl = _; rw [show kitB "dict" "dict" = some true by decide +kernel] <;> rfl
theorem outF_nx (n : Nat) (ρ : List Sl) (S : List Ce) : outF n (.nx ρ S) = cut n (.dat .non) S := rfl
theorem outF_rt (n : Nat) (r : Sl) (S : List Ce) : outF n (.rt r S) = cut n r S := rfl
theorem outF_exc (n i : Nat) (pl : Option (Str × D)) (ρ : List Sl) (S : List Ce) : outF n (.exc i pl ρ S) = cutX n i pl S := rfl
theorem cut_same {n : Nat} {d : D} {S : List Ce} (h : S.length = n) : cut n (.dat d) S = .ok (.dat d) S := by
  unfold cut
  by_cases k : okTake n S = true
  · rw [if_pos k, ← h, List.take_length]
  · rw [if_neg k]
theorem cutX_same {n i : Nat} {pl : Option (Str × D)} {S : List Ce} (h : S.length = n) : cutX n i pl S = .exc i pl S := by
  unfold cutX
  by_cases k : okTake n S = true
  · rw [if_pos k, ← h, List.take_length]
  · rw [if_neg k]
/-- no objects among the cells -/
def plain (S : List Ce) : Bool := S.all fun c => match c with | .ins _ _ => false | _ => true
theorem plain_ok {S : List Ce} (h : plain S = true) (n : Nat) : okTake n S = true := by
  unfold okTake plain at *
  rw [List.all_eq_true] at h ⊢
  intro c hc
  have := h c (List.mem_of_mem_take hc)
  cases c with
  | ins _ _ => cases this
  | _ => rfl
theorem cut_new {S T : List Ce} {d : D} (h : plain S = true) : cut S.length (.dat d) (S ++ T) = .ok (.dat d) S := by
  have k : okTake S.length (S ++ T) = true := by
    have := plain_ok h S.length
    unfold okTake at this ⊢
    rw [List.take_left]
    rwa [List.take_length] at this
  unfold cut
  rw [if_pos k]
  show RE.ok (Sl.dat d) _ = _
  rw [List.take_left]
theorem ixN_0 {n : Nat} (h : 0 < n) : ixN n 0 = some 0 := ixN_nat (i := 0) h
theorem ixN_1 {n : Nat} (h : 1 < n) : ixN n 1 = some 1 := ixN_nat (i := 1) h
theorem ixN_2 {n : Nat} (h : 2 < n) : ixN n 2 = some 2 := ixN_nat (i := 2) h
end Mir

/-! The dice of the laws, once for all. -/
namespace Mir
open PySem PySem.Spec L2
local macro_rules | `(tactic| walk_at "ev") => `(tactic| simp (disch := omega) only [*, if_pos, if_neg, gNil, gSeq, gIf, gRet, gRetN, gSet, gStoV, gSto, gAppV, gApp, gEx, gPar, gAug, gFor, gRaise, gRaise1, gAsg, mVar, mk_ok, mOp, mUn, mIf, mAnd, mOr, mNot, mTup, mLst, mLstO, mBlt, mCall, mMs, mSl, oNo, oSome, mFmt, mChain, mFs, fsL, aCons, aNil, tOf, tTru, tAnd, tOr, tNot, tYes', mIt, mRng1, mRng2, datas, truS_vw, truD, op1_vw, op2_vw, opN_vw, vws_nil, vws_cons,
  vw_dat, vw_own, ceD_lst, ceD_dct, asB_ok, ofO_some, ofO_none, dat'_some, dat'_none, RE.ok_bind, RE.exc_bind, RE.stuck_bind, RE.ok_toS, RE.exc_toS, RE.stuck_toS, RE.noX_ok, RS.nx_bind, RS.rt_bind, RS.bk_bind, RS.ct_bind, RS.exc_bind, RS.stuck_bind, Option.bind_some, Option.map_some, Option.bind_none, Option.map_none, cond_dec, cond_true, cond_false, List.getElem?_cons_zero, List.getElem?_cons_succ, List.set_cons_zero, List.set_cons_succ, List.replicate, List.cons_append, List.nil_append,
  atI_0, atI_1, atI_2, isNonD, if_true, if_false, ite_true, ite_false, outF_nx, outF_rt, outF_exc, ixN_0, ixN_1, ixN_2, List.length_cons, List.length_nil, List.length_set, addF_i, subF_i, addF_s, addF_l, addF_t, iaddF_i, iaddF_s, imulF_i, mulF_i, mulF_s, mulF_l, mulF_t, divF_i, modF_i, powF_i, negF_i, ltF_i, ltF_s, leF_i, leF_s, gtF_i, gtF_s, geF_i, geF_s, isF_n, isnF_n, isF_b, isnF_b, inF_s, ninF_s, ixF_l, ixF_t, ixF_q, ixF_s, lenF_s, lenF_lst, lenF_sq, lenF_tup, absF_i, max2F_i, min2F_i, intF_i, intF_b, strF_i, strF_s, reprF_d, listF_lst, tupF_lst, itD_lst, listF_sq, tupF_sq, itD_sq, listF_tup, tupF_tup, itD_tup, itD_s, divmodF_i, slF_s, slF_t, slF_l, fmtF_s, fmtF_i, startswithF_s, endswithF_s, findF_s, countF_s, stripF_s, lstripF_s, rstripF_s, rmprefixF_s, rmsuffixF_s, isalphaF_n, isdigitF_n, zfillF_i, splitF_s, strsOf_map, intsOf_map, blsOf_map, joinF_m, allF_m, anyF_m, isi_non_int, isi_non_bool, isi_non_str, isi_non_list, isi_non_tuple, isi_non_dict, isi_bl_int, isi_bl_bool, isi_bl_str, isi_bl_list, isi_bl_tuple, isi_bl_dict, isi_int_int, isi_int_bool, isi_int_str, isi_int_list, isi_int_tuple, isi_int_dict, isi_str_int, isi_str_bool, isi_str_str, isi_str_list, isi_str_tuple, isi_str_dict, isi_lst_int, isi_lst_bool, isi_lst_str, isi_lst_list, isi_lst_tuple, isi_lst_dict, isi_tup_int, isi_tup_bool, isi_tup_str, isi_tup_list, isi_tup_tuple, isi_tup_dict, isi_dct_int, isi_dct_bool, isi_dct_str, isi_dct_list, isi_dct_tuple, isi_dct_dict])
def m__law_roll (n0 : Nat) : MS :=
  (gSeq (gIf (tOf (mOp gtF (mOp ixF (mVar 0) (mK (.int 0))) (mK (.int 0))))
  (gSeq (gSet 2 (mOp modF (mBlt intF (aCons (mOp ixF (mVar 0) (mK (.int 0))) aNil)) (mVar 1)))
  (gSeq (gStoV 0 (mK (.int 0)) (mOp divF (mOp ixF (mVar 0) (mK (.int 0))) (mVar 1)))
  (gRet (mVar 2))))
  gNil)
  (gSeq (gStoV 0 (mK (.int 2)) (mOp addF (mOp ixF (mVar 0) (mK (.int 2))) (mK (.int 1))))
  (gSeq (gSet 3 (mOp modF (mBlt intF (aCons (mOp addF (mOp ixF (mVar 0) (mK (.int 1))) (mOp mulF (mK (.int 49979737)) (mOp ixF (mVar 0) (mK (.int 2))))) aNil)) (mK (.int 2305843009213693577))))
  (gSeq (gSet 4 (mOp addF (mOp mulF (mOp modF (mBlt intF (aCons (mOp addF (mOp mulF (mVar 3) (mVar 3)) (mOp mulF (mK (.int 97)) (mOp ixF (mVar 0) (mK (.int 2))))) aNil)) (mK (.int 2305843009213693921))) (mK (.int 7368803))) (mVar 3)))
  (gRet (mOp modF (mBlt intF (aCons (mOp divF (mVar 4) (mK (.int 65536))) aNil)) (mVar 1)))))))
def f__law_roll : MF := mkF 3 m__law_roll

/-- dice that were rolled at most N times -/
def Dice (cs : List D) (N : Nat) : Prop := ∃ a b n : Int, cs = [.int a, .int b, .int n] ∧ 0 ≤ n ∧ n ≤ N ∧ 0 ≤ b
theorem Dice.mono {cs : List D} {N M : Nat} (h : Dice cs N) (l : N ≤ M) : Dice cs M := by
  obtain ⟨a, b, n, rfl, h1, h2, h3⟩ := h
  exact ⟨a, b, n, rfl, h1, by omega, h3⟩
theorem roll_eq {S : List Ce} {j N : Nat} {cs : List D} {t : Int} (hS : S[j]? = some (.lst cs)) (hd : Dice cs N) (hN : N < 10 ^ 9) (h0 : 0 < t) (ht : t < 2 ^ 64) :
    ∃ r cs', f__law_roll [.own j, .dat (.int t)] S = .ok (.dat (.int r)) (S.set j (.lst cs')) ∧ 0 ≤ r ∧ r < t ∧ Dice cs' (N + 1) := by
  obtain ⟨a, b, n, rfl, n0, n1, hb⟩ := hd
  have hj := (List.getElem?_eq_some_iff.mp hS).1
  have g1 : ∀ c : Ce, (S.set j c)[j]? = some c := fun c => List.getElem?_set_self hj
  by_cases ha : 0 < a
  · refine ⟨a % t, [.int (a / t), .int b, .int n], ?_, Int.emod_nonneg _ (by omega), Int.emod_lt_of_pos _ h0, ⟨_, _, _, rfl, n0, by omega, hb⟩⟩
    have od : okDiv t = true := okDiv_of (b := 64) h0 (by omega)
    unfold f__law_roll mkF m__law_roll
    walk_at "ev"
    rw [cut_same (by simp)]
  · have m1 : 0 ≤ (b + 49979737 * (n + 1)) % 2305843009213693577 := Int.emod_nonneg _ (by decide)
    have m2 : (b + 49979737 * (n + 1)) % 2305843009213693577 < 2305843009213693577 := Int.emod_lt_of_pos _ (by decide)
    generalize ho : (b + 49979737 * (n + 1)) % 2305843009213693577 = o at m1 m2
    have m3 : 0 ≤ (o * o + 97 * (n + 1)) % 2305843009213693921 := Int.emod_nonneg _ (by decide)
    have m4 : (o * o + 97 * (n + 1)) % 2305843009213693921 < 2305843009213693921 := Int.emod_lt_of_pos _ (by decide)
    have k1 : okMul 49979737 (n + 1) = true := okMul_of (a := 64) (b := 64) (by decide) (by omega)
    have k2 : okMul o o = true := okMul_of (a := 64) (b := 64) (by omega) (by omega)
    have k3 : okMul 97 (n + 1) = true := okMul_of (a := 64) (b := 64) (by decide) (by omega)
    have k4 : okMul ((o * o + 97 * (n + 1)) % 2305843009213693921) 7368803 = true := okMul_of (a := 64) (b := 64) (by omega) (by decide)
    have k5 : okDiv 65536 = true := by decide +kernel
    refine ⟨((o * o + 97 * (n + 1)) % 2305843009213693921 * 7368803 + o) / 65536 % t, [.int a, .int b, .int (n + 1)], ?_, Int.emod_nonneg _ (by omega), Int.emod_lt_of_pos _ h0, ⟨_, _, _, rfl, by omega, by omega, hb⟩⟩
    unfold f__law_roll mkF m__law_roll
    walk_at "ev"
    rw [cut_same (by simp)]
def m__law_dice (n0 : Nat) : MS :=
  (gSeq (gSet 2 (mIf (tOf (mOp ltF (mVar 1) (mBlt lenF (aCons (mVar 0) aNil)))) (mBlt intF (aCons (mOp ixF (mVar 0) (mVar 1)) aNil)) (mOp addF (mOp mulF (mK (.int 59)) (mVar 1)) (mK (.int 23)))))
  (gSeq (gSet 3 (mOp modF (mBlt max2F (aCons (mK (.int 0)) (aCons (mOp subF (mBlt absF (aCons (mVar 2) aNil)) (mOp powF (mK (.int 10)) (mK (.int 16)))) aNil))) (mOp mulF (mOp powF (mK (.int 10)) (mK (.int 60))) (mOp powF (mK (.int 10)) (mK (.int 60))))))
  (gRet (mLstO (aCons (mVar 3) (aCons (mOp addF (mOp addF (mOp addF (mOp mulF (mOp modF (mBlt absF (aCons (mVar 2) aNil)) (mK (.int 1152921504606846733))) (mK (.int 53))) (mOp mulF (mK (.int 809)) (mVar 1))) (mOp mulF (mK (.int 29)) (mBlt intF (aCons (mOp ltF (mVar 2) (mK (.int 0))) aNil)))) (mK (.int 3))) (aCons (mK (.int 0)) aNil)))))))
def f__law_dice : MF := mkF 2 m__law_dice
def m__law_pick (n0 : Nat) : MS :=
  (gRet (mOp ixF (mVar 1) (mCall f__law_roll (aCons (mVar 0) (aCons (mBlt lenF (aCons (mVar 1) aNil)) aNil)))))
def f__law_pick : MF := mkF 0 m__law_pick
theorem cut_own {S : List Ce} {cl : Ce} (h : plain S = true) (hc : ceLt S.length cl = true) : cut S.length (.own S.length) (S ++ [cl]) = .ok (.own S.length) (S ++ [cl]) := by
  have k : okTake S.length (S ++ [cl]) = true := by
    have := plain_ok h S.length
    unfold okTake at this ⊢
    rw [List.take_left]
    rwa [List.take_length] at this
  unfold cut
  rw [if_pos k]
  show (if S.length < S.length then _ else match (S ++ [cl])[S.length]? with | some cl => _ | none => _) = _
  rw [if_neg (by omega)]
  have : (S ++ [cl])[S.length]? = some cl := by simp
  rw [this]
  show (if ceLt S.length cl = true then _ else _) = _
  rw [if_pos hc, List.take_left]
theorem plain_set {S : List Ce} {j : Nat} {cs : List D} (h : plain S = true) : plain (S.set j (.lst cs)) = true := by
  unfold plain at *
  rw [List.all_eq_true] at h ⊢
  intro c hc
  rcases List.mem_or_eq_of_mem_set hc with h1 | rfl
  · exact h c h1
  · rfl
theorem plain_app {S T : List Ce} (h : plain S = true) (h' : plain T = true) : plain (S ++ T) = true := by
  unfold plain at *
  rw [List.all_append, h, h'] <;> rfl
theorem dice_eq {S : List Ce} {ns : List Int} {i : Nat} (hS : plain S = true) (hn : ns.length ≤ 63) (hi : i ≤ 63) :
    ∃ cs, f__law_dice [.dat (.sq (ns.map .int)), .dat (.int i)] S = .ok (.own S.length) (S ++ [.lst cs]) ∧ Dice cs 0 := by
  have k1 : okMul 59 (i : Int) = true := okMul_of (a := 64) (b := 64) (by decide) (by omega)
  have k2 : okMul ((10 : Int) ^ (60 : Int).toNat) ((10 : Int) ^ (60 : Int).toNat) = true := by decide +kernel
  have k4 : okMul 809 (i : Int) = true := okMul_of (a := 64) (b := 64) (by decide) (by omega)
  have k5 : ∀ b : Bool, okMul 29 (if b = true then 1 else 0) = true := by decide +kernel
  have k6 : (0 : Int) < (10 : Int) ^ (60 : Int).toNat * (10 : Int) ^ (60 : Int).toNat := by decide +kernel
  have main : ∀ c : Int, (if (i : Int) < ns.length then ns[i]? else some (59 * (i : Int) + 23)) = some c → ∃ cs, f__law_dice [.dat (.sq (ns.map .int)), .dat (.int i)] S = .ok (.own S.length) (S ++ [.lst cs]) ∧ Dice cs 0 := by
    intro c hc
    have m1 : 0 ≤ (if c < 0 then -c else c) % 1152921504606846733 := Int.emod_nonneg _ (by decide)
    have m2 : (if c < 0 then -c else c) % 1152921504606846733 < 1152921504606846733 := Int.emod_lt_of_pos _ (by decide)
    generalize ho : (if c < 0 then -c else c) % 1152921504606846733 = o at m1 m2
    have k3 : okMul o 53 = true := okMul_of (a := 64) (b := 64) (by omega) (by decide)
    have hcell : (mIf (tOf (mOp ltF (mVar 1) (mBlt lenF (aCons (mVar 0) aNil)))) (mBlt intF (aCons (mOp ixF (mVar 0) (mVar 1)) aNil)) (mOp addF (mOp mulF (mK (.int 59)) (mVar 1)) (mK (.int 23)))) [.dat (.sq (ns.map .int)), .dat (.int i), .no, .no] S = .ok (.dat (.int c)) S := by
      by_cases h : (i : Int) < ns.length
      · rw [if_pos h] at hc
        have hl : (i : Int) < (ns.map D.int).length := by rw [List.length_map]; exact h
        have e : atI (ns.map D.int) (i : Int) = some (.int c) := by
          rw [atI_nat (by rw [List.length_map]; omega), List.getElem?_map, hc] <;> rfl
        walk_at "ev"
      · rw [if_neg h] at hc
        cases hc
        have hl : ¬ (i : Int) < (ns.map D.int).length := by rw [List.length_map]; exact h
        walk_at "ev"
    clear hc
    refine ⟨[.int ((if (if c < 0 then -c else c) - 10 ^ Int.toNat 16 > 0 then (if c < 0 then -c else c) - 10 ^ Int.toNat 16 else 0) % (10 ^ Int.toNat 60 * 10 ^ Int.toNat 60)), .int (o * 53 + 809 * (i : Int) + 29 * (if decide (c < 0) = true then 1 else 0) + 3), .int 0], ?_, ⟨_, _, _, rfl, Int.le_refl _, Int.le_refl _, ?_⟩⟩
    · unfold f__law_dice mkF m__law_dice
      generalize (mIf (tOf (mOp ltF (mVar 1) (mBlt lenF (aCons (mVar 0) aNil)))) (mBlt intF (aCons (mOp ixF (mVar 0) (mVar 1)) aNil)) (mOp addF (mOp mulF (mK (.int 59)) (mVar 1)) (mK (.int 23)))) = X at hcell ⊢
      walk_at "ev"
      rw [cut_own hS (by rfl)]
    · have : (0 : Int) ≤ 29 * (if (decide (c < 0)) = true then 1 else 0) := by split <;> decide
      omega
  by_cases h : (i : Int) < ns.length
  · refine main (ns[i]'(by omega)) ?_
    rw [if_pos h]
    exact List.getElem?_eq_getElem _
  · exact main (59 * (i : Int) + 23) (by rw [if_neg h])
/-- one of the signs of a text, of the items of a list -/
theorem pick_str {S : List Ce} {j N : Nat} {cs : List D} {z : Str} (hS : S[j]? = some (.lst cs)) (hd : Dice cs N) (hN : N < 10 ^ 9) (h0 : 0 < z.cps.toList.length) (ht : z.cps.toList.length < 10000) :
    ∃ c cs', c ∈ z.cps.toList ∧ f__law_pick [.own j, .dat (.str z)] S = .ok (.dat (.str ⟨#[c]⟩)) (S.set j (.lst cs')) ∧ Dice cs' (N + 1) := by
  have el : z.length = z.cps.toList.length := (Array.length_toList ..).symm
  have hz : z.length ≤ sizeLine := by rw [el, sizeLine_eq]; omega
  obtain ⟨r, cs', e, r0, r1, hd'⟩ := roll_eq (t := z.length) hS hd hN (by omega) (by omega)
  rw [el] at e hz
  obtain ⟨k, rfl⟩ := Int.eq_ofNat_of_zero_le r0
  have hk : k < z.cps.toList.length := by omega
  have ea : atI z.cps.toList (k : Int) = some (z.cps.toList[k]) := by rw [atI_nat hk, List.getElem?_eq_getElem hk]
  refine ⟨z.cps.toList[k], cs', List.getElem_mem hk, ?_, hd'⟩
  unfold f__law_pick mkF m__law_pick
  walk_at "ev"
  rw [cut_same (by simp)]
theorem pick_lst {S : List Ce} {j N : Nat} {cs ds : List D} (hS : S[j]? = some (.lst cs)) (hd : Dice cs N) (hN : N < 10 ^ 9) (h0 : 0 < ds.length) (ht : ds.length < 10000) :
    ∃ d cs', d ∈ ds ∧ f__law_pick [.own j, .dat (.lst ds)] S = .ok (.dat d) (S.set j (.lst cs')) ∧ Dice cs' (N + 1) := by
  obtain ⟨r, cs', e, r0, r1, hd'⟩ := roll_eq (t := ds.length) hS hd hN (by omega) (by omega)
  obtain ⟨k, rfl⟩ := Int.eq_ofNat_of_zero_le r0
  have hk : k < ds.length := by omega
  have ea : atI ds (k : Int) = some ds[k] := by rw [atI_nat hk, List.getElem?_eq_getElem hk]
  refine ⟨ds[k], cs', List.getElem_mem hk, ?_, hd'⟩
  unfold f__law_pick mkF m__law_pick
  walk_at "ev"
  rw [cut_same (by simp)]
end Mir

/-! Texts as lists of signs. -/
namespace Mir
open PySem PySem.Spec L2 PySem.Builtin PySem.Builtin.Str
def cl (z : Str) : List Nat := z.cps.toList
def mk (l : List Nat) : Str := ⟨l.toArray⟩
theorem cl_len (z : Str) : z.length = (cl z).length := (Array.length_toList ..).symm
theorem cl_mk (l : List Nat) : cl (mk l) = l := List.toList_toArray ..
theorem mk_cl (z : Str) : mk (cl z) = z := by
  unfold mk cl
  rw [Array.toArray_toList]
theorem mk_eq {l : List Nat} {z : Str} : mk l = z ↔ l = cl z := ⟨fun e => by rw [← e, cl_mk], fun e => by rw [e, mk_cl]⟩
theorem cut_at (z : Str) (i j : Nat) (h1 : i ≤ j) (h2 : j ≤ (cl z).length) : cutS z (some (i : Int)) (some (j : Int)) = mk (((cl z).drop i).take (j - i)) := by
  unfold cutS mk cl at *
  rw [HT.sIx_nat, HT.sIx_nat]
  have e : z.length = z.cps.toList.length := cl_len z
  rw [Nat.min_eq_left (by omega), Nat.min_eq_left (by omega)]
theorem cut_one (z : Str) (i : Nat) : cutS z (some (i : Int)) (some ((i : Int) + 1)) = mk (((cl z).drop i).take 1) := by
  have e : z.length = z.cps.toList.length := cl_len z
  have h1 : ((i : Int) + 1) = ((i + 1 : Nat) : Int) := rfl
  unfold cutS mk cl
  rw [h1, HT.sIx_nat, HT.sIx_nat]
  by_cases h : i + 1 ≤ z.length
  · rw [Nat.min_eq_left h, Nat.min_eq_left (by omega), Nat.add_sub_cancel_left]
  · rw [Nat.min_eq_right (by omega), Nat.min_eq_right (by omega), Nat.sub_self, List.take_zero, List.drop_eq_nil_of_le (by omega), List.take_nil]
theorem take1 {l : List Nat} {i c : Nat} : (l.drop i).take 1 = [c] ↔ l[i]? = some c := by
  cases h : l.drop i with
  | nil =>
    have : l.length ≤ i := List.drop_eq_nil_iff.mp h
    rw [List.getElem?_eq_none this]
    simp
  | cons x r =>
    have : l[i]? = some x := by
      have e := List.getElem?_drop (xs := l) (i := i) (j := 0)
      rw [h] at e
      simpa using e.symm
    rw [this]
    simp
def dg (c : Nat) : Bool := decide (48 ≤ c) && decide (c ≤ 57)
theorem one_lt {a b : Nat} : (decide ([a] < [b])) = decide (a < b) := decide_eq_decide.mpr (by
  rw [List.cons_lt_cons_iff]
  simp)
theorem of_tw {p : Nat → Bool} : ∀ {l : List Nat} {x : Nat}, x ∈ l.takeWhile p → p x = true
  | [], x, h => by cases h
  | y :: l, x, h => by
    cases hy : p y with
    | false => rw [List.takeWhile_cons_of_neg (by rw [hy]; decide)] at h; cases h
    | true =>
      rw [List.takeWhile_cons_of_pos hy] at h
      rcases List.mem_cons.mp h with rfl | h
      · exact hy
      · exact of_tw h
theorem drop_tw (p : Nat → Bool) (l : List Nat) : l.drop (l.takeWhile p).length = l.dropWhile p := by
  have e : l.takeWhile p ++ l.dropWhile p = l := List.takeWhile_append_dropWhile
  conv => lhs; rw [← e]
  have : ((l.takeWhile p ++ l.dropWhile p).takeWhile p).length = (l.takeWhile p).length := by rw [e]
  rw [this, List.drop_left]
theorem sub_list (z : Str) (i j : Nat) : (strSub z i j).cps.toList = (z.cps.toList.drop i).take (j - i) := by
  unfold strSub
  simp
theorem lstrip_list (z y : Str) : (Txt.lstripChars z y).cps.toList = z.cps.toList.dropWhile y.cps.contains := by
  unfold Txt.lstripChars
  rw [PyProof.Rows.stripBy_eq, sub_list]
  unfold stripLo stripHi
  rw [if_pos rfl, if_neg (by decide), drop_tw]
  apply List.take_of_length_le
  have h := congrArg List.length (List.takeWhile_append_dropWhile (p := y.cps.contains) (l := z.cps.toList))
  rw [List.length_append] at h
  have e : z.length = z.cps.toList.length := (Array.length_toList ..).symm
  omega
theorem strip_empty (z y : Str) : (Txt.stripChars z y).cps.toList = [] ↔ ∀ c ∈ z.cps.toList, y.cps.contains c = true := by
  unfold Txt.stripChars
  rw [PyProof.Rows.stripBy_eq, sub_list]
  unfold stripLo stripHi
  rw [if_pos rfl, if_pos rfl, drop_tw]
  have e : z.length = z.cps.toList.length := (Array.length_toList ..).symm
  rw [e]
  generalize z.cps.toList = l
  generalize y.cps.contains = p
  have h := List.takeWhile_append_dropWhile (p := p) (l := l)
  have hl := congrArg List.length h
  rw [List.length_append] at hl
  have hr : ((l.dropWhile p).reverse.takeWhile p).length ≤ (l.dropWhile p).length := by
    have := (List.takeWhile_prefix (p := p) (l := (l.dropWhile p).reverse)).length_le
    rwa [List.length_reverse] at this
  constructor
  · intro hn
    have hz := congrArg List.length hn
    rw [List.length_take, List.length_nil] at hz
    have full : ((l.dropWhile p).reverse.takeWhile p).length = (l.dropWhile p).length := by omega
    have hall : (l.dropWhile p).reverse.takeWhile p = (l.dropWhile p).reverse := (List.takeWhile_prefix (p := p) (l := (l.dropWhile p).reverse)).eq_of_length (by rw [full, List.length_reverse])
    have hd : l.dropWhile p = [] := by
      cases hh : l.dropWhile p with
      | nil => rfl
      | cons x r =>
        exfalso
        have hx : p x = true := by
          have m : x ∈ (l.dropWhile p).reverse.takeWhile p := by rw [hall, hh]; simp
          exact of_tw m
        have nx := List.head?_dropWhile_not p l
        rw [hh] at nx
        simp at nx
        rw [hx] at nx
        cases nx
    intro c hc
    rw [← h, hd, List.append_nil] at hc
    exact of_tw hc
  · intro hall
    have ht : l.takeWhile p = l := by
      have : ∀ l : List Nat, (∀ c ∈ l, p c = true) → l.takeWhile p = l := by
        intro l
        induction l with
        | nil => intro _; rfl
        | cons x r ih =>
          intro hh
          rw [List.takeWhile_cons_of_pos (hh x (List.mem_cons_self ..)), ih fun c hc => hh c (List.mem_cons_of_mem _ hc)]
      exact this l hall
    have hd : l.dropWhile p = [] := by
      rw [ht] at h
      have := congrArg List.length h
      rw [List.length_append] at this
      exact List.eq_nil_of_length_eq_zero (by omega)
    rw [hd, List.take_nil]
theorem mem_tw {p : Nat → Bool} : ∀ {l : List Nat}, ∀ x ∈ l.takeWhile p, p x = true
  | [], x, h => by cases h
  | y :: l, x, h => by
    cases hy : p y with
    | false => rw [List.takeWhile_cons_of_neg (by rw [hy]; decide)] at h; cases h
    | true =>
      rw [List.takeWhile_cons_of_pos hy] at h
      rcases List.mem_cons.mp h with rfl | h
      · exact hy
      · exact mem_tw x h
theorem dv_lt : ∀ (l : List Nat) (a : Nat), NumText.AllDigits l → l.foldl (fun acc c => acc * 10 + (c - 48)) a < (a + 1) * 10 ^ l.length
  | [], a, _ => by simp
  | c :: r, a, h => by
    have hc := h c (List.mem_cons_self ..)
    have ih := dv_lt r (a * 10 + (c - 48)) h.tail
    rw [List.foldl_cons, List.length_cons, Nat.pow_succ]
    refine Nat.lt_of_lt_of_le ih ?_
    have : a * 10 + (c - 48) + 1 ≤ (a + 1) * 10 := by omega
    calc (a * 10 + (c - 48) + 1) * 10 ^ r.length ≤ (a + 1) * 10 * 10 ^ r.length := Nat.mul_le_mul_right _ this
      _ = (a + 1) * (10 ^ r.length * 10) := by rw [Nat.mul_assoc, Nat.mul_comm 10]
theorem val_lt {l : List Nat} {n : Nat} (h : NumText.AllDigits l) (hn : l.length ≤ n) : NumText.digitsVal l < 10 ^ n := by
  have z := dv_lt l 0 h
  rw [Nat.zero_add, Nat.one_mul] at z
  exact Nat.lt_of_lt_of_le z (Nat.pow_le_pow_right (by decide) hn)
def valL (l : List Nat) : Int := (NumText.digitsVal l : Nat)
theorem int_of {l : List Nat} (h : NumText.AllDigits l) (h1 : l ≠ []) (h2 : l.length ≤ 640) : PySem.intText? (mk l) = some (valL l) := by
  have e : (mk l).cps.toList = l := cl_mk l
  have z := intText_digits (x := mk l) (by rw [e]; exact h) (by rw [e]; exact h1) (by rw [cl_len, cl_mk]; omega)
  rw [e] at z
  exact z
theorem mk_app {a b : List Nat} : mk a ++ mk b = mk (a ++ b) := by
  show (⟨a.toArray ++ b.toArray⟩ : Str) = ⟨(a ++ b).toArray⟩
  simp
theorem starts_minus (z : Str) : Txt.startswith z "-" = decide ((cl z)[0]? = some 45) := by
  have d45 : (("-" : Str).cps.toList) = [45] := by decide +kernel
  have dl : ("-" : Str).length = 1 := by decide +kernel
  have e : z.length = (cl z).length := cl_len z
  unfold Txt.startswith
  rw [PySem.StrLaws.subAt_eq, d45, dl, e, List.drop_zero]
  show (decide (0 + 1 ≤ (cl z).length) && ((cl z).take 1 == [45])) = _
  cases cl z with
  | nil => rfl
  | cons x r =>
    rw [Bool.eq_iff_iff, Bool.and_eq_true, decide_eq_true_eq, decide_eq_true_eq, beq_iff_eq]
    simp
def ten : Str := "0123456789"
theorem ten_dg : ten.cps.contains = dg := by
  funext c
  have e : ten.cps = #[48, 49, 50, 51, 52, 53, 54, 55, 56, 57] := by decide +kernel
  rw [e]
  unfold dg
  rw [Bool.eq_iff_iff, Bool.and_eq_true, decide_eq_true_eq, decide_eq_true_eq]
  simp
  omega
theorem cut_to (z : Str) (j : Nat) : cutS z none (some (j : Int)) = mk ((cl z).take j) := by
  have e : z.length = z.cps.toList.length := cl_len z
  unfold cutS mk cl
  rw [HT.sIx_none, HT.sIx_nat, List.drop_zero, Nat.sub_zero]
  by_cases h : j ≤ z.length
  · rw [Nat.min_eq_left h]
  · rw [Nat.min_eq_right (by omega), List.take_of_length_le (by omega), List.take_of_length_le (by omega)]
theorem cut_from (z : Str) (i : Nat) : cutS z (some (i : Int)) none = mk ((cl z).drop i) := by
  have e : z.length = z.cps.toList.length := cl_len z
  unfold cutS mk cl
  rw [HT.sIx_none, HT.sIx_nat]
  by_cases h : i ≤ z.length
  · rw [Nat.min_eq_left h, List.take_of_length_le (by rw [List.length_drop]; omega)]
  · rw [Nat.min_eq_right (by omega), Nat.sub_self, List.take_zero, List.drop_eq_nil_of_le (by omega)]
theorem cut_fromN (z : Str) (k : Nat) (hk : 0 < k) : cutS z (some (-(k : Int))) none = mk ((cl z).drop ((cl z).length - k)) := by
  have e : z.length = z.cps.toList.length := cl_len z
  have h : HT.sIx z.length 0 (some (-(k : Int))) = z.length - k := by
    unfold HT.sIx
    show (if -(k : Int) < 0 then (-(k : Int) + (z.length : Int)).toNat else min (-(k : Int)).toNat z.length) = _
    rw [if_pos (by omega)]
    omega
  unfold cutS mk cl
  rw [HT.sIx_none, h, ← e, List.take_of_length_le (by rw [List.length_drop]; omega)]
theorem cut_toN (z : Str) (k : Nat) (hk : 0 < k) : cutS z none (some (-(k : Int))) = mk ((cl z).take ((cl z).length - k)) := by
  have e : z.length = z.cps.toList.length := cl_len z
  have h : HT.sIx z.length z.length (some (-(k : Int))) = z.length - k := by
    unfold HT.sIx
    show (if -(k : Int) < 0 then (-(k : Int) + (z.length : Int)).toNat else min (-(k : Int)).toNat z.length) = _
    rw [if_pos (by omega)]
    omega
  unfold cutS mk cl
  rw [HT.sIx_none, h, List.drop_zero, Nat.sub_zero, ← e]
theorem cl_app (a b : Str) : cl (a ++ b) = cl a ++ cl b := by
  show (a ++ b).cps.toList = _
  rw [Str.cps_append, Array.toList_append]
  rfl
theorem len_app (a b : Str) : (cl (a ++ b)).length = (cl a).length + (cl b).length := by rw [cl_app, List.length_append]
theorem joinL_len : ∀ ps : List (List Nat), (TL.joinL [] ps).length = (ps.map List.length).sum
  | [] => rfl
  | [p] => by simp [TL.joinL]
  | p :: q :: r => by
    have ih := joinL_len (q :: r)
    show (p ++ ([] ++ TL.joinL [] (q :: r))).length = _
    rw [List.nil_append, List.length_append, ih]
    simp
theorem join_len (ys : List Str) : (cl (Txt.join "" ys)).length = (ys.map fun y => (cl y).length).sum := by
  have e : TL.tl (Txt.join "" ys) = TL.joinL (TL.tl "") (ys.map TL.tl) := by rw [TL.join_eq, TL.tl_join]
  have e0 : TL.tl "" = [] := by decide +kernel
  show (TL.tl (Txt.join "" ys)).length = _
  rw [e, e0, joinL_len, List.map_map]
  rfl
theorem spl46 : ∀ (l acc : List Nat), TL.spl [46] 0 acc l = match l.dropWhile (· != 46) with
    | [] => [acc ++ l]
    | _ :: b => (acc ++ l.takeWhile (· != 46)) :: TL.spl [46] 0 [] b
  | [], acc => by simp [TL.spl]
  | c :: r, acc => by
    have ih := spl46 r (acc ++ [c])
    by_cases hc : c = 46
    · subst hc
      show (if TL.pre [46] (46 :: r) = true then acc :: TL.spl [46] ([46].length - 1) [] r else TL.spl [46] 0 (acc ++ [46]) r) = _
      rw [if_pos (by simp [TL.pre])]
      simp
    · show (if TL.pre [46] (c :: r) = true then acc :: TL.spl [46] ([46].length - 1) [] r else TL.spl [46] 0 (acc ++ [c]) r) = _
      rw [if_neg (by simp [TL.pre, hc]), ih]
      have hb : (c != 46) = true := by simp [hc]
      rw [List.dropWhile_cons_of_pos (p := fun x => x != 46) hb, List.takeWhile_cons_of_pos (p := fun x => x != 46) hb]
      cases r.dropWhile (· != 46) <;> simp
theorem no46 : ∀ {b : List Nat}, 46 ∉ b → TL.spl [46] 0 [] b = [b] := fun {b} h => by
  rw [spl46]
  have : b.dropWhile (· != 46) = [] := by
    have : ∀ l : List Nat, 46 ∉ l → l.dropWhile (· != 46) = [] := by
      intro l
      induction l with
      | nil => intro _; rfl
      | cons x r ih =>
        intro hn
        have hx : (x != 46) = true := by
          simp only [List.mem_cons, not_or] at hn
          simpa using fun e => hn.1 e.symm
        rw [List.dropWhile_cons_of_pos (p := fun x => x != 46) hx]
        exact ih fun z => hn (List.mem_cons_of_mem _ z)
    exact this b h
  rw [this]
  simp
theorem has46 : ∀ {b : List Nat}, 46 ∈ b → ∃ r, b.dropWhile (· != 46) = 46 :: r
  | x :: b, h => by
    by_cases hx : x = 46
    · subst hx
      exact ⟨b, by simp⟩
    · have hb : (x != 46) = true := by simp [hx]
      obtain ⟨r, e⟩ := has46 (b := b) (by
        rcases List.mem_cons.mp h with h | h
        · exact absurd h.symm hx
        · exact h)
      exact ⟨r, by rw [List.dropWhile_cons_of_pos (p := fun x => x != 46) hb]; exact e⟩
theorem parts46 (p : List Nat) : (46 ∉ p ∧ TL.spl [46] 0 [] p = [p]) ∨
    (46 ∈ p ∧ 46 ∉ (p.dropWhile (· != 46)).drop 1 ∧ TL.spl [46] 0 [] p = [p.takeWhile (· != 46), (p.dropWhile (· != 46)).drop 1]) ∨
    (46 ∈ p ∧ 46 ∈ (p.dropWhile (· != 46)).drop 1 ∧ ∃ x y z r, TL.spl [46] 0 [] p = x :: y :: z :: r) := by
  by_cases h : 46 ∈ p
  · obtain ⟨r, e⟩ := has46 h
    have es := spl46 p []
    rw [e] at es
    dsimp only at es
    rw [List.nil_append] at es
    rw [e, List.drop_succ_cons, List.drop_zero]
    by_cases h2 : 46 ∈ r
    · obtain ⟨r2, e2⟩ := has46 h2
      have es2 := spl46 r []
      rw [e2] at es2
      dsimp only at es2
      refine .inr (.inr ⟨h, h2, ?_⟩)
      rw [es, es2]
      have nz := spl46 r2 []
      cases hd : r2.dropWhile (· != 46) with
      | nil => rw [hd] at nz; exact ⟨_, _, _, _, by rw [nz]⟩
      | cons y b => rw [hd] at nz; exact ⟨_, _, _, _, by rw [nz]⟩
    · exact .inr (.inl ⟨h, h2, by rw [es, no46 h2]⟩)
  · exact .inl ⟨h, no46 h⟩
theorem dw46 : ∀ {l : List Nat}, 46 ∉ l → l.dropWhile (· != 46) = []
  | [], _ => rfl
  | x :: r, h => by
    have hx : (x != 46) = true := by
      simp only [List.mem_cons, not_or] at h
      simpa using fun e => h.1 e.symm
    rw [List.dropWhile_cons_of_pos (p := fun x => x != 46) hx]
    exact dw46 fun z => h (List.mem_cons_of_mem _ z)
theorem tw46 {l : List Nat} (h : 46 ∉ l) : l.takeWhile (· != 46) = l := by
  have e := List.takeWhile_append_dropWhile (p := fun x => x != 46) (l := l)
  rw [dw46 h, List.append_nil] at e
  exact e
theorem cl_inj {a b : Str} (h : cl a = cl b) : a = b := by rw [← mk_cl a, ← mk_cl b, h]
def eleven : Str := "0123456789."
theorem eleven_dg (c : Nat) : eleven.cps.contains c = true ↔ (dg c = true ∨ c = 46) := by
  have e : eleven.cps = #[48, 49, 50, 51, 52, 53, 54, 55, 56, 57, 46] := by decide +kernel
  rw [e]
  unfold dg
  rw [Bool.and_eq_true, decide_eq_true_eq, decide_eq_true_eq]
  simp
  omega
end Mir

/-! Loops of mirrors, flat values compared. -/
namespace Mir
open PySem PySem.Spec L2
theorem eqF_i {i j : Int} : eqF (.int i) (.int j) = some (.bl (decide (i = j))) := by
  show (if scal (V.int i) (V.int j) = true then some (D.bl (decide (V.int i = V.int j))) else if okP 60 (D.int i) = true ∧ okP 60 (D.int j) = true then some (D.bl (eqB (D.int i) (D.int j))) else none) = _
  rw [if_pos (show scal (V.int i) (V.int j) = true from rfl)]
  exact congrArg (fun b => some (D.bl b)) (decide_eq_decide.mpr ⟨fun h => V.int.inj h, fun h => congrArg _ h⟩)
theorem eqF_s {i j : Str} : eqF (.str i) (.str j) = some (.bl (decide (i = j))) := by
  show (if scal (V.str i) (V.str j) = true then some (D.bl (decide (V.str i = V.str j))) else if okP 60 (D.str i) = true ∧ okP 60 (D.str j) = true then some (D.bl (eqB (D.str i) (D.str j))) else none) = _
  rw [if_pos (show scal (V.str i) (V.str j) = true from rfl)]
  exact congrArg (fun b => some (D.bl b)) (decide_eq_decide.mpr ⟨fun h => V.str.inj h, fun h => congrArg _ h⟩)
theorem neF_i {i j : Int} : neF (.int i) (.int j) = some (.bl (!decide (i = j))) := by unfold neF; rw [eqF_i]
theorem neF_s {i j : Str} : neF (.str i) (.str j) = some (.bl (!decide (i = j))) := by unfold neF; rw [eqF_s]
theorem dec_T (h : Decidable True) : @decide True h = true := decide_eq_true trivial
theorem dec_F (h : Decidable False) : @decide False h = false := decide_eq_false id
theorem cond_nd {α : Type} {p : Prop} [Decidable p] (a b : α) : (bif !decide p then a else b) = if p then b else a := by by_cases h : p <;> simp [h]
/-- x <= v <= y, both ends constants -/
def chainW (x y : D) (v : Sl) (S : List Ce) : RE Sl := (op2 leF (.dat x) v S).bind fun z S3 => match z with
    | .dat (.bl true) => op2 leF v (.dat y) S3
    | .dat (.bl false) => .ok (.dat (.bl false)) S3
    | _ => .stuck
theorem chain_le (x y : D) (b : ME) (ρ : List Sl) (S : List Ce) : mChain leF leF (mK x) b (mK y) ρ S = (b ρ S).bind (chainW x y) := by
  show (b ρ S).bind _ = (b ρ S).bind _
  cases b ρ S with
  | ok v S2 =>
    show RE.bind _ _ = RE.bind _ _
    cases op2 leF (.dat x) v S2 with
    | ok w S3 => cases w with
      | dat d => cases d with
        | bl t => cases t <;> rfl
        | _ => rfl
      | _ => rfl
    | _ => rfl
  | _ => rfl
theorem chainW_i (a b m : Int) (S : List Ce) : chainW (.int a) (.int b) (.dat (.int m)) S = .ok (.dat (.bl (decide (a ≤ m) && decide (m ≤ b)))) S := by
  unfold chainW
  rw [show op2 leF (.dat (.int a)) (.dat (.int m)) S = .ok (.dat (.bl (decide (a ≤ m)))) S from rfl]
  by_cases h : a ≤ m
  · rw [decide_eq_true h]; rfl
  · rw [decide_eq_false h]; rfl
theorem reprV_i {i : Int} : reprV (.int i) = if i.natAbs.log2 < 1920 then some (Str.ofString (toString i)) else none := rfl
theorem reprV_s {s : Str} : reprV (.str s) = if (PySem.reprText s).length ≤ sizeLine then some (PySem.reprText s) else none := rfl
theorem reprV_n : reprV .non = some (Str.ofString "None") := rfl
theorem reprV_b {b : Bool} : reprV (.bl b) = some (if b = true then Str.ofString "True" else Str.ofString "False") := rfl
theorem rgs_0 : rgs 0 0 = [] := rfl
theorem rgs_1 : rgs 0 1 = [.int 0] := rfl
theorem rgs_2 : rgs 0 2 = [.int 0, .int 1] := rfl
theorem forL_nil (j : Nat) (g : MS) (ρ : List Sl) (S : List Ce) : forL j g [] ρ S = .nx ρ S := rfl
def forK (j : Nat) (g : MS) (ds : List D) : RS → RS
  | .nx ρ1 S1 => forL j g ds ρ1 S1
  | .ct ρ1 S1 => forL j g ds ρ1 S1
  | .bk ρ1 S1 => .nx ρ1 S1
  | r => r
theorem forL_cons (j : Nat) (g : MS) (d : D) (ds : List D) (ρ : List Sl) (S : List Ce) : forL j g (d :: ds) ρ S = forK j g ds (g (ρ.set j (.dat d)) S) := by
  show (match g (ρ.set j (.dat d)) S with | .nx ρ1 S1 => _ | .ct ρ1 S1 => _ | .bk ρ1 S1 => _ | r => r) = _
  cases g (ρ.set j (.dat d)) S <;> rfl
theorem forK_nx (j : Nat) (g : MS) (ds : List D) (ρ : List Sl) (S : List Ce) : forK j g ds (.nx ρ S) = forL j g ds ρ S := rfl
theorem forK_ct (j : Nat) (g : MS) (ds : List D) (ρ : List Sl) (S : List Ce) : forK j g ds (.ct ρ S) = forL j g ds ρ S := rfl
theorem forK_bk (j : Nat) (g : MS) (ds : List D) (ρ : List Sl) (S : List Ce) : forK j g ds (.bk ρ S) = .nx ρ S := rfl
theorem forK_rt (j : Nat) (g : MS) (ds : List D) (r : Sl) (S : List Ce) : forK j g ds (.rt r S) = .rt r S := rfl
theorem forK_exc (j : Nat) (g : MS) (ds : List D) (i : Nat) (pl : Option (Str × D)) (ρ : List Sl) (S : List Ce) : forK j g ds (.exc i pl ρ S) = .exc i pl ρ S := rfl
/-- a loop all of whose turns change nothing -/
theorem forL_pass {j : Nat} {g : MS} {ρ : List Sl} {S : List Ce} : ∀ (ds : List D) (v : Sl), (∀ d ∈ ds, g (ρ.set j (.dat d)) S = .nx (ρ.set j (.dat d)) S) → ∃ w, forL j g ds (ρ.set j v) S = .nx (ρ.set j w) S
  | [], v, _ => ⟨v, rfl⟩
  | d :: ds, v, h => by
    obtain ⟨w, e⟩ := forL_pass ds (.dat d) fun x hx => h x (List.mem_cons_of_mem _ hx)
    refine ⟨w, ?_⟩
    rw [forL_cons, List.set_set, h d (List.mem_cons_self ..)]
    exact e
/-- a loop one of whose turns answers -/
theorem forL_stop {j : Nat} {g : MS} {ρ : List Sl} {S : List Ce} {d : D} {ds2 : List D} {r : Sl} {S' : List Ce} (hr : g (ρ.set j (.dat d)) S = .rt r S') : ∀ (ds : List D) (v : Sl), (∀ d ∈ ds, g (ρ.set j (.dat d)) S = .nx (ρ.set j (.dat d)) S) → forL j g (ds ++ d :: ds2) (ρ.set j v) S = .rt r S'
  | [], v, _ => by
    rw [List.nil_append, forL_cons, List.set_set, hr]
    rfl
  | x :: ds, v, h => by
    rw [List.cons_append, forL_cons, List.set_set, h x (List.mem_cons_self ..)]
    exact forL_stop hr ds (.dat x) fun y hy => h y (List.mem_cons_of_mem _ hy)
/-- a loop whose turns keep an invariant of the frame and the cells -/
theorem forL_inv {j : Nat} {g : MS} (I : Nat → List Sl → List Ce → Prop) : ∀ (ds : List D) (n : Nat) (ρ : List Sl) (S : List Ce), I n ρ S → (∀ i d, ds[i]? = some d → ∀ ρ S, I (n + i) ρ S → ∃ ρ' S', g (ρ.set j (.dat d)) S = .nx ρ' S' ∧ I (n + i + 1) ρ' S') → ∃ ρ' S', forL j g ds ρ S = .nx ρ' S' ∧ I (n + ds.length) ρ' S'
  | [], n, ρ, S, h, _ => ⟨ρ, S, rfl, h⟩
  | d :: ds, n, ρ, S, h, k => by
    obtain ⟨ρ1, S1, e, h1⟩ := k 0 d rfl ρ S h
    obtain ⟨ρ2, S2, e2, h2⟩ := forL_inv I ds (n + 1) ρ1 S1 h1 fun i d hd ρ S hI => by
      have := k (i + 1) d (by simpa using hd) ρ S (by rwa [show n + (i + 1) = n + 1 + i by omega])
      rwa [show n + (i + 1) + 1 = n + 1 + i + 1 by omega] at this
    refine ⟨ρ2, S2, ?_, ?_⟩
    · rw [forL_cons, e]; exact e2
    · rw [List.length_cons, show n + (ds.length + 1) = n + 1 + ds.length by omega]; exact h2
def whileK (t : MT) (g : MS) (n : Nat) : RS → RS
  | .nx ρ1 S1 => whileL t g n ρ1 S1
  | .ct ρ1 S1 => whileL t g n ρ1 S1
  | .bk ρ1 S1 => .nx ρ1 S1
  | r => r
/-- a loop that counts up to N -/
theorem whileL_count {t : MT} {g : MS} {f : Nat → List Sl} {S : List Ce} {N : Nat} (ht : ∀ j, j ≤ N → t (f j) S = .ok (decide (j < N)) S) (hg : ∀ j, j < N → g (f j) S = .nx (f (j + 1)) S) : ∀ k j n, j + k = N → k < n → whileL t g n (f j) S = .nx (f N) S
  | 0, j, n + 1, h, _ => by
    have : j = N := by omega
    subst this
    unfold whileL
    rw [ht j (by omega)]
    simp [RE.toS]
  | k + 1, j, n + 1, h, hk => by
    unfold whileL
    rw [ht j (by omega)]
    have : j < N := by omega
    simp only [RE.toS, this, decide_true, cond_true]
    rw [hg j this]
    exact whileL_count ht hg k (j + 1) n (by omega) (by omega)
theorem tw_take {p : Nat → Bool} : ∀ (r : List Nat) (m : Nat), ((r.take m).takeWhile p).length = min m (r.takeWhile p).length
  | [], m => by simp
  | x :: r, 0 => by simp
  | x :: r, m + 1 => by
    rw [List.take_succ_cons]
    cases h : p x with
    | true => rw [List.takeWhile_cons_of_pos h, List.takeWhile_cons_of_pos h, List.length_cons, List.length_cons, tw_take r m]; omega
    | false => rw [List.takeWhile_cons_of_neg (by simp [h]), List.takeWhile_cons_of_neg (by simp [h])]; simp
theorem tw_at {p : Nat → Bool} : ∀ {r : List Nat} {j : Nat}, j ≤ (r.takeWhile p).length → (j < (r.takeWhile p).length ↔ ∃ x, r[j]? = some x ∧ p x = true)
  | [], k, h => by simp
  | y :: L, k, h => by
    cases hy : p y with
    | false =>
      rw [List.takeWhile_cons_of_neg (by rw [hy]; decide)] at h ⊢
      have : k = 0 := by simpa using h
      subst this
      simp [hy]
    | true =>
      rw [List.takeWhile_cons_of_pos hy] at h ⊢
      cases k with
      | zero => simp [hy]
      | succ k =>
        rw [List.length_cons] at h ⊢
        have ih := tw_at (p := p) (r := L) (j := k) (by omega)
        rw [List.getElem?_cons_succ, ← ih]
        omega
end Mir
namespace Mir
open PySem PySem.Spec L2
theorem rgs_mem {n : Nat} {d : D} (h : d ∈ rgs 0 n) : ∃ i : Nat, i < n ∧ d = .int i := by
  unfold rgs at h
  obtain ⟨i, hi, rfl⟩ := List.mem_map.mp h
  exact ⟨i, List.mem_range.mp hi, by rw [Int.zero_add]⟩
theorem rgs_split {n k : Nat} (h : k < n) : rgs 0 n = rgs 0 k ++ .int k :: (rgs 0 n).drop (k + 1) := by
  have e1 : (rgs 0 n).take k = rgs 0 k := by
    unfold rgs
    rw [← List.map_take, List.take_range, Nat.min_eq_left (Nat.le_of_lt h)]
  have hl : k < (rgs 0 n).length := by rw [rgs_len]; exact h
  have e2 : (rgs 0 n)[k] = .int k := by
    have := rgs_get (lo := 0) h
    rw [List.getElem?_eq_getElem hl, Int.zero_add] at this
    exact Option.some.inj this
  conv => lhs; rw [← List.take_append_drop k (rgs 0 n), List.drop_eq_getElem_cons hl, e1, e2]
theorem forL_rgs_pass {j n : Nat} {g : MS} {ρ : List Sl} {S : List Ce} (v : Sl) (h : ∀ i : Nat, i < n → g (ρ.set j (.dat (.int i))) S = .nx (ρ.set j (.dat (.int i))) S) : ∃ w, forL j g (rgs 0 n) (ρ.set j v) S = .nx (ρ.set j w) S :=
  forL_pass _ v fun d hd => by
    obtain ⟨i, hi, rfl⟩ := rgs_mem hd
    exact h i hi
theorem forL_rgs_stop {j n k : Nat} {g : MS} {ρ : List Sl} {S S' : List Ce} {r : Sl} (v : Sl) (hk : k < n) (h : ∀ i : Nat, i < k → g (ρ.set j (.dat (.int i))) S = .nx (ρ.set j (.dat (.int i))) S) (hr : g (ρ.set j (.dat (.int k))) S = .rt r S') : forL j g (rgs 0 n) (ρ.set j v) S = .rt r S' := by
  rw [rgs_split hk]
  exact forL_stop hr _ v fun d hd => by
    obtain ⟨i, hi, rfl⟩ := rgs_mem hd
    exact h i hi
end Mir

/-! Draws in comprehensions. -/
namespace Mir
open PySem PySem.Spec L2
theorem lcL_nil (n j : Nat) (t : MT) (elt : ME) (ρ : List Sl) (S : List Ce) : lcL n j t elt [] ρ S = .ok () S := rfl
def lcK (n j : Nat) (t : MT) (elt : ME) (ds : List D) (ρ : List Sl) (r : Sl) (S2 : List Ce) : RE Unit := match r, S2[n]? with
      | .dat y, some (.lst acc) => if acc.length < 1000000 then lcL n j t elt ds ρ (S2.set n (.lst (acc ++ [y]))) else .stuck
      | _, _ => .stuck
theorem lcL_cons (n j : Nat) (elt : ME) (d : D) (ds : List D) (ρ : List Sl) (S : List Ce) : lcL n j tYes' elt (d :: ds) ρ S = (elt (ρ.set j (.dat d)) S).noX.bind (lcK n j tYes' elt ds ρ) := rfl
/-- a list drawn, turn by turn -/
theorem lc_draw {n j jd q : Nat} {elt : ME} {ρ : List Sl} {P : D → Prop} {M : Nat} (he : ∀ (S : List Ce) (cs : List D) (N : Nat) (d : D), S[jd]? = some (.lst cs) → Dice cs N → N < M → ∃ y cs', P y ∧ elt (ρ.set j (.dat d)) S = .ok (.dat y) (S.set jd (.lst cs')) ∧ Dice cs' (N + q)) :
    ∀ (ds : List D) (S0 : List Ce) (cs acc : List D) (N : Nat), S0.length = n → S0[jd]? = some (.lst cs) → Dice cs N → N + q * ds.length < M → acc.length + ds.length ≤ 1000 →
      ∃ ys cs', lcL n j tYes' elt ds ρ (S0 ++ [.lst acc]) = .ok () (S0.set jd (.lst cs') ++ [.lst (acc ++ ys)]) ∧ ys.length = ds.length ∧ (∀ y ∈ ys, P y) ∧ Dice cs' (N + q * ds.length)
  | [], S0, cs, acc, N, hn, hS, hd, _, _ => ⟨[], cs, by
      rw [lcL_nil, List.append_nil]
      have : S0.set jd (.lst cs) = S0 := by
        have h := (List.getElem?_eq_some_iff.mp hS)
        obtain ⟨h1, h2⟩ := h
        rw [← h2]
        exact List.set_getElem_self h1
      rw [this], rfl, (fun y hy => nomatch hy), hd⟩
  | d :: ds, S0, cs, acc, N, hn, hS, hd, hM, hl => by
    have hj := (List.getElem?_eq_some_iff.mp hS).1
    rw [List.length_cons, Nat.mul_succ] at hM
    rw [List.length_cons] at hl
    obtain ⟨y, cs1, hy, ey, hd1⟩ := he (S0 ++ [.lst acc]) cs N d (by rw [List.getElem?_append_left hj]; exact hS) hd (by omega)
    rw [List.set_append_left _ _ hj] at ey
    obtain ⟨ys, cs2, e2, hl2, hp2, hd2⟩ := lc_draw (n := n) he ds (S0.set jd (.lst cs1)) cs1 (acc ++ [y]) (N + q) (by rw [List.length_set]; exact hn) (List.getElem?_set_self hj) hd1 (by omega) (by rw [List.length_append, List.length_cons, List.length_nil]; omega)
    refine ⟨y :: ys, cs2, ?_, by rw [List.length_cons, List.length_cons, hl2], fun x hx => ?_, ?_⟩
    · rw [lcL_cons, ey]
      show lcK n j tYes' elt ds ρ (.dat y) _ = _
      unfold lcK
      have hg : (S0.set jd (Ce.lst cs1) ++ [Ce.lst acc])[n]? = some (Ce.lst acc) := by
        rw [List.getElem?_append_right (by rw [List.length_set]; omega), List.length_set, hn, Nat.sub_self] <;> rfl
      rw [hg]
      show (if acc.length < 1000000 then _ else _) = _
      rw [if_pos (by omega)]
      have hs : (S0.set jd (Ce.lst cs1) ++ [Ce.lst acc]).set n (Ce.lst (acc ++ [y])) = S0.set jd (Ce.lst cs1) ++ [Ce.lst (acc ++ [y])] := by
        rw [List.set_append_right _ _ (by rw [List.length_set]; omega), List.length_set, hn, Nat.sub_self] <;> rfl
      rw [hs, e2, List.set_set, List.append_assoc] <;> rfl
    · rcases List.mem_cons.mp hx with rfl | hx
      · exact hy
      · exact hp2 x hx
    · rw [List.length_cons, Nat.mul_succ, Nat.add_comm (q * ds.length) q, ← Nat.add_assoc]
      exact hd2
theorem frzL_new {S : List Ce} {ds : List D} (h : plain S = true) : frzL S.length (.ok (.own S.length) (S ++ [.lst ds])) = .ok (.dat (.lst ds)) S := by
  have k : okTake S.length (S ++ [.lst ds]) = true := by
    have := plain_ok h S.length
    unfold okTake at this ⊢
    rw [List.take_left]
    rwa [List.take_length] at this
  unfold frzL
  show (if S.length ≤ S.length ∧ S.length + 1 = (S ++ [Ce.lst ds]).length ∧ okTake S.length (S ++ [.lst ds]) = true then _ else _) = _
  rw [if_pos ⟨Nat.le_refl _, by simp, k⟩]
  have e : (S ++ [Ce.lst ds])[S.length]? = some (.lst ds) := by simp
  rw [e]
  show RE.ok (Sl.dat (.lst ds)) _ = _
  rw [List.take_left]
theorem plain_upd {S : List Ce} {j : Nat} {cs : List D} (h : plain S = true) : plain (S.set j (.lst cs)) = true := plain_set h
/-- [ draw for .. in .. ] -/
theorem mLc_draw {j jd q M : Nat} {it : MI} {elt : ME} {ρ : List Sl} {P : D → Prop} {S : List Ce} {cs ds : List D} {N : Nat} (hit : it ρ S = .ok ds S) (hp : plain S = true) (hS : S[jd]? = some (.lst cs)) (hd : Dice cs N) (hM : N + q * ds.length < M) (hl : ds.length ≤ 1000)
    (he : ∀ (S : List Ce) (cs : List D) (N : Nat) (d : D), S[jd]? = some (.lst cs) → Dice cs N → N < M → ∃ y cs', P y ∧ elt (ρ.set j (.dat d)) S = .ok (.dat y) (S.set jd (.lst cs')) ∧ Dice cs' (N + q)) :
    ∃ ys cs', mLc j it tYes' elt ρ S = .ok (.dat (.lst ys)) (S.set jd (.lst cs')) ∧ ys.length = ds.length ∧ (∀ y ∈ ys, P y) ∧ Dice cs' (N + q * ds.length) := by
  obtain ⟨ys, cs', e, h1, h2, h3⟩ := lc_draw he ds S cs [] N rfl hS hd hM (by simpa using hl)
  refine ⟨ys, cs', ?_, h1, h2, h3⟩
  unfold mLc mLcO
  rw [hit, RE.ok_bind, e, RE.ok_bind, List.nil_append]
  have := frzL_new (S := S.set jd (.lst cs')) (ds := ys) (plain_set hp)
  rw [List.length_set] at this
  exact this
end Mir

/-! The reading of a length, over lists of signs. -/
namespace Mir
open PySem PySem.Spec L2
def sizeI (o u : Int) : Int := (2 * (if o < 0 then -o else o) + u) / (2 * u)
def roundI (o u : Int) : Int := if o < 0 then -(sizeI o u) else sizeI o u
def pad9 (l : List Nat) : List Nat := l ++ List.replicate (9 - l.length) 48
def ptR : List Nat → Option Nat
  | [112, 116] => none
  | 112 :: 116 :: _ => some 2
  | 112 :: _ => some 1
  | _ => some 0
def uR : List Nat → Option Nat
  | [117] => none
  | 117 :: _ => some 1
  | _ => some 0
def dotR (D F : List Nat) : Except Nat Int :=
  if (F.takeWhile dg).length = 0 then .error (D.length + 1) else if 9 < (F.takeWhile dg).length then .error (D.length + 10) else match ptR (F.dropWhile dg) with
    | some j => .error (D.length + 1 + (F.takeWhile dg).length + j)
    | none => .ok (roundI (valL (D ++ pad9 (F.takeWhile dg)) * 65536) 1000000000)
def sizeDT (D T : List Nat) : Except Nat Int :=
  if 10 < D.length then .error 10 else if T[0]? = some 46 ∧ D.length ≤ 5 then dotR D (T.drop 1) else if D.length = 0 then .error 0 else
    if T[0]? = some 117 ∨ 5 < D.length then (match uR T with | some j => .error (D.length + j) | none => .ok (valL D))
    else match ptR T with | some j => .error (D.length + j) | none => .ok (valL D * 65536)
def sizeR (r : List Nat) : Except Nat Int := sizeDT (r.takeWhile dg) (r.dropWhile dg)
/-! ### the law's -/
def begunR (r : List Nat) : Bool :=
  let T := r.dropWhile dg
  let m := r.length - T.length
  if T = [] then decide (m ≤ 10) else if T = [117] then decide (1 ≤ m ∧ m ≤ 10) else if T = [112] ∨ T = [112, 116] then decide (1 ≤ m ∧ m ≤ 5) else
    if T[0]? ≠ some 46 ∨ 5 < m then false else
      let A := (T.drop 1).dropWhile dg
      let k := T.length - 1 - A.length
      if A = [] then decide (k ≤ 9) else decide ((A = [112] ∨ A = [112, 116]) ∧ 1 ≤ k ∧ k ≤ 9)
def pointsR (p : List Nat) : Option Int :=
  let a := p.takeWhile (· != 46)
  let b := (p.dropWhile (· != 46)).drop 1
  if 46 ∈ b ∨ 5 < a.length ∨ ¬ (∀ c ∈ p, dg c = true ∨ c = 46) then none else
    if 46 ∉ p then (if p = [] then none else some (valL p * 65536)) else
      if b.length < 1 ∨ 9 < b.length then none else some (roundI (valL (a ++ b) * 65536) (10 ^ b.length))
def unitsR (r : List Nat) : Option Int :=
  if r.drop (r.length - 1) = [117] then
    let s := r.take (r.length - 1)
    if ¬ (1 ≤ s.length ∧ s.length ≤ 10) ∨ ¬ (∀ c ∈ s, dg c = true) then none else some (valL s)
  else if r.drop (r.length - 2) ≠ [112, 116] then none else pointsR (r.take (r.length - 2))
def AllD (l : List Nat) : Prop := ∀ c ∈ l, dg c = true
def NoD (l : List Nat) : Prop := ∀ x, l[0]? = some x → dg x = false
theorem tw_dt {D T : List Nat} (hD : AllD D) (hT : NoD T) : (D ++ T).takeWhile dg = D ∧ (D ++ T).dropWhile dg = T := by
  have h0 : T.takeWhile dg = [] ∧ T.dropWhile dg = T := by
    cases T with
    | nil => exact ⟨rfl, rfl⟩
    | cons x r =>
      have := hT x rfl
      exact ⟨List.takeWhile_cons_of_neg (by rw [this]; decide), List.dropWhile_cons_of_neg (by rw [this]; decide)⟩
  rw [List.takeWhile_append_of_pos hD, List.dropWhile_append_of_pos hD, h0.1, h0.2, List.append_nil]
  exact ⟨rfl, rfl⟩
theorem allD_tw (r : List Nat) : AllD (r.takeWhile dg) := fun c h => of_tw h
theorem noD_dw : ∀ r : List Nat, NoD (r.dropWhile dg)
  | [] => fun x h => nomatch h
  | y :: r => by
    cases hy : dg y with
    | true => rw [List.dropWhile_cons_of_pos hy]; exact noD_dw r
    | false =>
      rw [List.dropWhile_cons_of_neg (by rw [hy]; decide)]
      intro x h
      cases h
      exact hy
def tl2 (F : List Nat) : Bool :=
  if F.dropWhile dg = [] then decide (F.length - (F.dropWhile dg).length ≤ 9) else decide ((F.dropWhile dg = [112] ∨ F.dropWhile dg = [112, 116]) ∧ 1 ≤ F.length - (F.dropWhile dg).length ∧ F.length - (F.dropWhile dg).length ≤ 9)
def tlb (m : Nat) (T : List Nat) : Bool :=
  if T = [] then decide (m ≤ 10) else if T = [117] then decide (1 ≤ m ∧ m ≤ 10) else if T = [112] ∨ T = [112, 116] then decide (1 ≤ m ∧ m ≤ 5) else
    if T[0]? ≠ some 46 ∨ 5 < m then false else tl2 (T.drop 1)
theorem begun_dt {D T : List Nat} (hD : AllD D) (hT : NoD T) : begunR (D ++ T) = tlb D.length T := by
  unfold begunR tlb tl2
  dsimp only
  rw [(tw_dt hD hT).2, List.length_append, Nat.add_sub_cancel, List.length_drop]
theorem noD_nil : NoD [] := fun x h => nomatch h
theorem noD_take {T : List Nat} (h : NoD T) (q : Nat) : NoD (T.take q) := fun x e => h x (by
  rw [List.getElem?_take] at e
  split at e
  · exact e
  · cases e)
theorem allD_take {D : List Nat} (h : AllD D) (q : Nat) : AllD (D.take q) := fun c hc => h c (List.mem_of_mem_take hc)
theorem take_le {D T : List Nat} {p : Nat} (hD : AllD D) (hp : p ≤ D.length) : begunR ((D ++ T).take p) = decide (p ≤ 10) := by
  rw [List.take_append_of_le_length hp]
  have h := begun_dt (allD_take hD p) noD_nil
  rw [List.append_nil, List.length_take, Nat.min_eq_left hp] at h
  exact h
theorem take_gt {D T : List Nat} {q : Nat} (hD : AllD D) (hT : NoD T) : begunR ((D ++ T).take (D.length + q)) = tlb D.length (T.take q) := by
  rw [List.take_length_add_append]
  exact begun_dt hD (noD_take hT q)
theorem pre_dt {D T : List Nat} {i : Nat} (hD : AllD D) (hT : NoD T) (h1 : ∀ p, p ≤ i → p ≤ D.length → p ≤ 10) (h2 : ∀ q, 0 < q → D.length + q ≤ i → tlb D.length (T.take q) = true) (p : Nat) (hp : p ≤ i) : begunR ((D ++ T).take p) = true := by
  by_cases h : p ≤ D.length
  · rw [take_le hD h]
    exact decide_eq_true (h1 p hp h)
  · have e : p = D.length + (p - D.length) := by omega
    rw [e, take_gt hD hT]
    exact h2 _ (by omega) (by omega)
/-! ### the end of a text -/
theorem end_one (s : List Nat) (x : Nat) : (s ++ [x]).drop ((s ++ [x]).length - 1) = [x] ∧ (s ++ [x]).take ((s ++ [x]).length - 1) = s := by
  have : (s ++ [x]).length - 1 = s.length := by simp
  rw [this, List.drop_left, List.take_left]
  exact ⟨rfl, rfl⟩
theorem end_two (s : List Nat) (x y : Nat) : (s ++ [x, y]).drop ((s ++ [x, y]).length - 2) = [x, y] ∧ (s ++ [x, y]).take ((s ++ [x, y]).length - 2) = s := by
  have : (s ++ [x, y]).length - 2 = s.length := by simp
  rw [this, List.drop_left, List.take_left]
  exact ⟨rfl, rfl⟩
theorem units_u {s : List Nat} (h : AllD s) (h1 : 1 ≤ s.length) (h2 : s.length ≤ 10) : unitsR (s ++ [117]) = some (valL s) := by
  unfold unitsR
  rw [(end_one s 117).1, if_pos rfl, (end_one s 117).2]
  dsimp only
  rw [if_neg]
  rintro (q | q)
  · exact q ⟨h1, h2⟩
  · exact q h
theorem units_pt (s : List Nat) : unitsR (s ++ [112, 116]) = pointsR s := by
  unfold unitsR
  have e : s ++ [112, 116] = (s ++ [112]) ++ [116] := by simp
  rw [if_neg (by rw [e, (end_one (s ++ [112]) 116).1]; decide), (end_two s 112 116).1, if_neg (by simp), (end_two s 112 116).2]
theorem units_last {s : List Nat} {x : Nat} (h1 : x ≠ 117) (h2 : x ≠ 116) : unitsR (s ++ [x]) = none := by
  unfold unitsR
  rw [(end_one s x).1, if_neg (by simp [h1]), if_pos]
  intro h
  rcases List.eq_nil_or_concat s with rfl | ⟨t, y, rfl⟩
  · simp at h
  · rw [List.concat_eq_append, List.append_assoc] at h
    have := (end_two t y x).1
    rw [show [y] ++ [x] = [y, x] from rfl, this] at h
    simp at h
    exact h2 h.2
theorem units_nil : unitsR [] = none := by decide +kernel
theorem dg_ne {c : Nat} (h : dg c = true) : c ≠ 46 ∧ c ≠ 112 ∧ c ≠ 116 ∧ c ≠ 117 := by
  unfold dg at h
  rw [Bool.and_eq_true, decide_eq_true_eq, decide_eq_true_eq] at h
  omega
theorem allD_no {s : List Nat} (h : AllD s) : 46 ∉ s := fun m => (dg_ne (h 46 m)).1 rfl
theorem units_dig {s : List Nat} (D : List Nat) (h : AllD D) (h0 : D ≠ []) : unitsR (s ++ D) = none := by
  rcases List.eq_nil_or_concat D with rfl | ⟨t, y, rfl⟩
  · exact absurd rfl h0
  · rw [List.concat_eq_append] at h ⊢
    have hy := dg_ne (h y (by simp))
    rw [← List.append_assoc]
    exact units_last hy.2.2.2 hy.2.2.1
theorem points_int {s : List Nat} (h : AllD s) (h0 : s ≠ []) (h5 : s.length ≤ 5) : pointsR s = some (valL s * 65536) := by
  have n := allD_no h
  unfold pointsR
  dsimp only
  rw [dw46 n, tw46 n, if_neg, if_pos n, if_neg h0]
  rintro (q | q | q)
  · cases q
  · omega
  · exact q fun c hc => .inl (h c hc)
theorem points_dec {s A : List Nat} (h : AllD s) (hA : AllD A) (h5 : s.length ≤ 5) (h1 : 1 ≤ A.length) (h9 : A.length ≤ 9) : pointsR (s ++ 46 :: A) = some (roundI (valL (s ++ A) * 65536) (10 ^ A.length)) := by
  have n := allD_no h
  have np : ∀ a ∈ s, (fun x : Nat => x != 46) a = true := fun a ha => by
    have := (dg_ne (h a ha)).1
    simp [this]
  unfold pointsR
  dsimp only
  rw [List.takeWhile_append_of_pos np, List.dropWhile_append_of_pos np, List.takeWhile_cons_of_neg (by decide), List.dropWhile_cons_of_neg (by decide), List.append_nil]
  rw [show (46 :: A).drop 1 = A from rfl, if_neg, if_neg (by simp), if_neg (by omega)]
  rintro (q | q | q)
  · exact allD_no hA q
  · omega
  · refine q fun c hc => ?_
    rcases List.mem_append.mp hc with hc | hc
    · exact .inl (h c hc)
    · rcases List.mem_cons.mp hc with rfl | hc
      · exact .inr rfl
      · exact .inl (hA c hc)
/-! ### rounding -/
theorem val_zeros (l : List Nat) (k : Nat) : valL (l ++ List.replicate k 48) = valL l * 10 ^ k := by
  unfold valL NumText.digitsVal
  rw [List.foldl_append]
  generalize List.foldl (fun acc c => acc * 10 + (c - 48)) 0 l = a
  induction k generalizing a with
  | zero => simp
  | succ k ih =>
    rw [List.replicate_succ, List.foldl_cons, ih, Int.pow_succ]
    push_cast
    rw [Int.mul_comm (10 ^ k) 10, ← Int.mul_assoc]
    simp
theorem size_scale {x u c : Int} (hx : 0 ≤ x) (hc : 0 < c) : roundI (x * c) (u * c) = roundI x u := by
  have h1 : ¬ x < 0 := by omega
  have h2 : ¬ x * c < 0 := by have := Int.mul_nonneg hx (Int.le_of_lt hc); omega
  unfold roundI sizeI
  rw [if_neg h1, if_neg h2, if_neg h1, if_neg h2]
  have e1 : 2 * (x * c) + u * c = (2 * x + u) * c := by rw [Int.add_mul, Int.mul_assoc]
  have e2 : 2 * (u * c) = 2 * u * c := by rw [Int.mul_assoc]
  rw [e1, e2, Int.mul_ediv_mul_of_pos_left _ _ hc]
theorem val_nn (l : List Nat) : 0 ≤ valL l := Int.natCast_nonneg _
theorem round_pad {D A : List Nat} (h : A.length ≤ 9) : roundI (valL (D ++ pad9 A) * 65536) 1000000000 = roundI (valL (D ++ A) * 65536) (10 ^ A.length) := by
  unfold pad9
  rw [← List.append_assoc, val_zeros]
  have e : (1000000000 : Int) = 10 ^ A.length * 10 ^ (9 - A.length) := by
    rw [← Int.pow_add, Nat.add_sub_cancel' h] <;> rfl
  have e2 : valL (D ++ A) * 10 ^ (9 - A.length) * 65536 = valL (D ++ A) * 65536 * 10 ^ (9 - A.length) := by
    rw [Int.mul_assoc, Int.mul_comm (10 ^ (9 - A.length)) 65536, Int.mul_assoc]
  rw [e2]
  conv => lhs; rw [e]
  exact size_scale (Int.mul_nonneg (val_nn _) (by decide)) (Int.pow_pos (by decide))
/-! ### the two readings agree -/
def Rd (r : List Nat) : Except Nat Int → Prop
  | .error i => i ≤ r.length ∧ (∀ p, p ≤ i → begunR (r.take p) = true) ∧ (i < r.length → begunR (r.take (i + 1)) = false) ∧ (i = r.length → unitsR r = none)
  | .ok v => (∀ p, begunR (r.take p) = true) ∧ unitsR r = some v
end Mir

/-! Decimal digits of numbers, as lists of signs. -/
namespace Mir
open PySem PySem.Spec L2
def dec (n : Nat) : List Nat := (Nat.toDigits 10 n).map Char.toNat
theorem cl_num (n : Nat) : cl (Str.ofString (toString ((n : Nat) : Int))) = dec n := PySem.W.KIN.signs_num n
theorem num_mk (n : Nat) : Str.ofString (toString ((n : Nat) : Int)) = mk (dec n) := by rw [← cl_num, mk_cl]
theorem digit_code : ∀ d : Nat, d < 10 → (Nat.digitChar d).toNat = 48 + d := by decide
theorem dec_small {n : Nat} (h : n < 10) : dec n = [48 + n] := by
  unfold dec
  rw [Nat.toDigits_of_lt_base h]
  show [(Nat.digitChar n).toNat] = _
  rw [digit_code n h]
theorem dec_big {n : Nat} (h : 10 ≤ n) : dec n = dec (n / 10) ++ [48 + n % 10] := by
  have hm : n % 10 < 10 := Nat.mod_lt n (by decide)
  have t := Nat.toDigits_append_toDigits (b := 10) (n := n / 10) (d := n % 10) (by decide) (by omega) hm
  rw [Nat.div_add_mod] at t
  unfold dec
  rw [← t, List.map_append, Nat.toDigits_of_lt_base hm]
  show _ ++ [(Nat.digitChar (n % 10)).toNat] = _
  rw [digit_code _ hm]
theorem dec_pos : ∀ n : Nat, 1 ≤ (dec n).length := fun n => by
  by_cases h : n < 10
  · rw [dec_small h]; simp
  · rw [dec_big (by omega), List.length_append]; simp
/-- just s digits -/
def fx : Nat → Nat → List Nat
  | 0, _ => []
  | s + 1, r => fx s (r / 10) ++ [48 + r % 10]
theorem fx_succ (s r : Nat) : fx (s + 1) r = fx s (r / 10) ++ [48 + r % 10] := rfl
theorem fx_len : ∀ s r, (fx s r).length = s
  | 0, _ => rfl
  | s + 1, r => by unfold fx; rw [List.length_append, fx_len s]; rfl
theorem fx_zero : ∀ s, fx s 0 = List.replicate s 48
  | 0 => rfl
  | s + 1 => by
    unfold fx
    rw [show 0 / 10 = 0 from rfl, fx_zero s, List.replicate_succ'] <;> rfl
/-- at least s + 1 digits -/
def padd (s n : Nat) : List Nat := List.replicate (s + 1 - (dec n).length) 48 ++ dec n
theorem padd_succ (s n : Nat) : padd (s + 1) n = padd s (n / 10) ++ [48 + n % 10] := by
  unfold padd
  by_cases h : n < 10
  · rw [dec_small h, show n / 10 = 0 by omega, dec_small (show 0 < 10 by decide), show n % 10 = n by omega]
    show List.replicate (s + 1) 48 ++ [48 + n] = List.replicate s 48 ++ [48] ++ [48 + n]
    rw [List.replicate_succ']
  · rw [dec_big (n := n) (by omega), List.length_append, ← List.append_assoc]
    congr 3
    simp
theorem mod_div (n s : Nat) : n % 10 ^ (s + 1) / 10 = n / 10 % 10 ^ s := by
  rw [Nat.pow_succ, Nat.mul_comm, Nat.mod_mul_right_div_self]
theorem mod_mod (n s : Nat) : n % 10 ^ (s + 1) % 10 = n % 10 := Nat.mod_mod_of_dvd n (by rw [Nat.pow_succ]; exact Nat.dvd_mul_left 10 (10 ^ s))
theorem padd_eq : ∀ s n : Nat, padd s n = dec (n / 10 ^ s) ++ fx s (n % 10 ^ s)
  | 0, n => by
    have := dec_pos n
    unfold padd fx
    rw [show 0 + 1 - (dec n).length = 0 by omega]
    simp
  | s + 1, n => by
    rw [padd_succ, padd_eq s (n / 10), fx_succ, mod_div, mod_mod, Nat.div_div_eq_div_mul, Nat.pow_succ, Nat.mul_comm 10, List.append_assoc]
theorem fx_pad : ∀ (s r : Nat), r < 10 ^ (s + 1) → List.replicate (s + 1 - (dec r).length) 48 ++ dec r = fx (s + 1) r
  | s, r, h => by
    have := padd_eq s r
    unfold padd at this
    rw [this]
    have hq : r / 10 ^ s < 10 := by
      rw [Nat.div_lt_iff_lt_mul (Nat.pow_pos (by decide)), Nat.mul_comm, ← Nat.pow_succ]
      exact h
    clear this
    induction s generalizing r with
    | zero =>
      rw [Nat.pow_zero, Nat.div_one] at hq ⊢
      rw [dec_small hq]
      show [48 + r] ++ [] = [] ++ [48 + r % 10]
      rw [show r % 10 = r by omega] <;> rfl
    | succ s ih =>
      show dec (r / 10 ^ (s + 1)) ++ (fx s (r % 10 ^ (s + 1) / 10) ++ [48 + r % 10 ^ (s + 1) % 10]) = fx (s + 1) (r / 10) ++ [48 + r % 10]
      have h' : r / 10 < 10 ^ (s + 1) := by
        rw [Nat.div_lt_iff_lt_mul (by decide), ← Nat.pow_succ]
        exact h
      have e : r / 10 / 10 ^ s = r / 10 ^ (s + 1) := by rw [Nat.div_div_eq_div_mul, Nat.pow_succ, Nat.mul_comm 10]
      rw [mod_div, mod_mod, ← ih (r / 10) h' (by rw [e]; exact hq), e, List.append_assoc]
theorem allD_dec (n : Nat) : AllD (dec n) := fun c hc => by
  induction n using Nat.strongRecOn with
  | _ n ih =>
    by_cases h : n < 10
    · rw [dec_small h] at hc
      rw [List.mem_singleton.mp hc]
      unfold dg
      rw [Bool.and_eq_true, decide_eq_true_eq, decide_eq_true_eq]
      omega
    · rw [dec_big (by omega)] at hc
      rcases List.mem_append.mp hc with hc | hc
      · exact ih (n / 10) (by omega) hc
      · rw [List.mem_singleton.mp hc]
        unfold dg
        rw [Bool.and_eq_true, decide_eq_true_eq, decide_eq_true_eq]
        omega
theorem allD_fx : ∀ (s r : Nat), AllD (fx s r)
  | 0, r => fun c hc => nomatch hc
  | s + 1, r => fun c hc => by
    unfold fx at hc
    rcases List.mem_append.mp hc with hc | hc
    · exact allD_fx s _ c hc
    · rw [List.mem_singleton.mp hc]
      unfold dg
      rw [Bool.and_eq_true, decide_eq_true_eq, decide_eq_true_eq]
      omega
theorem val_dec (n : Nat) : valL (dec n) = n := by
  unfold valL
  exact congrArg (fun k : Nat => (k : Int)) (PySem.W.KIN.val_back n)
theorem val_snoc (l : List Nat) (d : Nat) : valL (l ++ [48 + d]) = valL l * 10 + d := by
  unfold valL NumText.digitsVal
  rw [List.foldl_append]
  show ((_ * 10 + (48 + d - 48) : Nat) : Int) = _
  rw [Nat.add_sub_cancel_left]
  push_cast
  rfl
theorem val_fx : ∀ (s r : Nat) (l : List Nat), r < 10 ^ s → valL (l ++ fx s r) = valL l * 10 ^ s + r
  | 0, r, l, h => by
    have : r = 0 := by simpa using h
    subst this
    unfold fx
    simp
  | s + 1, r, l, h => by
    unfold fx
    have h' : r / 10 < 10 ^ s := by
      rw [Nat.div_lt_iff_lt_mul (by decide), ← Nat.pow_succ]
      exact h
    have e : valL l * 10 ^ s * 10 = valL l * 10 ^ (s + 1) := by rw [Int.mul_assoc, ← Int.pow_succ]
    rw [← List.append_assoc, val_snoc, val_fx s (r / 10) l h', Int.add_mul, e]
    have := Nat.div_add_mod r 10
    omega
theorem dec_len {n k : Nat} (hk : 1 ≤ k) (h : n < 10 ^ k) : (dec n).length ≤ k := by
  induction k generalizing n with
  | zero => omega
  | succ k ih =>
    by_cases h1 : n < 10
    · rw [dec_small h1]; simp
    · rw [dec_big (by omega), List.length_append]
      have hk' : 1 ≤ k := by
        cases k with
        | zero => simp at h; omega
        | succ k => omega
      have := ih hk' (n := n / 10) (by rw [Nat.div_lt_iff_lt_mul (by decide), ← Nat.pow_succ]; exact h)
      simp
      exact this
end Mir

namespace Mir
open PySem PySem.Spec L2
theorem pt_cases (B : List Nat) : (B = [112, 116] ∧ ptR B = none) ∨ (∃ z R, B = 112 :: 116 :: z :: R ∧ ptR B = some 2) ∨ (B = [112] ∧ ptR B = some 1) ∨
    (∃ y R, B = 112 :: y :: R ∧ y ≠ 116 ∧ ptR B = some 1) ∨ (B = [] ∧ ptR B = some 0) ∨ (∃ x R, B = x :: R ∧ x ≠ 112 ∧ ptR B = some 0) := by
  match B with
  | [] => exact .inr (.inr (.inr (.inr (.inl ⟨rfl, rfl⟩))))
  | x :: R =>
    by_cases hx : x = 112
    · subst hx
      match R with
      | [] => exact .inr (.inr (.inl ⟨rfl, rfl⟩))
      | y :: R =>
        by_cases hy : y = 116
        · subst hy
          match R with
          | [] => exact .inl ⟨rfl, rfl⟩
          | z :: R => exact .inr (.inl ⟨z, R, rfl, rfl⟩)
        · refine .inr (.inr (.inr (.inl ⟨y, R, rfl, hy, ?_⟩)))
          unfold ptR
          split
          · rename_i h; cases h; exact absurd rfl hy
          · rename_i h; cases h; exact absurd rfl hy
          · rfl
          · rename_i h; exact absurd rfl (h _)
    · refine .inr (.inr (.inr (.inr (.inr ⟨x, R, rfl, hx, ?_⟩))))
      unfold ptR
      split
      · rename_i h; cases h; exact absurd rfl hx
      · rename_i h; cases h; exact absurd rfl hx
      · rename_i h; cases h; exact absurd rfl hx
      · rfl
theorem u_cases (B : List Nat) : (B = [117] ∧ uR B = none) ∨ (∃ z R, B = 117 :: z :: R ∧ uR B = some 1) ∨ (B = [] ∧ uR B = some 0) ∨ (∃ x R, B = x :: R ∧ x ≠ 117 ∧ uR B = some 0) := by
  match B with
  | [] => exact .inr (.inr (.inl ⟨rfl, rfl⟩))
  | x :: R =>
    by_cases hx : x = 117
    · subst hx
      match R with
      | [] => exact .inl ⟨rfl, rfl⟩
      | y :: R => exact .inr (.inl ⟨y, R, rfl, rfl⟩)
    · refine .inr (.inr (.inr ⟨x, R, rfl, hx, ?_⟩))
      unfold uR
      split
      · rename_i h; cases h; exact absurd rfl hx
      · rename_i h; cases h; exact absurd rfl hx
      · rfl
def tB (k : Nat) (B : List Nat) : Bool := if B = [] then decide (k ≤ 9) else decide ((B = [112] ∨ B = [112, 116]) ∧ 1 ≤ k ∧ k ≤ 9)
theorem tl2_dt {A B : List Nat} (hA : AllD A) (hB : NoD B) : tl2 (A ++ B) = tB A.length B := by
  unfold tl2 tB
  rw [(tw_dt hA hB).2, List.length_append, Nat.add_sub_cancel]
theorem tlb_dot {m : Nat} {F : List Nat} (h : m ≤ 5) : tlb m (46 :: F) = tl2 F := by
  unfold tlb
  rw [if_neg (by simp), if_neg (by simp), if_neg (by simp), if_neg (by simp; omega)] <;> rfl
theorem pre_dot {D A B : List Nat} {i : Nat} (hD : AllD D) (hA : AllD A) (hB : NoD B) (h5 : D.length ≤ 5) (h1 : ∀ s, s ≤ A.length → D.length + 1 + s ≤ i → s ≤ 9) (h2 : ∀ s, 0 < s → D.length + 1 + A.length + s ≤ i → tB A.length (B.take s) = true) (p : Nat) (hp : p ≤ i) :
    begunR ((D ++ 46 :: (A ++ B)).take p) = true := by
  refine pre_dt hD (T := 46 :: (A ++ B)) (i := i) (fun x h => by cases h; rfl) (fun p _ h => by omega) (fun q q0 hq => ?_) p hp
  obtain ⟨q, rfl⟩ : ∃ k, q = k + 1 := ⟨q - 1, by omega⟩
  rw [List.take_succ_cons, tlb_dot h5]
  by_cases h : q ≤ A.length
  · rw [List.take_append_of_le_length h]
    have e := tl2_dt (allD_take hA q) noD_nil
    rw [List.append_nil, List.length_take, Nat.min_eq_left h] at e
    rw [e]
    exact decide_eq_true (h1 q h (by omega))
  · obtain ⟨s, rfl⟩ : ∃ s, q = A.length + s := ⟨q - A.length, by omega⟩
    rw [List.take_length_add_append, tl2_dt hA (noD_take hB s)]
    exact h2 s (by omega) (by omega)
theorem bad_dot {D A B : List Nat} {s : Nat} (hD : AllD D) (hA : AllD A) (hB : NoD B) (h5 : D.length ≤ 5) (h : tB A.length (B.take s) = false) : begunR ((D ++ 46 :: (A ++ B)).take (D.length + 1 + A.length + s)) = false := by
  rw [show D.length + 1 + A.length + s = D.length + (A.length + s + 1) by omega, take_gt hD (fun x h => by cases h; rfl), List.take_succ_cons, tlb_dot h5, List.take_length_add_append, tl2_dt hA (noD_take hB s)]
  exact h
theorem rd_dot {D A B : List Nat} (hD : AllD D) (hA : AllD A) (hB : NoD B) (h5 : D.length ≤ 5) : Rd (D ++ 46 :: (A ++ B)) (dotR D (A ++ B)) := by
  have hl : (D ++ 46 :: (A ++ B)).length = D.length + 1 + A.length + B.length := by simp; omega
  have e1 := tw_dt hA hB
  unfold dotR
  rw [e1.1, e1.2]
  by_cases k0 : A.length = 0
  · rw [if_pos k0]
    have a0 := List.eq_nil_of_length_eq_zero k0
    subst a0
    refine ⟨by rw [hl]; omega, fun p hp => pre_dot hD hA hB h5 (fun s h _ => by simp at h; omega) (fun s h0 h => by simp at h; omega) p hp, fun hlt => ?_, fun he => ?_⟩
    · have := bad_dot (s := 1) hD hA hB h5 (by
        cases B with
        | nil => rw [hl] at hlt; simp at hlt
        | cons x R => simp [tB])
      exact this
    · have : B = [] := List.eq_nil_of_length_eq_zero (by rw [hl, List.length_nil] at he; omega)
      subst this
      exact units_last (s := D) (x := 46) (by decide) (by decide)
  · rw [if_neg k0]
    by_cases k9 : 9 < A.length
    · rw [if_pos k9]
      refine ⟨by rw [hl]; omega, fun p hp => pre_dot (i := D.length + 10) hD hA hB h5 (fun s h h' => by omega) (fun s h0 h => by omega) p hp, fun hlt => ?_, fun he => by rw [hl] at he; omega⟩
      have e := take_gt (D := D) (T := 46 :: (A ++ B)) (q := 11) hD (fun x h => by cases h; rfl)
      rw [List.take_succ_cons, tlb_dot h5, show (A ++ B).take 10 = A.take 10 from List.take_append_of_le_length (by omega)] at e
      have e' := tl2_dt (allD_take hA 10) noD_nil
      rw [List.append_nil, List.length_take, Nat.min_eq_left (by omega)] at e'
      rw [show D.length + 10 + 1 = D.length + 11 by omega, e, e'] <;> rfl
    · rw [if_neg k9]
      have hk : 1 ≤ A.length ∧ A.length ≤ 9 := by omega
      have ok1 : tB A.length [112] = true := by simp [tB, hk.1, hk.2]
      have ok2 : tB A.length [112, 116] = true := by simp [tB, hk.1, hk.2]
      have pre : ∀ i, (∀ s, 0 < s → D.length + 1 + A.length + s ≤ i → tB A.length (B.take s) = true) → ∀ p, p ≤ i → begunR ((D ++ 46 :: (A ++ B)).take p) = true := fun i h p hp => pre_dot hD hA hB h5 (fun s h _ => by omega) h p hp
      rcases pt_cases B with ⟨rfl, e⟩ | ⟨z, R, rfl, e⟩ | ⟨rfl, e⟩ | ⟨y, R, rfl, hy, e⟩ | ⟨rfl, e⟩ | ⟨x, R, rfl, hx, e⟩ <;> rw [e]
      · refine ⟨fun p => pre p (fun s s0 _ => ?_) p (Nat.le_refl _), ?_⟩
        · match s with
          | 1 => exact ok1
          | s + 2 => simpa using ok2
        · have := units_pt (D ++ 46 :: A)
          rw [List.append_assoc] at this
          show unitsR (D ++ 46 :: (A ++ [112, 116])) = _
          rw [show D ++ 46 :: (A ++ [112, 116]) = D ++ (46 :: A ++ [112, 116]) by simp, this, points_dec hD hA h5 hk.1 hk.2, round_pad hk.2]
      · refine ⟨by rw [hl]; simp <;> omega, pre _ (fun s s0 hs => ?_), fun _ => bad_dot (s := 3) hD hA hB h5 (by simp [tB]), fun he => by rw [hl] at he; simp at he <;> omega⟩
        match s, (show s ≤ 2 by omega) with
        | 1, _ => exact ok1
        | 2, _ => exact ok2
      · refine ⟨by rw [hl]; simp <;> omega, pre _ (fun s s0 hs => ?_), fun hlt => by rw [hl] at hlt; simp at hlt <;> omega, fun he => ?_⟩
        · match s, (show s ≤ 1 by omega) with
          | 1, _ => exact ok1
        · have := units_last (s := D ++ 46 :: A) (x := 112) (by decide) (by decide)
          rwa [List.append_assoc] at this
      · refine ⟨by rw [hl]; simp <;> omega, pre _ (fun s s0 hs => ?_), fun _ => bad_dot (s := 2) hD hA hB h5 (by simp [tB, hy]), fun he => by rw [hl] at he; simp at he <;> omega⟩
        match s, (show s ≤ 1 by omega) with
        | 1, _ => exact ok1
      · refine ⟨by rw [hl]; simp, pre _ (fun s s0 hs => by omega), fun hlt => by rw [hl] at hlt; simp at hlt, fun he => ?_⟩
        have := units_dig (s := D ++ [46]) A hA (by rintro rfl; simp at k0)
        simpa using this
      · refine ⟨by rw [hl]; simp, pre _ (fun s s0 hs => by omega), fun _ => bad_dot (s := 1) hD hA hB h5 (by simp [tB, hx]), fun he => by rw [hl] at he; simp at he⟩
theorem rd_dt {D T : List Nat} (hD : AllD D) (hT : NoD T) : Rd (D ++ T) (sizeDT D T) := by
  have hl : (D ++ T).length = D.length + T.length := List.length_append
  unfold sizeDT
  by_cases k10 : 10 < D.length
  · rw [if_pos k10]
    refine ⟨by rw [hl]; omega, fun p hp => pre_dt hD hT (fun p h _ => h) (fun q q0 hq => by omega) p hp, fun _ => by rw [take_le hD (by omega)]; rfl, fun he => by rw [hl] at he; omega⟩
  rw [if_neg k10]
  have pre : ∀ i, (∀ q, 0 < q → D.length + q ≤ i → tlb D.length (T.take q) = true) → ∀ p, p ≤ i → begunR ((D ++ T).take p) = true := fun i h p hp => pre_dt hD hT (fun p _ h => by omega) h p hp
  have bad : ∀ q, tlb D.length (T.take q) = false → begunR ((D ++ T).take (D.length + q)) = false := fun q h => by rw [take_gt hD hT]; exact h
  by_cases hdot : T[0]? = some 46 ∧ D.length ≤ 5
  · rw [if_pos hdot]
    cases T with
    | nil => cases hdot.1
    | cons x F =>
      have : x = 46 := by simpa using hdot.1
      subst this
      have := rd_dot (D := D) (A := F.takeWhile dg) (B := F.dropWhile dg) hD (allD_tw F) (noD_dw F) hdot.2
      rw [List.takeWhile_append_dropWhile] at this
      exact this
  rw [if_neg hdot]
  by_cases k0 : D.length = 0
  · rw [if_pos k0]
    have d0 := List.eq_nil_of_length_eq_zero k0
    subst d0
    refine ⟨by omega, pre 0 (fun q q0 hq => by simp at hq; omega), fun hlt => ?_, fun he => ?_⟩
    · have hx : T[0]? ≠ some 46 := fun h => hdot ⟨h, by simp⟩
      have := bad 1 (by
        cases T with
        | nil => simp at hlt
        | cons x R =>
          have : x ≠ 46 := by simpa using hx
          simp [tlb, this])
      simpa using this
    · rw [hl] at he
      have : T = [] := List.eq_nil_of_length_eq_zero (by simp at he; omega)
      subst this
      exact units_nil
  rw [if_neg k0]
  by_cases hu : T[0]? = some 117 ∨ 5 < D.length
  · rw [if_pos hu]
    have oku : tlb D.length [117] = true := by simp [tlb]; omega
    rcases u_cases T with ⟨rfl, e⟩ | ⟨z, R, rfl, e⟩ | ⟨rfl, e⟩ | ⟨x, R, rfl, hx, e⟩ <;> rw [e]
    · refine ⟨fun p => pre p (fun s s0 _ => ?_) p (Nat.le_refl _), units_u hD (by omega) (by omega)⟩
      match s with
      | s + 1 => simpa using oku
    · refine ⟨by rw [hl]; simp, pre _ (fun s s0 hs => ?_), fun _ => bad 2 (by simp [tlb]), fun he => by rw [hl] at he; simp at he⟩
      match s, (show s ≤ 1 by omega) with
      | 1, _ => exact oku
    · refine ⟨by rw [hl]; simp, pre _ (fun s s0 hs => by omega), fun hlt => by rw [hl] at hlt; simp at hlt, fun he => ?_⟩
      have := units_dig (s := []) D hD (by rintro rfl; simp at k0)
      simpa using this
    · refine ⟨by rw [hl]; simp, pre _ (fun s s0 hs => by omega), fun _ => bad 1 ?_, fun he => by rw [hl] at he; simp at he⟩
      have h5 : 5 < D.length := by
        rcases hu with h | h
        · simp at h; exact absurd h hx
        · exact h
      show tlb D.length [x] = false
      unfold tlb
      rw [if_neg (by simp), if_neg (by simp [hx])]
      split
      · exact decide_eq_false (by omega)
      · rw [if_pos (.inr h5)]
  · rw [if_neg hu]
    have h5 : D.length ≤ 5 := by
      by_cases h : 5 < D.length
      · exact absurd (.inr h) hu
      · omega
    have hu' : T[0]? ≠ some 117 := fun h => hu (.inl h)
    have hd' : T[0]? ≠ some 46 := fun h => hdot ⟨h, h5⟩
    have ok1 : tlb D.length [112] = true := by simp [tlb]; omega
    have ok2 : tlb D.length [112, 116] = true := by simp [tlb]; omega
    rcases pt_cases T with ⟨rfl, e⟩ | ⟨z, R, rfl, e⟩ | ⟨rfl, e⟩ | ⟨y, R, rfl, hy, e⟩ | ⟨rfl, e⟩ | ⟨x, R, rfl, hx, e⟩ <;> rw [e]
    · refine ⟨fun p => pre p (fun s s0 _ => ?_) p (Nat.le_refl _), ?_⟩
      · match s with
        | 1 => exact ok1
        | s + 2 => simpa using ok2
      · rw [units_pt, points_int hD (by rintro rfl; simp at k0) h5]
    · refine ⟨by rw [hl]; simp, pre _ (fun s s0 hs => ?_), fun _ => bad 3 (by simp [tlb]), fun he => by rw [hl] at he; simp at he⟩
      match s, (show s ≤ 2 by omega) with
      | 1, _ => exact ok1
      | 2, _ => exact ok2
    · refine ⟨by rw [hl]; simp, pre _ (fun s s0 hs => ?_), fun hlt => by rw [hl] at hlt; simp at hlt, fun he => units_last (by decide) (by decide)⟩
      match s, (show s ≤ 1 by omega) with
      | 1, _ => exact ok1
    · refine ⟨by rw [hl]; simp, pre _ (fun s s0 hs => ?_), fun _ => bad 2 (by simp [tlb, hy]), fun he => by rw [hl] at he; simp at he⟩
      match s, (show s ≤ 1 by omega) with
      | 1, _ => exact ok1
    · refine ⟨by rw [hl]; simp, pre _ (fun s s0 hs => by omega), fun hlt => by rw [hl] at hlt; simp at hlt, fun he => ?_⟩
      have := units_dig (s := []) D hD (by rintro rfl; simp at k0)
      simpa using this
    · refine ⟨by rw [hl]; simp, pre _ (fun s s0 hs => by omega), fun _ => bad 1 ?_, fun he => by rw [hl] at he; simp at he⟩
      have h1 : x ≠ 117 := by simpa using hu'
      have h2 : x ≠ 46 := by simpa using hd'
      simp [tlb, hx, h1, h2]
theorem reads (r : List Nat) : Rd r (sizeR r) := by
  have := rd_dt (D := r.takeWhile dg) (T := r.dropWhile dg) (allD_tw r) (noD_dw r)
  rwa [List.takeWhile_append_dropWhile] at this
end Mir

/-! The shortest text of a length, over numbers. -/
namespace Mir
open PySem PySem.Spec L2
theorem round_iff {o u z : Int} (ho : 0 ≤ o) (hu : 0 < u) : roundI o u = z ↔ z * (2 * u) ≤ 2 * o + u ∧ 2 * o + u < (z + 1) * (2 * u) := by
  unfold roundI sizeI
  have h : ¬ o < 0 := by omega
  rw [if_neg h, if_neg h]
  have h2 : (0 : Int) < 2 * u := by omega
  constructor
  · rintro rfl
    exact ⟨Int.ediv_mul_le _ (by omega), Int.lt_ediv_add_one_mul_self _ h2⟩
  · rintro ⟨h3, h4⟩
    have a := (Int.le_ediv_iff_mul_le h2).mpr h3
    have b := (Int.ediv_lt_iff_lt_mul h2).mpr h4
    omega
/-- the number nearest to z points of 65536 at the scale p, of two the lesser one -/
def nnum (z p : Int) : Int := (2 * z * p + 65535) / 131072
theorem nnum_nn {z p : Int} (hz : 0 ≤ z) (hp : 0 < p) : 0 ≤ nnum z p := Int.ediv_nonneg (by have := Int.mul_nonneg (show 0 ≤ 2 * z by omega) (Int.le_of_lt hp); omega) (by decide)
/-- leads back -/
def fine (z p m : Int) : Prop := roundI (m * 65536) p = z
instance (z p m : Int) : Decidable (fine z p m) := inferInstanceAs (Decidable (roundI (m * 65536) p = z))
theorem fine_iff {z p m : Int} (hm : 0 ≤ m) (hp : 0 < p) : fine z p m ↔ 2 * (z * p) - p ≤ 131072 * m ∧ 131072 * m < 2 * (z * p) + p := by
  unfold fine
  rw [round_iff (by omega) hp]
  have e1 : z * (2 * p) = 2 * (z * p) := by rw [Int.mul_left_comm]
  have e2 : (z + 1) * (2 * p) = 2 * (z * p) + 2 * p := by rw [Int.add_mul, e1, Int.one_mul]
  rw [e1, e2]
  omega
theorem nnum_bounds (z p : Int) : 131072 * nnum z p ≤ 2 * (z * p) + 65535 ∧ 2 * (z * p) + 65535 < 131072 * nnum z p + 131072 := by
  unfold nnum
  rw [Int.mul_assoc 2 z p]
  omega
theorem fine_near {z p m : Int} (hz : 0 ≤ z) (hp : 0 < p) (hm : 0 ≤ m) (h : fine z p m) : fine z p (nnum z p) := by
  have nn := nnum_nn hz hp
  have b := nnum_bounds z p
  rw [fine_iff hm hp] at h
  rw [fine_iff nn hp]
  generalize z * p = W at *
  generalize nnum z p = n at *
  omega
theorem fine_5 {z : Int} (hz : 0 ≤ z) : fine z 100000 (nnum z 100000) := by
  have nn := nnum_nn hz (show (0 : Int) < 100000 by decide)
  have b := nnum_bounds z 100000
  rw [fine_iff nn (by decide)]
  omega
/-- a number with a 0 at its end tells no more than without it -/
theorem fine_ten {z p m : Int} (hp : 0 < p) (hm : 0 ≤ m) (h : fine z (p * 10) (m * 10)) : fine z p m := by
  rw [fine_iff (by omega) (by omega)] at h
  rw [fine_iff hm hp]
  rw [show z * (p * 10) = z * p * 10 from (Int.mul_assoc ..).symm] at h
  generalize z * p = W at *
  omega
/-- the two candidates -/
theorem near_low (z p : Int) : nnum z p = z * p / 65536 ∨ nnum z p = z * p / 65536 + 1 := by
  have b := nnum_bounds z p
  generalize z * p = W at *
  generalize nnum z p = n at *
  omega
def gap (z p m : Int) : Int := if m * 65536 - z * p < 0 then -(m * 65536 - z * p) else m * 65536 - z * p
theorem near_gap (z p : Int) : (nnum z p = z * p / 65536 + 1 ↔ gap z p (z * p / 65536 + 1) < gap z p (z * p / 65536)) := by
  have b := nnum_bounds z p
  unfold gap
  generalize z * p = W at *
  generalize nnum z p = n at *
  constructor
  · intro h
    split <;> split <;> omega
  · intro h
    split at h <;> split at h <;> omega
theorem pair_lt (a b c d : Int) : PySem.W.dataLt (pyOf (.tup [.int a, .int b])) (pyOf (.tup [.int c, .int d])) = (decide (a < c) || (decide (a = c) && decide (b < d))) := by
  show PySem.W.dataLt (.tuple [.int a, .int b]) (.tuple [.int c, .int d]) = _
  rw [PySem.W.dataLt_tuple]
  by_cases h : a = c
  · subst h
    rw [PySem.W.dataLt_all_yes (x := .int a) (y := .int a) rfl (by show (a == a) = true; simp)]
    by_cases h2 : b = d
    · subst h2
      rw [PySem.W.dataLt_all_yes (x := .int b) (y := .int b) rfl (by show (b == b) = true; simp)]
      simp
      rfl
    · rw [PySem.W.dataLt_all_no (x := .int b) (y := .int d) rfl (by show (b == d) = false; simp [h2]), PySem.W.dataLt_int]
      simp
  · rw [PySem.W.dataLt_all_no (x := .int a) (y := .int c) rfl (by show (a == c) = false; simp [h]), PySem.W.dataLt_int]
    simp [h]
theorem least : ∀ {P : Nat → Prop} [DecidablePred P] (n : Nat), P n → ∃ s, s ≤ n ∧ P s ∧ ∀ t, t < s → ¬ P t := by
  intro P _ n
  induction n using Nat.strongRecOn with
  | _ n ih =>
    intro h
    by_cases hq : ∃ m, m < n ∧ P m
    · obtain ⟨m, h1, h2⟩ := hq
      obtain ⟨s, a, b, c⟩ := ih m h1 h2
      exact ⟨s, by omega, b, c⟩
    · exact ⟨n, Nat.le_refl _, h, fun t ht hp => hq ⟨t, ht, hp⟩⟩
end Mir

set_option maxHeartbeats 4000000
namespace Mir
open PySem PySem.Spec L2
def topS (i : Nat) : Stmt := PySem.Challenge.pw_pagewright_k01_whole_texts_of_lengths.main.body.getD i (.Pass ⟨0, 0, 0, 0⟩)
abbrev s_is_int : Stmt := topS 6
theorem sc_is_int : FnScope ["value"] ["value"] (defScope s_is_int) := ⟨rfl, rfl, rfl, by decide +kernel, rfl, by decide +kernel, by decide +kernel⟩
abbrev s_rounded : Stmt := topS 7
theorem sc_rounded : FnScope ["over", "under", "size"] ["over", "under"] (defScope s_rounded) := ⟨rfl, rfl, rfl, by decide +kernel, rfl, by decide +kernel, by decide +kernel⟩
abbrev s_is_length : Stmt := topS 15
theorem sc_is_length : FnScope ["value"] ["value"] (defScope s_is_length) := ⟨rfl, rfl, rfl, by decide +kernel, rfl, by decide +kernel, by decide +kernel⟩
abbrev s_check_length : Stmt := topS 16
theorem sc_check_length : FnScope ["value"] ["value"] (defScope s_check_length) := ⟨rfl, rfl, rfl, by decide +kernel, rfl, by decide +kernel, by decide +kernel⟩
abbrev s_length_of : Stmt := topS 17
theorem sc_length_of : FnScope ["text", "begin", "size"] ["text"] (defScope s_length_of) := ⟨rfl, rfl, rfl, by decide +kernel, rfl, by decide +kernel, by decide +kernel⟩
abbrev s_size_of : Stmt := topS 18
theorem sc_size_of : FnScope ["text", "begin", "end", "many"] ["text", "begin"] (defScope s_size_of) := ⟨rfl, rfl, rfl, by decide +kernel, rfl, by decide +kernel, by decide +kernel⟩
abbrev s_size_with_decimals : Stmt := topS 19
theorem sc_size_with_decimals : FnScope ["text", "begin", "dot", "end", "decimals"] ["text", "begin", "dot"] (defScope s_size_with_decimals) := ⟨rfl, rfl, rfl, by decide +kernel, rfl, by decide +kernel, by decide +kernel⟩
abbrev s_end_of_digits : Stmt := topS 20
theorem sc_end_of_digits : FnScope ["text", "begin", "most", "end"] ["text", "begin", "most"] (defScope s_end_of_digits) := ⟨rfl, rfl, rfl, by decide +kernel, rfl, by decide +kernel, by decide +kernel⟩
abbrev s_check_name : Stmt := topS 21
theorem sc_check_name : FnScope ["text", "begin", "name", "place"] ["text", "begin", "name"] (defScope s_check_name) := ⟨rfl, rfl, rfl, by decide +kernel, rfl, by decide +kernel, by decide +kernel⟩
abbrev s_text_of_length : Stmt := topS 22
theorem sc_text_of_length : FnScope ["length", "size", "decimals", "power", "number", "text"] ["length"] (defScope s_text_of_length) := ⟨rfl, rfl, rfl, by decide +kernel, rfl, by decide +kernel, by decide +kernel⟩
abbrev s_nearest_number : Stmt := topS 23
theorem sc_nearest_number : FnScope ["size", "power"] ["size", "power"] (defScope s_nearest_number) := ⟨rfl, rfl, rfl, by decide +kernel, rfl, by decide +kernel, by decide +kernel⟩
abbrev s_decimal_text : Stmt := topS 24
theorem sc_decimal_text : FnScope ["number", "decimals", "power", "whole", "rest", "behind_dot"] ["number", "decimals", "power"] (defScope s_decimal_text) := ⟨rfl, rfl, rfl, by decide +kernel, rfl, by decide +kernel, by decide +kernel⟩
abbrev s__law_dice : Stmt := topS 26
theorem sc__law_dice : FnScope ["_law_script", "_law_spot", "_law_cell", "_law_left"] ["_law_script", "_law_spot"] (defScope s__law_dice) := ⟨rfl, rfl, rfl, by decide +kernel, rfl, by decide +kernel, by decide +kernel⟩
abbrev s__law_roll : Stmt := topS 27
theorem sc__law_roll : FnScope ["_law_dice_here", "_law_total", "_law_found", "_law_one", "_law_two"] ["_law_dice_here", "_law_total"] (defScope s__law_roll) := ⟨rfl, rfl, rfl, by decide +kernel, rfl, by decide +kernel, by decide +kernel⟩
abbrev s__law_nearest : Stmt := topS 28
theorem sc__law_nearest : FnScope ["_law_number", "_law_by", "_law_found"] ["_law_number", "_law_by"] (defScope s__law_nearest) := ⟨rfl, rfl, rfl, by decide +kernel, rfl, by decide +kernel, by decide +kernel⟩
abbrev s__law_number_text : Stmt := topS 29
theorem sc__law_number_text : FnScope ["_law_length", "_law_size", "_law_scale", "_law_whole", "_law_low", "_law_gaps", "_law_fine", "_law_digits", "_law_one", "_law_gap"] ["_law_length"] (defScope s__law_number_text) := ⟨rfl, rfl, rfl, by decide +kernel, rfl, by decide +kernel, by decide +kernel⟩
abbrev s__law_length_text : Stmt := topS 30
theorem sc__law_length_text : FnScope ["_law_length"] ["_law_length"] (defScope s__law_length_text) := ⟨rfl, rfl, rfl, by decide +kernel, rfl, by decide +kernel, by decide +kernel⟩
abbrev s__law_drawn_length : Stmt := topS 31
theorem sc__law_drawn_length : FnScope ["_law_dice_here", "_law_way", "_law_found"] ["_law_dice_here"] (defScope s__law_drawn_length) := ⟨rfl, rfl, rfl, by decide +kernel, rfl, by decide +kernel, by decide +kernel⟩
abbrev s__law_right : Stmt := topS 32
theorem sc__law_right : FnScope ["_law_length", "_law_text", "_law_number"] ["_law_length"] (defScope s__law_right) := ⟨rfl, rfl, rfl, by decide +kernel, rfl, by decide +kernel, by decide +kernel⟩
abbrev s_law : Stmt := topS 33
theorem sc_law : FnScope ["_law_script", "_law_spot", "_law_dice_here", "_law_turn", "_law_told", "_law_length"] ["_law_script"] (defScope s_law) := ⟨rfl, rfl, rfl, by decide +kernel, rfl, by decide +kernel, by decide +kernel⟩
abbrev s_ParseError_init : Stmt := inClass (topS 3) 0
/-! error classes: 0 PressError, 1 InvalidLength, 2 ParseError -/
def nk : Nat := 3
def subT : Nat → Nat → Bool := fun i j => ([(0, 0), (1, 0), (1, 1), (2, 0), (2, 2)] : List (Nat × Nat)).contains (i, j)
def k_INTEGER_END : D := .int 1000000000000000000000000000000000000000000000000000000000000
def k_POINT : D := .int 65536
def k_MAX_LENGTH : D := .int 1073741823
def k_MOST_UNIT_DIGITS : D := .int 10
def k_MOST_POINT_DIGITS : D := .int 5
def k_MOST_DECIMALS : D := .int 9
def k_BILLION : D := .int 1000000000
variable [CM : ClsMap]
structure Tx (P : Program) (w : World) (K : PySem.W.Frag) (mg : Str → Option Value) : Prop where
  b_abs : mg "abs" = none
  b_bool : mg "bool" = none
  b_divmod : mg "divmod" = none
  b_int : mg "int" = none
  b_isinstance : mg "isinstance" = none
  b_len : mg "len" = none
  b_max : mg "max" = none
  b_min : mg "min" = none
  b_range : mg "range" = none
  b_str : mg "str" = none
  e_InvalidLength : OwnE K mg "InvalidLength" (CM.A 1)
  g_BILLION : KonD K mg "BILLION" k_BILLION
  g_INTEGER_END : KonD K mg "INTEGER_END" k_INTEGER_END
  g_MAX_LENGTH : KonD K mg "MAX_LENGTH" k_MAX_LENGTH
  g_MOST_DECIMALS : KonD K mg "MOST_DECIMALS" k_MOST_DECIMALS
  g_MOST_POINT_DIGITS : KonD K mg "MOST_POINT_DIGITS" k_MOST_POINT_DIGITS
  g_MOST_UNIT_DIGITS : KonD K mg "MOST_UNIT_DIGITS" k_MOST_UNIT_DIGITS
  g_POINT : KonD K mg "POINT" k_POINT
  x_ParseError : ErrCls K mg "ParseError" "number" (CM.A 2) (CM.A 1002) ∧ InitDoes P w K (CM.A 2) (CM.A 1002) "number"
variable {P : Program} {w : World} {K : PySem.W.Frag} {mg : Str → Option Value} {base : Heap}
def m_is_int (n0 : Nat) : MS :=
  (gRet (mAnd (mBlt isiF (aCons (mVar 0) (aCons (mK (.ty "int")) aNil))) (mAnd (mNot (mBlt isiF (aCons (mVar 0) (aCons (mK (.ty "bool")) aNil)))) (mOp ltF (mBlt absF (aCons (mVar 0) aNil)) (mK k_INTEGER_END)))))
def f_is_int : MF := mkF 0 m_is_int
theorem cal_is_int {fn : Addr} {fd : FuncData} (T : Tx P w K mg)  (F : Fun K "is_int" "is_int" s_is_int fn fd) (hm : mg "is_int" = some (.ref fn)) (hb : Binds K fd ["value"] []) : Cal P w K mg base 1 "is_int" (spM K 1 f_is_int) :=
  fnM F sc_is_int hm hb (fun cdv A outer s H E Fx n0 hr h0 =>
  (ds_one (d1_ret (de_and (de_callB cr_isi rdIsi T.b_isinstance (by decide +kernel) (da_cons (de_var 0) (da_cons (de_ty (n := "int") T.b_int (by decide +kernel)) da_nil))) (de_and (de_not (de_callB cr_isi rdIsi T.b_isinstance (by decide +kernel) (da_cons (de_var 0) (da_cons (de_ty (n := "bool") T.b_bool (by decide +kernel)) da_nil)))) (de_one (de_cmp opLt rdLt (de_callB cr_abs rdAbs T.b_abs (by decide +kernel) (da_cons (de_var 0) da_nil)) (de_glob T.g_INTEGER_END))))))))
def m_rounded (n0 : Nat) : MS :=
  (gSeq (gSet 2 (mOp divF (mOp addF (mOp mulF (mK (.int 2)) (mBlt absF (aCons (mVar 0) aNil))) (mVar 1)) (mOp mulF (mK (.int 2)) (mVar 1))))
  (gSeq (gIf (tOf (mOp ltF (mVar 0) (mK (.int 0))))
  (gRet (mUn negF (mVar 2)))
  gNil)
  (gRet (mVar 2))))
def f_rounded : MF := mkF 1 m_rounded
theorem cal_rounded {fn : Addr} {fd : FuncData} (T : Tx P w K mg)  (F : Fun K "rounded" "rounded" s_rounded fn fd) (hm : mg "rounded" = some (.ref fn)) (hb : Binds K fd ["over", "under"] []) : Cal P w K mg base 1 "rounded" (spM K 2 f_rounded) :=
  fnM F sc_rounded hm hb (fun cdv A outer s H E Fx n0 hr h0 =>
  (ds_cons (d1_set 2 sc_rounded.nd (de_op opDiv rdDiv (de_op opAdd rdAdd (de_op opMul rdMul de_int (de_callB cr_abs rdAbs T.b_abs (by decide +kernel) (da_cons (de_var 0) da_nil))) (de_var 1)) (de_op opMul rdMul de_int (de_var 1))))
  (ds_cons (d1_if (dt_cmp opLt rdLt (de_var 0) de_int)
  (ds_one (d1_ret (de_un un_neg rdNeg (de_var 2))))
  ds_nil)
  (ds_one (d1_ret (de_var 2))))))
def m_end_of_digits (n0 : Nat) : MS :=
  (gSeq (gSet 3 (mVar 1))
  (gSeq (gWhile 1000000 (tAnd (tOf (mOp ltF (mVar 3) (mBlt lenF (aCons (mVar 0) aNil)))) (tAnd (tOf (mOp ltF (mVar 3) (mOp addF (mVar 1) (mVar 2)))) (tOf (mChain leF leF (mK (.str "0")) (mOp ixF (mVar 0) (mVar 3)) (mK (.str "9"))))))
  (gAug 3 iaddF (mK (.int 1))))
  (gRet (mVar 3))))
def f_end_of_digits : MF := mkF 1 m_end_of_digits
theorem cal_end_of_digits {fn : Addr} {fd : FuncData} (T : Tx P w K mg)  (F : Fun K "end_of_digits" "end_of_digits" s_end_of_digits fn fd) (hm : mg "end_of_digits" = some (.ref fn)) (hb : Binds K fd ["text", "begin", "most"] []) : Cal P w K mg base 1 "end_of_digits" (spM K 3 f_end_of_digits) :=
  fnM F sc_end_of_digits hm hb (fun cdv A outer s H E Fx n0 hr h0 =>
  (ds_cons (d1_set 3 sc_end_of_digits.nd (de_var 1))
  (ds_cons (d1_while 1000000 (passes_of rfl) (dt_w (dw_and (dt_cmp opLt rdLt (de_var 3) (de_callB cr_len rdLen T.b_len (by decide +kernel) (da_cons (de_var 0) da_nil))) (dw_and (dt_cmp opLt rdLt (de_var 3) (de_op opAdd rdAdd (de_var 1) (de_var 2))) (dw_and1 (dt_chain opLe rdLe opLe rdLe de_str (de_ix ixSeq rdIx (de_var 0) (de_var 3)) de_str)))))
  (ds_one (d1_aug 3 ripAdd sc_end_of_digits.nd de_int)))
  (ds_one (d1_ret (de_var 3))))))
def m_check_name (n0 : Nat) : MS :=
  (gSeq (gFor 3 (mRng1 (mBlt lenF (aCons (mVar 2) aNil)))
  (gIf (tOf (mOp neF (mSl (mVar 0) (oSome (mOp addF (mVar 1) (mVar 3))) (oSome (mOp addF (mOp addF (mVar 1) (mVar 3)) (mK (.int 1))))) (mOp ixF (mVar 2) (mVar 3))))
  (gRaise1 2 "number" (mOp addF (mVar 1) (mVar 3)))
  gNil))
  (gIf (tOf (mOp gtF (mBlt lenF (aCons (mVar 0) aNil)) (mOp addF (mVar 1) (mBlt lenF (aCons (mVar 2) aNil)))))
  (gRaise1 2 "number" (mOp addF (mVar 1) (mBlt lenF (aCons (mVar 2) aNil))))
  gNil))
def f_check_name : MF := mkF 1 m_check_name
theorem cal_check_name {fn : Addr} {fd : FuncData} (T : Tx P w K mg)  (F : Fun K "check_name" "check_name" s_check_name fn fd) (hm : mg "check_name" = some (.ref fn)) (hb : Binds K fd ["text", "begin", "name"] []) : Cal P w K mg base 1 "check_name" (spM K 3 f_check_name) :=
  fnM F sc_check_name hm hb (fun cdv A outer s H E Fx n0 hr h0 =>
  (ds_cons (d1_for 3 (passes_of rfl) rfl sc_check_name.nd (di_rng1 T.b_range (de_callB cr_len rdLen T.b_len (by decide +kernel) (da_cons (de_var 2) da_nil)))
  (ds_one (d1_if (dt_cmp (opNe hr.units) rdNe (de_sl (de_var 0) (do_some (de_op opAdd rdAdd (de_var 1) (de_var 3))) (do_some (de_op opAdd rdAdd (de_op opAdd rdAdd (de_var 1) (de_var 3)) de_int))) (de_ix ixSeq rdIx (de_var 2) (de_var 3)))
  (ds_one (d1_raise1 2 rfl T.x_ParseError.1 T.x_ParseError.2 hr (de_op opAdd rdAdd (de_var 1) (de_var 3))))
  ds_nil)))
  (ds_one (d1_if (dt_cmp opGt rdGt (de_callB cr_len rdLen T.b_len (by decide +kernel) (da_cons (de_var 0) da_nil)) (de_op opAdd rdAdd (de_var 1) (de_callB cr_len rdLen T.b_len (by decide +kernel) (da_cons (de_var 2) da_nil))))
  (ds_one (d1_raise1 2 rfl T.x_ParseError.1 T.x_ParseError.2 hr (de_op opAdd rdAdd (de_var 1) (de_callB cr_len rdLen T.b_len (by decide +kernel) (da_cons (de_var 2) da_nil)))))
  ds_nil))))
def m_nearest_number (n0 : Nat) : MS :=
  (gRet (mOp divF (mOp subF (mOp addF (mOp mulF (mOp mulF (mK (.int 2)) (mVar 0)) (mVar 1)) (mK k_POINT)) (mK (.int 1))) (mOp mulF (mK (.int 2)) (mK k_POINT))))
def f_nearest_number : MF := mkF 0 m_nearest_number
theorem cal_nearest_number {fn : Addr} {fd : FuncData} (T : Tx P w K mg)  (F : Fun K "nearest_number" "nearest_number" s_nearest_number fn fd) (hm : mg "nearest_number" = some (.ref fn)) (hb : Binds K fd ["size", "power"] []) : Cal P w K mg base 1 "nearest_number" (spM K 2 f_nearest_number) :=
  fnM F sc_nearest_number hm hb (fun cdv A outer s H E Fx n0 hr h0 =>
  (ds_one (d1_ret (de_op opDiv rdDiv (de_op opSub rdSub (de_op opAdd rdAdd (de_op opMul rdMul (de_op opMul rdMul de_int (de_var 0)) (de_var 1)) (de_glob T.g_POINT)) de_int) (de_op opMul rdMul de_int (de_glob T.g_POINT))))))
def m_decimal_text (n0 : Nat) : MS :=
  (gSeq (gIf (tOf (mOp eqF (mVar 1) (mK (.int 0))))
  (gRet (mFs [(mFmt (mVar 0)), (mK (.str "pt"))]))
  gNil)
  (gSeq (gAsg (tTup [(tN 3), (tN 4)]) (mBlt divmodF (aCons (mVar 0) (aCons (mVar 2) aNil))))
  (gSeq (gSet 5 (mMs zfillF (mBlt strF (aCons (mVar 4) aNil)) (aCons (mVar 1) aNil)))
  (gRet (mFs [(mFmt (mVar 3)), (mK (.str ".")), (mFmt (mVar 5)), (mK (.str "pt"))])))))
def f_decimal_text : MF := mkF 3 m_decimal_text
theorem cal_decimal_text {fn : Addr} {fd : FuncData} (T : Tx P w K mg)  (F : Fun K "decimal_text" "decimal_text" s_decimal_text fn fd) (hm : mg "decimal_text" = some (.ref fn)) (hb : Binds K fd ["number", "decimals", "power"] []) : Cal P w K mg base 1 "decimal_text" (spM K 3 f_decimal_text) :=
  fnM F sc_decimal_text hm hb (fun cdv A outer s H E Fx n0 hr h0 =>
  (ds_cons (d1_if (dt_cmp (opEq hr.units) rdEq (de_var 1) de_int)
  (ds_one (d1_ret (de_fs (.cons (de_fmt (de_var 0)) (.cons de_str .nil)))))
  ds_nil)
  (ds_cons (d1_asg (dg_tup rfl (dgs_cons (dg_name 3 sc_decimal_text.nd) (dgs_cons (dg_name 4 sc_decimal_text.nd) dgs_nil))) (de_callB cr_divmod rdDivmod T.b_divmod (by decide +kernel) (da_cons (de_var 0) (da_cons (de_var 2) da_nil))))
  (ds_cons (d1_set 5 sc_decimal_text.nd (de_mA PySem.F.slot_str_zfill PySem.F.type_str_zfill mt_zfill rdZfill (de_callTy cr_str rdStr T.b_str (by decide +kernel) (da_cons (de_var 4) da_nil)) (da_cons (de_var 1) da_nil)))
  (ds_one (d1_ret (de_fs (.cons (de_fmt (de_var 3)) (.cons de_str (.cons (de_fmt (de_var 5)) (.cons de_str .nil)))))))))))
theorem cal__law_dice {fn : Addr} {fd : FuncData} (T : Tx P w K mg)  (F : Fun K "_law_dice" "_law_dice" s__law_dice fn fd) (hm : mg "_law_dice" = some (.ref fn)) (hb : Binds K fd ["_law_script", "_law_spot"] []) : Cal P w K mg base 1 "_law_dice" (spM K 2 f__law_dice) :=
  fnM F sc__law_dice hm hb (fun cdv A outer s H E Fx n0 hr h0 =>
  (ds_cons (d1_set 2 sc__law_dice.nd (de_if (dt_cmp opLt rdLt (de_var 1) (de_callB cr_len rdLen T.b_len (by decide +kernel) (da_cons (de_var 0) da_nil))) (de_callTy cr_int rdInt T.b_int (by decide +kernel) (da_cons (de_ix ixSeq rdIx (de_var 0) (de_var 1)) da_nil)) (de_op opAdd rdAdd (de_op opMul rdMul de_int (de_var 1)) de_int)))
  (ds_cons (d1_set 3 sc__law_dice.nd (de_op opMod rdMod (de_callB (cr_max2 rfl) rdMax2 T.b_max (by decide +kernel) (da_cons de_int (da_cons (de_op opSub rdSub (de_callB cr_abs rdAbs T.b_abs (by decide +kernel) (da_cons (de_var 2) da_nil)) (de_op opPow rdPow de_int de_int)) da_nil))) (de_op opMul rdMul (de_op opPow rdPow de_int de_int) (de_op opPow rdPow de_int de_int))))
  (ds_one (d1_ret (de_lstO (da_cons (de_var 3) (da_cons (de_op opAdd rdAdd (de_op opAdd rdAdd (de_op opAdd rdAdd (de_op opMul rdMul (de_op opMod rdMod (de_callB cr_abs rdAbs T.b_abs (by decide +kernel) (da_cons (de_var 2) da_nil)) de_int) de_int) (de_op opMul rdMul de_int (de_var 1))) (de_op opMul rdMul de_int (de_callTy cr_int rdInt T.b_int (by decide +kernel) (da_cons (de_cmp opLt rdLt (de_var 2) de_int) da_nil)))) de_int) (da_cons de_int da_nil)))))))))
theorem cal__law_roll {fn : Addr} {fd : FuncData} (T : Tx P w K mg)  (F : Fun K "_law_roll" "_law_roll" s__law_roll fn fd) (hm : mg "_law_roll" = some (.ref fn)) (hb : Binds K fd ["_law_dice_here", "_law_total"] []) : Cal P w K mg base 1 "_law_roll" (spM K 2 f__law_roll) :=
  fnM F sc__law_roll hm hb (fun cdv A outer s H E Fx n0 hr h0 =>
  (ds_cons (d1_if (dt_cmp opGt rdGt (de_ix ixSeq rdIx (de_var 0) de_int) de_int)
  (ds_cons (d1_set 2 sc__law_roll.nd (de_op opMod rdMod (de_callTy cr_int rdInt T.b_int (by decide +kernel) (da_cons (de_ix ixSeq rdIx (de_var 0) de_int) da_nil)) (de_var 1)))
  (ds_cons (d1_sto 0 (de_op opDiv rdDiv (de_ix ixSeq rdIx (de_var 0) de_int) (de_var 1)) de_int)
  (ds_one (d1_ret (de_var 2)))))
  ds_nil)
  (ds_cons (d1_sto 0 (de_op opAdd rdAdd (de_ix ixSeq rdIx (de_var 0) de_int) de_int) de_int)
  (ds_cons (d1_set 3 sc__law_roll.nd (de_op opMod rdMod (de_callTy cr_int rdInt T.b_int (by decide +kernel) (da_cons (de_op opAdd rdAdd (de_ix ixSeq rdIx (de_var 0) de_int) (de_op opMul rdMul de_int (de_ix ixSeq rdIx (de_var 0) de_int))) da_nil)) de_int))
  (ds_cons (d1_set 4 sc__law_roll.nd (de_op opAdd rdAdd (de_op opMul rdMul (de_op opMod rdMod (de_callTy cr_int rdInt T.b_int (by decide +kernel) (da_cons (de_op opAdd rdAdd (de_op opMul rdMul (de_var 3) (de_var 3)) (de_op opMul rdMul de_int (de_ix ixSeq rdIx (de_var 0) de_int))) da_nil)) de_int) de_int) (de_var 3)))
  (ds_one (d1_ret (de_op opMod rdMod (de_callTy cr_int rdInt T.b_int (by decide +kernel) (da_cons (de_op opDiv rdDiv (de_var 4) de_int) da_nil)) (de_var 1)))))))))
def m__law_nearest (n0 : Nat) : MS :=
  (gSeq (gSet 2 (mOp divF (mOp addF (mOp mulF (mK (.int 2)) (mBlt absF (aCons (mVar 0) aNil))) (mVar 1)) (mOp mulF (mK (.int 2)) (mVar 1))))
  (gRet (mIf (tOf (mOp geF (mVar 0) (mK (.int 0)))) (mVar 2) (mOp subF (mK (.int 0)) (mVar 2)))))
def f__law_nearest : MF := mkF 1 m__law_nearest
theorem cal__law_nearest {fn : Addr} {fd : FuncData} (T : Tx P w K mg)  (F : Fun K "_law_nearest" "_law_nearest" s__law_nearest fn fd) (hm : mg "_law_nearest" = some (.ref fn)) (hb : Binds K fd ["_law_number", "_law_by"] []) : Cal P w K mg base 1 "_law_nearest" (spM K 2 f__law_nearest) :=
  fnM F sc__law_nearest hm hb (fun cdv A outer s H E Fx n0 hr h0 =>
  (ds_cons (d1_set 2 sc__law_nearest.nd (de_op opDiv rdDiv (de_op opAdd rdAdd (de_op opMul rdMul de_int (de_callB cr_abs rdAbs T.b_abs (by decide +kernel) (da_cons (de_var 0) da_nil))) (de_var 1)) (de_op opMul rdMul de_int (de_var 1))))
  (ds_one (d1_ret (de_if (dt_cmp opGe rdGe (de_var 0) de_int) (de_var 2) (de_op opSub rdSub de_int (de_var 2)))))))
def m_is_length (n0 : Nat) : MS :=
  (gRet (mAnd (mCall f_is_int (aCons (mVar 0) aNil)) (mChain leF leF (mUn negF (mK k_MAX_LENGTH)) (mVar 0) (mK k_MAX_LENGTH))))
def f_is_length : MF := mkF 0 m_is_length
theorem cal_is_length {fn : Addr} {fd : FuncData} (T : Tx P w K mg) (C_is_int : Cal P w K mg base 1 "is_int" (spM K 1 f_is_int)) (F : Fun K "is_length" "is_length" s_is_length fn fd) (hm : mg "is_length" = some (.ref fn)) (hb : Binds K fd ["value"] []) : Cal P w K mg base 2 "is_length" (spM K 1 f_is_length) :=
  fnM F sc_is_length hm hb (fun cdv A outer s H E Fx n0 hr h0 =>
  (ds_one (d1_ret (de_and (de_call C_is_int (hr.mono (by decide)) (da_cons (de_var 0) da_nil)) (de_one (de_chain opLe rdLe opLe rdLe (de_un un_neg rdNeg (de_glob T.g_MAX_LENGTH)) (de_var 0) (de_glob T.g_MAX_LENGTH)))))))
def m_size_with_decimals (n0 : Nat) : MS :=
  (gSeq (gSet 3 (mCall f_end_of_digits (aCons (mVar 0) (aCons (mOp addF (mVar 2) (mK (.int 1))) (aCons (mK k_MOST_DECIMALS) aNil)))))
  (gSeq (gIf (tOf (mOp eqF (mVar 3) (mOp addF (mVar 2) (mK (.int 1)))))
  (gRaise1 2 "number" (mVar 3))
  gNil)
  (gSeq (gEx (mCall f_check_name (aCons (mVar 0) (aCons (mVar 3) (aCons (mK (.str "pt")) aNil)))))
  (gSeq (gSet 4 (mMs ljust3F (mSl (mVar 0) (oSome (mOp addF (mVar 2) (mK (.int 1)))) (oSome (mVar 3))) (aCons (mK k_MOST_DECIMALS) (aCons (mK (.str "0")) aNil))))
  (gRet (mCall f_rounded (aCons (mOp mulF (mBlt intF (aCons (mOp addF (mSl (mVar 0) (oSome (mVar 1)) (oSome (mVar 2))) (mVar 4)) aNil)) (mK k_POINT)) (aCons (mK k_BILLION) aNil))))))))
def f_size_with_decimals : MF := mkF 2 m_size_with_decimals
theorem cal_size_with_decimals {fn : Addr} {fd : FuncData} (T : Tx P w K mg) (C_rounded : Cal P w K mg base 1 "rounded" (spM K 2 f_rounded)) (C_end_of_digits : Cal P w K mg base 1 "end_of_digits" (spM K 3 f_end_of_digits)) (C_check_name : Cal P w K mg base 1 "check_name" (spM K 3 f_check_name)) (F : Fun K "size_with_decimals" "size_with_decimals" s_size_with_decimals fn fd) (hm : mg "size_with_decimals" = some (.ref fn)) (hb : Binds K fd ["text", "begin", "dot"] []) : Cal P w K mg base 2 "size_with_decimals" (spM K 3 f_size_with_decimals) :=
  fnM F sc_size_with_decimals hm hb (fun cdv A outer s H E Fx n0 hr h0 =>
  (ds_cons (d1_set 3 sc_size_with_decimals.nd (de_call C_end_of_digits (hr.mono (by decide)) (da_cons (de_var 0) (da_cons (de_op opAdd rdAdd (de_var 2) de_int) (da_cons (de_glob T.g_MOST_DECIMALS) da_nil)))))
  (ds_cons (d1_if (dt_cmp (opEq hr.units) rdEq (de_var 3) (de_op opAdd rdAdd (de_var 2) de_int))
  (ds_one (d1_raise1 2 rfl T.x_ParseError.1 T.x_ParseError.2 hr (de_var 3)))
  ds_nil)
  (ds_cons (d1_expr (de_call C_check_name (hr.mono (by decide)) (da_cons (de_var 0) (da_cons (de_var 3) (da_cons de_str da_nil)))))
  (ds_cons (d1_set 4 sc_size_with_decimals.nd (de_mA PySem.F.slot_str_ljust PySem.F.type_str_ljust mt_ljust3 rdLjust3 (de_sl (de_var 0) (do_some (de_op opAdd rdAdd (de_var 2) de_int)) (do_some (de_var 3))) (da_cons (de_glob T.g_MOST_DECIMALS) (da_cons de_str da_nil))))
  (ds_one (d1_ret (de_call C_rounded (hr.mono (by decide)) (da_cons (de_op opMul rdMul (de_callTy cr_int rdInt T.b_int (by decide +kernel) (da_cons (de_op opAdd rdAdd (de_sl (de_var 0) (do_some (de_var 1)) (do_some (de_var 2))) (de_var 4)) da_nil)) (de_glob T.g_POINT)) (da_cons (de_glob T.g_BILLION) da_nil))))))))))
def m__law_number_text (n0 : Nat) : MS :=
  (gSeq (gFor 1 (mRng1 (mK (.int 6)))
  (gSeq (gSet 2 (mBlt intF (aCons (mOp addF (mK (.str "1")) (mOp mulF (mK (.str "0")) (mVar 1))) aNil)))
  (gSeq (gSet 3 (mOp mulF (mVar 0) (mVar 2)))
  (gSeq (gSet 4 (mOp divF (mVar 3) (mK (.int 65536))))
  (gSeq (gSet 5 (mLc 8 (mIt (mTup (aCons (mVar 4) (aCons (mOp addF (mVar 4) (mK (.int 1))) aNil)))) tYes' (mTup (aCons (mBlt absF (aCons (mOp subF (mOp mulF (mVar 8) (mK (.int 65536))) (mVar 3)) aNil)) (aCons (mVar 8) aNil)))))
  (gSeq (gSet 6 (mLc 9 (mIt (mVar 5)) (tOf (mOp eqF (mCall f__law_nearest (aCons (mOp mulF (mOp ixF (mVar 9) (mK (.int 1))) (mK (.int 65536))) (aCons (mVar 2) aNil))) (mVar 0))) (mVar 9)))
  (gIf (tOf (mOp neF (mVar 6) (mLst aNil)))
  (gSeq (gSet 7 (mBlt strF (aCons (mOp ixF (mBlt minDF (aCons (mVar 6) aNil)) (mK (.int 1))) aNil)))
  (gSeq (gSet 7 (mOp addF (mOp mulF (mK (.str "0")) (mOp subF (mOp addF (mVar 1) (mK (.int 1))) (mBlt lenF (aCons (mVar 7) aNil)))) (mVar 7)))
  (gRet (mIf (tOf (mOp eqF (mVar 1) (mK (.int 0)))) (mVar 7) (mOp addF (mOp addF (mSl (mVar 7) oNo (oSome (mOp subF (mK (.int 0)) (mVar 1)))) (mK (.str "."))) (mSl (mVar 7) (oSome (mOp subF (mK (.int 0)) (mVar 1))) oNo))))))
  gNil)))))))
  (gRet (mK (.str ""))))
def f__law_number_text : MF := mkF 9 m__law_number_text
theorem cal__law_number_text {fn : Addr} {fd : FuncData} (T : Tx P w K mg) (C__law_nearest : Cal P w K mg base 1 "_law_nearest" (spM K 2 f__law_nearest)) (F : Fun K "_law_number_text" "_law_number_text" s__law_number_text fn fd) (hm : mg "_law_number_text" = some (.ref fn)) (hb : Binds K fd ["_law_length"] []) : Cal P w K mg base 2 "_law_number_text" (spM K 1 f__law_number_text) :=
  fnM F sc__law_number_text hm hb (fun cdv A outer s H E Fx n0 hr h0 =>
  (ds_cons (d1_for 1 (passes_of rfl) rfl sc__law_number_text.nd (di_rng1 T.b_range de_int)
  (ds_cons (d1_set 2 sc__law_number_text.nd (de_callTy cr_int rdInt T.b_int (by decide +kernel) (da_cons (de_op opAdd rdAdd de_str (de_op opMul rdMul de_str (de_var 1))) da_nil)))
  (ds_cons (d1_set 3 sc__law_number_text.nd (de_op opMul rdMul (de_var 0) (de_var 2)))
  (ds_cons (d1_set 4 sc__law_number_text.nd (de_op opDiv rdDiv (de_var 3) de_int))
  (ds_cons (d1_setLc (own := [("_law_one", 8)]) 5 8 rfl sc__law_number_text.nd (blkOk_by (N := ["_law_length", "_law_size", "_law_scale", "_law_whole", "_law_low", "_law_gaps", "_law_fine", "_law_digits", "_law_one", "_law_gap"]) (sc := defScope s__law_number_text) (by decide +kernel)) rfl (fun _ _ _ _ _ => pg_name (i := 8) sc__law_number_text.nd rfl (Or.inl rfl)) (sw_true rfl rfl rfl (by decide +kernel)) (di_it (de_tup (da_cons (de_var 4) (da_cons (de_op opAdd rdAdd (de_var 4) de_int) da_nil)))) .no (fun s H C cl fp => (de_tup (da_cons (de_callB cr_abs rdAbs T.b_abs (by decide +kernel) (da_cons (de_op opSub rdSub (de_op opMul rdMul (de_var 8) de_int) (de_var 3)) da_nil)) (da_cons (de_var 8) da_nil)))))
  (ds_cons (d1_setLc (own := [("_law_gap", 9)]) 6 9 rfl sc__law_number_text.nd (blkOk_by (N := ["_law_length", "_law_size", "_law_scale", "_law_whole", "_law_low", "_law_gaps", "_law_fine", "_law_digits", "_law_one", "_law_gap"]) (sc := defScope s__law_number_text) (by decide +kernel)) rfl (fun _ _ _ _ _ => pg_name (i := 9) sc__law_number_text.nd rfl (Or.inl rfl)) (sw_true rfl rfl rfl (by decide +kernel)) (di_it (de_var 5)) (.one (fun s H C cl fp => (dt_cmp (opEq hr.units) rdEq (de_call C__law_nearest (hr.mono (by decide)) (da_cons (de_op opMul rdMul (de_ix ixSeq rdIx (de_var 9) de_int) de_int) (da_cons (de_var 2) da_nil))) (de_var 0)))) (fun s H C cl fp => (de_var 9)))
  (ds_one (d1_if (dt_cmp (opNe hr.units) rdNe (de_var 6) (de_lst da_nil))
  (ds_cons (d1_set 7 sc__law_number_text.nd (de_callTy cr_str rdStr T.b_str (by decide +kernel) (da_cons (de_ix ixSeq rdIx (de_callB (cr_minDt rfl hr.units) rdMinDt T.b_min (by decide +kernel) (da_cons (de_var 6) da_nil)) de_int) da_nil)))
  (ds_cons (d1_set 7 sc__law_number_text.nd (de_op opAdd rdAdd (de_op opMul rdMul de_str (de_op opSub rdSub (de_op opAdd rdAdd (de_var 1) de_int) (de_callB cr_len rdLen T.b_len (by decide +kernel) (da_cons (de_var 7) da_nil)))) (de_var 7)))
  (ds_one (d1_ret (de_if (dt_cmp (opEq hr.units) rdEq (de_var 1) de_int) (de_var 7) (de_op opAdd rdAdd (de_op opAdd rdAdd (de_sl (de_var 7) do_no (do_some (de_op opSub rdSub de_int (de_var 1)))) de_str) (de_sl (de_var 7) (do_some (de_op opSub rdSub de_int (de_var 1))) do_no)))))))
  ds_nil))))))))
  (ds_one (d1_ret de_str))))
def m__law_drawn_length (n0 : Nat) : MS :=
  (gSeq (gSet 1 (mCall f__law_roll (aCons (mVar 0) (aCons (mK (.int 6)) aNil))))
  (gSeq (gIf (tOf (mOp eqF (mVar 1) (mK (.int 0))))
  (gSet 2 (mCall f__law_roll (aCons (mVar 0) (aCons (mK (.int 20)) aNil))))
  (gIf (tOf (mOp eqF (mVar 1) (mK (.int 1))))
  (gSet 2 (mOp mulF (mCall f__law_roll (aCons (mVar 0) (aCons (mK (.int 400)) aNil))) (mK (.int 3277))))
  (gIf (tOf (mOp eqF (mVar 1) (mK (.int 2))))
  (gSet 2 (mOp subF (mOp subF (mOp powF (mK (.int 2)) (mK (.int 30))) (mK (.int 1))) (mCall f__law_roll (aCons (mVar 0) (aCons (mK (.int 3)) aNil)))))
  (gSet 2 (mCall f__law_roll (aCons (mVar 0) (aCons (mOp mulF (mK (.int 65536)) (mK (.int 40))) aNil)))))))
  (gRet (mIf (tOf (mOp gtF (mCall f__law_roll (aCons (mVar 0) (aCons (mK (.int 3)) aNil))) (mK (.int 0)))) (mVar 2) (mOp subF (mK (.int 0)) (mVar 2))))))
def f__law_drawn_length : MF := mkF 2 m__law_drawn_length
theorem cal__law_drawn_length {fn : Addr} {fd : FuncData} (T : Tx P w K mg) (C__law_roll : Cal P w K mg base 1 "_law_roll" (spM K 2 f__law_roll)) (F : Fun K "_law_drawn_length" "_law_drawn_length" s__law_drawn_length fn fd) (hm : mg "_law_drawn_length" = some (.ref fn)) (hb : Binds K fd ["_law_dice_here"] []) : Cal P w K mg base 2 "_law_drawn_length" (spM K 1 f__law_drawn_length) :=
  fnM F sc__law_drawn_length hm hb (fun cdv A outer s H E Fx n0 hr h0 =>
  (ds_cons (d1_set 1 sc__law_drawn_length.nd (de_call C__law_roll (hr.mono (by decide)) (da_cons (de_var 0) (da_cons de_int da_nil))))
  (ds_cons (d1_if (dt_cmp (opEq hr.units) rdEq (de_var 1) de_int)
  (ds_one (d1_set 2 sc__law_drawn_length.nd (de_call C__law_roll (hr.mono (by decide)) (da_cons (de_var 0) (da_cons de_int da_nil)))))
  (ds_one (d1_if (dt_cmp (opEq hr.units) rdEq (de_var 1) de_int)
  (ds_one (d1_set 2 sc__law_drawn_length.nd (de_op opMul rdMul (de_call C__law_roll (hr.mono (by decide)) (da_cons (de_var 0) (da_cons de_int da_nil))) de_int)))
  (ds_one (d1_if (dt_cmp (opEq hr.units) rdEq (de_var 1) de_int)
  (ds_one (d1_set 2 sc__law_drawn_length.nd (de_op opSub rdSub (de_op opSub rdSub (de_op opPow rdPow de_int de_int) de_int) (de_call C__law_roll (hr.mono (by decide)) (da_cons (de_var 0) (da_cons de_int da_nil))))))
  (ds_one (d1_set 2 sc__law_drawn_length.nd (de_call C__law_roll (hr.mono (by decide)) (da_cons (de_var 0) (da_cons (de_op opMul rdMul de_int de_int) da_nil))))))))))
  (ds_one (d1_ret (de_if (dt_cmp opGt rdGt (de_call C__law_roll (hr.mono (by decide)) (da_cons (de_var 0) (da_cons de_int da_nil))) de_int) (de_var 2) (de_op opSub rdSub de_int (de_var 2))))))))
def m_check_length (n0 : Nat) : MS :=
  (gIf (tNot (tTru (mCall f_is_length (aCons (mVar 0) aNil))))
  (gRaise 1)
  gNil)
def f_check_length : MF := mkF 0 m_check_length
theorem cal_check_length {fn : Addr} {fd : FuncData} (T : Tx P w K mg) (C_is_length : Cal P w K mg base 2 "is_length" (spM K 1 f_is_length)) (F : Fun K "check_length" "check_length" s_check_length fn fd) (hm : mg "check_length" = some (.ref fn)) (hb : Binds K fd ["value"] []) : Cal P w K mg base 3 "check_length" (spM K 1 f_check_length) :=
  fnM F sc_check_length hm hb (fun cdv A outer s H E Fx n0 hr h0 =>
  (ds_one (d1_if (dt_not (dt_tru (de_call C_is_length (hr.mono (by decide)) (da_cons (de_var 0) da_nil))))
  (ds_one (d1_raise0 1 rfl T.e_InvalidLength))
  ds_nil)))
def m_size_of (n0 : Nat) : MS :=
  (gSeq (gSet 2 (mCall f_end_of_digits (aCons (mVar 0) (aCons (mVar 1) (aCons (mK k_MOST_UNIT_DIGITS) aNil)))))
  (gSeq (gSet 3 (mOp subF (mVar 2) (mVar 1)))
  (gSeq (gIf (tAnd (tOf (mOp eqF (mSl (mVar 0) (oSome (mVar 2)) (oSome (mOp addF (mVar 2) (mK (.int 1))))) (mK (.str ".")))) (tOf (mOp leF (mVar 3) (mK k_MOST_POINT_DIGITS))))
  (gRet (mCall f_size_with_decimals (aCons (mVar 0) (aCons (mVar 1) (aCons (mVar 2) aNil)))))
  gNil)
  (gSeq (gIf (tOf (mOp eqF (mVar 3) (mK (.int 0))))
  (gRaise1 2 "number" (mVar 2))
  gNil)
  (gSeq (gIf (tOr (tOf (mOp eqF (mSl (mVar 0) (oSome (mVar 2)) (oSome (mOp addF (mVar 2) (mK (.int 1))))) (mK (.str "u")))) (tOf (mOp gtF (mVar 3) (mK k_MOST_POINT_DIGITS))))
  (gSeq (gEx (mCall f_check_name (aCons (mVar 0) (aCons (mVar 2) (aCons (mK (.str "u")) aNil)))))
  (gRet (mBlt intF (aCons (mSl (mVar 0) (oSome (mVar 1)) (oSome (mVar 2))) aNil))))
  gNil)
  (gSeq (gEx (mCall f_check_name (aCons (mVar 0) (aCons (mVar 2) (aCons (mK (.str "pt")) aNil)))))
  (gRet (mOp mulF (mBlt intF (aCons (mSl (mVar 0) (oSome (mVar 1)) (oSome (mVar 2))) aNil)) (mK k_POINT)))))))))
def f_size_of : MF := mkF 2 m_size_of
theorem cal_size_of {fn : Addr} {fd : FuncData} (T : Tx P w K mg) (C_size_with_decimals : Cal P w K mg base 2 "size_with_decimals" (spM K 3 f_size_with_decimals)) (C_end_of_digits : Cal P w K mg base 1 "end_of_digits" (spM K 3 f_end_of_digits)) (C_check_name : Cal P w K mg base 1 "check_name" (spM K 3 f_check_name)) (F : Fun K "size_of" "size_of" s_size_of fn fd) (hm : mg "size_of" = some (.ref fn)) (hb : Binds K fd ["text", "begin"] []) : Cal P w K mg base 3 "size_of" (spM K 2 f_size_of) :=
  fnM F sc_size_of hm hb (fun cdv A outer s H E Fx n0 hr h0 =>
  (ds_cons (d1_set 2 sc_size_of.nd (de_call C_end_of_digits (hr.mono (by decide)) (da_cons (de_var 0) (da_cons (de_var 1) (da_cons (de_glob T.g_MOST_UNIT_DIGITS) da_nil)))))
  (ds_cons (d1_set 3 sc_size_of.nd (de_op opSub rdSub (de_var 2) (de_var 1)))
  (ds_cons (d1_if (dt_w (dw_and (dt_cmp (opEq hr.units) rdEq (de_sl (de_var 0) (do_some (de_var 2)) (do_some (de_op opAdd rdAdd (de_var 2) de_int))) de_str) (dw_and1 (dt_cmp opLe rdLe (de_var 3) (de_glob T.g_MOST_POINT_DIGITS)))))
  (ds_one (d1_ret (de_call C_size_with_decimals (hr.mono (by decide)) (da_cons (de_var 0) (da_cons (de_var 1) (da_cons (de_var 2) da_nil))))))
  ds_nil)
  (ds_cons (d1_if (dt_cmp (opEq hr.units) rdEq (de_var 3) de_int)
  (ds_one (d1_raise1 2 rfl T.x_ParseError.1 T.x_ParseError.2 hr (de_var 2)))
  ds_nil)
  (ds_cons (d1_if (dt_w (dw_or (dt_cmp (opEq hr.units) rdEq (de_sl (de_var 0) (do_some (de_var 2)) (do_some (de_op opAdd rdAdd (de_var 2) de_int))) de_str) (dw_or1 (dt_cmp opGt rdGt (de_var 3) (de_glob T.g_MOST_POINT_DIGITS)))))
  (ds_cons (d1_expr (de_call C_check_name (hr.mono (by decide)) (da_cons (de_var 0) (da_cons (de_var 2) (da_cons de_str da_nil)))))
  (ds_one (d1_ret (de_callTy cr_int rdInt T.b_int (by decide +kernel) (da_cons (de_sl (de_var 0) (do_some (de_var 1)) (do_some (de_var 2))) da_nil)))))
  ds_nil)
  (ds_cons (d1_expr (de_call C_check_name (hr.mono (by decide)) (da_cons (de_var 0) (da_cons (de_var 2) (da_cons de_str da_nil)))))
  (ds_one (d1_ret (de_op opMul rdMul (de_callTy cr_int rdInt T.b_int (by decide +kernel) (da_cons (de_sl (de_var 0) (do_some (de_var 1)) (do_some (de_var 2))) da_nil)) (de_glob T.g_POINT)))))))))))
def m__law_length_text (n0 : Nat) : MS :=
  (gRet (mOp addF (mOp addF (mIf (tOf (mOp ltF (mVar 0) (mK (.int 0)))) (mK (.str "-")) (mK (.str ""))) (mCall f__law_number_text (aCons (mBlt absF (aCons (mVar 0) aNil)) aNil))) (mK (.str "pt"))))
def f__law_length_text : MF := mkF 0 m__law_length_text
theorem cal__law_length_text {fn : Addr} {fd : FuncData} (T : Tx P w K mg) (C__law_number_text : Cal P w K mg base 2 "_law_number_text" (spM K 1 f__law_number_text)) (F : Fun K "_law_length_text" "_law_length_text" s__law_length_text fn fd) (hm : mg "_law_length_text" = some (.ref fn)) (hb : Binds K fd ["_law_length"] []) : Cal P w K mg base 3 "_law_length_text" (spM K 1 f__law_length_text) :=
  fnM F sc__law_length_text hm hb (fun cdv A outer s H E Fx n0 hr h0 =>
  (ds_one (d1_ret (de_op opAdd rdAdd (de_op opAdd rdAdd (de_if (dt_cmp opLt rdLt (de_var 0) de_int) de_str de_str) (de_call C__law_number_text (hr.mono (by decide)) (da_cons (de_callB cr_abs rdAbs T.b_abs (by decide +kernel) (da_cons (de_var 0) da_nil)) da_nil))) de_str))))
def m_length_of (n0 : Nat) : MS :=
  (gSeq (gIf (tNot (tTru (mBlt isiF (aCons (mVar 0) (aCons (mK (.ty "str")) aNil)))))
  (gRaise1 2 "number" (mK (.non)))
  gNil)
  (gSeq (gSet 1 (mK (.int 0)))
  (gSeq (gIf (tTru (mMs startswithF (mVar 0) (aCons (mK (.str "-")) aNil)))
  (gSet 1 (mK (.int 1)))
  gNil)
  (gSeq (gSet 2 (mCall f_size_of (aCons (mVar 0) (aCons (mVar 1) aNil))))
  (gSeq (gIf (tOf (mOp eqF (mVar 1) (mK (.int 1))))
  (gSet 2 (mUn negF (mVar 2)))
  gNil)
  (gSeq (gEx (mCall f_check_length (aCons (mVar 2) aNil)))
  (gRet (mVar 2))))))))
def f_length_of : MF := mkF 2 m_length_of
theorem cal_length_of {fn : Addr} {fd : FuncData} (T : Tx P w K mg) (C_check_length : Cal P w K mg base 3 "check_length" (spM K 1 f_check_length)) (C_size_of : Cal P w K mg base 3 "size_of" (spM K 2 f_size_of)) (F : Fun K "length_of" "length_of" s_length_of fn fd) (hm : mg "length_of" = some (.ref fn)) (hb : Binds K fd ["text"] []) : Cal P w K mg base 4 "length_of" (spM K 1 f_length_of) :=
  fnM F sc_length_of hm hb (fun cdv A outer s H E Fx n0 hr h0 =>
  (ds_cons (d1_if (dt_not (dt_tru (de_callB cr_isi rdIsi T.b_isinstance (by decide +kernel) (da_cons (de_var 0) (da_cons (de_ty (n := "str") T.b_str (by decide +kernel)) da_nil)))))
  (ds_one (d1_raise1 2 rfl T.x_ParseError.1 T.x_ParseError.2 hr de_non))
  ds_nil)
  (ds_cons (d1_set 1 sc_length_of.nd de_int)
  (ds_cons (d1_if (dt_tru (de_mA PySem.F.slot_str_startswith PySem.F.type_str_startswith mt_startswith rdStartswith (de_var 0) (da_cons de_str da_nil)))
  (ds_one (d1_set 1 sc_length_of.nd de_int))
  ds_nil)
  (ds_cons (d1_set 2 sc_length_of.nd (de_call C_size_of (hr.mono (by decide)) (da_cons (de_var 0) (da_cons (de_var 1) da_nil))))
  (ds_cons (d1_if (dt_cmp (opEq hr.units) rdEq (de_var 1) de_int)
  (ds_one (d1_set 2 sc_length_of.nd (de_un un_neg rdNeg (de_var 2))))
  ds_nil)
  (ds_cons (d1_expr (de_call C_check_length (hr.mono (by decide)) (da_cons (de_var 2) da_nil)))
  (ds_one (d1_ret (de_var 2))))))))))
def m_text_of_length (n0 : Nat) : MS :=
  (gSeq (gEx (mCall f_check_length (aCons (mVar 0) aNil)))
  (gSeq (gSet 1 (mBlt absF (aCons (mVar 0) aNil)))
  (gSeq (gSet 2 (mK (.int 0)))
  (gSeq (gSet 3 (mK (.int 1)))
  (gSeq (gSet 4 (mCall f_nearest_number (aCons (mVar 1) (aCons (mVar 3) aNil))))
  (gSeq (gWhile 1000000 (tOf (mOp neF (mCall f_rounded (aCons (mOp mulF (mVar 4) (mK k_POINT)) (aCons (mVar 3) aNil))) (mVar 1)))
  (gSeq (gAug 2 iaddF (mK (.int 1)))
  (gSeq (gAug 3 imulF (mK (.int 10)))
  (gSet 4 (mCall f_nearest_number (aCons (mVar 1) (aCons (mVar 3) aNil)))))))
  (gSeq (gSet 5 (mCall f_decimal_text (aCons (mVar 4) (aCons (mVar 2) (aCons (mVar 3) aNil)))))
  (gSeq (gIf (tOf (mOp ltF (mVar 0) (mK (.int 0))))
  (gRet (mOp addF (mK (.str "-")) (mVar 5)))
  gNil)
  (gRet (mVar 5))))))))))
def f_text_of_length : MF := mkF 5 m_text_of_length
theorem cal_text_of_length {fn : Addr} {fd : FuncData} (T : Tx P w K mg) (C_rounded : Cal P w K mg base 1 "rounded" (spM K 2 f_rounded)) (C_check_length : Cal P w K mg base 3 "check_length" (spM K 1 f_check_length)) (C_nearest_number : Cal P w K mg base 1 "nearest_number" (spM K 2 f_nearest_number)) (C_decimal_text : Cal P w K mg base 1 "decimal_text" (spM K 3 f_decimal_text)) (F : Fun K "text_of_length" "text_of_length" s_text_of_length fn fd) (hm : mg "text_of_length" = some (.ref fn)) (hb : Binds K fd ["length"] []) : Cal P w K mg base 4 "text_of_length" (spM K 1 f_text_of_length) :=
  fnM F sc_text_of_length hm hb (fun cdv A outer s H E Fx n0 hr h0 =>
  (ds_cons (d1_expr (de_call C_check_length (hr.mono (by decide)) (da_cons (de_var 0) da_nil)))
  (ds_cons (d1_set 1 sc_text_of_length.nd (de_callB cr_abs rdAbs T.b_abs (by decide +kernel) (da_cons (de_var 0) da_nil)))
  (ds_cons (d1_set 2 sc_text_of_length.nd de_int)
  (ds_cons (d1_set 3 sc_text_of_length.nd de_int)
  (ds_cons (d1_set 4 sc_text_of_length.nd (de_call C_nearest_number (hr.mono (by decide)) (da_cons (de_var 1) (da_cons (de_var 3) da_nil))))
  (ds_cons (d1_while 1000000 (passes_of rfl) (dt_cmp (opNe hr.units) rdNe (de_call C_rounded (hr.mono (by decide)) (da_cons (de_op opMul rdMul (de_var 4) (de_glob T.g_POINT)) (da_cons (de_var 3) da_nil))) (de_var 1))
  (ds_cons (d1_aug 2 ripAdd sc_text_of_length.nd de_int)
  (ds_cons (d1_aug 3 ripMul sc_text_of_length.nd de_int)
  (ds_one (d1_set 4 sc_text_of_length.nd (de_call C_nearest_number (hr.mono (by decide)) (da_cons (de_var 1) (da_cons (de_var 3) da_nil))))))))
  (ds_cons (d1_set 5 sc_text_of_length.nd (de_call C_decimal_text (hr.mono (by decide)) (da_cons (de_var 4) (da_cons (de_var 2) (da_cons (de_var 3) da_nil)))))
  (ds_cons (d1_if (dt_cmp opLt rdLt (de_var 0) de_int)
  (ds_one (d1_ret (de_op opAdd rdAdd de_str (de_var 5))))
  ds_nil)
  (ds_one (d1_ret (de_var 5))))))))))))
def m__law_right (n0 : Nat) : MS :=
  (gSeq (gSet 1 (mCall f_text_of_length (aCons (mVar 0) aNil)))
  (gSeq (gIf (tOr (tOf (mOp neF (mVar 1) (mCall f__law_length_text (aCons (mVar 0) aNil)))) (tOf (mOp neF (mCall f_length_of (aCons (mVar 1) aNil)) (mVar 0))))
  (gRet (mK (.bl false)))
  gNil)
  (gSeq (gSet 2 (mSl (mVar 1) oNo (oSome (mUn negF (mK (.int 2))))))
  (gSeq (gIf (tAnd (tOf (mOp inF (mK (.str ".")) (mVar 2))) (tOr (tOf (mOp eqF (mOp ixF (mVar 2) (mUn negF (mK (.int 1)))) (mK (.str "0")))) (tOf (mOp gtF (mBlt lenF (aCons (mOp ixF (mMs splitF (mVar 2) (aCons (mK (.str ".")) aNil)) (mK (.int 1))) aNil)) (mK (.int 5))))))
  (gRet (mK (.bl false)))
  gNil)
  (gRet (mOr (mOp eqF (mVar 0) (mK (.int 0))) (mOp eqF (mCall f_text_of_length (aCons (mOp subF (mK (.int 0)) (mVar 0)) aNil)) (mIf (tOf (mOp eqF (mOp ixF (mVar 1) (mK (.int 0))) (mK (.str "-")))) (mSl (mVar 1) (oSome (mK (.int 1))) oNo) (mOp addF (mK (.str "-")) (mVar 1))))))))))
def f__law_right : MF := mkF 2 m__law_right
theorem cal__law_right {fn : Addr} {fd : FuncData} (T : Tx P w K mg) (C_length_of : Cal P w K mg base 4 "length_of" (spM K 1 f_length_of)) (C_text_of_length : Cal P w K mg base 4 "text_of_length" (spM K 1 f_text_of_length)) (C__law_length_text : Cal P w K mg base 3 "_law_length_text" (spM K 1 f__law_length_text)) (F : Fun K "_law_right" "_law_right" s__law_right fn fd) (hm : mg "_law_right" = some (.ref fn)) (hb : Binds K fd ["_law_length"] []) : Cal P w K mg base 5 "_law_right" (spM K 1 f__law_right) :=
  fnM F sc__law_right hm hb (fun cdv A outer s H E Fx n0 hr h0 =>
  (ds_cons (d1_set 1 sc__law_right.nd (de_call C_text_of_length (hr.mono (by decide)) (da_cons (de_var 0) da_nil)))
  (ds_cons (d1_if (dt_w (dw_or (dt_cmp (opNe hr.units) rdNe (de_var 1) (de_call C__law_length_text (hr.mono (by decide)) (da_cons (de_var 0) da_nil))) (dw_or1 (dt_cmp (opNe hr.units) rdNe (de_call C_length_of (hr.mono (by decide)) (da_cons (de_var 1) da_nil)) (de_var 0)))))
  (ds_one (d1_ret de_bl))
  ds_nil)
  (ds_cons (d1_set 2 sc__law_right.nd (de_sl (de_var 1) do_no (do_some (de_un un_neg rdNeg de_int))))
  (ds_cons (d1_if (dt_w (dw_and (dt_cmp opIn rdIn de_str (de_var 2)) (dw_and1 (dt_w (dw_or (dt_cmp (opEq hr.units) rdEq (de_ix ixSeq rdIx (de_var 2) (de_un un_neg rdNeg de_int)) de_str) (dw_or1 (dt_cmp opGt rdGt (de_callB cr_len rdLen T.b_len (by decide +kernel) (da_cons (de_ix ixSeq rdIx (de_mA PySem.F.slot_str_split PySem.F.type_str_split mt_split rdSplit (de_var 2) (da_cons de_str da_nil)) de_int) da_nil)) de_int)))))))
  (ds_one (d1_ret de_bl))
  ds_nil)
  (ds_one (d1_ret (de_or (de_cmp (opEq hr.units) rdEq (de_var 0) de_int) (de_one (de_cmp (opEq hr.units) rdEq (de_call C_text_of_length (hr.mono (by decide)) (da_cons (de_op opSub rdSub de_int (de_var 0)) da_nil)) (de_if (dt_cmp (opEq hr.units) rdEq (de_ix ixSeq rdIx (de_var 1) de_int) de_str) (de_sl (de_var 1) (do_some de_int) do_no) (de_op opAdd rdAdd de_str (de_var 1)))))))))))))
def m_law (n0 : Nat) : MS :=
  (gSeq (gFor 1 (mRng1 (mBlt max2F (aCons (mK (.int 1)) (aCons (mBlt min2F (aCons (mK (.int 4)) (aCons (mBlt lenF (aCons (mVar 0) aNil)) aNil))) aNil))))
  (gSeq (gSet 2 (mCall f__law_dice (aCons (mVar 0) (aCons (mVar 1) aNil))))
  (gFor 3 (mRng1 (mK (.int 8)))
  (gIf (tNot (tTru (mCall f__law_right (aCons (mCall f__law_drawn_length (aCons (mVar 2) aNil)) aNil))))
  (gRet (mK (.bl false)))
  gNil))))
  (gSeq (gSet 4 (mLc 5 (mIt (mTup (aCons (mK (.int 1)) (aCons (mK (.int 65535)) (aCons (mUn negF (mK (.int 819200))) (aCons (mK (.int 0)) (aCons (mK (.int 65536)) (aCons (mK (.int 32768)) (aCons (mK (.int 3)) aNil))))))))) tYes' (mCall f_text_of_length (aCons (mVar 5) aNil))))
  (gRet (mOp eqF (mVar 4) (mLst (aCons (mK (.str "0.00002pt")) (aCons (mK (.str "0.99998pt")) (aCons (mK (.str "-12.5pt")) (aCons (mK (.str "0pt")) (aCons (mK (.str "1pt")) (aCons (mK (.str "0.5pt")) (aCons (mK (.str "0.00005pt")) aNil))))))))))))
def f_law : MF := mkF 5 m_law
theorem cal_law {fn : Addr} {fd : FuncData} (T : Tx P w K mg) (C_text_of_length : Cal P w K mg base 4 "text_of_length" (spM K 1 f_text_of_length)) (C__law_dice : Cal P w K mg base 1 "_law_dice" (spM K 2 f__law_dice)) (C__law_drawn_length : Cal P w K mg base 2 "_law_drawn_length" (spM K 1 f__law_drawn_length)) (C__law_right : Cal P w K mg base 5 "_law_right" (spM K 1 f__law_right)) (F : Fun K "law" "law" s_law fn fd) (hm : mg "law" = some (.ref fn)) (hb : Binds K fd ["_law_script"] []) : Cal P w K mg base 6 "law" (spM K 1 f_law) :=
  fnM F sc_law hm hb (fun cdv A outer s H E Fx n0 hr h0 =>
  (ds_cons (d1_for 1 (passes_of rfl) rfl sc_law.nd (di_rng1 T.b_range (de_callB (cr_max2 rfl) rdMax2 T.b_max (by decide +kernel) (da_cons de_int (da_cons (de_callB (cr_min2 rfl) rdMin2 T.b_min (by decide +kernel) (da_cons de_int (da_cons (de_callB cr_len rdLen T.b_len (by decide +kernel) (da_cons (de_var 0) da_nil)) da_nil))) da_nil))))
  (ds_cons (d1_set 2 sc_law.nd (de_call C__law_dice (hr.mono (by decide)) (da_cons (de_var 0) (da_cons (de_var 1) da_nil))))
  (ds_one (d1_for 3 (passes_of rfl) rfl sc_law.nd (di_rng1 T.b_range de_int)
  (ds_one (d1_if (dt_not (dt_tru (de_call C__law_right (hr.mono (by decide)) (da_cons (de_call C__law_drawn_length (hr.mono (by decide)) (da_cons (de_var 2) da_nil)) da_nil))))
  (ds_one (d1_ret de_bl))
  ds_nil))))))
  (ds_cons (d1_setLc (own := [("_law_length", 5)]) 4 5 rfl sc_law.nd (blkOk_by (N := ["_law_script", "_law_spot", "_law_dice_here", "_law_turn", "_law_told", "_law_length"]) (sc := defScope s_law) (by decide +kernel)) rfl (fun _ _ _ _ _ => pg_name (i := 5) sc_law.nd rfl (Or.inl rfl)) (sw_true rfl rfl rfl (by decide +kernel)) (di_it (de_tup (da_cons de_int (da_cons de_int (da_cons (de_un un_neg rdNeg de_int) (da_cons de_int (da_cons de_int (da_cons de_int (da_cons de_int da_nil))))))))) .no (fun s H C cl fp => (de_call C_text_of_length (hr.mono (by decide)) (da_cons (de_var 5) da_nil))))
  (ds_one (d1_ret (de_cmp (opEq hr.units) rdEq (de_var 4) (de_lst (da_cons de_str (da_cons de_str (da_cons de_str (da_cons de_str (da_cons de_str (da_cons de_str (da_cons de_str da_nil))))))))))))))
end Mir

namespace Mir
open PySem PySem.Spec L2
local macro_rules | `(tactic| walk_at "ev") => `(tactic| simp (disch := omega) only [*, if_pos, if_neg, gNil, gSeq, gIf, gRet, gRetN, gSet, gStoV, gSto, gAppV, gApp, gEx, gPar, gAug, gFor, gRaise, gRaise1, gAsg, mVar, mk_ok, mOp, mUn, mIf, mAnd, mOr, mNot, mTup, mLst, mLstO, mBlt, mCall, mMs, mSl, oNo, oSome, mFmt, mChain, mFs, fsL, aCons, aNil, tOf, tTru, tAnd, tOr, tNot, tYes', mIt, mRng1, mRng2, datas, truS_vw, truD, op1_vw, op2_vw, opN_vw, vws_nil, vws_cons,
  vw_dat, vw_own, ceD_lst, ceD_dct, asB_ok, ofO_some, ofO_none, dat'_some, dat'_none, RE.ok_bind, RE.exc_bind, RE.stuck_bind, RE.ok_toS, RE.exc_toS, RE.stuck_toS, RE.noX_ok, RS.nx_bind, RS.rt_bind, RS.bk_bind, RS.ct_bind, RS.exc_bind, RS.stuck_bind, Option.bind_some, Option.map_some, Option.bind_none, Option.map_none, cond_dec, cond_true, cond_false, List.getElem?_cons_zero, List.getElem?_cons_succ, List.set_cons_zero, List.set_cons_succ, List.replicate, List.cons_append, List.nil_append,
  atI_0, atI_1, atI_2, isNonD, if_true, if_false, ite_true, ite_false, outF_nx, outF_rt, outF_exc, ixN_0, ixN_1, ixN_2, List.length_cons, List.length_nil, List.length_set, addF_i, subF_i, addF_s, addF_l, addF_t, iaddF_i, iaddF_s, imulF_i, mulF_i, mulF_s, mulF_l, mulF_t, divF_i, modF_i, powF_i, negF_i, ltF_i, ltF_s, leF_i, leF_s, gtF_i, gtF_s, geF_i, geF_s, isF_n, isnF_n, isF_b, isnF_b, inF_s, ninF_s, ixF_l, ixF_t, ixF_q, ixF_s, lenF_s, lenF_lst, lenF_sq, lenF_tup, absF_i, max2F_i, min2F_i, intF_i, intF_b, strF_i, strF_s, reprF_d, listF_lst, tupF_lst, itD_lst, listF_sq, tupF_sq, itD_sq, listF_tup, tupF_tup, itD_tup, itD_s, divmodF_i, slF_s, slF_t, slF_l, fmtF_s, fmtF_i, startswithF_s, endswithF_s, findF_s, countF_s, stripF_s, lstripF_s, rstripF_s, rmprefixF_s, rmsuffixF_s, isalphaF_n, isdigitF_n, zfillF_i, splitF_s, strsOf_map, intsOf_map, blsOf_map, joinF_m, allF_m, anyF_m, dec_T, dec_F, cond_nd, Bool.not_true, Bool.not_false, eqF_i, eqF_s, neF_i, neF_s, rgs_0, rgs_1, rgs_2, forL_nil, forL_cons, forK_nx, forK_ct, forK_bk, forK_rt, forK_exc, isi_non_int, isi_non_bool, isi_non_str, isi_non_list, isi_non_tuple, isi_non_dict, isi_bl_int, isi_bl_bool, isi_bl_str, isi_bl_list, isi_bl_tuple, isi_bl_dict, isi_int_int, isi_int_bool, isi_int_str, isi_int_list, isi_int_tuple, isi_int_dict, isi_str_int, isi_str_bool, isi_str_str, isi_str_list, isi_str_tuple, isi_str_dict, isi_lst_int, isi_lst_bool, isi_lst_str, isi_lst_list, isi_lst_tuple, isi_lst_dict, isi_tup_int, isi_tup_bool, isi_tup_str, isi_tup_list, isi_tup_tuple, isi_tup_dict, isi_dct_int, isi_dct_bool, isi_dct_str, isi_dct_list, isi_dct_tuple, isi_dct_dict])
theorem rounded_eq {o u : Int} (S : List Ce) (ho : o.natAbs < 2 ^ 235) (h0 : 0 < u) (hu : u.natAbs < 2 ^ 200) : f_rounded [.dat (.int o), .dat (.int u)] S = .ok (.dat (.int (roundI o u))) S := by
  have ha : (if o < 0 then -o else o).natAbs < 2 ^ 235 := by split <;> omega
  have k1 : okMul 2 (if o < 0 then -o else o) = true := okMul_of (a := 2) (b := 235) (by decide) ha
  have k2 : okMul 2 u = true := okMul_of (a := 2) (b := 200) (by decide) hu
  have k3 : okDiv (2 * u) = true := okDiv_of (b := 202) (by omega) (by omega)
  by_cases h : o < 0
  · rw [if_pos h] at k1
    unfold f_rounded mkF m_rounded
    walk_at "ev"
    rw [cut_same (by simp)]
    unfold roundI sizeI
    rw [if_pos h, if_pos h]
  · rw [if_neg h] at k1
    unfold f_rounded mkF m_rounded
    walk_at "ev"
    rw [cut_same (by simp)]
    unfold roundI sizeI
    rw [if_neg h, if_neg h]
theorem lsz {z : Str} {n : Nat} (h : (cl z).length ≤ n) (hn : n ≤ sizeLine := by decide) : z.length ≤ sizeLine := by rw [cl_len]; omega
/-- where a run of digits ends, at most m of them -/
def endR (r : List Nat) (m : Nat) : Nat := min m (r.takeWhile dg).length
theorem end_at {l : List Nat} {b m j : Nat} (h : j ≤ endR (l.drop b) m) : j < endR (l.drop b) m ↔ (j < m ∧ ∃ x, l[b + j]? = some x ∧ dg x = true) := by
  unfold endR at *
  have := tw_at (p := dg) (r := l.drop b) (j := j) (by omega)
  rw [List.getElem?_drop] at this
  rw [← this]
  omega
theorem d09 {x : Nat} : (!decide (((⟨#[x]⟩ : Str)).cps.toList < ("0" : Str).cps.toList)) = decide (48 ≤ x) ∧ (!decide ((("9" : Str)).cps.toList < (⟨#[x]⟩ : Str).cps.toList)) = decide (x ≤ 57) := by
  have e0 : ("0" : Str).cps.toList = [48] := by decide +kernel
  have e9 : ("9" : Str).cps.toList = [57] := by decide +kernel
  rw [e0, e9]
  show (!decide ([x] < [48])) = _ ∧ (!decide ([57] < [x])) = _
  rw [one_lt, one_lt]
  constructor <;> rw [← decide_not] <;> exact decide_eq_decide.mpr (by omega)
theorem eod_eq {z : Str} {b m : Nat} (S : List Ce) (hz : (cl z).length ≤ 1000) (hb : b ≤ (cl z).length) (hm : m ≤ 100) : f_end_of_digits [.dat (.str z), .dat (.int b), .dat (.int m)] S = .ok (.dat (.int ((b + endR ((cl z).drop b) m : Nat) : Int))) S := by
  have hl : endR ((cl z).drop b) m ≤ m := Nat.min_le_left _ _
  have hzl := lsz hz
  have hzc : z.length = (cl z).length := cl_len z
  have hw := whileL_count (t := tAnd (tOf (mOp ltF (mVar 3) (mBlt lenF (aCons (mVar 0) aNil)))) (tAnd (tOf (mOp ltF (mVar 3) (mOp addF (mVar 1) (mVar 2)))) (tOf (mChain leF leF (mK (.str "0")) (mOp ixF (mVar 0) (mVar 3)) (mK (.str "9")))))) (g := gAug 3 iaddF (mK (.int 1)))
    (f := fun j => [.dat (.str z), .dat (.int b), .dat (.int m), .dat (.int ((b + j : Nat) : Int))]) (S := S) (N := endR ((cl z).drop b) m) (fun j hj => by
      have key := end_at hj
      by_cases h1 : b + j < (cl z).length
      · by_cases h2 : j < m
        · obtain ⟨x, hx⟩ : ∃ x, (cl z)[b + j]? = some x := ⟨_, List.getElem?_eq_getElem h1⟩
          have a1 : ((b + j : Nat) : Int) < (z.length : Int) := by omega
          have a2 : ((b + j : Nat) : Int) < (b : Int) + (m : Int) := by omega
          have a3 : atI z.cps.toList ((b + j : Nat) : Int) = some x := by rw [atI_nat (show b + j < z.cps.toList.length from h1)]; exact hx
          have e := @d09 x
          have e1 := e.1
          have e2 := e.2
          have goal : decide (j < endR ((cl z).drop b) m) = (decide (48 ≤ x) && decide (x ≤ 57)) := by
            rw [Bool.eq_iff_iff, decide_eq_true_eq, key]
            constructor
            · rintro ⟨_, y, hy, hd⟩
              rw [hx] at hy
              cases hy
              exact hd
            · intro hd
              exact ⟨h2, x, hx, hd⟩
          rw [goal]
          clear goal key e
          by_cases h3 : 48 ≤ x
          · walk_at "ev"
            simp [h3]
          · walk_at "ev"
            simp [h3]
        · have a1 : ((b + j : Nat) : Int) < (z.length : Int) := by omega
          have a2 : ¬ ((b + j : Nat) : Int) < (b : Int) + (m : Int) := by omega
          have : ¬ j < endR ((cl z).drop b) m := fun h => h2 (key.mp h).1
          rw [decide_eq_false this]
          walk_at "ev"
      · have a1 : ¬ ((b + j : Nat) : Int) < (z.length : Int) := by omega
        have : ¬ j < endR ((cl z).drop b) m := fun h => by
          obtain ⟨_, x, hx, _⟩ := key.mp h
          exact h1 (List.getElem?_eq_some_iff.mp hx).1
        rw [decide_eq_false this]
        walk_at "ev") (fun j hj => by
      walk_at "ev"
      rfl) (endR ((cl z).drop b) m) 0 1000000 (by omega) (by omega)
  have f0 : ((b + 0 : Nat) : Int) = (b : Int) := rfl
  rw [f0] at hw
  unfold f_end_of_digits mkF m_end_of_digits
  generalize (tAnd (tOf (mOp ltF (mVar 3) (mBlt lenF (aCons (mVar 0) aNil)))) (tAnd (tOf (mOp ltF (mVar 3) (mOp addF (mVar 1) (mVar 2)))) (tOf (mChain leF leF (mK (.str "0")) (mOp ixF (mVar 0) (mVar 3)) (mK (.str "9")))))) = T at hw ⊢
  generalize gAug 3 iaddF (mK (.int 1)) = G at hw ⊢
  unfold gWhile
  walk_at "ev"
  rw [cut_same (by simp)]
end Mir

namespace Mir
open PySem PySem.Spec L2
local macro_rules | `(tactic| walk_at "ev") => `(tactic| simp (disch := omega) only [*, if_pos, if_neg, gNil, gSeq, gIf, gRet, gRetN, gSet, gStoV, gSto, gAppV, gApp, gEx, gPar, gAug, gFor, gRaise, gRaise1, gAsg, mVar, mk_ok, mOp, mUn, mIf, mAnd, mOr, mNot, mTup, mLst, mLstO, mBlt, mCall, mMs, mSl, oNo, oSome, mFmt, mChain, mFs, fsL, aCons, aNil, tOf, tTru, tAnd, tOr, tNot, tYes', mIt, mRng1, mRng2, datas, truS_vw, truD, op1_vw, op2_vw, opN_vw, vws_nil, vws_cons,
  vw_dat, vw_own, ceD_lst, ceD_dct, asB_ok, ofO_some, ofO_none, dat'_some, dat'_none, RE.ok_bind, RE.exc_bind, RE.stuck_bind, RE.ok_toS, RE.exc_toS, RE.stuck_toS, RE.noX_ok, RS.nx_bind, RS.rt_bind, RS.bk_bind, RS.ct_bind, RS.exc_bind, RS.stuck_bind, Option.bind_some, Option.map_some, Option.bind_none, Option.map_none, cond_dec, cond_true, cond_false, List.getElem?_cons_zero, List.getElem?_cons_succ, List.set_cons_zero, List.set_cons_succ, List.replicate, List.cons_append, List.nil_append,
  atI_0, atI_1, atI_2, isNonD, if_true, if_false, ite_true, ite_false, outF_nx, outF_rt, outF_exc, ixN_0, ixN_1, ixN_2, List.length_cons, List.length_nil, List.length_set, addF_i, subF_i, addF_s, addF_l, addF_t, iaddF_i, iaddF_s, imulF_i, mulF_i, mulF_s, mulF_l, mulF_t, divF_i, modF_i, powF_i, negF_i, ltF_i, ltF_s, leF_i, leF_s, gtF_i, gtF_s, geF_i, geF_s, isF_n, isnF_n, isF_b, isnF_b, inF_s, ninF_s, ixF_l, ixF_t, ixF_q, ixF_s, lenF_s, lenF_lst, lenF_sq, lenF_tup, absF_i, max2F_i, min2F_i, intF_i, intF_b, strF_i, strF_s, reprF_d, listF_lst, tupF_lst, itD_lst, listF_sq, tupF_sq, itD_sq, listF_tup, tupF_tup, itD_tup, itD_s, divmodF_i, slF_s, slF_t, slF_l, fmtF_s, fmtF_i, startswithF_s, endswithF_s, findF_s, countF_s, stripF_s, lstripF_s, rstripF_s, rmprefixF_s, rmsuffixF_s, isalphaF_n, isdigitF_n, zfillF_i, splitF_s, strsOf_map, intsOf_map, blsOf_map, joinF_m, allF_m, anyF_m, dec_T, dec_F, cond_nd, Bool.not_true, Bool.not_false, eqF_i, eqF_s, neF_i, neF_s, rgs_0, rgs_1, rgs_2, forL_nil, forL_cons, forK_nx, forK_ct, forK_bk, forK_rt, forK_exc, isi_non_int, isi_non_bool, isi_non_str, isi_non_list, isi_non_tuple, isi_non_dict, isi_bl_int, isi_bl_bool, isi_bl_str, isi_bl_list, isi_bl_tuple, isi_bl_dict, isi_int_int, isi_int_bool, isi_int_str, isi_int_list, isi_int_tuple, isi_int_dict, isi_str_int, isi_str_bool, isi_str_str, isi_str_list, isi_str_tuple, isi_str_dict, isi_lst_int, isi_lst_bool, isi_lst_str, isi_lst_list, isi_lst_tuple, isi_lst_dict, isi_tup_int, isi_tup_bool, isi_tup_str, isi_tup_list, isi_tup_tuple, isi_tup_dict, isi_dct_int, isi_dct_bool, isi_dct_str, isi_dct_list, isi_dct_tuple, isi_dct_dict])
theorem c_u : ("u" : Str) = mk [117] := by decide +kernel
theorem c_p : ("p" : Str) = mk [112] := by decide +kernel
theorem c_pt : ("pt" : Str) = mk [112, 116] := by decide +kernel
theorem c_dot : ("." : Str) = mk [46] := by decide +kernel
theorem mk_inj {a b : List Nat} : mk a = mk b ↔ a = b := ⟨fun h => by have := congrArg cl h; rwa [cl_mk, cl_mk] at this, fun h => by rw [h]⟩
theorem mk_dec {a b : List Nat} : decide (mk a = mk b) = decide (a = b) := decide_eq_decide.mpr mk_inj
theorem mk_len (a : List Nat) : (mk a).length = a.length := by rw [cl_len, cl_mk]
theorem mk_list (a : List Nat) : (mk a).cps.toList = a := cl_mk a
theorem one_mk (c : Nat) : (⟨#[c]⟩ : Str) = mk [c] := rfl
theorem drop_at {l : List Nat} {b i : Nat} : (l.drop (b + i)).take 1 = ((l.drop b).drop i).take 1 := by rw [List.drop_drop]
theorem sl_one (z : Str) (b i : Nat) : cutS z (some ((b : Int) + (i : Int))) (some ((b : Int) + (i : Int) + 1)) = mk ((((cl z).drop b).drop i).take 1) := by
  have := cut_one z (b + i)
  rw [Int.natCast_add] at this
  rw [this, drop_at]
def exN (k : Int) (S : List Ce) : RE Sl := .exc 2 (some ("number", .int k)) S
theorem chk_u {z : Str} {b : Nat} (S : List Ce) (hz : (cl z).length ≤ 1000) (hb : b ≤ (cl z).length) : f_check_name [.dat (.str z), .dat (.int b), .dat (.str "u")] S = match uR ((cl z).drop b) with
    | some j => exN (b + (j : Int)) S
    | none => .ok (.dat .non) S := by
  have hzl := lsz hz
  have hzc : z.length = (cl z).length := cl_len z
  have l1 : (mk [117]).length = 1 := mk_len _
  have s1 : 1 ≤ sizeLine := by decide
  have t1 : (mk [117]).cps.toList = [117] := cl_mk _
  have n1 : ((1 : Nat) : Int) = 1 := rfl
  have n2 : Int.toNat 1 = 1 := rfl
  have o1 := sl_one z b 0
  rw [show ((0 : Nat) : Int) = 0 from rfl, List.drop_zero] at o1
  have ol := one_mk
  have hlen : ((cl z).drop b).length = (cl z).length - b := List.length_drop
  have md := @mk_dec
  rw [c_u]
  rcases u_cases ((cl z).drop b) with ⟨e, e2⟩ | ⟨y, R, e, e2⟩ | ⟨e, e2⟩ | ⟨x, R, e, hx, e2⟩ <;> rw [e2] <;> rw [e] at o1 hlen
  · rw [show ([117] : List Nat).take 1 = [117] from rfl] at o1
    have a : ¬ (b : Int) + 1 < (z.length : Int) := by simp at hlen; omega
    unfold f_check_name mkF m_check_name
    walk_at "ev"
    rw [cut_same (by simp)]
  · rw [show (117 :: y :: R : List Nat).take 1 = [117] from rfl] at o1
    have a : (b : Int) + 1 < (z.length : Int) := by simp at hlen; omega
    unfold f_check_name mkF m_check_name
    walk_at "ev"
    rw [cutX_same (by simp)]
    rfl
  · rw [show ([] : List Nat).take 1 = [] from rfl] at o1
    have a : decide (([] : List Nat) = [117]) = false := rfl
    unfold f_check_name mkF m_check_name
    walk_at "ev"
    rw [cutX_same (by simp)]
    rfl
  · rw [show (x :: R : List Nat).take 1 = [x] from rfl] at o1
    have a : decide (([x] : List Nat) = [117]) = false := decide_eq_false (by simp [hx])
    unfold f_check_name mkF m_check_name
    walk_at "ev"
    rw [cutX_same (by simp)]
    rfl
theorem chk_pt {z : Str} {b : Nat} (S : List Ce) (hz : (cl z).length ≤ 1000) (hb : b ≤ (cl z).length) : f_check_name [.dat (.str z), .dat (.int b), .dat (.str "pt")] S = match ptR ((cl z).drop b) with
    | some j => exN (b + (j : Int)) S
    | none => .ok (.dat .non) S := by
  have hzl := lsz hz
  have hzc : z.length = (cl z).length := cl_len z
  have l1 : (mk [112, 116]).length = 2 := mk_len _
  have s1 : 2 ≤ sizeLine := by decide
  have t1 : (mk [112, 116]).cps.toList = [112, 116] := cl_mk _
  have n1 : ((2 : Nat) : Int) = 2 := rfl
  have n2 : Int.toNat 2 = 2 := rfl
  have o1 := sl_one z b 0
  have o2 := sl_one z b 1
  rw [show ((0 : Nat) : Int) = 0 from rfl, List.drop_zero] at o1
  rw [show ((1 : Nat) : Int) = 1 from rfl] at o2
  have ol := one_mk
  have hlen : ((cl z).drop b).length = (cl z).length - b := List.length_drop
  have md := @mk_dec
  rw [c_pt]
  rcases pt_cases ((cl z).drop b) with ⟨e, e2⟩ | ⟨y, R, e, e2⟩ | ⟨e, e2⟩ | ⟨y, R, e, hy, e2⟩ | ⟨e, e2⟩ | ⟨x, R, e, hx, e2⟩ <;> rw [e2] <;> rw [e] at o1 o2 hlen
  · rw [show ([112, 116] : List Nat).take 1 = [112] from rfl] at o1
    rw [show (([112, 116] : List Nat).drop 1).take 1 = [116] from rfl] at o2
    have a : ¬ (b : Int) + 2 < (z.length : Int) := by simp at hlen; omega
    unfold f_check_name mkF m_check_name
    walk_at "ev"
    rw [cut_same (by simp)]
  · rw [show (112 :: 116 :: y :: R : List Nat).take 1 = [112] from rfl] at o1
    rw [show ((112 :: 116 :: y :: R : List Nat).drop 1).take 1 = [116] from rfl] at o2
    have a : (b : Int) + 2 < (z.length : Int) := by simp at hlen; omega
    unfold f_check_name mkF m_check_name
    walk_at "ev"
    rw [cutX_same (by simp)]
    rfl
  · rw [show ([112] : List Nat).take 1 = [112] from rfl] at o1
    rw [show (([112] : List Nat).drop 1).take 1 = [] from rfl] at o2
    have a : decide (([] : List Nat) = [116]) = false := rfl
    unfold f_check_name mkF m_check_name
    walk_at "ev"
    rw [cutX_same (by simp)]
    rfl
  · rw [show (112 :: y :: R : List Nat).take 1 = [112] from rfl] at o1
    rw [show ((112 :: y :: R : List Nat).drop 1).take 1 = [y] from rfl] at o2
    have a : decide (([y] : List Nat) = [116]) = false := decide_eq_false (by simp [hy])
    unfold f_check_name mkF m_check_name
    walk_at "ev"
    rw [cutX_same (by simp)]
    rfl
  · rw [show ([] : List Nat).take 1 = [] from rfl] at o1
    have a : decide (([] : List Nat) = [112]) = false := rfl
    unfold f_check_name mkF m_check_name
    walk_at "ev"
    rw [cutX_same (by simp)]
    rfl
  · rw [show (x :: R : List Nat).take 1 = [x] from rfl] at o1
    have a : decide (([x] : List Nat) = [112]) = false := decide_eq_false (by simp [hx])
    unfold f_check_name mkF m_check_name
    walk_at "ev"
    rw [cutX_same (by simp)]
    rfl
theorem endR_val (r : List Nat) (m : Nat) : endR r m = min m (r.takeWhile dg).length := rfl
theorem digs_all {l : List Nat} (h : AllD l) : NumText.AllDigits l := fun c hc => by
  have := h c hc
  unfold dg at this
  rw [Bool.and_eq_true, decide_eq_true_eq, decide_eq_true_eq] at this
  exact this
theorem ljust_pad {l : List Nat} : ljust3 (mk l) 9 48 = mk (pad9 l) := by
  have e : (mk l).length = l.length := by rw [cl_len, cl_mk]
  unfold ljust3 pad9
  rw [e]
  by_cases h : (9 : Int) ≤ l.length
  · rw [if_pos h, show 9 - l.length = 0 by omega, List.replicate_zero, List.append_nil]
  · rw [if_neg h]
    show (⟨Array.replicate 0 48 ++ l.toArray ++ Array.replicate ((9 : Int).toNat - l.length) 48⟩ : Str) = ⟨(l ++ List.replicate (9 - l.length) 48).toArray⟩
    have : (9 : Int).toNat = 9 := rfl
    rw [this]
    simp
theorem pad_dig {l : List Nat} (h : AllD l) : AllD (pad9 l) := by
  intro c hc
  rcases List.mem_append.mp hc with hc | hc
  · exact h c hc
  · rw [List.eq_of_mem_replicate hc]; decide
theorem drop_tw1 (r : List Nat) : r.drop (r.takeWhile dg).length = r.dropWhile dg := drop_tw dg r
theorem tw_pre (r : List Nat) : r.take (r.takeWhile dg).length = r.takeWhile dg := (List.prefix_iff_eq_take.mp (List.takeWhile_prefix (p := dg) (l := r))).symm
theorem pt_dig {r : List Nat} {x : Nat} (h : r[0]? = some x) (hd : dg x = true) : ptR r = some 0 := by
  rcases pt_cases r with ⟨e, e2⟩ | ⟨y, R, e, e2⟩ | ⟨e, e2⟩ | ⟨y, R, e, hy, e2⟩ | ⟨e, e2⟩ | ⟨y, R, e, hx, e2⟩
  all_goals first | exact e2 | (rw [e] at h; cases h; cases hd)
theorem u_dig {r : List Nat} {x : Nat} (h : r[0]? = some x) (hd : dg x = true) : uR r = some 0 := by
  rcases u_cases r with ⟨e, e2⟩ | ⟨y, R, e, e2⟩ | ⟨e, e2⟩ | ⟨y, R, e, hx, e2⟩
  all_goals first | exact e2 | (rw [e] at h; cases h; cases hd)
theorem tw_nth {r : List Nat} {i : Nat} (h : i < (r.takeWhile dg).length) : ∃ x, r[i]? = some x ∧ dg x = true := (tw_at (Nat.le_of_lt h)).mp h
end Mir

namespace Mir
open PySem PySem.Spec L2
local macro_rules | `(tactic| walk_at "ev") => `(tactic| simp (disch := omega) only [*, if_pos, if_neg, gNil, gSeq, gIf, gRet, gRetN, gSet, gStoV, gSto, gAppV, gApp, gEx, gPar, gAug, gFor, gRaise, gRaise1, gAsg, mVar, mk_ok, mOp, mUn, mIf, mAnd, mOr, mNot, mTup, mLst, mLstO, mBlt, mCall, mMs, mSl, oNo, oSome, mFmt, mChain, mFs, fsL, aCons, aNil, tOf, tTru, tAnd, tOr, tNot, tYes', mIt, mRng1, mRng2, datas, truS_vw, truD, op1_vw, op2_vw, opN_vw, vws_nil, vws_cons,
  vw_dat, vw_own, ceD_lst, ceD_dct, asB_ok, ofO_some, ofO_none, dat'_some, dat'_none, RE.ok_bind, RE.exc_bind, RE.stuck_bind, RE.ok_toS, RE.exc_toS, RE.stuck_toS, RE.noX_ok, RS.nx_bind, RS.rt_bind, RS.bk_bind, RS.ct_bind, RS.exc_bind, RS.stuck_bind, Option.bind_some, Option.map_some, Option.bind_none, Option.map_none, cond_dec, cond_true, cond_false, List.getElem?_cons_zero, List.getElem?_cons_succ, List.set_cons_zero, List.set_cons_succ, List.replicate, List.cons_append, List.nil_append,
  atI_0, atI_1, atI_2, isNonD, if_true, if_false, ite_true, ite_false, outF_nx, outF_rt, outF_exc, ixN_0, ixN_1, ixN_2, List.length_cons, List.length_nil, List.length_set, addF_i, subF_i, addF_s, addF_l, addF_t, iaddF_i, iaddF_s, imulF_i, mulF_i, mulF_s, mulF_l, mulF_t, divF_i, modF_i, powF_i, negF_i, ltF_i, ltF_s, leF_i, leF_s, gtF_i, gtF_s, geF_i, geF_s, isF_n, isnF_n, isF_b, isnF_b, inF_s, ninF_s, ixF_l, ixF_t, ixF_q, ixF_s, lenF_s, lenF_lst, lenF_sq, lenF_tup, absF_i, max2F_i, min2F_i, intF_i, intF_b, strF_i, strF_s, reprF_d, listF_lst, tupF_lst, itD_lst, listF_sq, tupF_sq, itD_sq, listF_tup, tupF_tup, itD_tup, itD_s, divmodF_i, slF_s, slF_t, slF_l, fmtF_s, fmtF_i, startswithF_s, endswithF_s, findF_s, countF_s, stripF_s, lstripF_s, rstripF_s, rmprefixF_s, rmsuffixF_s, isalphaF_n, isdigitF_n, zfillF_i, splitF_s, strsOf_map, intsOf_map, blsOf_map, joinF_m, allF_m, anyF_m, dec_T, dec_F, cond_nd, Bool.not_true, Bool.not_false, eqF_i, eqF_s, neF_i, neF_s, rgs_0, rgs_1, rgs_2, forL_nil, forL_cons, forK_nx, forK_ct, forK_bk, forK_rt, forK_exc, isi_non_int, isi_non_bool, isi_non_str, isi_non_list, isi_non_tuple, isi_non_dict, isi_bl_int, isi_bl_bool, isi_bl_str, isi_bl_list, isi_bl_tuple, isi_bl_dict, isi_int_int, isi_int_bool, isi_int_str, isi_int_list, isi_int_tuple, isi_int_dict, isi_str_int, isi_str_bool, isi_str_str, isi_str_list, isi_str_tuple, isi_str_dict, isi_lst_int, isi_lst_bool, isi_lst_str, isi_lst_list, isi_lst_tuple, isi_lst_dict, isi_tup_int, isi_tup_bool, isi_tup_str, isi_tup_list, isi_tup_tuple, isi_tup_dict, isi_dct_int, isi_dct_bool, isi_dct_str, isi_dct_list, isi_dct_tuple, isi_dct_dict])
theorem intF_mk {l : List Nat} (h : AllD l) (h1 : l ≠ []) (h2 : l.length ≤ 640) : intF [.str (mk l)] = some (.int (valL l)) := intF_s (int_of (digs_all h) h1 h2) (by rw [mk_len]; exact h2)
theorem val_bound {l : List Nat} {n : Nat} (h : AllD l) (hn : l.length ≤ n) : (valL l).natAbs < 10 ^ n := by
  have := val_lt (digs_all h) hn
  unfold valL
  rw [Int.natAbs_natCast]
  exact this
theorem pad_len {A : List Nat} (h : A.length ≤ 9) : (pad9 A).length = 9 := by unfold pad9; rw [List.length_append, List.length_replicate]; omega
theorem ljF {A : List Nat} : ljust3F (mk A) [.int 9, .str "0"] = some (.str (mk (pad9 A))) := by
  have e : ("0" : Str).cps.toList = [48] := by decide +kernel
  show (match ("0" : Str).cps.toList with | [c] => if PadOk 9 = true then some (D.str (ljust3 (mk A) 9 c)) else none | _ => none) = _
  rw [e]
  show (if PadOk 9 = true then some (D.str (ljust3 (mk A) 9 48)) else none) = _
  rw [if_pos (by decide +kernel), ljust_pad]
def resN (b : Nat) (S : List Ce) : Except Nat Int → RE Sl
  | .error i => exN ((b : Int) + (i : Int)) S
  | .ok v => .ok (.dat (.int v)) S
theorem swd_eq {z : Str} {b : Nat} {D F : List Nat} (S : List Ce) (hz : (cl z).length ≤ 1000) (hb : b ≤ (cl z).length) (hr : (cl z).drop b = D ++ 46 :: F) (hD : AllD D) (h5 : D.length ≤ 5) :
    f_size_with_decimals [.dat (.str z), .dat (.int b), .dat (.int ((b + D.length : Nat) : Int))] S = resN b S (dotR D F) := by
  have hzl := lsz hz
  have hzc : z.length = (cl z).length := cl_len z
  have hlen : ((cl z).drop b).length = (cl z).length - b := List.length_drop
  rw [hr, List.length_append, List.length_cons] at hlen
  generalize hd : b + D.length = dot
  have hF : (cl z).drop (dot + 1) = F := by
    rw [← hd, show b + D.length + 1 = b + (D.length + 1) by omega, ← List.drop_drop, hr, List.drop_length_add_append] <;> rfl
  have hDs : ((cl z).drop b).take (dot - b) = D := by rw [hr, show dot - b = D.length by omega, List.take_left]
  have k9 : k_MOST_DECIMALS = .int 9 := rfl
  have kP : k_POINT = .int 65536 := rfl
  have kB : k_BILLION = .int 1000000000 := rfl
  have e1 : f_end_of_digits [.dat (.str z), .dat (.int ((dot : Int) + 1)), .dat (.int 9)] S = .ok (.dat (.int ((dot + 1 + endR F 9 : Nat) : Int))) S := by
    have := eod_eq (z := z) (b := dot + 1) (m := 9) S hz (by omega) (by decide)
    rw [hF] at this
    exact this
  have hk := endR_val F 9
  unfold dotR
  by_cases k0 : (F.takeWhile dg).length = 0
  · rw [if_pos k0]
    have hE : ((dot + 1 + endR F 9 : Nat) : Int) = (dot : Int) + 1 := by omega
    unfold f_size_with_decimals mkF m_size_with_decimals
    walk_at "ev"
    rw [cutX_same (by simp)]
    show exN _ S = exN _ S
    congr 1
    omega
  rw [if_neg k0]
  generalize hEE : dot + 1 + endR F 9 = E at e1
  have hne : ¬ ((E : Int) = (dot : Int) + 1) := by omega
  have hc := chk_pt (z := z) (b := E) S hz (by
    have := (List.takeWhile_prefix (p := dg) (l := F)).length_le
    omega)
  have hEF : (cl z).drop E = F.drop (endR F 9) := by rw [← hEE, ← hF, List.drop_drop]
  rw [hEF] at hc
  by_cases k10 : 9 < (F.takeWhile dg).length
  · rw [if_pos k10]
    have e9 : endR F 9 = 9 := by omega
    obtain ⟨x, hx, hxd⟩ := tw_nth k10
    rw [e9, pt_dig (r := F.drop 9) (x := x) (by rw [List.getElem?_drop]; exact hx) hxd] at hc
    unfold exN at hc
    dsimp only at hc
    unfold f_size_with_decimals mkF m_size_with_decimals
    walk_at "ev"
    rw [cutX_same (by simp)]
    show exN _ S = exN _ S
    congr 1
    omega
  rw [if_neg k10]
  have ek : endR F 9 = (F.takeWhile dg).length := by omega
  rw [ek, drop_tw1] at hc
  have hA := allD_tw F
  have hAs : (F.take (E - (dot + 1))) = F.takeWhile dg := by rw [show E - (dot + 1) = (F.takeWhile dg).length by omega, tw_pre]
  have lenE : E ≤ (cl z).length := by
    have := (List.takeWhile_prefix (p := dg) (l := F)).length_le
    omega
  have c1 : cutS z (some ((dot : Int) + 1)) (some (E : Int)) = mk (F.takeWhile dg) := by
    have := cut_at z (dot + 1) E (by omega) lenE
    rw [hF, hAs] at this
    exact this
  have c2 : cutS z (some (b : Int)) (some (dot : Int)) = mk D := by
    have := cut_at z b dot (by omega) (by omega)
    rw [hDs] at this
    exact this
  generalize F.takeWhile dg = A at *
  have lj := @ljF A
  cases hp : ptR (F.dropWhile dg) with
  | some j =>
    rw [hp] at hc
    unfold exN at hc
    dsimp only at hc ⊢
    unfold f_size_with_decimals mkF m_size_with_decimals
    walk_at "ev"
    rw [cutX_same (by simp)]
    show exN _ S = exN _ S
    congr 1
    omega
  | none =>
    rw [hp] at hc
    dsimp only at hc ⊢
    have pl := pad_len (A := A) (by omega)
    have hDA : AllD (D ++ pad9 A) := fun c h => (List.mem_append.mp h).elim (hD c) (pad_dig hA c)
    have ll : (D ++ pad9 A).length ≤ 14 := by rw [List.length_append, pl]; omega
    have ml := @mk_app D (pad9 A)
    have m1 : (mk D).length + (mk (pad9 A)).length ≤ sizeLine := by rw [mk_len, mk_len, pl]; exact Nat.le_trans (show D.length + 9 ≤ 14 by omega) (by decide)
    have iF := intF_mk hDA (by intro h; have := congrArg List.length h; rw [List.length_append, pl] at this; simp at this) (by omega)
    have vb := val_bound hDA ll
    have om : okMul (valL (D ++ pad9 A)) 65536 = true := okMul_of (a := 100) (b := 64) (by omega) (by decide)
    have rr := rounded_eq (o := valL (D ++ pad9 A) * 65536) (u := 1000000000) S (by omega) (by decide) (by decide)
    unfold f_size_with_decimals mkF m_size_with_decimals
    walk_at "ev"
    rw [cut_same (by simp)]
    rfl
end Mir

namespace Mir
open PySem PySem.Spec L2
local macro_rules | `(tactic| walk_at "ev") => `(tactic| simp (disch := omega) only [*, if_pos, if_neg, gNil, gSeq, gIf, gRet, gRetN, gSet, gStoV, gSto, gAppV, gApp, gEx, gPar, gAug, gFor, gRaise, gRaise1, gAsg, mVar, mk_ok, mOp, mUn, mIf, mAnd, mOr, mNot, mTup, mLst, mLstO, mBlt, mCall, mMs, mSl, oNo, oSome, mFmt, mChain, mFs, fsL, aCons, aNil, tOf, tTru, tAnd, tOr, tNot, tYes', mIt, mRng1, mRng2, datas, truS_vw, truD, op1_vw, op2_vw, opN_vw, vws_nil, vws_cons,
  vw_dat, vw_own, ceD_lst, ceD_dct, asB_ok, ofO_some, ofO_none, dat'_some, dat'_none, RE.ok_bind, RE.exc_bind, RE.stuck_bind, RE.ok_toS, RE.exc_toS, RE.stuck_toS, RE.noX_ok, RS.nx_bind, RS.rt_bind, RS.bk_bind, RS.ct_bind, RS.exc_bind, RS.stuck_bind, Option.bind_some, Option.map_some, Option.bind_none, Option.map_none, cond_dec, cond_true, cond_false, List.getElem?_cons_zero, List.getElem?_cons_succ, List.set_cons_zero, List.set_cons_succ, List.replicate, List.cons_append, List.nil_append,
  atI_0, atI_1, atI_2, isNonD, if_true, if_false, ite_true, ite_false, outF_nx, outF_rt, outF_exc, ixN_0, ixN_1, ixN_2, List.length_cons, List.length_nil, List.length_set, addF_i, subF_i, addF_s, addF_l, addF_t, iaddF_i, iaddF_s, imulF_i, mulF_i, mulF_s, mulF_l, mulF_t, divF_i, modF_i, powF_i, negF_i, ltF_i, ltF_s, leF_i, leF_s, gtF_i, gtF_s, geF_i, geF_s, isF_n, isnF_n, isF_b, isnF_b, inF_s, ninF_s, ixF_l, ixF_t, ixF_q, ixF_s, lenF_s, lenF_lst, lenF_sq, lenF_tup, absF_i, max2F_i, min2F_i, intF_i, intF_b, strF_i, strF_s, reprF_d, listF_lst, tupF_lst, itD_lst, listF_sq, tupF_sq, itD_sq, listF_tup, tupF_tup, itD_tup, itD_s, divmodF_i, slF_s, slF_t, slF_l, fmtF_s, fmtF_i, startswithF_s, endswithF_s, findF_s, countF_s, stripF_s, lstripF_s, rstripF_s, rmprefixF_s, rmsuffixF_s, isalphaF_n, isdigitF_n, zfillF_i, splitF_s, strsOf_map, intsOf_map, blsOf_map, joinF_m, allF_m, anyF_m, dec_T, dec_F, cond_nd, Bool.not_true, Bool.not_false, eqF_i, eqF_s, neF_i, neF_s, rgs_0, rgs_1, rgs_2, forL_nil, forL_cons, forK_nx, forK_ct, forK_bk, forK_rt, forK_exc, isi_non_int, isi_non_bool, isi_non_str, isi_non_list, isi_non_tuple, isi_non_dict, isi_bl_int, isi_bl_bool, isi_bl_str, isi_bl_list, isi_bl_tuple, isi_bl_dict, isi_int_int, isi_int_bool, isi_int_str, isi_int_list, isi_int_tuple, isi_int_dict, isi_str_int, isi_str_bool, isi_str_str, isi_str_list, isi_str_tuple, isi_str_dict, isi_lst_int, isi_lst_bool, isi_lst_str, isi_lst_list, isi_lst_tuple, isi_lst_dict, isi_tup_int, isi_tup_bool, isi_tup_str, isi_tup_list, isi_tup_tuple, isi_tup_dict, isi_dct_int, isi_dct_bool, isi_dct_str, isi_dct_list, isi_dct_tuple, isi_dct_dict])
theorem dec1 {T : List Nat} {c : Nat} {s : Str} (h : s = mk [c]) : decide (mk (T.take 1) = s) = decide (T[0]? = some c) := by
  rw [h, mk_dec]
  have := @take1 T 0 c
  rw [List.drop_zero] at this
  exact decide_eq_decide.mpr this
theorem size_eq {z : Str} {b : Nat} (S : List Ce) (hz : (cl z).length ≤ 1000) (hb : b ≤ (cl z).length) : f_size_of [.dat (.str z), .dat (.int b)] S = resN b S (sizeR ((cl z).drop b)) := by
  have hzl := lsz hz
  have hzc : z.length = (cl z).length := cl_len z
  have hlen : ((cl z).drop b).length = (cl z).length - b := List.length_drop
  have kU : k_MOST_UNIT_DIGITS = .int 10 := rfl
  have kQ : k_MOST_POINT_DIGITS = .int 5 := rfl
  have kP : k_POINT = .int 65536 := rfl
  have e1 : f_end_of_digits [.dat (.str z), .dat (.int b), .dat (.int 10)] S = .ok (.dat (.int ((b + endR ((cl z).drop b) 10 : Nat) : Int))) S := eod_eq (z := z) (b := b) (m := 10) S hz hb (by decide)
  have hk := endR_val ((cl z).drop b) 10
  generalize hEE : b + endR ((cl z).drop b) 10 = E at e1
  have hpre := (List.takeWhile_prefix (p := dg) (l := (cl z).drop b)).length_le
  have lenE : E ≤ (cl z).length := by omega
  have sl : cutS z (some (E : Int)) (some ((E : Int) + 1)) = mk (((cl z).drop E).take 1) := cut_one z E
  have hEd : (cl z).drop E = ((cl z).drop b).drop (endR ((cl z).drop b) 10) := by rw [← hEE, List.drop_drop]
  have hm : (E : Int) - (b : Int) = ((endR ((cl z).drop b) 10 : Nat) : Int) := by omega
  have cu := chk_u (z := z) (b := E) S hz lenE
  have cp := chk_pt (z := z) (b := E) S hz lenE
  unfold sizeR sizeDT
  by_cases k10 : 10 < (((cl z).drop b).takeWhile dg).length
  · rw [if_pos k10]
    have e10 : endR ((cl z).drop b) 10 = 10 := by omega
    rw [e10] at hEd hm
    obtain ⟨x, hx, hxd⟩ := tw_nth k10
    have hx0 : ((cl z).drop E)[0]? = some x := by rw [hEd, List.getElem?_drop]; exact hx
    have nx := dg_ne hxd
    rw [u_dig hx0 hxd] at cu
    have d46 : decide (mk (((cl z).drop E).take 1) = ("." : Str)) = false := by rw [dec1 c_dot, hx0]; exact decide_eq_false (by simp [nx.1])
    have d117 : decide (mk (((cl z).drop E).take 1) = ("u" : Str)) = false := by rw [dec1 c_u, hx0]; exact decide_eq_false (by simp [nx.2.2.2])
    clear hEd
    unfold exN at cu
    dsimp only at cu
    rw [show ((10 : Nat) : Int) = 10 from rfl] at hm
    unfold f_size_of mkF m_size_of
    walk_at "ev"
    rw [cutX_same (by simp)]
    show exN _ S = exN _ S
    congr 1
    omega
  rw [if_neg k10]
  have ek : endR ((cl z).drop b) 10 = (((cl z).drop b).takeWhile dg).length := by omega
  rw [ek] at hEd hm hEE
  rw [drop_tw1] at hEd
  rw [hEd] at cu cp sl
  clear hEd
  have hr : (cl z).drop b = ((cl z).drop b).takeWhile dg ++ ((cl z).drop b).dropWhile dg := List.takeWhile_append_dropWhile.symm
  have hD := allD_tw ((cl z).drop b)
  have hDs : ((cl z).drop b).take (E - b) = ((cl z).drop b).takeWhile dg := by rw [show E - b = (((cl z).drop b).takeWhile dg).length by omega, tw_pre]
  have c2 : cutS z (some (b : Int)) (some (E : Int)) = mk (((cl z).drop b).takeWhile dg) := by
    rw [cut_at z b E (by omega) lenE, hDs]
  generalize ((cl z).drop b).takeWhile dg = D at *
  generalize ((cl z).drop b).dropWhile dg = T at *
  by_cases hdot : T[0]? = some 46 ∧ D.length ≤ 5
  · rw [if_pos hdot]
    obtain ⟨F, rfl⟩ : ∃ F, T = 46 :: F := by
      cases T with
      | nil => cases hdot.1
      | cons x F => exact ⟨F, by have := hdot.1; simp at this; rw [this]⟩
    have sw := swd_eq S hz hb hr hD hdot.2
    rw [hEE] at sw
    have d46 : decide (mk ((46 :: F).take 1) = ("." : Str)) = true := by rw [dec1 c_dot]; exact decide_eq_true rfl
    have h5 : ((D.length : Nat) : Int) ≤ 5 := by omega
    show _ = resN b S (dotR D F)
    cases hx : dotR D F with
    | error i =>
      rw [hx] at sw
      unfold resN exN at sw
      dsimp only at sw
      unfold f_size_of mkF m_size_of
      walk_at "ev"
      rw [cutX_same (by simp)]
      rfl
    | ok v =>
      rw [hx] at sw
      unfold resN at sw
      dsimp only at sw
      unfold f_size_of mkF m_size_of
      walk_at "ev"
      rw [cut_same (by simp)]
      rfl
  rw [if_neg hdot]
  have hand : (if (decide (T[0]? = some 46)) = true then decide ((D.length : Int) ≤ 5) else false) = false := by
    by_cases h1 : T[0]? = some 46
    · have : ¬ ((D.length : Int) ≤ 5) := fun h => hdot ⟨h1, by omega⟩
      simp [this]
    · simp [h1]
  have hand2 : T[0]? = some 46 → ¬ ((D.length : Int) ≤ 5) := fun h1 h => hdot ⟨h1, by omega⟩
  by_cases k0 : D.length = 0
  · rw [if_pos k0]
    have hm0 : (D.length : Int) = 0 := by omega
    have d46 : decide (mk (T.take 1) = ("." : Str)) = false := by rw [dec1 c_dot]; exact decide_eq_false fun h => hand2 h (by omega)
    clear hand hand2
    unfold f_size_of mkF m_size_of
    walk_at "ev"
    rw [cutX_same (by simp)]
    show exN _ S = exN _ S
    congr 1
    omega
  rw [if_neg k0]
  have n0 : ¬ ((D.length : Int) = 0) := by omega
  have hDl : (mk D).length ≤ 640 := by rw [mk_len]; omega
  have iF := intF_mk hD (by rintro rfl; simp at k0) (by omega)
  have vb := val_bound hD (show D.length ≤ 10 by omega)
  have om : okMul (valL D) 65536 = true := okMul_of (a := 64) (b := 64) (by omega) (by decide)
  have step : ∀ r : RE Sl, (∀ (x : Bool), decide (mk (T.take 1) = ("." : Str)) = x → (x = true → ¬ ((D.length : Int) ≤ 5)) → f_size_of [.dat (.str z), .dat (.int b)] S = r) → f_size_of [.dat (.str z), .dat (.int b)] S = r := fun r h => h _ rfl fun hx => hand2 (of_decide_eq_true (by rw [← dec1 c_dot]; exact hx))
  refine step _ fun x d46 hx5 => ?_
  clear step hand hand2
  by_cases hu : T[0]? = some 117 ∨ 5 < D.length
  · rw [if_pos hu]
    have hu2 : decide (mk (T.take 1) = ("u" : Str)) = true ∨ (decide (mk (T.take 1) = ("u" : Str)) = false ∧ (5 : Int) < D.length) := by
      rw [dec1 c_u]
      by_cases h : T[0]? = some 117
      · exact .inl (decide_eq_true h)
      · exact .inr ⟨decide_eq_false h, by rcases hu with h' | h'; exact absurd h' h; omega⟩
    cases hx : uR T with
    | some j =>
      rw [hx] at cu
      unfold exN at cu
      dsimp only at cu ⊢
      have fin : ∀ r, r = RE.exc 2 (some ("number", .int ((E : Int) + (j : Int)))) S → r = resN b S (.error (D.length + j)) := fun r h => by
        rw [h]
        show exN _ S = exN _ S
        congr 1
        omega
      refine fin _ ?_
      clear fin
      rcases hu2 with hu2 | ⟨hu2, hu3⟩ <;> cases x <;> (try have h5 := hx5 rfl) <;> (unfold f_size_of mkF m_size_of; walk_at "ev"; rw [cutX_same (by simp)])
    | none =>
      rw [hx] at cu
      dsimp only at cu ⊢
      have fin : ∀ r, r = RE.ok (.dat (.int (valL D))) S → r = resN b S (.ok (valL D)) := fun r h => h
      refine fin _ ?_
      clear fin
      rcases hu2 with hu2 | ⟨hu2, hu3⟩ <;> cases x <;> (try have h5 := hx5 rfl) <;> (unfold f_size_of mkF m_size_of; walk_at "ev"; rw [cut_same (by simp)])
  · rw [if_neg hu]
    have h1 : decide (mk (T.take 1) = ("u" : Str)) = false := by rw [dec1 c_u]; exact decide_eq_false fun h => hu (.inl h)
    have h2 : ¬ ((5 : Int) < D.length) := fun h => hu (.inr (by omega))
    have h5 : (D.length : Int) ≤ 5 := by omega
    cases x with
    | true => exact absurd h5 (hx5 rfl)
    | false =>
    cases hx : ptR T with
    | some j =>
      rw [hx] at cp
      unfold exN at cp
      dsimp only at cp ⊢
      have fin : ∀ r, r = RE.exc 2 (some ("number", .int ((E : Int) + (j : Int)))) S → r = resN b S (.error (D.length + j)) := fun r h => by
        rw [h]
        show exN _ S = exN _ S
        congr 1
        omega
      refine fin _ ?_
      clear fin
      unfold f_size_of mkF m_size_of
      walk_at "ev"
      rw [cutX_same (by simp)]
    | none =>
      rw [hx] at cp
      dsimp only at cp ⊢
      have fin : ∀ r, r = RE.ok (.dat (.int (valL D * 65536))) S → r = resN b S (.ok (valL D * 65536)) := fun r h => h
      refine fin _ ?_
      clear fin
      unfold f_size_of mkF m_size_of
      walk_at "ev"
      rw [cut_same (by simp)]
end Mir

namespace Mir
open PySem PySem.Spec L2
local macro_rules | `(tactic| walk_at "ev") => `(tactic| simp (disch := omega) only [*, if_pos, if_neg, gNil, gSeq, gIf, gRet, gRetN, gSet, gStoV, gSto, gAppV, gApp, gEx, gPar, gAug, gFor, gRaise, gRaise1, gAsg, mVar, mk_ok, mOp, mUn, mIf, mAnd, mOr, mNot, mTup, mLst, mLstO, mBlt, mCall, mMs, mSl, oNo, oSome, mFmt, mChain, mFs, fsL, aCons, aNil, tOf, tTru, tAnd, tOr, tNot, tYes', mIt, mRng1, mRng2, datas, truS_vw, truD, op1_vw, op2_vw, opN_vw, vws_nil, vws_cons,
  vw_dat, vw_own, ceD_lst, ceD_dct, asB_ok, ofO_some, ofO_none, dat'_some, dat'_none, RE.ok_bind, RE.exc_bind, RE.stuck_bind, RE.ok_toS, RE.exc_toS, RE.stuck_toS, RE.noX_ok, RS.nx_bind, RS.rt_bind, RS.bk_bind, RS.ct_bind, RS.exc_bind, RS.stuck_bind, Option.bind_some, Option.map_some, Option.bind_none, Option.map_none, cond_dec, cond_true, cond_false, List.getElem?_cons_zero, List.getElem?_cons_succ, List.set_cons_zero, List.set_cons_succ, List.replicate, List.cons_append, List.nil_append,
  atI_0, atI_1, atI_2, isNonD, if_true, if_false, ite_true, ite_false, outF_nx, outF_rt, outF_exc, ixN_0, ixN_1, ixN_2, List.length_cons, List.length_nil, List.length_set, addF_i, subF_i, addF_s, addF_l, addF_t, iaddF_i, iaddF_s, imulF_i, mulF_i, mulF_s, mulF_l, mulF_t, divF_i, modF_i, powF_i, negF_i, ltF_i, ltF_s, leF_i, leF_s, gtF_i, gtF_s, geF_i, geF_s, isF_n, isnF_n, isF_b, isnF_b, inF_s, ninF_s, ixF_l, ixF_t, ixF_q, ixF_s, lenF_s, lenF_lst, lenF_sq, lenF_tup, absF_i, max2F_i, min2F_i, intF_i, intF_b, strF_i, strF_s, reprF_d, listF_lst, tupF_lst, itD_lst, listF_sq, tupF_sq, itD_sq, listF_tup, tupF_tup, itD_tup, itD_s, divmodF_i, slF_s, slF_t, slF_l, fmtF_s, fmtF_i, startswithF_s, endswithF_s, findF_s, countF_s, stripF_s, lstripF_s, rstripF_s, rmprefixF_s, rmsuffixF_s, isalphaF_n, isdigitF_n, zfillF_i, splitF_s, strsOf_map, intsOf_map, blsOf_map, joinF_m, allF_m, anyF_m, dec_T, dec_F, cond_nd, Bool.not_true, Bool.not_false, eqF_i, eqF_s, neF_i, neF_s, rgs_0, rgs_1, rgs_2, forL_nil, forL_cons, forK_nx, forK_ct, forK_bk, forK_rt, forK_exc, isi_non_int, isi_non_bool, isi_non_str, isi_non_list, isi_non_tuple, isi_non_dict, isi_bl_int, isi_bl_bool, isi_bl_str, isi_bl_list, isi_bl_tuple, isi_bl_dict, isi_int_int, isi_int_bool, isi_int_str, isi_int_list, isi_int_tuple, isi_int_dict, isi_str_int, isi_str_bool, isi_str_str, isi_str_list, isi_str_tuple, isi_str_dict, isi_lst_int, isi_lst_bool, isi_lst_str, isi_lst_list, isi_lst_tuple, isi_lst_dict, isi_tup_int, isi_tup_bool, isi_tup_str, isi_tup_list, isi_tup_tuple, isi_tup_dict, isi_dct_int, isi_dct_bool, isi_dct_str, isi_dct_list, isi_dct_tuple, isi_dct_dict])
def lenI (i : Int) : Bool := decide (-1073741823 ≤ i ∧ i ≤ 1073741823)
theorem isint_eq (i : Int) (S : List Ce) : f_is_int [.dat (.int i)] S = .ok (.dat (.bl (decide ((if i < 0 then -i else i) < 1000000000000000000000000000000000000000000000000000000000000)))) S := by
  have k : k_INTEGER_END = .int 1000000000000000000000000000000000000000000000000000000000000 := rfl
  generalize hn : (1000000000000000000000000000000000000000000000000000000000000 : Int) = n at *
  unfold f_is_int mkF m_is_int
  walk_at "ev"
  rw [cut_same (by simp)]
theorem islen_eq (i : Int) (S : List Ce) : f_is_length [.dat (.int i)] S = .ok (.dat (.bl (lenI i))) S := by
  have k : k_MAX_LENGTH = .int 1073741823 := rfl
  have e1 := isint_eq i S
  by_cases h1 : (if i < 0 then -i else i) < 1000000000000000000000000000000000000000000000000000000000000
  · rw [decide_eq_true h1] at e1
    by_cases h2 : -1073741823 ≤ i
    · have : lenI i = decide (i ≤ 1073741823) := by unfold lenI; exact decide_eq_decide.mpr ⟨fun h => h.2, fun h => ⟨h2, h⟩⟩
      rw [this]
      clear h1
      unfold f_is_length mkF m_is_length
      walk_at "ev"
      rw [cut_same (by simp)]
    · have : lenI i = false := decide_eq_false fun h => h2 h.1
      rw [this]
      clear h1
      unfold f_is_length mkF m_is_length
      walk_at "ev"
      rw [cut_same (by simp)]
  · have : lenI i = false := decide_eq_false fun h => h1 (by split <;> omega)
    rw [decide_eq_false h1] at e1
    rw [this]
    clear h1
    unfold f_is_length mkF m_is_length
    walk_at "ev"
    rw [cut_same (by simp)]
theorem chkl_eq (i : Int) (S : List Ce) : f_check_length [.dat (.int i)] S = if lenI i = true then .ok (.dat .non) S else .exc 1 none S := by
  have e1 := islen_eq i S
  cases h : lenI i with
  | true =>
    rw [h] at e1
    unfold f_check_length mkF m_check_length
    walk_at "ev"
    rw [cut_same (by simp)]
  | false =>
    rw [h] at e1
    unfold f_check_length mkF m_check_length
    walk_at "ev"
    rw [cutX_same (by simp)]
    rfl
def minus (l : List Nat) : Nat := if l[0]? = some 45 then 1 else 0
def sgnI (m : Nat) (s : Int) : Int := if m = 1 then -s else s
/-- what length_of does with a text of these signs -/
def lenR (l : List Nat) (S : List Ce) : RE Sl := match sizeR (l.drop (minus l)) with
  | .error i => exN ((minus l : Int) + (i : Int)) S
  | .ok s => if lenI (sgnI (minus l) s) = true then .ok (.dat (.int (sgnI (minus l) s))) S else .exc 1 none S
theorem lengthof_eq {z : Str} (S : List Ce) (hz : (cl z).length ≤ 1000) : f_length_of [.dat (.str z)] S = lenR (cl z) S := by
  have sm := starts_minus z
  have key : ∀ m : Nat, m ≤ (cl z).length → minus (cl z) = m → f_size_of [.dat (.str z), .dat (.int m)] S = resN m S (sizeR ((cl z).drop m)) := fun m hm _ => size_eq S hz hm
  unfold lenR
  by_cases h : (cl z)[0]? = some 45
  · have hm : minus (cl z) = 1 := if_pos h
    have s1 := key 1 (by have := (List.getElem?_eq_some_iff.mp h).1; omega) hm
    rw [decide_eq_true h] at sm
    rw [hm]
    rw [show ((1 : Nat) : Int) = 1 from rfl] at s1 ⊢
    cases hx : sizeR ((cl z).drop 1) with
    | error i =>
      rw [hx] at s1
      unfold resN exN at s1
      dsimp only at s1 ⊢
      rw [show ((1 : Nat) : Int) = 1 from rfl] at s1
      unfold f_length_of mkF m_length_of
      walk_at "ev"
      rw [cutX_same (by simp)]
      rfl
    | ok s =>
      rw [hx] at s1
      unfold resN at s1
      dsimp only at s1 ⊢
      rw [show sgnI 1 s = -s from rfl]
      have e1 := chkl_eq (-s) S
      cases hl : lenI (-s) with
      | true =>
        rw [hl] at e1
        unfold f_length_of mkF m_length_of
        walk_at "ev"
        rw [cut_same (by simp)]
      | false =>
        rw [hl] at e1
        rw [if_neg (by decide)] at e1 ⊢
        unfold f_length_of mkF m_length_of
        walk_at "ev"
        rw [cutX_same (by simp)]
  · have hm : minus (cl z) = 0 := if_neg h
    have s1 := key 0 (by omega) hm
    rw [decide_eq_false h] at sm
    rw [hm]
    rw [show ((0 : Nat) : Int) = 0 from rfl] at s1 ⊢
    cases hx : sizeR ((cl z).drop 0) with
    | error i =>
      rw [hx] at s1
      unfold resN exN at s1
      dsimp only at s1 ⊢
      rw [show ((0 : Nat) : Int) = 0 from rfl] at s1
      unfold f_length_of mkF m_length_of
      walk_at "ev"
      rw [cutX_same (by simp)]
      rfl
    | ok s =>
      rw [hx] at s1
      unfold resN at s1
      dsimp only at s1 ⊢
      rw [show sgnI 0 s = s from rfl]
      have e1 := chkl_eq s S
      cases hl : lenI s with
      | true =>
        rw [hl] at e1
        unfold f_length_of mkF m_length_of
        walk_at "ev"
        rw [cut_same (by simp)]
      | false =>
        rw [hl] at e1
        rw [if_neg (by decide)] at e1 ⊢
        unfold f_length_of mkF m_length_of
        walk_at "ev"
        rw [cutX_same (by simp)]
end Mir

namespace Mir
open PySem PySem.Spec L2
local macro_rules | `(tactic| walk_at "ev") => `(tactic| simp (disch := omega) only [*, tTup, tAll, tN,  ↓chain_le, chainW_i, Int.natAbs_natCast, Int.toNat_natCast, reprV_i, reprV_s, reprV_n, reprV_b, and_self, and_true, true_and, gTry, hdl, gone, bareE, mErr, slE, List.map, if_pos, if_neg, gNil, gSeq, gIf, gRet, gRetN, gSet, gStoV, gSto, gAppV, gApp, gEx, gPar, gAug, gFor, gRaise, gRaise1, gAsg, mVar, mk_ok, mOp, mUn, mIf, mAnd, mOr, mNot, mTup, mLst, mLstO, mBlt, mCall, mMs, mSl, oNo, oSome, mFmt, mChain, mFs, fsL, aCons, aNil, tOf, tTru, tAnd, tOr, tNot, tYes', mIt, mRng1, mRng2, datas, truS_vw, truD, op1_vw, op2_vw, opN_vw, vws_nil, vws_cons,
  vw_dat, vw_own, ceD_lst, ceD_dct, asB_ok, ofO_some, ofO_none, dat'_some, dat'_none, RE.ok_bind, RE.exc_bind, RE.stuck_bind, RE.ok_toS, RE.exc_toS, RE.stuck_toS, RE.noX_ok, RS.nx_bind, RS.rt_bind, RS.bk_bind, RS.ct_bind, RS.exc_bind, RS.stuck_bind, Option.bind_some, Option.map_some, Option.bind_none, Option.map_none, cond_dec, cond_true, cond_false, List.getElem?_cons_zero, List.getElem?_cons_succ, List.set_cons_zero, List.set_cons_succ, List.replicate, List.cons_append, List.nil_append,
  atI_0, atI_1, atI_2, isNonD, if_true, if_false, ite_true, ite_false, outF_nx, outF_rt, outF_exc, ixN_0, ixN_1, ixN_2, List.length_cons, List.length_nil, List.length_set, addF_i, subF_i, addF_s, addF_l, addF_t, iaddF_i, iaddF_s, imulF_i, mulF_i, mulF_s, mulF_l, mulF_t, divF_i, modF_i, powF_i, negF_i, ltF_i, ltF_s, leF_i, leF_s, gtF_i, gtF_s, geF_i, geF_s, isF_n, isnF_n, isF_b, isnF_b, inF_s, ninF_s, ixF_l, ixF_t, ixF_q, ixF_s, lenF_s, lenF_lst, lenF_sq, lenF_tup, absF_i, max2F_i, min2F_i, intF_i, intF_b, strF_i, strF_s, reprF_d, listF_lst, tupF_lst, itD_lst, listF_sq, tupF_sq, itD_sq, listF_tup, tupF_tup, itD_tup, itD_s, divmodF_i, slF_s, slF_t, slF_l, fmtF_s, fmtF_i, startswithF_s, endswithF_s, findF_s, countF_s, stripF_s, lstripF_s, rstripF_s, rmprefixF_s, rmsuffixF_s, isalphaF_n, isdigitF_n, zfillF_i, splitF_s, strsOf_map, intsOf_map, blsOf_map, joinF_m, allF_m, anyF_m, dec_T, dec_F, cond_nd, Bool.not_true, Bool.not_false, eqF_i, eqF_s, neF_i, neF_s, rgs_0, rgs_1, rgs_2, forL_nil, forL_cons, forK_nx, forK_ct, forK_bk, forK_rt, forK_exc, isi_non_int, isi_non_bool, isi_non_str, isi_non_list, isi_non_tuple, isi_non_dict, isi_bl_int, isi_bl_bool, isi_bl_str, isi_bl_list, isi_bl_tuple, isi_bl_dict, isi_int_int, isi_int_bool, isi_int_str, isi_int_list, isi_int_tuple, isi_int_dict, isi_str_int, isi_str_bool, isi_str_str, isi_str_list, isi_str_tuple, isi_str_dict, isi_lst_int, isi_lst_bool, isi_lst_str, isi_lst_list, isi_lst_tuple, isi_lst_dict, isi_tup_int, isi_tup_bool, isi_tup_str, isi_tup_list, isi_tup_tuple, isi_tup_dict, isi_dct_int, isi_dct_bool, isi_dct_str, isi_dct_list, isi_dct_tuple, isi_dct_dict])
theorem c_e : ("" : Str) = mk [] := by decide +kernel
theorem c_m : ("-" : Str) = mk [45] := by decide +kernel
theorem cutT (l : List Nat) (j : Nat) : cutS (mk l) none (some (j : Int)) = mk (l.take j) := by rw [cut_to, cl_mk]
theorem cutF (l : List Nat) (j : Nat) : cutS (mk l) (some (j : Int)) none = mk (l.drop j) := by rw [cut_from, cl_mk]
theorem cutT1 (l : List Nat) : cutS (mk l) none (some 1) = mk (l.take 1) := cutT l 1
theorem cutF1 (l : List Nat) : cutS (mk l) (some 1) none = mk (l.drop 1) := cutF l 1
theorem near_eq {o u : Int} (S : List Ce) (ho : o.natAbs < 2 ^ 235) (h0 : 0 < u) (hu : u.natAbs < 2 ^ 200) : f__law_nearest [.dat (.int o), .dat (.int u)] S = .ok (.dat (.int (roundI o u))) S := by
  have ha : (if o < 0 then -o else o).natAbs < 2 ^ 235 := by split <;> omega
  have k1 : okMul 2 (if o < 0 then -o else o) = true := okMul_of (a := 2) (b := 235) (by decide) ha
  have k2 : okMul 2 u = true := okMul_of (a := 2) (b := 200) (by decide) hu
  have k3 : okDiv (2 * u) = true := okDiv_of (b := 202) (by omega) (by omega)
  by_cases h : o < 0
  · rw [if_pos h] at k1
    have h' : ¬ (0 : Int) ≤ o := by omega
    unfold f__law_nearest mkF m__law_nearest
    walk_at "ev"
    rw [cut_same (by simp)]
    unfold roundI sizeI
    rw [if_pos h, if_pos h, Int.zero_sub]
  · rw [if_neg h] at k1
    have h' : (0 : Int) ≤ o := by omega
    unfold f__law_nearest mkF m__law_nearest
    walk_at "ev"
    rw [cut_same (by simp)]
    unfold roundI sizeI
    rw [if_neg h, if_neg h]
theorem split_dot (l : List Nat) : ∃ ys, Txt.split (mk l) "." = ys.map mk ∧ ys = TL.spl [46] 0 [] l := by
  have d46 : TL.tl "." = [46] := by decide +kernel
  have y := TL.split_spl (mk l) "." (by rw [d46]; decide) (TL.kind_ok (by decide +kernel))
  rw [d46] at y
  have y' : (Txt.split (mk l) ".").map cl = TL.spl [46] 0 [] l := by
    have e : TL.tl (mk l) = l := cl_mk l
    rw [e] at y
    exact y
  refine ⟨_, ?_, rfl⟩
  rw [← y', List.map_map]
  have : (mk ∘ cl : Str → Str) = id := funext fun z => mk_cl z
  rw [this, List.map_id]
theorem cutN1 (l : List Nat) : cutS (mk l) (some (-1)) none = mk (l.drop (l.length - 1)) := by
  have := cut_fromN (mk l) 1 (by decide)
  rw [cl_mk] at this
  exact this
theorem cutN2 (l : List Nat) : cutS (mk l) (some (-2)) none = mk (l.drop (l.length - 2)) := by
  have := cut_fromN (mk l) 2 (by decide)
  rw [cl_mk] at this
  exact this
theorem cutM1 (l : List Nat) : cutS (mk l) none (some (-1)) = mk (l.take (l.length - 1)) := by
  have := cut_toN (mk l) 1 (by decide)
  rw [cl_mk] at this
  exact this
theorem cutM2 (l : List Nat) : cutS (mk l) none (some (-2)) = mk (l.take (l.length - 2)) := by
  have := cut_toN (mk l) 2 (by decide)
  rw [cl_mk] at this
  exact this
theorem cut_ex (n : Nat) (d : D) (S : List Ce) : ∃ S', cut n (.dat d) S = .ok (.dat d) S' := by
  unfold cut
  split
  · exact ⟨_, rfl⟩
  · exact ⟨_, rfl⟩
/-! the number's text -/
def numT (n s : Nat) : List Nat := if s = 0 then dec n else dec (n / 10 ^ s) ++ 46 :: fx s (n % 10 ^ s)
theorem mulZ {k : Int} (h0 : -1000 ≤ k) (h1 : k ≤ 9) : mulF (.str "0") (.int k) = some (.str (mk (List.replicate k.toNat 48))) := by
  rw [mulF_s]
  by_cases c : k < 1
  · rw [if_pos ⟨c, by omega⟩, show k.toNat = 0 by omega]
    exact congrArg (fun s => some (D.str s)) (by decide +kernel)
  rw [if_neg (by omega)]
  by_cases c2 : k = 1
  · subst c2
    rw [if_pos rfl]
    exact congrArg (fun s => some (D.str s)) (by decide +kernel)
  obtain ⟨m, rfl⟩ := Int.eq_ofNat_of_zero_le (show 0 ≤ k by omega)
  have t : ∀ k : Fin 9, repS "0" ((k.val + 1 : Nat) : Int) = mk (List.replicate (k.val + 1) 48) := by decide +kernel
  have t2 := t ⟨m - 1, by omega⟩
  dsimp only at t2
  rw [show m - 1 + 1 = m by omega] at t2
  rw [if_neg c2, if_pos ⟨by omega, by omega, by decide +kernel, by decide +kernel⟩]
  show some (D.str (repS "0" ((m : Nat) : Int))) = some (D.str (mk (List.replicate m 48)))
  rw [t2]
open PySem.Builtin PySem.Builtin.Str in
theorem zfill_dec {r s : Nat} (hs : 1 ≤ s) (h : r < 10 ^ s) : Txt.zfill (mk (dec r)) (s : Int) = mk (fx s r) := by
  obtain ⟨k, rfl⟩ : ∃ k, s = k + 1 := ⟨s - 1, by omega⟩
  have p := fx_pad k r h
  have hl : (mk (dec r)).length = (dec r).length := by rw [cl_len, cl_mk]
  have hle : (dec r).length ≤ k + 1 := dec_len (by omega) h
  unfold Txt.zfill
  rw [hl]
  by_cases c : ((k + 1 : Nat) : Int) ≤ ((dec r).length : Int)
  · rw [if_pos c, ← p, show k + 1 - (dec r).length = 0 by omega] <;> rfl
  · rw [if_neg c, ← p]
    have e1 : ((k + 1 : Nat) : Int).toNat - (dec r).length = k + 1 - (dec r).length := rfl
    rw [e1]
    obtain ⟨x, xs, hx⟩ := List.exists_cons_of_ne_nil (l := dec r) (by
      intro e
      have := dec_pos r
      rw [e] at this
      cases this)
    have hd := allD_dec r x (by rw [hx]; exact List.mem_cons_self ..)
    unfold dg at hd
    rw [Bool.and_eq_true, decide_eq_true_eq, decide_eq_true_eq] at hd
    have e2 : (mk (dec r)).cps[0]? = some x := by
      show (dec r).toArray[0]? = some x
      rw [hx]
      rfl
    unfold zfilled
    rw [e2]
    split
    · rename_i h1; cases h1; omega
    · rename_i h1; cases h1; omega
    · show (⟨Array.replicate (k + 1 - (dec r).length) 48 ++ (dec r).toArray ++ Array.replicate 0 48⟩ : Str) = ⟨(List.replicate (k + 1 - (dec r).length) 48 ++ dec r).toArray⟩
      simp
end Mir

namespace Mir
open PySem PySem.Spec L2
local macro_rules | `(tactic| walk_at "ev") => `(tactic| simp (disch := omega) only [*, tTup, tAll, tN,  ↓chain_le, chainW_i, Int.natAbs_natCast, Int.toNat_natCast, reprV_i, reprV_s, reprV_n, reprV_b, and_self, and_true, true_and, gTry, hdl, gone, bareE, mErr, slE, List.map, if_pos, if_neg, gNil, gSeq, gIf, gRet, gRetN, gSet, gStoV, gSto, gAppV, gApp, gEx, gPar, gAug, gFor, gRaise, gRaise1, gAsg, mVar, mk_ok, mOp, mUn, mIf, mAnd, mOr, mNot, mTup, mLst, mLstO, mBlt, mCall, mMs, mSl, oNo, oSome, mFmt, mChain, mFs, fsL, aCons, aNil, tOf, tTru, tAnd, tOr, tNot, tYes', mIt, mRng1, mRng2, datas, truS_vw, truD, op1_vw, op2_vw, opN_vw, vws_nil, vws_cons,
  vw_dat, vw_own, ceD_lst, ceD_dct, asB_ok, ofO_some, ofO_none, dat'_some, dat'_none, RE.ok_bind, RE.exc_bind, RE.stuck_bind, RE.ok_toS, RE.exc_toS, RE.stuck_toS, RE.noX_ok, RS.nx_bind, RS.rt_bind, RS.bk_bind, RS.ct_bind, RS.exc_bind, RS.stuck_bind, Option.bind_some, Option.map_some, Option.bind_none, Option.map_none, cond_dec, cond_true, cond_false, List.getElem?_cons_zero, List.getElem?_cons_succ, List.set_cons_zero, List.set_cons_succ, List.replicate, List.cons_append, List.nil_append,
  atI_0, atI_1, atI_2, isNonD, if_true, if_false, ite_true, ite_false, outF_nx, outF_rt, outF_exc, ixN_0, ixN_1, ixN_2, List.length_cons, List.length_nil, List.length_set, addF_i, subF_i, addF_s, addF_l, addF_t, iaddF_i, iaddF_s, imulF_i, mulF_i, mulF_s, mulF_l, mulF_t, divF_i, modF_i, powF_i, negF_i, ltF_i, ltF_s, leF_i, leF_s, gtF_i, gtF_s, geF_i, geF_s, isF_n, isnF_n, isF_b, isnF_b, inF_s, ninF_s, ixF_l, ixF_t, ixF_q, ixF_s, lenF_s, lenF_lst, lenF_sq, lenF_tup, absF_i, max2F_i, min2F_i, intF_i, intF_b, strF_i, strF_s, reprF_d, listF_lst, tupF_lst, itD_lst, listF_sq, tupF_sq, itD_sq, listF_tup, tupF_tup, itD_tup, itD_s, divmodF_i, slF_s, slF_t, slF_l, fmtF_s, fmtF_i, startswithF_s, endswithF_s, findF_s, countF_s, stripF_s, lstripF_s, rstripF_s, rmprefixF_s, rmsuffixF_s, isalphaF_n, isdigitF_n, zfillF_i, splitF_s, strsOf_map, intsOf_map, blsOf_map, joinF_m, allF_m, anyF_m, dec_T, dec_F, cond_nd, Bool.not_true, Bool.not_false, eqF_i, eqF_s, neF_i, neF_s, rgs_0, rgs_1, rgs_2, forL_nil, forL_cons, forK_nx, forK_ct, forK_bk, forK_rt, forK_exc, isi_non_int, isi_non_bool, isi_non_str, isi_non_list, isi_non_tuple, isi_non_dict, isi_bl_int, isi_bl_bool, isi_bl_str, isi_bl_list, isi_bl_tuple, isi_bl_dict, isi_int_int, isi_int_bool, isi_int_str, isi_int_list, isi_int_tuple, isi_int_dict, isi_str_int, isi_str_bool, isi_str_str, isi_str_list, isi_str_tuple, isi_str_dict, isi_lst_int, isi_lst_bool, isi_lst_str, isi_lst_list, isi_lst_tuple, isi_lst_dict, isi_tup_int, isi_tup_bool, isi_tup_str, isi_tup_list, isi_tup_tuple, isi_tup_dict, isi_dct_int, isi_dct_bool, isi_dct_str, isi_dct_list, isi_dct_tuple, isi_dct_dict])
theorem nearest_eq {z p : Int} (S : List Ce) (hz : 0 ≤ z) (hz2 : z < 2 ^ 31) (hp : 0 < p) (hp2 : p < 2 ^ 31) : f_nearest_number [.dat (.int z), .dat (.int p)] S = .ok (.dat (.int (nnum z p))) S := by
  have kP : k_POINT = .int 65536 := rfl
  have k1 : okMul 2 z = true := okMul_of (a := 2) (b := 40) (by decide) (by omega)
  have k2 : okMul (2 * z) p = true := okMul_of (a := 40) (b := 40) (by omega) (by omega)
  have k3 : okMul 2 65536 = true := by decide +kernel
  have k4 : okDiv (2 * 65536) = true := by decide +kernel
  have e : (2 * z * p + 65536 - 1) / (2 * 65536) = nnum z p := by
    unfold nnum
    rw [show (2 * 65536 : Int) = 131072 from rfl, show 2 * z * p + 65536 - 1 = 2 * z * p + 65535 by omega]
  unfold f_nearest_number mkF m_nearest_number
  walk_at "ev"
  rw [cut_same (by simp)]
theorem empty_mk : (Str.empty : Str) = mk [] := rfl
theorem log_of {k n : Nat} (h : k < 2 ^ n) (hn : n ≤ 1900) : k.log2 < 1920 := by
  by_cases hr : k = 0
  · rw [hr]; decide
  · have := (Nat.log2_lt hr (k := n)).mpr h
    omega
theorem numT_len {n s : Nat} (h : n < 10 ^ 10) (hs : s ≤ 5) : (numT n s).length ≤ 20 := by
  have h1 : (dec n).length ≤ 10 := dec_len (by decide) h
  have h2 : (dec (n / 10 ^ s)).length ≤ 10 := dec_len (by decide) (Nat.lt_of_le_of_lt (Nat.div_le_self _ _) h)
  unfold numT
  split
  · omega
  · rw [List.length_append, List.length_cons, fx_len]
    omega
theorem decimal_eq {n s : Nat} (S : List Ce) (h : n < 10 ^ 10) (hs : s ≤ 5) : f_decimal_text [.dat (.int n), .dat (.int s), .dat (.int ((10 : Int) ^ s))] S = .ok (.dat (.str (mk (numT n s ++ [112, 116])))) S := by
  have ml := @mk_len
  have ma := @mk_app
  have em := empty_mk
  have nl := numT_len h hs
  have hsl : 1000 ≤ sizeLine := by decide
  have lg := log_of (k := n) (n := 40) (by omega) (by decide)
  have nm := num_mk n
  have nilapp : ∀ l : List Nat, [] ++ l = l := fun l => List.nil_append l
  unfold numT at nl ⊢
  by_cases c : s = 0
  · subst c
    rw [if_pos rfl] at nl ⊢
    have sz : (dec n).length ≤ sizeLine := by omega
    have sz2 : (dec n ++ [112, 116]).length ≤ sizeLine := by rw [List.length_append]; simp; omega
    have z0 : ((0 : Nat) : Int) = 0 := rfl
    unfold f_decimal_text mkF m_decimal_text mFs
    rw [c_pt]
    walk_at "ev"
    rw [cut_same (by simp)]
  · rw [if_neg c] at nl ⊢
    have s0 : ¬ ((s : Int) = 0) := by omega
    have pz : (10 : Int) ^ s = ((10 ^ s : Nat) : Int) := by push_cast; rfl
    have hps : 10 ^ s ≤ 10 ^ 5 := Nat.pow_le_pow_right (by decide) hs
    have hp0 : 0 < 10 ^ s := Nat.pow_pos (by decide)
    rw [pz]
    have dq : (n : Int) / ((10 ^ s : Nat) : Int) = ((n / 10 ^ s : Nat) : Int) := rfl
    have dr : (n : Int) % ((10 ^ s : Nat) : Int) = ((n % 10 ^ s : Nat) : Int) := rfl
    have hr : n % 10 ^ s < 10 ^ s := Nat.mod_lt _ hp0
    have hq : n / 10 ^ s < 10 ^ 10 := Nat.lt_of_le_of_lt (Nat.div_le_self _ _) h
    have nmq := num_mk (n / 10 ^ s)
    have nmr := num_mk (n % 10 ^ s)
    have zf := zfill_dec (r := n % 10 ^ s) (s := s) (by omega) hr
    have po : PadOk (s : Int) = true := by
      have : ∀ k : Fin 6, PadOk ((k.val : Nat) : Int) = true := by decide +kernel
      exact this ⟨s, by omega⟩
    have fl := fx_len s (n % 10 ^ s)
    have lq := log_of (k := n / 10 ^ s) (n := 40) (by omega) (by decide)
    have lr := log_of (k := n % 10 ^ s) (n := 40) (by omega) (by decide)
    have lq2 : (dec (n / 10 ^ s)).length ≤ 10 := dec_len (by decide) hq
    generalize n / 10 ^ s = q at *
    generalize n % 10 ^ s = r at *
    generalize 10 ^ s = p at *
    have dotm := c_dot
    have a1 : (dec q).length ≤ sizeLine := by omega
    have a2 : (dec q ++ [46]).length ≤ sizeLine := by rw [List.length_append]; simp; omega
    have a3 : (dec q ++ [46] ++ fx s r).length ≤ sizeLine := by rw [List.length_append, List.length_append, fl]; simp; omega
    have a4 : (dec q ++ [46] ++ fx s r ++ [112, 116]).length ≤ sizeLine := by rw [List.length_append, List.length_append, List.length_append, fl]; simp; omega
    have a5 : (fx s r).length ≤ sizeLine := by omega
    have fin : dec q ++ 46 :: fx s r ++ [112, 116] = dec q ++ [46] ++ fx s r ++ [112, 116] := by simp
    rw [fin]
    unfold f_decimal_text mkF m_decimal_text mFs
    rw [c_pt, c_dot]
    walk_at "ev"
    rw [cut_same (by simp)]
end Mir

namespace Mir
open PySem PySem.Spec L2
local macro_rules | `(tactic| walk_at "ev") => `(tactic| simp (disch := omega) only [*, tTup, tAll, tN,  ↓chain_le, chainW_i, Int.natAbs_natCast, Int.toNat_natCast, reprV_i, reprV_s, reprV_n, reprV_b, and_self, and_true, true_and, gTry, hdl, gone, bareE, mErr, slE, List.map, if_pos, if_neg, gNil, gSeq, gIf, gRet, gRetN, gSet, gStoV, gSto, gAppV, gApp, gEx, gPar, gAug, gFor, gRaise, gRaise1, gAsg, mVar, mk_ok, mOp, mUn, mIf, mAnd, mOr, mNot, mTup, mLst, mLstO, mBlt, mCall, mMs, mSl, oNo, oSome, mFmt, mChain, mFs, fsL, aCons, aNil, tOf, tTru, tAnd, tOr, tNot, tYes', mIt, mRng1, mRng2, datas, truS_vw, truD, op1_vw, op2_vw, opN_vw, vws_nil, vws_cons,
  vw_dat, vw_own, ceD_lst, ceD_dct, asB_ok, ofO_some, ofO_none, dat'_some, dat'_none, RE.ok_bind, RE.exc_bind, RE.stuck_bind, RE.ok_toS, RE.exc_toS, RE.stuck_toS, RE.noX_ok, RS.nx_bind, RS.rt_bind, RS.bk_bind, RS.ct_bind, RS.exc_bind, RS.stuck_bind, Option.bind_some, Option.map_some, Option.bind_none, Option.map_none, cond_dec, cond_true, cond_false, List.getElem?_cons_zero, List.getElem?_cons_succ, List.set_cons_zero, List.set_cons_succ, List.replicate, List.cons_append, List.nil_append,
  atI_0, atI_1, atI_2, isNonD, if_true, if_false, ite_true, ite_false, outF_nx, outF_rt, outF_exc, ixN_0, ixN_1, ixN_2, List.length_cons, List.length_nil, List.length_set, addF_i, subF_i, addF_s, addF_l, addF_t, iaddF_i, iaddF_s, imulF_i, mulF_i, mulF_s, mulF_l, mulF_t, divF_i, modF_i, powF_i, negF_i, ltF_i, ltF_s, leF_i, leF_s, gtF_i, gtF_s, geF_i, geF_s, isF_n, isnF_n, isF_b, isnF_b, inF_s, ninF_s, ixF_l, ixF_t, ixF_q, ixF_s, lenF_s, lenF_lst, lenF_sq, lenF_tup, absF_i, max2F_i, min2F_i, intF_i, intF_b, strF_i, strF_s, reprF_d, listF_lst, tupF_lst, itD_lst, listF_sq, tupF_sq, itD_sq, listF_tup, tupF_tup, itD_tup, itD_s, divmodF_i, slF_s, slF_t, slF_l, fmtF_s, fmtF_i, startswithF_s, endswithF_s, findF_s, countF_s, stripF_s, lstripF_s, rstripF_s, rmprefixF_s, rmsuffixF_s, isalphaF_n, isdigitF_n, zfillF_i, splitF_s, strsOf_map, intsOf_map, blsOf_map, joinF_m, allF_m, anyF_m, dec_T, dec_F, cond_nd, Bool.not_true, Bool.not_false, eqF_i, eqF_s, neF_i, neF_s, rgs_0, rgs_1, rgs_2, forL_nil, forL_cons, forK_nx, forK_ct, forK_bk, forK_rt, forK_exc, isi_non_int, isi_non_bool, isi_non_str, isi_non_list, isi_non_tuple, isi_non_dict, isi_bl_int, isi_bl_bool, isi_bl_str, isi_bl_list, isi_bl_tuple, isi_bl_dict, isi_int_int, isi_int_bool, isi_int_str, isi_int_list, isi_int_tuple, isi_int_dict, isi_str_int, isi_str_bool, isi_str_str, isi_str_list, isi_str_tuple, isi_str_dict, isi_lst_int, isi_lst_bool, isi_lst_str, isi_lst_list, isi_lst_tuple, isi_lst_dict, isi_tup_int, isi_tup_bool, isi_tup_str, isi_tup_list, isi_tup_tuple, isi_tup_dict, isi_dct_int, isi_dct_bool, isi_dct_str, isi_dct_list, isi_dct_tuple, isi_dct_dict])
def good (z : Int) (t : Nat) : Prop := fine z ((10 : Int) ^ t) (nnum z ((10 : Int) ^ t))
instance (z : Int) (t : Nat) : Decidable (good z t) := inferInstanceAs (Decidable (fine _ _ _))
def sOf (z : Int) : Nat := if good z 0 then 0 else if good z 1 then 1 else if good z 2 then 2 else if good z 3 then 3 else if good z 4 then 4 else 5
theorem sOf_spec {z : Int} (hz : 0 ≤ z) : good z (sOf z) ∧ sOf z ≤ 5 ∧ ∀ t, t < sOf z → ¬ good z t := by
  have h5 : good z 5 := fine_5 hz
  unfold sOf
  split
  · exact ⟨by assumption, by decide, fun t ht => by omega⟩
  rename_i g0
  split
  · exact ⟨by assumption, by decide, fun t ht => by rw [show t = 0 by omega]; exact g0⟩
  rename_i g1
  split
  · refine ⟨by assumption, by decide, fun t ht => ?_⟩
    match t, ht with
    | 0, _ => exact g0
    | 1, _ => exact g1
  rename_i g2
  split
  · refine ⟨by assumption, by decide, fun t ht => ?_⟩
    match t, ht with
    | 0, _ => exact g0
    | 1, _ => exact g1
    | 2, _ => exact g2
  rename_i g3
  split
  · refine ⟨by assumption, by decide, fun t ht => ?_⟩
    match t, ht with
    | 0, _ => exact g0
    | 1, _ => exact g1
    | 2, _ => exact g2
    | 3, _ => exact g3
  rename_i g4
  refine ⟨h5, by decide, fun t ht => ?_⟩
  match t, ht with
  | 0, _ => exact g0
  | 1, _ => exact g1
  | 2, _ => exact g2
  | 3, _ => exact g3
  | 4, _ => exact g4
/-- the number of the shortest text -/
def nOf (z : Int) : Nat := (nnum z ((10 : Int) ^ sOf z)).toNat
theorem pow_b {j : Nat} (h : j ≤ 5) : 0 < (10 : Int) ^ j ∧ (10 : Int) ^ j ≤ 100000 := by
  match j, h with
  | 0, _ => decide
  | 1, _ => decide
  | 2, _ => decide
  | 3, _ => decide
  | 4, _ => decide
  | 5, _ => decide
theorem nnum_le {z p : Int} (hz : 0 ≤ z) (hz2 : z ≤ 1073741823) (hp : 0 < p) (hp2 : p ≤ 100000) : 0 ≤ nnum z p ∧ nnum z p ≤ 16384 * p := by
  refine ⟨nnum_nn hz hp, ?_⟩
  have b := nnum_bounds z p
  have h : z * p ≤ 1073741823 * p := Int.mul_le_mul_of_nonneg_right hz2 (Int.le_of_lt hp)
  omega
/-- the number's signs -/
def txtN (z : Int) : List Nat := numT (nOf z) (sOf z)
def txtL (L : Int) : List Nat := (if L < 0 then [45] else []) ++ (txtN (if L < 0 then -L else L) ++ [112, 116])
theorem text_eq {L : Int} (S : List Ce) (hL : lenI L = true) : f_text_of_length [.dat (.int L)] S = .ok (.dat (.str (mk (txtL L)))) S := by
  have hb := of_decide_eq_true hL
  have kP : k_POINT = .int 65536 := rfl
  have c1 := chkl_eq L S
  rw [if_pos hL] at c1
  obtain ⟨z, hzL, hz, hz2⟩ : ∃ z : Int, (if L < 0 then -L else L) = z ∧ 0 ≤ z ∧ z ≤ 1073741823 := ⟨_, rfl, by split <;> omega, by split <;> omega⟩
  obtain ⟨g1, g2, g3⟩ := sOf_spec hz
  have n0 := nearest_eq (z := z) (p := 1) S hz (by omega) (by decide) (by decide)
  have hw := whileL_count (t := tOf (mOp neF (mCall f_rounded (aCons (mOp mulF (mVar 4) (mK k_POINT)) (aCons (mVar 3) aNil))) (mVar 1)))
    (g := gSeq (gAug 2 iaddF (mK (.int 1))) (gSeq (gAug 3 imulF (mK (.int 10))) (gSet 4 (mCall f_nearest_number (aCons (mVar 1) (aCons (mVar 3) aNil))))))
    (f := fun j => [.dat (.int L), .dat (.int z), .dat (.int (j : Int)), .dat (.int ((10 : Int) ^ j)), .dat (.int (nnum z ((10 : Int) ^ j))), .no]) (S := S) (N := sOf z) (fun j hj => by
      have hp := pow_b (j := j) (by omega)
      have hn := nnum_le hz hz2 hp.1 hp.2
      have hg : decide (j < sOf z) = !decide (roundI (nnum z ((10 : Int) ^ j) * 65536) ((10 : Int) ^ j) = z) := by
        by_cases c : j < sOf z
        · have := g3 j c
          rw [decide_eq_true c, decide_eq_false (show ¬ roundI (nnum z ((10 : Int) ^ j) * 65536) ((10 : Int) ^ j) = z from this)] <;> rfl
        · have e : j = sOf z := by omega
          subst e
          rw [decide_eq_false c, decide_eq_true (show roundI _ _ = z from g1)] <;> rfl
      rw [hg]
      clear hg g1 g3 n0
      generalize nnum z ((10 : Int) ^ j) = n at *
      generalize (10 : Int) ^ j = p at *
      have om : okMul n 65536 = true := okMul_of (a := 50) (b := 20) (by omega) (by decide)
      have rr := rounded_eq (o := n * 65536) (u := p) S (by omega) hp.1 (by omega)
      walk_at "ev") (fun j hj => by
      have hp := pow_b (j := j) (by omega)
      have hp1 := pow_b (j := j + 1) (by omega)
      have ne := nearest_eq (z := z) (p := (10 : Int) ^ (j + 1)) S hz (by omega) hp1.1 (by omega)
      have ps : (10 : Int) ^ j * 10 = (10 : Int) ^ (j + 1) := (Int.pow_succ ..).symm
      have om : okMul ((10 : Int) ^ j) 10 = true := okMul_of (a := 40) (b := 10) (by omega) (by decide)
      have cj : ((j + 1 : Nat) : Int) = (j : Int) + 1 := rfl
      clear n0 g1 g3
      generalize (10 : Int) ^ (j + 1) = p1 at *
      generalize (10 : Int) ^ j = p at *
      walk_at "ev") (sOf z) 0 1000000 (by omega) (by omega)
  rw [Int.pow_zero] at hw
  have de : f_decimal_text [.dat (.int (nnum z ((10 : Int) ^ sOf z))), .dat (.int (sOf z)), .dat (.int ((10 : Int) ^ sOf z))] S = .ok (.dat (.str (mk (txtN z ++ [112, 116])))) S := by
    have hp := pow_b g2
    have hn := nnum_le hz hz2 hp.1 hp.2
    have := decimal_eq (n := nOf z) (s := sOf z) S (by unfold nOf; omega) g2
    have e : ((nOf z : Nat) : Int) = nnum z ((10 : Int) ^ sOf z) := Int.toNat_of_nonneg hn.1
    rw [e] at this
    exact this
  have z0 : ((0 : Nat) : Int) = 0 := rfl
  rw [z0] at hw
  have ma := @mk_app
  have ml := @mk_len
  have la : (txtN z ++ [112, 116]).length ≤ 1000 := by
    have hp := pow_b g2
    have hn := nnum_le hz hz2 hp.1 hp.2
    have := numT_len (n := nOf z) (s := sOf z) (by unfold nOf; omega) g2
    unfold txtN
    rw [List.length_append]
    simp
    omega
  have hsl : 2000 ≤ sizeLine := by decide
  have sz : ([45] : List Nat).length + (txtN z ++ [112, 116]).length ≤ sizeLine := by simp only [List.length_cons, List.length_nil]; omega
  have goal : txtL L = (if L < 0 then [45] else []) ++ (txtN z ++ [112, 116]) := by unfold txtL; rw [hzL]
  rw [goal]
  clear goal g1 g2 g3
  generalize txtN z ++ [112, 116] = X at *
  unfold f_text_of_length mkF m_text_of_length
  generalize (tOf (mOp neF (mCall f_rounded (aCons (mOp mulF (mVar 4) (mK k_POINT)) (aCons (mVar 3) aNil))) (mVar 1))) = T at hw ⊢
  generalize (gSeq (gAug 2 iaddF (mK (.int 1))) (gSeq (gAug 3 imulF (mK (.int 10))) (gSet 4 (mCall f_nearest_number (aCons (mVar 1) (aCons (mVar 3) aNil)))))) = G at hw ⊢
  unfold gWhile
  rw [c_m]
  have ab : absF [.int L] = some (.int z) := by rw [absF_i, hzL]
  generalize nnum z ((10 : Int) ^ sOf z) = nn at *
  generalize (10 : Int) ^ sOf z = pp at *
  by_cases neg : L < 0
  · rw [if_pos neg]
    rw [if_pos neg] at hzL
    walk_at "ev"
    rw [cut_same (by simp)]
  · rw [if_neg neg]
    rw [if_neg neg] at hzL
    subst hzL
    walk_at "ev"
    rw [cut_same (by simp)]
end Mir

namespace Mir
open PySem PySem.Spec L2
local macro_rules | `(tactic| walk_at "ev") => `(tactic| simp (disch := omega) only [*, tTup, tAll, tN,  ↓chain_le, chainW_i, Int.natAbs_natCast, Int.toNat_natCast, reprV_i, reprV_s, reprV_n, reprV_b, and_self, and_true, true_and, gTry, hdl, gone, bareE, mErr, slE, List.map, if_pos, if_neg, gNil, gSeq, gIf, gRet, gRetN, gSet, gStoV, gSto, gAppV, gApp, gEx, gPar, gAug, gFor, gRaise, gRaise1, gAsg, mVar, mk_ok, mOp, mUn, mIf, mAnd, mOr, mNot, mTup, mLst, mLstO, mBlt, mCall, mMs, mSl, oNo, oSome, mFmt, mChain, mFs, fsL, aCons, aNil, tOf, tTru, tAnd, tOr, tNot, tYes', mIt, mRng1, mRng2, datas, truS_vw, truD, op1_vw, op2_vw, opN_vw, vws_nil, vws_cons,
  vw_dat, vw_own, ceD_lst, ceD_dct, asB_ok, ofO_some, ofO_none, dat'_some, dat'_none, RE.ok_bind, RE.exc_bind, RE.stuck_bind, RE.ok_toS, RE.exc_toS, RE.stuck_toS, RE.noX_ok, RS.nx_bind, RS.rt_bind, RS.bk_bind, RS.ct_bind, RS.exc_bind, RS.stuck_bind, Option.bind_some, Option.map_some, Option.bind_none, Option.map_none, cond_dec, cond_true, cond_false, List.getElem?_cons_zero, List.getElem?_cons_succ, List.set_cons_zero, List.set_cons_succ, List.replicate, List.cons_append, List.nil_append,
  atI_0, atI_1, atI_2, isNonD, if_true, if_false, ite_true, ite_false, outF_nx, outF_rt, outF_exc, ixN_0, ixN_1, ixN_2, List.length_cons, List.length_nil, List.length_set, addF_i, subF_i, addF_s, addF_l, addF_t, iaddF_i, iaddF_s, imulF_i, mulF_i, mulF_s, mulF_l, mulF_t, divF_i, modF_i, powF_i, negF_i, ltF_i, ltF_s, leF_i, leF_s, gtF_i, gtF_s, geF_i, geF_s, isF_n, isnF_n, isF_b, isnF_b, inF_s, ninF_s, ixF_l, ixF_t, ixF_q, ixF_s, lenF_s, lenF_lst, lenF_sq, lenF_tup, absF_i, max2F_i, min2F_i, intF_i, intF_b, strF_i, strF_s, reprF_d, listF_lst, tupF_lst, itD_lst, listF_sq, tupF_sq, itD_sq, listF_tup, tupF_tup, itD_tup, itD_s, divmodF_i, slF_s, slF_t, slF_l, fmtF_s, fmtF_i, startswithF_s, endswithF_s, findF_s, countF_s, stripF_s, lstripF_s, rstripF_s, rmprefixF_s, rmsuffixF_s, isalphaF_n, isdigitF_n, zfillF_i, splitF_s, strsOf_map, intsOf_map, blsOf_map, joinF_m, allF_m, anyF_m, dec_T, dec_F, cond_nd, Bool.not_true, Bool.not_false, eqF_i, eqF_s, neF_i, neF_s, rgs_0, rgs_1, rgs_2, forL_nil, forL_cons, forK_nx, forK_ct, forK_bk, forK_rt, forK_exc, isi_non_int, isi_non_bool, isi_non_str, isi_non_list, isi_non_tuple, isi_non_dict, isi_bl_int, isi_bl_bool, isi_bl_str, isi_bl_list, isi_bl_tuple, isi_bl_dict, isi_int_int, isi_int_bool, isi_int_str, isi_int_list, isi_int_tuple, isi_int_dict, isi_str_int, isi_str_bool, isi_str_str, isi_str_list, isi_str_tuple, isi_str_dict, isi_lst_int, isi_lst_bool, isi_lst_str, isi_lst_list, isi_lst_tuple, isi_lst_dict, isi_tup_int, isi_tup_bool, isi_tup_str, isi_tup_list, isi_tup_tuple, isi_tup_dict, isi_dct_int, isi_dct_bool, isi_dct_str, isi_dct_list, isi_dct_tuple, isi_dct_dict])
theorem val_1 (k : Nat) : valL (49 :: List.replicate k 48) = 10 ^ k := by
  have := val_zeros [49] k
  rw [show ([49] ++ List.replicate k 48) = 49 :: List.replicate k 48 from rfl] at this
  rw [this, show valL [49] = 1 from rfl, Int.one_mul]
theorem lc_pure {n j : Nat} {elt : ME} {ρ : List Sl} {f : D → D} : ∀ (ds acc : List D) (S0 : List Ce), S0.length = n → (∀ d ∈ ds, ∀ S, elt (ρ.set j (.dat d)) S = .ok (.dat (f d)) S) → acc.length + ds.length ≤ 1000 →
    lcL n j tYes' elt ds ρ (S0 ++ [.lst acc]) = .ok () (S0 ++ [.lst (acc ++ ds.map f)])
  | [], acc, S0, hn, _, _ => by rw [lcL_nil, List.map_nil, List.append_nil]
  | d :: ds, acc, S0, hn, he, hl => by
    rw [List.length_cons] at hl
    rw [lcL_cons, he d (List.mem_cons_self ..)]
    show lcK n j tYes' elt ds ρ (.dat (f d)) _ = _
    unfold lcK
    have hg : (S0 ++ [Ce.lst acc])[n]? = some (Ce.lst acc) := by
      rw [List.getElem?_append_right (by omega), hn, Nat.sub_self] <;> rfl
    rw [hg]
    show (if acc.length < 1000000 then _ else _) = _
    rw [if_pos (by omega)]
    have hs : (S0 ++ [Ce.lst acc]).set n (Ce.lst (acc ++ [f d])) = S0 ++ [Ce.lst (acc ++ [f d])] := by
      rw [List.set_append_right _ _ (by omega), hn, Nat.sub_self] <;> rfl
    rw [hs, lc_pure ds (acc ++ [f d]) S0 hn (fun x hx => he x (List.mem_cons_of_mem _ hx)) (by rw [List.length_append, List.length_cons, List.length_nil]; omega), List.append_assoc] <;> rfl
theorem mLc_pure {j : Nat} {it : MI} {elt : ME} {ρ : List Sl} {f : D → D} {S : List Ce} {ds : List D} (hit : it ρ S = .ok ds S) (hp : plain S = true) (hl : ds.length ≤ 1000) (he : ∀ d ∈ ds, ∀ S, elt (ρ.set j (.dat d)) S = .ok (.dat (f d)) S) :
    mLc j it tYes' elt ρ S = .ok (.dat (.lst (ds.map f))) S := by
  unfold mLc mLcO
  rw [hit, RE.ok_bind, lc_pure ds [] S rfl he (by simpa using hl), RE.ok_bind, List.nil_append]
  exact frzL_new hp
theorem lc_filt {n j : Nat} {t : MT} {elt : ME} {ρ : List Sl} {p : D → Bool} : ∀ (ds acc : List D) (S0 : List Ce), S0.length = n → (∀ d ∈ ds, ∀ S, t (ρ.set j (.dat d)) S = .ok (p d) S) → (∀ d ∈ ds, ∀ S, elt (ρ.set j (.dat d)) S = .ok (.dat d) S) → acc.length + ds.length ≤ 1000 →
    lcL n j t elt ds ρ (S0 ++ [.lst acc]) = .ok () (S0 ++ [.lst (acc ++ ds.filter p)])
  | [], acc, S0, hn, _, _, _ => by rw [List.filter_nil, List.append_nil]; rfl
  | d :: ds, acc, S0, hn, ht, he, hl => by
    rw [List.length_cons] at hl
    show ((t (ρ.set j (.dat d)) (S0 ++ [.lst acc])).noX.bind fun b S1 => bif b then (elt (ρ.set j (.dat d)) S1).noX.bind (lcK n j t elt ds ρ) else lcL n j t elt ds ρ S1) = _
    rw [ht d (List.mem_cons_self ..), RE.noX_ok, RE.ok_bind]
    cases hp : p d with
    | false =>
      rw [cond_false, lc_filt ds acc S0 hn (fun x hx => ht x (List.mem_cons_of_mem _ hx)) (fun x hx => he x (List.mem_cons_of_mem _ hx)) (by omega), List.filter_cons_of_neg (by rw [hp]; decide)]
    | true =>
      rw [cond_true, he d (List.mem_cons_self ..), RE.noX_ok, RE.ok_bind]
      unfold lcK
      have hg : (S0 ++ [Ce.lst acc])[n]? = some (Ce.lst acc) := by
        rw [List.getElem?_append_right (by omega), hn, Nat.sub_self] <;> rfl
      rw [hg]
      show (if acc.length < 1000000 then _ else _) = _
      rw [if_pos (by omega)]
      have hs : (S0 ++ [Ce.lst acc]).set n (Ce.lst (acc ++ [d])) = S0 ++ [Ce.lst (acc ++ [d])] := by
        rw [List.set_append_right _ _ (by omega), hn, Nat.sub_self] <;> rfl
      rw [hs, lc_filt ds (acc ++ [d]) S0 hn (fun x hx => ht x (List.mem_cons_of_mem _ hx)) (fun x hx => he x (List.mem_cons_of_mem _ hx)) (by rw [List.length_append, List.length_cons, List.length_nil]; omega), List.filter_cons_of_pos hp, List.append_assoc] <;> rfl
theorem mLc_filt {j : Nat} {it : MI} {t : MT} {elt : ME} {ρ : List Sl} {p : D → Bool} {S : List Ce} {ds : List D} (hit : it ρ S = .ok ds S) (hp : plain S = true) (hl : ds.length ≤ 1000) (ht : ∀ d ∈ ds, ∀ S, t (ρ.set j (.dat d)) S = .ok (p d) S) (he : ∀ d ∈ ds, ∀ S, elt (ρ.set j (.dat d)) S = .ok (.dat d) S) :
    mLc j it t elt ρ S = .ok (.dat (.lst (ds.filter p))) S := by
  unfold mLc mLcO
  rw [hit, RE.ok_bind, lc_filt ds [] S rfl ht he (by simpa using hl), RE.ok_bind, List.nil_append]
  exact frzL_new hp
theorem forL_inv_stop {j n k : Nat} {g : MS} {S S' : List Ce} {r : Sl} (I : List Sl → Prop) (hk : k < n) (hs : ∀ i : Nat, i < k → ∀ ρ, I ρ → ∃ ρ', g (ρ.set j (.dat (.int i))) S = .nx ρ' S ∧ I ρ') (he : ∀ ρ, I ρ → g (ρ.set j (.dat (.int k))) S = .rt r S') :
    ∀ (m i : Nat) (ρ : List Sl), i + m = k → I ρ → forL j g ((rgs 0 n).drop i) ρ S = .rt r S'
  | m, i, ρ, hm, hI => by
    have hl : i < (rgs 0 n).length := by rw [rgs_len]; omega
    have e : (rgs 0 n)[i] = .int (i : Int) := by
      have := rgs_get (lo := 0) (n := n) (i := i) (by omega)
      rw [List.getElem?_eq_getElem hl, Int.zero_add] at this
      exact Option.some.inj this
    rw [List.drop_eq_getElem_cons hl, e, forL_cons]
    cases m with
    | zero =>
      have : i = k := by omega
      subst this
      rw [he ρ hI]
      rfl
    | succ m =>
      obtain ⟨ρ', e1, h1⟩ := hs i (by omega) ρ hI
      rw [e1]
      exact forL_inv_stop I hk hs he m (i + 1) ρ' (by omega) h1
theorem neF_nil {xs : List D} (h : okP 60 (.lst xs) = true) : neF (.lst xs) (.lst []) = some (.bl (!xs.isEmpty)) := by
  unfold neF
  rw [show eqF (.lst xs) (.lst []) = if okP 60 (.lst xs) = true ∧ okP 60 (.lst []) = true then some (D.bl (eqB (.lst xs) (.lst []))) else none from rfl, if_pos ⟨h, rfl⟩]
  cases xs <;> rfl
def pr (z p m : Int) : D := .tup [.int (gap z p m), .int m]
theorem minDF_eq (d : D) (ds : List D) : minDF [.lst (d :: ds)] = if (d :: ds).all (okP 60) = true ∧ simpDs (d :: ds) = true ∧ alikeB ((d :: ds).map pyOf) = true then some (minS d ds) else none := rfl
theorem fine_list {z p : Int} (hz : 0 ≤ z) (hp : 0 < p) :
    (¬ fine z p (nnum z p) → [pr z p (z * p / 65536), pr z p (z * p / 65536 + 1)].filter (fun d => match d with | .tup [_, .int m] => decide (fine z p m) | _ => false) = []) ∧
    (fine z p (nnum z p) → minDF [.lst ([pr z p (z * p / 65536), pr z p (z * p / 65536 + 1)].filter (fun d => match d with | .tup [_, .int m] => decide (fine z p m) | _ => false))] = some (pr z p (nnum z p)) ∧
      ([pr z p (z * p / 65536), pr z p (z * p / 65536 + 1)].filter (fun d => match d with | .tup [_, .int m] => decide (fine z p m) | _ => false)).isEmpty = false ∧ okP 60 (.lst ([pr z p (z * p / 65536), pr z p (z * p / 65536 + 1)].filter (fun d => match d with | .tup [_, .int m] => decide (fine z p m) | _ => false))) = true) := by
  have nl := near_low z p
  have ng := near_gap z p
  have l0 : 0 ≤ z * p / 65536 := Int.ediv_nonneg (Int.mul_nonneg hz (Int.le_of_lt hp)) (by decide)
  have f1 := fine_near (z := z) (p := p) (m := z * p / 65536) hz hp l0
  have f2 := fine_near (z := z) (p := p) (m := z * p / 65536 + 1) hz hp (by omega)
  generalize z * p / 65536 = m at *
  have e : ∀ k, (match pr z p k with | .tup [_, .int m] => decide (fine z p m) | _ => false) = decide (fine z p k) := fun k => rfl
  simp only [List.filter_cons, List.filter_nil, e]
  constructor
  · intro hn
    rw [if_neg (by simpa using fun h => hn (f1 h)), if_neg (by simpa using fun h => hn (f2 h))]
  · intro hn
    by_cases a : fine z p m
    · by_cases b : fine z p (m + 1)
      · rw [if_pos (by simpa using a), if_pos (by simpa using b)]
        refine ⟨?_, rfl, rfl⟩
        rw [minDF_eq, if_pos ⟨rfl, rfl, rfl⟩]
        show some (if PySem.W.dataLt (pyOf (pr z p (m + 1))) (pyOf (pr z p m)) = true then pr z p (m + 1) else pr z p m) = _
        unfold pr
        rw [pair_lt]
        by_cases c : gap z p (m + 1) < gap z p m
        · rw [if_pos (by simp [c]), ng.mpr c]
        · rw [if_neg (by simp; exact ⟨by omega, fun h => by omega⟩)]
          rcases nl with h | h
          · rw [h]
          · exact absurd (ng.mp h) c
      · rw [if_pos (by simpa using a), if_neg (by simpa using b)]
        refine ⟨?_, rfl, rfl⟩
        rw [minDF_eq, if_pos ⟨rfl, rfl, rfl⟩]
        show some (pr z p m) = _
        rcases nl with h | h
        · rw [h]
        · rw [h] at hn; exact absurd hn b
    · by_cases b : fine z p (m + 1)
      · rw [if_neg (by simpa using a), if_pos (by simpa using b)]
        refine ⟨?_, rfl, rfl⟩
        rw [minDF_eq, if_pos ⟨rfl, rfl, rfl⟩]
        show some (pr z p (m + 1)) = _
        rcases nl with h | h
        · rw [h] at hn; exact absurd hn a
        · rw [h]
      · rcases nl with h | h
        · rw [h] at hn; exact absurd hn a
        · rw [h] at hn; exact absurd hn b
end Mir

namespace Mir
open PySem PySem.Spec L2
def x8 : ME := (mLc 8 (mIt (mTup (aCons (mVar 4) (aCons (mOp addF (mVar 4) (mK (.int 1))) aNil)))) tYes' (mTup (aCons (mBlt absF (aCons (mOp subF (mOp mulF (mVar 8) (mK (.int 65536))) (mVar 3)) aNil)) (aCons (mVar 8) aNil))))
def x9 : ME := (mLc 9 (mIt (mVar 5)) (tOf (mOp eqF (mCall f__law_nearest (aCons (mOp mulF (mOp ixF (mVar 9) (mK (.int 1))) (mK (.int 65536))) (aCons (mVar 2) aNil))) (mVar 0))) (mVar 9))
def bNum : MS := (gSeq (gSet 2 (mBlt intF (aCons (mOp addF (mK (.str "1")) (mOp mulF (mK (.str "0")) (mVar 1))) aNil)))
  (gSeq (gSet 3 (mOp mulF (mVar 0) (mVar 2)))
  (gSeq (gSet 4 (mOp divF (mVar 3) (mK (.int 65536))))
  (gSeq (gSet 5 x8)
  (gSeq (gSet 6 x9)
  (gIf (tOf (mOp neF (mVar 6) (mLst aNil)))
  (gSeq (gSet 7 (mBlt strF (aCons (mOp ixF (mBlt minDF (aCons (mVar 6) aNil)) (mK (.int 1))) aNil)))
  (gSeq (gSet 7 (mOp addF (mOp mulF (mK (.str "0")) (mOp subF (mOp addF (mVar 1) (mK (.int 1))) (mBlt lenF (aCons (mVar 7) aNil)))) (mVar 7)))
  (gRet (mIf (tOf (mOp eqF (mVar 1) (mK (.int 0)))) (mVar 7) (mOp addF (mOp addF (mSl (mVar 7) oNo (oSome (mOp subF (mK (.int 0)) (mVar 1)))) (mK (.str "."))) (mSl (mVar 7) (oSome (mOp subF (mK (.int 0)) (mVar 1))) oNo))))))
  gNil))))))
theorem num_parts (n0 : Nat) : m__law_number_text n0 = gSeq (gFor 1 (mRng1 (mK (.int 6))) bNum) (gRet (mK (.str ""))) := rfl
local macro_rules | `(tactic| walk_at "ev") => `(tactic| simp (disch := omega) only [*, tTup, tAll, tN,  ↓chain_le, chainW_i, Int.natAbs_natCast, Int.toNat_natCast, reprV_i, reprV_s, reprV_n, reprV_b, and_self, and_true, true_and, gTry, hdl, gone, bareE, mErr, slE, List.map, if_pos, if_neg, gNil, gSeq, gIf, gRet, gRetN, gSet, gStoV, gSto, gAppV, gApp, gEx, gPar, gAug, gFor, gRaise, gRaise1, gAsg, mVar, mk_ok, mOp, mUn, mIf, mAnd, mOr, mNot, mTup, mLst, mLstO, mBlt, mCall, mMs, mSl, oNo, oSome, mFmt, mChain, mFs, fsL, aCons, aNil, tOf, tTru, tAnd, tOr, tNot, tYes', mIt, mRng1, mRng2, datas, truS_vw, truD, op1_vw, op2_vw, opN_vw, vws_nil, vws_cons,
  vw_dat, vw_own, ceD_lst, ceD_dct, asB_ok, ofO_some, ofO_none, dat'_some, dat'_none, RE.ok_bind, RE.exc_bind, RE.stuck_bind, RE.ok_toS, RE.exc_toS, RE.stuck_toS, RE.noX_ok, RS.nx_bind, RS.rt_bind, RS.bk_bind, RS.ct_bind, RS.exc_bind, RS.stuck_bind, Option.bind_some, Option.map_some, Option.bind_none, Option.map_none, cond_dec, cond_true, cond_false, List.getElem?_cons_zero, List.getElem?_cons_succ, List.set_cons_zero, List.set_cons_succ, List.replicate, List.cons_append, List.nil_append,
  atI_0, atI_1, atI_2, isNonD, if_true, if_false, ite_true, ite_false, outF_nx, outF_rt, outF_exc, ixN_0, ixN_1, ixN_2, List.length_cons, List.length_nil, List.length_set, addF_i, subF_i, addF_s, addF_l, addF_t, iaddF_i, iaddF_s, imulF_i, mulF_i, mulF_l, mulF_t, divF_i, modF_i, powF_i, negF_i, ltF_i, ltF_s, leF_i, leF_s, gtF_i, gtF_s, geF_i, geF_s, isF_n, isnF_n, isF_b, isnF_b, inF_s, ninF_s, ixF_l, ixF_t, ixF_q, ixF_s, lenF_s, lenF_lst, lenF_sq, lenF_tup, absF_i, max2F_i, min2F_i, intF_i, intF_b, strF_i, strF_s, reprF_d, listF_lst, tupF_lst, itD_lst, listF_sq, tupF_sq, itD_sq, listF_tup, tupF_tup, itD_tup, itD_s, divmodF_i, slF_s, slF_t, slF_l, fmtF_s, fmtF_i, startswithF_s, endswithF_s, findF_s, countF_s, stripF_s, lstripF_s, rstripF_s, rmprefixF_s, rmsuffixF_s, isalphaF_n, isdigitF_n, zfillF_i, splitF_s, strsOf_map, intsOf_map, blsOf_map, joinF_m, allF_m, anyF_m, dec_T, dec_F, cond_nd, Bool.not_true, Bool.not_false, eqF_i, eqF_s, neF_i, neF_s, rgs_0, rgs_1, rgs_2, forL_nil, forL_cons, forK_nx, forK_ct, forK_bk, forK_rt, forK_exc, isi_non_int, isi_non_bool, isi_non_str, isi_non_list, isi_non_tuple, isi_non_dict, isi_bl_int, isi_bl_bool, isi_bl_str, isi_bl_list, isi_bl_tuple, isi_bl_dict, isi_int_int, isi_int_bool, isi_int_str, isi_int_list, isi_int_tuple, isi_int_dict, isi_str_int, isi_str_bool, isi_str_str, isi_str_list, isi_str_tuple, isi_str_dict, isi_lst_int, isi_lst_bool, isi_lst_str, isi_lst_list, isi_lst_tuple, isi_lst_dict, isi_tup_int, isi_tup_bool, isi_tup_str, isi_tup_list, isi_tup_tuple, isi_tup_dict, isi_dct_int, isi_dct_bool, isi_dct_str, isi_dct_list, isi_dct_tuple, isi_dct_dict])
theorem x8_eq {z p : Int} (v1 v5 v6 : Sl) (S : List Ce) (hp : plain S = true) (hb : 0 ≤ z * p / 65536) (hb2 : z * p / 65536 < 10 ^ 12) :
    x8 [.dat (.int z), v1, .dat (.int p), .dat (.int (z * p)), .dat (.int (z * p / 65536)), v5, v6, .no, .no, .no] S = .ok (.dat (.lst [pr z p (z * p / 65536), pr z p (z * p / 65536 + 1)])) S := by
  unfold x8
  have k1 : okMul (z * p / 65536) 65536 = true := okMul_of (a := 64) (b := 64) (by omega) (by decide)
  have k2 : okMul (z * p / 65536 + 1) 65536 = true := okMul_of (a := 64) (b := 64) (by omega) (by decide)
  generalize hW : z * p = W at *
  generalize W / 65536 = m at *
  refine (mLc_pure (f := fun d => match d with | .int m => .tup [.int (if m * 65536 - W < 0 then -(m * 65536 - W) else m * 65536 - W), .int m] | d => d) (ds := [.int m, .int (m + 1)]) ?_ hp (by simp) ?_).trans ?_
  · walk_at "ev"
  · intro d hd T
    rcases List.mem_cons.mp hd with rfl | hd
    · clear hd
      dsimp only
      generalize hg : (if m * 65536 - W < 0 then -(m * 65536 - W) else m * 65536 - W) = g
      clear hb hb2
      walk_at "ev"
    rcases List.mem_cons.mp hd with rfl | hd
    · clear hd
      dsimp only
      generalize hg : (if (m + 1) * 65536 - W < 0 then -((m + 1) * 65536 - W) else (m + 1) * 65536 - W) = g
      clear hb hb2
      walk_at "ev"
    · cases hd
  · unfold pr gap
    rw [hW]
    rfl
theorem x9_eq {z p m : Int} (v1 v3 v4 v6 : Sl) (S : List Ce) (hS : plain S = true) (hp : 0 < p) (hp2 : p ≤ 100000) (hb : 0 ≤ m) (hb2 : m < 10 ^ 12) :
    x9 [.dat (.int z), v1, .dat (.int p), v3, v4, .dat (.lst [pr z p m, pr z p (m + 1)]), v6, .no, .no, .no] S = .ok (.dat (.lst ([pr z p m, pr z p (m + 1)].filter (fun d => match d with | .tup [_, .int m] => decide (fine z p m) | _ => false)))) S := by
  unfold x9
  refine mLc_filt (p := fun d => match d with | .tup [_, .int m] => decide (fine z p m) | _ => false) (ds := [pr z p m, pr z p (m + 1)]) ?_ hS (by simp) ?_ ?_
  · walk_at "ev"
  · intro d hd T
    have one : ∀ k : Int, 0 ≤ k → k < 10 ^ 13 → ∀ a, (tOf (mOp eqF (mCall f__law_nearest (aCons (mOp mulF (mOp ixF (mVar 9) (mK (.int 1))) (mK (.int 65536))) (aCons (mVar 2) aNil))) (mVar 0))) [.dat (.int z), v1, .dat (.int p), v3, v4, .dat (.lst a), v6, .no, .no, .dat (.tup [.int (gap z p k), .int k])] T = .ok (decide (roundI (k * 65536) p = z)) T := fun k h1 h2 a => by
      have k1 : okMul k 65536 = true := okMul_of (a := 64) (b := 64) (by omega) (by decide)
      have nr := near_eq (o := k * 65536) (u := p) T (by omega) hp (by omega)
      generalize gap z p k = g
      walk_at "ev"
    rcases List.mem_cons.mp hd with rfl | hd
    · exact one m hb (by omega) _
    rcases List.mem_cons.mp hd with rfl | hd
    · exact one (m + 1) (by omega) (by omega) _
    · cases hd
  · intro d hd T
    walk_at "ev"
theorem numtext_eq {z : Int} (S : List Ce) (hS : plain S = true) (hz : 0 ≤ z) (hz2 : z ≤ 1073741823) : f__law_number_text [.dat (.int z)] S = .ok (.dat (.str (mk (txtN z)))) S := by
  obtain ⟨g1, g2, g3⟩ := sOf_spec hz
  have z1 : ("1" : Str) = mk [49] := by decide +kernel
  have ml := @mk_len
  have ma := @mk_app
  have hsl : 1000 ≤ sizeLine := by decide
  have turn : ∀ i : Nat, i ≤ 5 → ∀ v2 v3 v4 v5 v6 : Sl,
      (good z i → bNum [.dat (.int z), .dat (.int i), v2, v3, v4, v5, v6, .no, .no, .no] S = .rt (.dat (.str (mk (numT (nnum z ((10 : Int) ^ i)).toNat i)))) S) ∧
      (¬ good z i → ∃ w2 w3 w4 w5 w6, bNum [.dat (.int z), .dat (.int i), v2, v3, v4, v5, v6, .no, .no, .no] S = .nx [.dat (.int z), .dat (.int i), w2, w3, w4, w5, w6, .no, .no, .no] S) := fun i hi v2 v3 v4 v5 v6 => by
    have hp := pow_b hi
    have hn := nnum_le hz hz2 hp.1 hp.2
    have mz : mulF (.str "0") (.int (i : Int)) = some (.str (mk (List.replicate i 48))) := mulZ (by omega) (by omega)
    have lr : (List.replicate i 48).length = i := List.length_replicate
    have iZ := intF_mk (l := 49 :: List.replicate i 48) (fun c hc => by
      rcases List.mem_cons.mp hc with rfl | hc
      · rfl
      · rw [List.eq_of_mem_replicate hc]; rfl) (by simp) (by rw [List.length_cons, lr]; omega)
    rw [val_1] at iZ
    have a3 : [49] ++ List.replicate i 48 = 49 :: List.replicate i 48 := rfl
    have q3 : (0 + 1) + i ≤ sizeLine := by omega
    have fl := fine_list (z := z) (p := (10 : Int) ^ i) hz hp.1
    have gi : good z i ↔ fine z ((10 : Int) ^ i) (nnum z ((10 : Int) ^ i)) := Iff.rfl
    have pz : (10 : Int) ^ i = ((10 ^ i : Nat) : Int) := by push_cast; rfl
    have hW0 : 0 ≤ z * (10 : Int) ^ i := Int.mul_nonneg hz (Int.le_of_lt hp.1)
    have hW1 : z * (10 : Int) ^ i ≤ 1073741823 * (10 : Int) ^ i := Int.mul_le_mul_of_nonneg_right hz2 (Int.le_of_lt hp.1)
    have om : okMul z ((10 : Int) ^ i) = true := okMul_of (a := 64) (b := 64) (by omega) (by omega)
    have od : okDiv 65536 = true := by decide +kernel
    have hx8 := x8_eq (z := z) (p := (10 : Int) ^ i) (.dat (.int i)) v5 v6 S hS (by omega) (by omega)
    have hx9 := x9_eq (z := z) (p := (10 : Int) ^ i) (m := z * (10 : Int) ^ i / 65536) (.dat (.int i)) (.dat (.int (z * (10 : Int) ^ i))) (.dat (.int (z * (10 : Int) ^ i / 65536))) v6 S hS hp.1 hp.2 (by omega) (by omega)
    rw [gi]
    obtain ⟨N, hN⟩ : ∃ N : Nat, nnum z ((10 : Int) ^ i) = N := ⟨(nnum z ((10 : Int) ^ i)).toNat, by omega⟩
    have hNb : N ≤ 16384 * 10 ^ i := by omega
    have hN10 : N < 10 ^ 10 := by
      have : 10 ^ i ≤ 10 ^ 5 := Nat.pow_le_pow_right (by decide) hi
      omega
    clear pz
    generalize [pr z ((10 : Int) ^ i) (z * (10 : Int) ^ i / 65536), pr z ((10 : Int) ^ i) (z * (10 : Int) ^ i / 65536 + 1)].filter (fun d => match d with | .tup [_, .int m] => decide (fine z ((10 : Int) ^ i) m) | _ => false) = F at *
    constructor
    · intro hg
      obtain ⟨md, em, okF⟩ := fl.2 hg
      have nn := neF_nil okF
      rw [em] at nn
      have lg := log_of (k := N) (n := 40) (by omega) (by decide)
      have nm := num_mk N
      have dl : (dec N).length ≤ 10 := dec_len (by decide) hN10
      have mz2 : mulF (.str "0") (.int ((i : Int) + 1 - ((dec N).length : Int))) = some (.str (mk (List.replicate (i + 1 - (dec N).length) 48))) := by
        have := mulZ (k := (i : Int) + 1 - ((dec N).length : Int)) (by omega) (by omega)
        rw [show ((i : Int) + 1 - ((dec N).length : Int)).toNat = i + 1 - (dec N).length by omega] at this
        exact this
      have pe := padd_eq i N
      have pl : (padd i N).length ≤ 20 := by
        unfold padd
        rw [List.length_append, List.length_replicate]
        omega
      have pd : List.replicate (i + 1 - (dec N).length) 48 ++ dec N = padd i N := rfl
      have lrep : (List.replicate (i + 1 - (dec N).length) 48).length = i + 1 - (dec N).length := List.length_replicate
      have sz1 : (dec N).length ≤ sizeLine := by omega
      have sz2 : i + 1 - (dec N).length + (dec N).length ≤ sizeLine := by omega
      have sz3 : (padd i N).length ≤ sizeLine := by omega
      rw [hN]
      rw [hN] at md
      rw [show ((N : Int)).toNat = N from rfl]
      have q4 : i + 1 - (dec N).length + (dec N).length ≤ sizeLine := by omega
      unfold pr at md
      clear fl hg em
      by_cases i0 : i = 0
      · have e0 : numT N i = padd i N := by
          rw [pe, i0]
          unfold numT fx
          simp
        rw [e0]
        have i1 : decide ((i : Int) = 0) = true := decide_eq_true (by omega)
        clear pe e0 i0
        unfold bNum
        rw [z1]
        generalize padd i N = P at *
        walk_at "ev"
      · have i1 : ¬ ((i : Int) = 0) := by omega
        have fl := fx_len i (N % 10 ^ i)
        have c1 : cutS (mk (padd i N)) none (some (0 - (i : Int))) = mk (dec (N / 10 ^ i)) := by
          have := cut_toN (mk (padd i N)) i (by omega)
          rw [cl_mk, ← Int.zero_sub] at this
          rw [this, pe, List.length_append, fl, Nat.add_sub_cancel, List.take_left]
        have c2 : cutS (mk (padd i N)) (some (0 - (i : Int))) none = mk (fx i (N % 10 ^ i)) := by
          have := cut_fromN (mk (padd i N)) i (by omega)
          rw [cl_mk, ← Int.zero_sub] at this
          rw [this, pe, List.length_append, fl, Nat.add_sub_cancel, List.drop_left]
        have e0 : numT N i = dec (N / 10 ^ i) ++ [46] ++ fx i (N % 10 ^ i) := by
          unfold numT
          rw [if_neg i0]
          simp
        have lq : (dec (N / 10 ^ i)).length ≤ 10 := dec_len (by decide) (Nat.lt_of_le_of_lt (Nat.div_le_self _ _) hN10)
        rw [e0]
        have s4 : (dec (N / 10 ^ i)).length + (0 + 1) ≤ sizeLine := by omega
        have s5 : (dec (N / 10 ^ i)).length + (0 + 1) + i ≤ sizeLine := by omega
        have la := @List.length_append Nat
        have dm := c_dot
        clear pe e0
        generalize dec (N / 10 ^ i) = A at *
        generalize fx i (N % 10 ^ i) = B at *
        generalize padd i N = P at *
        unfold bNum
        rw [z1, c_dot]
        walk_at "ev"
    · intro hg
      have := fl.1 hg
      subst this
      have nn : neF (.lst []) (.lst []) = some (.bl false) := neF_nil rfl
      refine ⟨.dat (.int ((10 : Int) ^ i)), .dat (.int (z * (10 : Int) ^ i)), .dat (.int (z * (10 : Int) ^ i / 65536)), .dat (.lst [pr z ((10 : Int) ^ i) (z * (10 : Int) ^ i / 65536), pr z ((10 : Int) ^ i) (z * (10 : Int) ^ i / 65536 + 1)]), .dat (.lst []), ?_⟩
      clear hg fl
      unfold bNum
      rw [z1]
      walk_at "ev"
  have e1 : ∀ t, t < sOf z → ¬ good z t := g3
  have fin : forL 1 bNum ((rgs 0 6).drop 0) [.dat (.int z), .no, .no, .no, .no, .no, .no, .no, .no, .no] S = .rt (.dat (.str (mk (txtN z)))) S :=
    forL_inv_stop (j := 1) (n := 6) (k := sOf z) (fun ρ => ∃ v1 v2 v3 v4 v5 v6, ρ = [.dat (.int z), v1, v2, v3, v4, v5, v6, .no, .no, .no]) (by omega) (fun i hi ρ hI => by
      obtain ⟨v1, v2, v3, v4, v5, v6, rfl⟩ := hI
      obtain ⟨w2, w3, w4, w5, w6, e⟩ := (turn i (by omega) v2 v3 v4 v5 v6).2 (g3 i hi)
      exact ⟨_, e, _, _, _, _, _, _, rfl⟩) (fun ρ hI => by
      obtain ⟨v1, v2, v3, v4, v5, v6, rfl⟩ := hI
      exact (turn (sOf z) g2 v2 v3 v4 v5 v6).1 g1) (sOf z) 0 _ (by omega) ⟨_, _, _, _, _, _, rfl⟩
  rw [List.drop_zero] at fin
  have t6 : Int.toNat 6 = 6 := rfl
  clear turn g1 g3 e1
  unfold f__law_number_text mkF
  rw [num_parts]
  walk_at "ev"
  rw [cut_same (by simp)]
end Mir

namespace Mir
open PySem PySem.Spec L2
local macro_rules | `(tactic| walk_at "ev") => `(tactic| simp (disch := omega) only [*, tTup, tAll, tN,  ↓chain_le, chainW_i, Int.natAbs_natCast, Int.toNat_natCast, reprV_i, reprV_s, reprV_n, reprV_b, and_self, and_true, true_and, gTry, hdl, gone, bareE, mErr, slE, List.map, if_pos, if_neg, gNil, gSeq, gIf, gRet, gRetN, gSet, gStoV, gSto, gAppV, gApp, gEx, gPar, gAug, gFor, gRaise, gRaise1, gAsg, mVar, mk_ok, mOp, mUn, mIf, mAnd, mOr, mNot, mTup, mLst, mLstO, mBlt, mCall, mMs, mSl, oNo, oSome, mFmt, mChain, mFs, fsL, aCons, aNil, tOf, tTru, tAnd, tOr, tNot, tYes', mIt, mRng1, mRng2, datas, truS_vw, truD, op1_vw, op2_vw, opN_vw, vws_nil, vws_cons,
  vw_dat, vw_own, ceD_lst, ceD_dct, asB_ok, ofO_some, ofO_none, dat'_some, dat'_none, RE.ok_bind, RE.exc_bind, RE.stuck_bind, RE.ok_toS, RE.exc_toS, RE.stuck_toS, RE.noX_ok, RS.nx_bind, RS.rt_bind, RS.bk_bind, RS.ct_bind, RS.exc_bind, RS.stuck_bind, Option.bind_some, Option.map_some, Option.bind_none, Option.map_none, cond_dec, cond_true, cond_false, List.getElem?_cons_zero, List.getElem?_cons_succ, List.set_cons_zero, List.set_cons_succ, List.replicate, List.cons_append, List.nil_append,
  atI_0, atI_1, atI_2, isNonD, if_true, if_false, ite_true, ite_false, outF_nx, outF_rt, outF_exc, ixN_0, ixN_1, ixN_2, List.length_cons, List.length_nil, List.length_set, addF_i, subF_i, addF_s, addF_l, addF_t, iaddF_i, iaddF_s, imulF_i, mulF_i, mulF_s, mulF_l, mulF_t, divF_i, modF_i, powF_i, negF_i, ltF_i, ltF_s, leF_i, leF_s, gtF_i, gtF_s, geF_i, geF_s, isF_n, isnF_n, isF_b, isnF_b, inF_s, ninF_s, ixF_l, ixF_t, ixF_q, ixF_s, lenF_s, lenF_lst, lenF_sq, lenF_tup, absF_i, max2F_i, min2F_i, intF_i, intF_b, strF_i, strF_s, reprF_d, listF_lst, tupF_lst, itD_lst, listF_sq, tupF_sq, itD_sq, listF_tup, tupF_tup, itD_tup, itD_s, divmodF_i, slF_s, slF_t, slF_l, fmtF_s, fmtF_i, startswithF_s, endswithF_s, findF_s, countF_s, stripF_s, lstripF_s, rstripF_s, rmprefixF_s, rmsuffixF_s, isalphaF_n, isdigitF_n, zfillF_i, splitF_s, strsOf_map, intsOf_map, blsOf_map, joinF_m, allF_m, anyF_m, dec_T, dec_F, cond_nd, Bool.not_true, Bool.not_false, eqF_i, eqF_s, neF_i, neF_s, rgs_0, rgs_1, rgs_2, forL_nil, forL_cons, forK_nx, forK_ct, forK_bk, forK_rt, forK_exc, isi_non_int, isi_non_bool, isi_non_str, isi_non_list, isi_non_tuple, isi_non_dict, isi_bl_int, isi_bl_bool, isi_bl_str, isi_bl_list, isi_bl_tuple, isi_bl_dict, isi_int_int, isi_int_bool, isi_int_str, isi_int_list, isi_int_tuple, isi_int_dict, isi_str_int, isi_str_bool, isi_str_str, isi_str_list, isi_str_tuple, isi_str_dict, isi_lst_int, isi_lst_bool, isi_lst_str, isi_lst_list, isi_lst_tuple, isi_lst_dict, isi_tup_int, isi_tup_bool, isi_tup_str, isi_tup_list, isi_tup_tuple, isi_tup_dict, isi_dct_int, isi_dct_bool, isi_dct_str, isi_dct_list, isi_dct_tuple, isi_dct_dict])
theorem nOf_eq {z : Int} (hz : 0 ≤ z) (hz2 : z ≤ 1073741823) : ((nOf z : Nat) : Int) = nnum z ((10 : Int) ^ sOf z) ∧ nOf z ≤ 16384 * 10 ^ sOf z := by
  obtain ⟨g1, g2, g3⟩ := sOf_spec hz
  have hp := pow_b g2
  have hn := nnum_le hz hz2 hp.1 hp.2
  have pz : (10 : Int) ^ sOf z = ((10 ^ sOf z : Nat) : Int) := by push_cast; rfl
  have e : ((nOf z : Nat) : Int) = nnum z ((10 : Int) ^ sOf z) := Int.toNat_of_nonneg hn.1
  refine ⟨e, ?_⟩
  omega
theorem size_txt {z : Int} (hz : 0 ≤ z) (hz2 : z ≤ 1073741823) : sizeR (txtN z ++ [112, 116]) = .ok z := by
  obtain ⟨g1, g2, g3⟩ := sOf_spec hz
  obtain ⟨e, hN⟩ := nOf_eq hz hz2
  have hg : roundI (((nOf z : Nat) : Int) * 65536) ((10 : Int) ^ sOf z) = z := by rw [e]; exact g1
  clear g1 g3 e
  unfold txtN numT
  generalize nOf z = N at *
  generalize sOf z = s at *
  have npt : NoD [112, 116] := fun x h => by cases h; rfl
  by_cases c : s = 0
  · subst c
    rw [if_pos rfl]
    have tw := tw_dt (allD_dec N) npt
    have l5 : (dec N).length ≤ 5 := dec_len (by decide) (by omega)
    have l1 := dec_pos N
    unfold sizeR sizeDT
    rw [tw.1, tw.2, if_neg (by omega), if_neg (by rintro ⟨h, _⟩; cases h), if_neg (by omega), if_neg (by rintro (h | h); cases h; omega)]
    show Except.ok (valL (dec N) * 65536) = _
    rw [val_dec]
    have h1 := (round_iff (o := (N : Int) * 65536) (u := 1) (z := z) (by omega) (by decide)).mp hg
    congr 1
    omega
  · rw [if_neg c]
    have hp0 : 0 < 10 ^ s := Nat.pow_pos (by decide)
    have hq : N / 10 ^ s ≤ 16384 := Nat.div_le_of_le_mul (by rw [Nat.mul_comm]; exact hN)
    have hr : N % 10 ^ s < 10 ^ s := Nat.mod_lt _ hp0
    have dm := Nat.div_add_mod N (10 ^ s)
    have pz : (10 : Int) ^ s = ((10 ^ s : Nat) : Int) := by push_cast; rfl
    have l5 : (dec (N / 10 ^ s)).length ≤ 5 := dec_len (by decide) (by omega)
    have vf := val_fx s (N % 10 ^ s) (dec (N / 10 ^ s)) hr
    rw [val_dec] at vf
    have vN : valL (dec (N / 10 ^ s) ++ fx s (N % 10 ^ s)) = N := by
      rw [vf, pz, ← Int.natCast_mul, ← Int.natCast_add, Nat.mul_comm, dm]
    have e1 : dec (N / 10 ^ s) ++ 46 :: fx s (N % 10 ^ s) ++ [112, 116] = dec (N / 10 ^ s) ++ 46 :: (fx s (N % 10 ^ s) ++ [112, 116]) := by simp
    rw [e1]
    have fl := fx_len s (N % 10 ^ s)
    have tw := tw_dt (D := dec (N / 10 ^ s)) (T := 46 :: (fx s (N % 10 ^ s) ++ [112, 116])) (allD_dec _) (fun x h => by cases h; rfl)
    have tw2 := tw_dt (allD_fx s (N % 10 ^ s)) npt
    unfold sizeR sizeDT
    rw [tw.1, tw.2, if_neg (by omega), if_pos ⟨rfl, l5⟩]
    show dotR (dec (N / 10 ^ s)) (fx s (N % 10 ^ s) ++ [112, 116]) = _
    unfold dotR
    rw [tw2.1, tw2.2, if_neg (by omega), if_neg (by omega)]
    show Except.ok _ = _
    rw [round_pad (by omega), vN, fl, hg]
theorem txt_len {z : Int} (hz : 0 ≤ z) (hz2 : z ≤ 1073741823) : (txtN z).length ≤ 20 := by
  obtain ⟨g1, g2, g3⟩ := sOf_spec hz
  obtain ⟨e, hN⟩ := nOf_eq hz hz2
  have : 10 ^ sOf z ≤ 10 ^ 5 := Nat.pow_le_pow_right (by decide) g2
  exact numT_len (by omega) g2
theorem txt_head {z : Int} : ∃ x r, txtN z = x :: r ∧ dg x = true := by
  have key : ∀ n, ∃ x r, dec n = x :: r ∧ dg x = true := fun n => by
    obtain ⟨x, r, h⟩ := List.exists_cons_of_ne_nil (l := dec n) (by
      intro e
      have := dec_pos n
      rw [e] at this
      cases this)
    exact ⟨x, r, h, allD_dec n x (by rw [h]; exact List.mem_cons_self ..)⟩
  unfold txtN numT
  split
  · exact key _
  · obtain ⟨x, r, h, hd⟩ := key (nOf z / 10 ^ sOf z)
    exact ⟨x, r ++ 46 :: fx (sOf z) (nOf z % 10 ^ sOf z), by rw [h]; rfl, hd⟩
theorem back_eq {L : Int} (S : List Ce) (hL : lenI L = true) : f_length_of [.dat (.str (mk (txtL L)))] S = .ok (.dat (.int L)) S := by
  have hb := of_decide_eq_true hL
  obtain ⟨z, hzL, hz, hz2⟩ : ∃ z : Int, (if L < 0 then -L else L) = z ∧ 0 ≤ z ∧ z ≤ 1073741823 := ⟨_, rfl, by split <;> omega, by split <;> omega⟩
  have tl := txt_len hz hz2
  have st := size_txt hz hz2
  have ll : (txtL L).length ≤ 100 := by
    unfold txtL
    rw [hzL, List.length_append, List.length_append]
    split <;> simp <;> omega
  rw [lengthof_eq S (by rw [cl_mk]; omega), cl_mk]
  unfold lenR
  obtain ⟨x, r, hx, hd⟩ := txt_head (z := z)
  have nx := dg_ne hd
  by_cases neg : L < 0
  · have e : txtL L = 45 :: (txtN z ++ [112, 116]) := by unfold txtL; rw [hzL, if_pos neg]; rfl
    have hm : minus (txtL L) = 1 := by rw [e]; rfl
    rw [hm, e, show (45 :: (txtN z ++ [112, 116])).drop 1 = txtN z ++ [112, 116] from rfl, st]
    show (if lenI (sgnI 1 z) = true then _ else _) = _
    rw [if_pos neg] at hzL
    rw [show sgnI 1 z = L by show -z = L; omega, if_pos hL]
  · have e : txtL L = txtN z ++ [112, 116] := by unfold txtL; rw [hzL, if_neg neg]; rfl
    have hm : minus (txtL L) = 0 := by
      rw [e, hx]
      unfold minus
      rw [if_neg]
      intro h
      have h2 : x = 45 := by simpa using h
      subst h2
      cases hd
    rw [hm, e, List.drop_zero, st]
    show (if lenI (sgnI 0 z) = true then _ else _) = _
    rw [if_neg neg] at hzL
    rw [show sgnI 0 z = L by show z = L; omega, if_pos hL]
theorem lentext_eq {L : Int} (S : List Ce) (hS : plain S = true) (hL : lenI L = true) : f__law_length_text [.dat (.int L)] S = .ok (.dat (.str (mk (txtL L)))) S := by
  have hb := of_decide_eq_true hL
  obtain ⟨z, hzL, hz, hz2⟩ : ∃ z : Int, (if L < 0 then -L else L) = z ∧ 0 ≤ z ∧ z ≤ 1073741823 := ⟨_, rfl, by split <;> omega, by split <;> omega⟩
  have tl := txt_len hz hz2
  have nt := numtext_eq S hS hz hz2
  have ml := @mk_len
  have ma := @mk_app
  have la := @List.length_append Nat
  have hsl : 1000 ≤ sizeLine := by decide
  have e : txtL L = (if L < 0 then [45] else []) ++ txtN z ++ [112, 116] := by unfold txtL; rw [hzL, List.append_assoc]
  rw [e]
  clear e
  generalize txtN z = X at *
  have na : ∀ l : List Nat, [] ++ l = l := fun l => List.nil_append l
  by_cases neg : L < 0
  · rw [if_pos neg]
    rw [if_pos neg] at hzL
    unfold f__law_length_text mkF m__law_length_text
    rw [c_m, c_e, c_pt]
    walk_at "ev"
    rw [cut_same (by simp)] <;> rfl
  · rw [if_neg neg]
    rw [if_neg neg] at hzL
    subst hzL
    unfold f__law_length_text mkF m__law_length_text
    rw [c_m, c_e, c_pt]
    walk_at "ev"
    rw [cut_same (by simp)] <;> rfl
end Mir

namespace Mir
open PySem PySem.Spec L2
def xMid : MT := (tAnd (tOf (mOp inF (mK (.str ".")) (mVar 2))) (tOr (tOf (mOp eqF (mOp ixF (mVar 2) (mUn negF (mK (.int 1)))) (mK (.str "0")))) (tOf (mOp gtF (mBlt lenF (aCons (mOp ixF (mMs splitF (mVar 2) (aCons (mK (.str ".")) aNil)) (mK (.int 1))) aNil)) (mK (.int 5))))))
theorem right_parts (n0 : Nat) : m__law_right n0 = (gSeq (gSet 1 (mCall f_text_of_length (aCons (mVar 0) aNil)))
  (gSeq (gIf (tOr (tOf (mOp neF (mVar 1) (mCall f__law_length_text (aCons (mVar 0) aNil)))) (tOf (mOp neF (mCall f_length_of (aCons (mVar 1) aNil)) (mVar 0))))
  (gRet (mK (.bl false)))
  gNil)
  (gSeq (gSet 2 (mSl (mVar 1) oNo (oSome (mUn negF (mK (.int 2))))))
  (gSeq (gIf xMid
  (gRet (mK (.bl false)))
  gNil)
  (gRet (mOr (mOp eqF (mVar 0) (mK (.int 0))) (mOp eqF (mCall f_text_of_length (aCons (mOp subF (mK (.int 0)) (mVar 0)) aNil)) (mIf (tOf (mOp eqF (mOp ixF (mVar 1) (mK (.int 0))) (mK (.str "-")))) (mSl (mVar 1) (oSome (mK (.int 1))) oNo) (mOp addF (mK (.str "-")) (mVar 1)))))))))) := rfl
local macro_rules | `(tactic| walk_at "ev") => `(tactic| simp (disch := omega) only [*, tTup, tAll, tN,  ↓chain_le, chainW_i, Int.natAbs_natCast, Int.toNat_natCast, reprV_i, reprV_s, reprV_n, reprV_b, and_self, and_true, true_and, gTry, hdl, gone, bareE, mErr, slE, List.map, if_pos, if_neg, gNil, gSeq, gIf, gRet, gRetN, gSet, gStoV, gSto, gAppV, gApp, gEx, gPar, gAug, gFor, gRaise, gRaise1, gAsg, mVar, mk_ok, mOp, mUn, mIf, mAnd, mOr, mNot, mTup, mLst, mLstO, mBlt, mCall, mMs, mSl, oNo, oSome, mFmt, mChain, mFs, fsL, aCons, aNil, tOf, tTru, tAnd, tOr, tNot, tYes', mIt, mRng1, mRng2, datas, truS_vw, truD, op1_vw, op2_vw, opN_vw, vws_nil, vws_cons,
  vw_dat, vw_own, ceD_lst, ceD_dct, asB_ok, ofO_some, ofO_none, dat'_some, dat'_none, RE.ok_bind, RE.exc_bind, RE.stuck_bind, RE.ok_toS, RE.exc_toS, RE.stuck_toS, RE.noX_ok, RS.nx_bind, RS.rt_bind, RS.bk_bind, RS.ct_bind, RS.exc_bind, RS.stuck_bind, Option.bind_some, Option.map_some, Option.bind_none, Option.map_none, cond_dec, cond_true, cond_false, List.getElem?_cons_zero, List.getElem?_cons_succ, List.set_cons_zero, List.set_cons_succ, List.replicate, List.cons_append, List.nil_append,
  atI_0, atI_1, atI_2, isNonD, if_true, if_false, ite_true, ite_false, outF_nx, outF_rt, outF_exc, ixN_0, ixN_1, ixN_2, List.length_cons, List.length_nil, List.length_set, addF_i, subF_i, addF_s, addF_l, addF_t, iaddF_i, iaddF_s, imulF_i, mulF_i, mulF_s, mulF_l, mulF_t, divF_i, modF_i, powF_i, negF_i, ltF_i, ltF_s, leF_i, leF_s, gtF_i, gtF_s, geF_i, geF_s, isF_n, isnF_n, isF_b, isnF_b, inF_s, ninF_s, ixF_l, ixF_t, ixF_q, ixF_s, lenF_s, lenF_lst, lenF_sq, lenF_tup, absF_i, max2F_i, min2F_i, intF_i, intF_b, strF_i, strF_s, reprF_d, listF_lst, tupF_lst, itD_lst, listF_sq, tupF_sq, itD_sq, listF_tup, tupF_tup, itD_tup, itD_s, divmodF_i, slF_s, slF_t, slF_l, fmtF_s, fmtF_i, startswithF_s, endswithF_s, findF_s, countF_s, stripF_s, lstripF_s, rstripF_s, rmprefixF_s, rmsuffixF_s, isalphaF_n, isdigitF_n, zfillF_i, splitF_s, strsOf_map, intsOf_map, blsOf_map, joinF_m, allF_m, anyF_m, dec_T, dec_F, cond_nd, Bool.not_true, Bool.not_false, eqF_i, eqF_s, neF_i, neF_s, rgs_0, rgs_1, rgs_2, forL_nil, forL_cons, forK_nx, forK_ct, forK_bk, forK_rt, forK_exc, isi_non_int, isi_non_bool, isi_non_str, isi_non_list, isi_non_tuple, isi_non_dict, isi_bl_int, isi_bl_bool, isi_bl_str, isi_bl_list, isi_bl_tuple, isi_bl_dict, isi_int_int, isi_int_bool, isi_int_str, isi_int_list, isi_int_tuple, isi_int_dict, isi_str_int, isi_str_bool, isi_str_str, isi_str_list, isi_str_tuple, isi_str_dict, isi_lst_int, isi_lst_bool, isi_lst_str, isi_lst_list, isi_lst_tuple, isi_lst_dict, isi_tup_int, isi_tup_bool, isi_tup_str, isi_tup_list, isi_tup_tuple, isi_tup_dict, isi_dct_int, isi_dct_bool, isi_dct_str, isi_dct_list, isi_dct_tuple, isi_dct_dict])
theorem sub_no {M : List Nat} (h : 46 ∉ M) : subS "." (mk M) = false := by
  unfold subS
  have d1 : ("." : Str).length = 1 := by decide +kernel
  have dc : ("." : Str).cps.toList = [46] := by decide +kernel
  rw [PySem.W.occ_nil_of_no]
  · rfl
  · intro i hi
    rw [PySem.StrLaws.subAt_eq, dc, d1, mk_list]
    rw [d1, mk_len] at hi
    cases e : ((M.drop i).take 1 == [46]) with
    | false => rfl
    | true =>
      have := eq_of_beq e
      have m : 46 ∈ (M.drop i).take 1 := by rw [this]; exact List.mem_cons_self ..
      exact absurd (List.mem_of_mem_drop (List.mem_of_mem_take m)) h
theorem atI_last (l : List Nat) (c : Nat) : atI (l ++ [c]) (-1) = some c := by
  unfold atI ixN
  simp
  rw [if_pos (by omega), Option.bind_some, show (-1 + ((l.length : Int) + 1)).toNat = l.length by omega]
  simp
theorem last_dig {z : Int} (hz : 0 ≤ z) (hz2 : z ≤ 1073741823) (h0 : sOf z ≠ 0) : nOf z % 10 ≠ 0 := fun h => by
  obtain ⟨g1, g2, g3⟩ := sOf_spec hz
  obtain ⟨e, hN⟩ := nOf_eq hz hz2
  obtain ⟨k, hk⟩ : ∃ k, sOf z = k + 1 := ⟨sOf z - 1, by omega⟩
  have gk := g3 k (by omega)
  unfold good at g1
  rw [← e, hk, Int.pow_succ] at g1
  have hm : ((nOf z : Nat) : Int) = ((nOf z / 10 : Nat) : Int) * 10 := by omega
  rw [hm] at g1
  have hp := pow_b (j := k) (by omega)
  have f := fine_ten hp.1 (by omega) g1
  exact gk (fine_near hz hp.1 (by omega) f)
theorem mid_eq {z : Int} {sg : List Nat} (S : List Ce) (v0 v1 : Sl) (hz : 0 ≤ z) (hz2 : z ≤ 1073741823) (hsg : 46 ∉ sg) (hl : sg.length ≤ 1) : xMid [v0, v1, .dat (.str (mk (sg ++ txtN z)))] S = .ok false S := by
  have ld := last_dig hz hz2
  obtain ⟨g1, g2, g3⟩ := sOf_spec hz
  have tl := txt_len hz hz2
  have hsl : 1000 ≤ sizeLine := by decide
  have ml := @mk_len
  have lM : (sg ++ txtN z).length ≤ 30 := by rw [List.length_append]; omega
  have sM : (sg ++ txtN z).length ≤ sizeLine := by omega
  have sM2 : (sg ++ txtN z).length + 2 ≤ sizeLine := by omega
  have dl : (("." : Str).length == 0) = false := by decide +kernel
  by_cases hs : subS "." (mk (sg ++ txtN z)) = true
  · by_cases c : sOf z = 0
    · have : subS "." (mk (sg ++ txtN z)) = false := sub_no (by
        unfold txtN numT
        rw [if_pos c]
        intro h
        rcases List.mem_append.mp h with h | h
        · exact hsg h
        · exact allD_no (allD_dec _) h)
      rw [this] at hs
      cases hs
    · have e : sg ++ txtN z = (sg ++ dec (nOf z / 10 ^ sOf z)) ++ 46 :: fx (sOf z) (nOf z % 10 ^ sOf z) := by
        unfold txtN numT
        rw [if_neg c, List.append_assoc]
      have nA : 46 ∉ sg ++ dec (nOf z / 10 ^ sOf z) := fun h => by
        rcases List.mem_append.mp h with h | h
        · exact hsg h
        · exact allD_no (allD_dec _) h
      have nB := allD_no (allD_fx (sOf z) (nOf z % 10 ^ sOf z))
      have fl := fx_len (sOf z) (nOf z % 10 ^ sOf z)
      obtain ⟨k, hk⟩ : ∃ k, sOf z = k + 1 := ⟨sOf z - 1, by omega⟩
      have la : ∃ M', sg ++ txtN z = M' ++ [48 + nOf z % 10] := by
        refine ⟨(sg ++ dec (nOf z / 10 ^ sOf z)) ++ 46 :: fx k (nOf z % 10 ^ sOf z / 10), ?_⟩
        rw [e]
        have : fx (sOf z) (nOf z % 10 ^ sOf z) = fx k (nOf z % 10 ^ sOf z / 10) ++ [48 + nOf z % 10] := by
          rw [hk, fx_succ, mod_mod]
        rw [this]
        simp
      obtain ⟨M', hM'⟩ := la
      have at1 : atI (sg ++ txtN z) (-1) = some (48 + nOf z % 10) := by rw [hM']; exact atI_last _ _
      have d0 : decide ((⟨#[48 + nOf z % 10]⟩ : Str) = ("0" : Str)) = false := by
        rw [one_mk, show ("0" : Str) = mk [48] by decide +kernel, mk_dec]
        have := ld c
        exact decide_eq_false (by simp; omega)
      obtain ⟨ys, hy, hys⟩ := split_dot (sg ++ txtN z)
      have ep : TL.spl [46] 0 [] (sg ++ txtN z) = [sg ++ dec (nOf z / 10 ^ sOf z), fx (sOf z) (nOf z % 10 ^ sOf z)] := by
        have np : ∀ a ∈ sg ++ dec (nOf z / 10 ^ sOf z), (fun x : Nat => x != 46) a = true := fun a ha => by
          have : a ≠ 46 := fun h => nA (h ▸ ha)
          simp [this]
        have dw : (sg ++ txtN z).dropWhile (fun x => x != 46) = 46 :: fx (sOf z) (nOf z % 10 ^ sOf z) := by
          rw [e, List.dropWhile_append_of_pos np, List.dropWhile_cons_of_neg (by decide)]
        have tw : (sg ++ txtN z).takeWhile (fun x => x != 46) = sg ++ dec (nOf z / 10 ^ sOf z) := by
          rw [e, List.takeWhile_append_of_pos np, List.takeWhile_cons_of_neg (by decide), List.append_nil]
        rcases parts46 (sg ++ txtN z) with ⟨n, _⟩ | ⟨_, n, h⟩ | ⟨_, n, _⟩
        · exact absurd (by rw [e]; simp) n
        · rw [h, dw, tw] <;> rfl
        · rw [dw] at n
          exact absurd n nB
      rw [ep] at hys
      subst hys
      have s5 : ¬ (5 : Int) < ((sOf z : Nat) : Int) := by omega
      have sB : sOf z ≤ sizeLine := by omega
      have lm := mk_list (sg ++ txtN z)
      have hs' : subS "." (mk (sg ++ txtN z)) = true := hs
      generalize fx (sOf z) (nOf z % 10 ^ sOf z) = B at *
      generalize sg ++ dec (nOf z / 10 ^ sOf z) = A at *
      generalize 48 + nOf z % 10 = cc at *
      generalize sOf z = s at *
      clear g1 g3 ld nA nB e hsg hM' ep hk
      generalize sg ++ txtN z = M at *
      unfold xMid
      walk_at "ev"
  · have hs' : subS "." (mk (sg ++ txtN z)) = false := by simpa using hs
    clear hs
    unfold xMid
    walk_at "ev"
theorem right_eq {L : Int} (S : List Ce) (hS : plain S = true) (hL : lenI L = true) : f__law_right [.dat (.int L)] S = .ok (.dat (.bl true)) S := by
  have hb := of_decide_eq_true hL
  obtain ⟨z, hzL, hz, hz2⟩ : ∃ z : Int, (if L < 0 then -L else L) = z ∧ 0 ≤ z ∧ z ≤ 1073741823 := ⟨_, rfl, by split <;> omega, by split <;> omega⟩
  have hL2 : lenI (0 - L) = true := decide_eq_true (by omega)
  have e1 := text_eq S hL
  have e2 := lentext_eq S hS hL
  have e3 := back_eq S hL
  have e4 := text_eq S hL2
  have tl := txt_len hz hz2
  obtain ⟨x, r, hx, hd⟩ := txt_head (z := z)
  have nx := dg_ne hd
  have n45 : x ≠ 45 := fun h => by subst h; cases hd
  have ml := @mk_len
  have ma := @mk_app
  have hsl : 1000 ≤ sizeLine := by decide
  have lm := @mk_list
  have ol := one_mk
  have l2 : (txtN z ++ [112, 116]).length = (txtN z).length + 2 := by rw [List.length_append] <;> rfl
  by_cases neg : L < 0
  · rw [if_pos neg] at hzL
    have tL : txtL L = 45 :: (txtN z ++ [112, 116]) := by unfold txtL; rw [if_pos neg, if_pos neg, hzL]; rfl
    have tL2 : txtL (0 - L) = txtN z ++ [112, 116] := by unfold txtL; rw [if_neg (by omega), if_neg (by omega), show 0 - L = z by omega]; rfl
    have mid := mid_eq (z := z) (sg := [45]) S (.dat (.int L)) (.dat (.str (mk (txtL L)))) hz hz2 (by decide) (by decide)
    have c1 : cutS (mk (txtL L)) none (some (-2)) = mk ([45] ++ txtN z) := by
      rw [cutM2, tL]
      have := (end_two ([45] ++ txtN z) 112 116).2
      rw [List.append_assoc] at this
      exact congrArg mk this
    have c2 : cutS (mk (txtL L)) (some 1) none = mk (txtN z ++ [112, 116]) := by rw [cutF1, tL] <;> rfl
    rw [tL2] at e4
    have l3 : (txtL L).length = (txtN z).length + 3 := by rw [tL, List.length_cons, l2]
    have s1 : (txtL L).length ≤ sizeLine := by omega
    have at0 : atI (txtL L) 0 = some 45 := by rw [tL]; exact atI_0 _ _
    have d45 : decide (mk [45] = ("-" : Str)) = true := by rw [c_m]; exact decide_eq_true rfl
    have L0 : ¬ L = 0 := by omega
    generalize txtL L = Y at *
    generalize txtN z ++ [112, 116] = X at *
    generalize [45] ++ txtN z = M at *
    clear hx tL
    unfold f__law_right mkF
    rw [right_parts]
    walk_at "ev"
    rw [cut_same (by simp)]
  · rw [if_neg neg] at hzL
    subst hzL
    have tL : txtL L = txtN L ++ [112, 116] := by unfold txtL; rw [if_neg neg, if_neg neg]; rfl
    have mid := mid_eq (z := L) (sg := []) S (.dat (.int L)) (.dat (.str (mk (txtL L)))) hz hz2 (by decide) (by decide)
    have c1 : cutS (mk (txtL L)) none (some (-2)) = mk ([] ++ txtN L) := by
      rw [cutM2, tL, (end_two (txtN L) 112 116).2] <;> rfl
    have l3 : (txtL L).length = (txtN L).length + 2 := by rw [tL, l2]
    have s1 : (txtL L).length ≤ sizeLine := by omega
    have at0 : atI (txtL L) 0 = some x := by rw [tL, hx]; exact atI_0 _ _
    have d45 : decide (mk [x] = ("-" : Str)) = false := by rw [c_m, mk_dec]; exact decide_eq_false (by simp [n45])
    by_cases L0 : L = 0
    · have dL := decide_eq_true L0
      clear L0
      generalize txtL L = Y at *
      generalize [] ++ txtN L = M at *
      clear hx tL
      unfold f__law_right mkF
      rw [right_parts]
      walk_at "ev"
      rw [cut_same (by simp)]
    · have tL2 : txtL (0 - L) = [45] ++ txtL L := by
        rw [tL]
        unfold txtL
        rw [if_pos (by omega), if_pos (by omega), show -(0 - L) = L by omega]
      rw [tL2] at e4
      have s3 : ([45] : List Nat).length + (txtL L).length ≤ sizeLine := by simp only [List.length_cons, List.length_nil]; omega
      generalize txtL L = Y at *
      generalize [] ++ txtN L = M at *
      clear hx tL
      unfold f__law_right mkF
      rw [right_parts, c_m]
      rw [c_m] at d45
      walk_at "ev"
      rw [cut_same (by simp)]
theorem drawn_eq {S : List Ce} {j N : Nat} {cs : List D} (hS : S[j]? = some (.lst cs)) (hd : Dice cs N) (hN : N < 10 ^ 7) :
    ∃ L cs', f__law_drawn_length [.own j] S = .ok (.dat (.int L)) (S.set j (.lst cs')) ∧ lenI L = true ∧ Dice cs' (N + 10) := by
  have hj := (List.getElem?_eq_some_iff.mp hS).1
  have gs : ∀ c : List D, (S.set j (.lst c))[j]? = some (.lst c) := fun c => List.getElem?_set_self hj
  obtain ⟨w, cs1, e1, w0, w1, hd1⟩ := roll_eq (t := 6) hS hd (by omega) (by decide) (by decide)
  have p30 : (2 : Int) ^ Int.toNat 30 = 1073741824 := by decide
  have m40 : okMul 65536 40 = true := by decide +kernel
  have t40 : (65536 : Int) * 40 = 2621440 := rfl
  have t30 : (1073741824 : Int) - 1 = 1073741823 := rfl
  have fin : ∀ (t : Int) (ht : 0 < t) (ht2 : t < 2 ^ 64) (f : Int → Int) (hf : ∀ r, 0 ≤ r → r < t → -1073741823 ≤ f r ∧ f r ≤ 1073741823)
      (hrun : ∀ r cs2 q cs3, 0 ≤ r → r < t → f__law_roll [.own j, .dat (.int t)] (S.set j (.lst cs1)) = .ok (.dat (.int r)) (S.set j (.lst cs2)) → f__law_roll [.own j, .dat (.int 3)] (S.set j (.lst cs2)) = .ok (.dat (.int q)) (S.set j (.lst cs3)) →
        f__law_drawn_length [.own j] S = .ok (.dat (.int (if 0 < q then f r else 0 - f r))) (S.set j (.lst cs3))),
      ∃ L cs', f__law_drawn_length [.own j] S = .ok (.dat (.int L)) (S.set j (.lst cs')) ∧ lenI L = true ∧ Dice cs' (N + 10) := fun t ht ht2 f hf hrun => by
    obtain ⟨r, cs2, e2, r0, r1, hd2⟩ := roll_eq (t := t) (gs cs1) hd1 (by omega) ht ht2
    rw [List.set_set] at e2
    obtain ⟨q, cs3, e3, q0, q1, hd3⟩ := roll_eq (t := 3) (gs cs2) hd2 (by omega) (by decide) (by decide)
    rw [List.set_set] at e3
    have b := hf r r0 r1
    exact ⟨_, cs3, hrun r cs2 q cs3 r0 r1 e2 e3, decide_eq_true (by split <;> omega), by
      obtain ⟨a, b, n, h1, h2, h3, h4⟩ := hd3
      exact ⟨a, b, n, h1, h2, by omega, h4⟩⟩
  by_cases c0 : w = 0
  · subst c0
    refine fin 20 (by decide) (by decide) (fun r => r) (fun r h1 h2 => by omega) fun r cs2 q cs3 h1 h2 e2 e3 => ?_
    clear fin gs
    by_cases hq : 0 < q
    · rw [if_pos hq]
      unfold f__law_drawn_length mkF m__law_drawn_length
      walk_at "ev"
      rw [cut_same (by simp)]
    · rw [if_neg hq]
      unfold f__law_drawn_length mkF m__law_drawn_length
      walk_at "ev"
      rw [cut_same (by simp)]
  by_cases c1 : w = 1
  · subst c1
    refine fin 400 (by decide) (by decide) (fun r => r * 3277) (fun r h1 h2 => by omega) fun r cs2 q cs3 h1 h2 e2 e3 => ?_
    have om : okMul r 3277 = true := okMul_of (a := 20) (b := 20) (by omega) (by decide)
    clear fin gs
    by_cases hq : 0 < q
    · rw [if_pos hq]
      unfold f__law_drawn_length mkF m__law_drawn_length
      walk_at "ev"
      rw [cut_same (by simp)]
    · rw [if_neg hq]
      unfold f__law_drawn_length mkF m__law_drawn_length
      walk_at "ev"
      rw [cut_same (by simp)]
  by_cases c2 : w = 2
  · subst c2
    refine fin 3 (by decide) (by decide) (fun r => 1073741823 - r) (fun r h1 h2 => by omega) fun r cs2 q cs3 h1 h2 e2 e3 => ?_
    clear fin gs
    by_cases hq : 0 < q
    · rw [if_pos hq]
      unfold f__law_drawn_length mkF m__law_drawn_length
      walk_at "ev"
      rw [cut_same (by simp)]
    · rw [if_neg hq]
      unfold f__law_drawn_length mkF m__law_drawn_length
      walk_at "ev"
      rw [cut_same (by simp)]
  · refine fin 2621440 (by decide) (by decide) (fun r => r) (fun r h1 h2 => by omega) fun r cs2 q cs3 h1 h2 e2 e3 => ?_
    clear fin gs
    by_cases hq : 0 < q
    · rw [if_pos hq]
      unfold f__law_drawn_length mkF m__law_drawn_length
      walk_at "ev"
      rw [cut_same (by simp)]
    · rw [if_neg hq]
      unfold f__law_drawn_length mkF m__law_drawn_length
      walk_at "ev"
      rw [cut_same (by simp)]
end Mir

namespace Mir
open PySem PySem.Spec L2
def cTurn : MS := (gIf (tNot (tTru (mCall f__law_right (aCons (mCall f__law_drawn_length (aCons (mVar 2) aNil)) aNil))))
  (gRet (mK (.bl false)))
  gNil)
def cOut : MS := (gSeq (gSet 2 (mCall f__law_dice (aCons (mVar 0) (aCons (mVar 1) aNil))))
  (gFor 3 (mRng1 (mK (.int 8)))
  cTurn))
def xTold : ME := (mLc 5 (mIt (mTup (aCons (mK (.int 1)) (aCons (mK (.int 65535)) (aCons (mUn negF (mK (.int 819200))) (aCons (mK (.int 0)) (aCons (mK (.int 65536)) (aCons (mK (.int 32768)) (aCons (mK (.int 3)) aNil))))))))) tYes' (mCall f_text_of_length (aCons (mVar 5) aNil)))
def cRest : MS := (gSeq (gSet 4 xTold)
  (gRet (mOp eqF (mVar 4) (mLst (aCons (mK (.str "0.00002pt")) (aCons (mK (.str "0.99998pt")) (aCons (mK (.str "-12.5pt")) (aCons (mK (.str "0pt")) (aCons (mK (.str "1pt")) (aCons (mK (.str "0.5pt")) (aCons (mK (.str "0.00005pt")) aNil)))))))))))
theorem law_parts (n0 : Nat) : m_law n0 = gSeq (gFor 1 (mRng1 (mBlt max2F (aCons (mK (.int 1)) (aCons (mBlt min2F (aCons (mK (.int 4)) (aCons (mBlt lenF (aCons (mVar 0) aNil)) aNil))) aNil)))) cOut) cRest := rfl
local macro_rules | `(tactic| walk_at "ev") => `(tactic| simp (disch := omega) only [*, tTup, tAll, tN,  ↓chain_le, chainW_i, Int.natAbs_natCast, Int.toNat_natCast, reprV_i, reprV_s, reprV_n, reprV_b, and_self, and_true, true_and, gTry, hdl, gone, bareE, mErr, slE, List.map, if_pos, if_neg, gNil, gSeq, gIf, gRet, gRetN, gSet, gStoV, gSto, gAppV, gApp, gEx, gPar, gAug, gFor, gRaise, gRaise1, gAsg, mVar, mk_ok, mOp, mUn, mIf, mAnd, mOr, mNot, mTup, mLst, mLstO, mBlt, mCall, mMs, mSl, oNo, oSome, mFmt, mChain, mFs, fsL, aCons, aNil, tOf, tTru, tAnd, tOr, tNot, tYes', mIt, mRng1, mRng2, datas, truS_vw, truD, op1_vw, op2_vw, opN_vw, vws_nil, vws_cons,
  vw_dat, vw_own, ceD_lst, ceD_dct, asB_ok, ofO_some, ofO_none, dat'_some, dat'_none, RE.ok_bind, RE.exc_bind, RE.stuck_bind, RE.ok_toS, RE.exc_toS, RE.stuck_toS, RE.noX_ok, RS.nx_bind, RS.rt_bind, RS.bk_bind, RS.ct_bind, RS.exc_bind, RS.stuck_bind, Option.bind_some, Option.map_some, Option.bind_none, Option.map_none, cond_dec, cond_true, cond_false, List.getElem?_cons_zero, List.getElem?_cons_succ, List.set_cons_zero, List.set_cons_succ, List.replicate, List.cons_append, List.nil_append,
  atI_0, atI_1, atI_2, isNonD, if_true, if_false, ite_true, ite_false, outF_nx, outF_rt, outF_exc, ixN_0, ixN_1, ixN_2, List.length_cons, List.length_nil, List.length_set, addF_i, subF_i, addF_s, addF_l, addF_t, iaddF_i, iaddF_s, imulF_i, mulF_i, mulF_s, mulF_l, mulF_t, divF_i, modF_i, powF_i, negF_i, ltF_i, ltF_s, leF_i, leF_s, gtF_i, gtF_s, geF_i, geF_s, isF_n, isnF_n, isF_b, isnF_b, inF_s, ninF_s, ixF_l, ixF_t, ixF_q, ixF_s, lenF_s, lenF_lst, lenF_sq, lenF_tup, absF_i, max2F_i, min2F_i, intF_i, intF_b, strF_i, strF_s, reprF_d, listF_lst, tupF_lst, itD_lst, listF_sq, tupF_sq, itD_sq, listF_tup, tupF_tup, itD_tup, itD_s, divmodF_i, slF_s, slF_t, slF_l, fmtF_s, fmtF_i, startswithF_s, endswithF_s, findF_s, countF_s, stripF_s, lstripF_s, rstripF_s, rmprefixF_s, rmsuffixF_s, isalphaF_n, isdigitF_n, zfillF_i, splitF_s, strsOf_map, intsOf_map, blsOf_map, joinF_m, allF_m, anyF_m, dec_T, dec_F, cond_nd, Bool.not_true, Bool.not_false, eqF_i, eqF_s, neF_i, neF_s, rgs_0, rgs_1, rgs_2, forL_nil, forL_cons, forK_nx, forK_ct, forK_bk, forK_rt, forK_exc, isi_non_int, isi_non_bool, isi_non_str, isi_non_list, isi_non_tuple, isi_non_dict, isi_bl_int, isi_bl_bool, isi_bl_str, isi_bl_list, isi_bl_tuple, isi_bl_dict, isi_int_int, isi_int_bool, isi_int_str, isi_int_list, isi_int_tuple, isi_int_dict, isi_str_int, isi_str_bool, isi_str_str, isi_str_list, isi_str_tuple, isi_str_dict, isi_lst_int, isi_lst_bool, isi_lst_str, isi_lst_list, isi_lst_tuple, isi_lst_dict, isi_tup_int, isi_tup_bool, isi_tup_str, isi_tup_list, isi_tup_tuple, isi_tup_dict, isi_dct_int, isi_dct_bool, isi_dct_str, isi_dct_list, isi_dct_tuple, isi_dct_dict])
theorem turn_eq {S : List Ce} {j N : Nat} {cs : List D} (x v1 v3 : Sl) (hp : plain S = true) (hS : S[j]? = some (.lst cs)) (hd : Dice cs N) (hN : N < 10 ^ 6) :
    ∃ cs', cTurn [x, v1, .own j, v3, .no, .no] S = .nx [x, v1, .own j, v3, .no, .no] (S.set j (.lst cs')) ∧ Dice cs' (N + 10) := by
  obtain ⟨L, cs1, e1, hL, hd1⟩ := drawn_eq hS hd (by omega)
  have r := right_eq (L := L) (S.set j (.lst cs1)) (plain_set hp) hL
  refine ⟨cs1, ?_, hd1⟩
  unfold cTurn
  walk_at "ev"
theorem out_eq {S : List Ce} {ns : List Int} {i : Nat} {v2 v3 : Sl} (hn : ns.length ≤ 63) (hi : i ≤ 63) (hp : plain S = true) :
    ∃ S' w2 w3, cOut [.dat (.sq (ns.map .int)), .dat (.int i), v2, v3, .no, .no] S = .nx [.dat (.sq (ns.map .int)), .dat (.int i), w2, w3, .no, .no] S' ∧ plain S' = true := by
  obtain ⟨cs, e0, hd⟩ := dice_eq (i := i) hp hn hi
  have hp1 : plain (S ++ [.lst cs]) = true := plain_app hp rfl
  have hS1 : (S ++ [Ce.lst cs])[S.length]? = some (.lst cs) := by simp
  obtain ⟨ρ', S', el, ⟨w3, rfl, hp2, c2, hS2, hd2⟩⟩ := forL_inv (j := 3) (g := cTurn) (fun n ρ S' => ∃ w3, ρ = [.dat (.sq (ns.map .int)), .dat (.int i), .own S.length, w3, .no, .no] ∧ plain S' = true ∧ ∃ c, S'[S.length]? = some (.lst c) ∧ Dice c (10 * n)) (rgs 0 8) 0 [.dat (.sq (ns.map .int)), .dat (.int i), .own S.length, v3, .no, .no] (S ++ [.lst cs]) ⟨v3, rfl, hp1, cs, hS1, hd⟩ (fun k d hk ρ T hI => by
    obtain ⟨w3, rfl, hpT, c, hT, hdT⟩ := hI
    have hk8 : k < 8 := by have := (List.getElem?_eq_some_iff.mp hk).1; rw [rgs_len] at this; exact this
    have hj := (List.getElem?_eq_some_iff.mp hT).1
    obtain ⟨c', et, hd'⟩ := turn_eq (.dat (.sq (ns.map .int))) (.dat (.int i)) (.dat d) hpT hT hdT (by omega)
    refine ⟨_, _, et, ⟨_, rfl, plain_set hpT, c', List.getElem?_set_self hj, ?_⟩⟩
    obtain ⟨a, b, n, h1, h2, h3, h4⟩ := hd'
    exact ⟨a, b, n, h1, h2, by omega, h4⟩)
  have t8 : Int.toNat 8 = 8 := rfl
  refine ⟨S', .own S.length, w3, ?_, hp2⟩
  clear hp1 hS1
  unfold cOut
  walk_at "ev"
def toldD : D → D
  | .int L => .str (mk (txtL L))
  | d => d
theorem eqF_lst {xs ys : List D} (h1 : okP 60 (.lst xs) = true) (h2 : okP 60 (.lst ys) = true) (h3 : eqB (.lst xs) (.lst ys) = true) : eqF (.lst xs) (.lst ys) = some (.bl true) := by
  show (if okP 60 (.lst xs) = true ∧ okP 60 (.lst ys) = true then some (D.bl (eqB (.lst xs) (.lst ys))) else none) = _
  rw [if_pos ⟨h1, h2⟩, h3]
theorem rest_eq {S : List Ce} {x v1 v2 v3 : Sl} (hp : plain S = true) : cRest [x, v1, v2, v3, .no, .no] S = .rt (.dat (.bl true)) S := by
  have hX : xTold [x, v1, v2, v3, .no, .no] S = .ok (.dat (.lst [.str "0.00002pt", .str "0.99998pt", .str "-12.5pt", .str "0pt", .str "1pt", .str "0.5pt", .str "0.00005pt"])) S := by
    unfold xTold
    refine (mLc_pure (f := toldD) (ds := [.int 1, .int 65535, .int (-819200), .int 0, .int 65536, .int 32768, .int 3]) ?_ hp (by decide) fun d hd T => ?_).trans ?_
    · walk_at "ev"
    · have one : ∀ L : Int, lenI L = true → (mCall f_text_of_length (aCons (mVar 5) aNil)) [x, v1, v2, v3, .no, .dat (.int L)] T = .ok (.dat (toldD (.int L))) T := fun L hL => by
        have e := text_eq T hL
        show _ = (RE.ok (Sl.dat (.str (mk (txtL L)))) T : RE Sl)
        walk_at "ev"
      rcases List.mem_cons.mp hd with rfl | hd
      · exact one _ rfl
      rcases List.mem_cons.mp hd with rfl | hd
      · exact one _ rfl
      rcases List.mem_cons.mp hd with rfl | hd
      · exact one _ rfl
      rcases List.mem_cons.mp hd with rfl | hd
      · exact one _ rfl
      rcases List.mem_cons.mp hd with rfl | hd
      · exact one _ rfl
      rcases List.mem_cons.mp hd with rfl | hd
      · exact one _ rfl
      rcases List.mem_cons.mp hd with rfl | hd
      · exact one _ rfl
      · cases hd
    · have k1 : mk (txtL 1) = "0.00002pt" := by decide +kernel
      have k2 : mk (txtL 65535) = "0.99998pt" := by decide +kernel
      have k3 : mk (txtL (-819200)) = "-12.5pt" := by decide +kernel
      have k4 : mk (txtL 0) = "0pt" := by decide +kernel
      have k5 : mk (txtL 65536) = "1pt" := by decide +kernel
      have k6 : mk (txtL 32768) = "0.5pt" := by decide +kernel
      have k7 : mk (txtL 3) = "0.00005pt" := by decide +kernel
      show (RE.ok (Sl.dat (.lst [.str (mk (txtL 1)), .str (mk (txtL 65535)), .str (mk (txtL (-819200))), .str (mk (txtL 0)), .str (mk (txtL 65536)), .str (mk (txtL 32768)), .str (mk (txtL 3))])) S : RE Sl) = _
      rw [k1, k2, k3, k4, k5, k6, k7]
  have q1 : eqF (.lst [.str "0.00002pt", .str "0.99998pt", .str "-12.5pt", .str "0pt", .str "1pt", .str "0.5pt", .str "0.00005pt"]) (.lst [.str "0.00002pt", .str "0.99998pt", .str "-12.5pt", .str "0pt", .str "1pt", .str "0.5pt", .str "0.00005pt"]) = some (.bl true) := eqF_lst (by decide +kernel) (by decide +kernel) (by decide +kernel)
  unfold cRest
  walk_at "ev"
theorem lawTrue (ns : List Int) (h : ns.length ≤ 63) : ∃ S', f_law [.dat (.sq (ns.map .int))] [] = .ok (.dat (.bl true)) S' := by
  obtain ⟨m, hm⟩ : ∃ m : Nat, (if (if (ns.length : Int) < 4 then (ns.length : Int) else 4) > 1 then (if (ns.length : Int) < 4 then (ns.length : Int) else 4) else 1) = (m : Int) ∧ m ≤ 4 :=
    ⟨(if (if (ns.length : Int) < 4 then (ns.length : Int) else 4) > 1 then (if (ns.length : Int) < 4 then (ns.length : Int) else 4) else 1 : Int).toNat, by omega, by omega⟩
  have hit : (mRng1 (mBlt max2F (aCons (mK (.int 1)) (aCons (mBlt min2F (aCons (mK (.int 4)) (aCons (mBlt lenF (aCons (mVar 0) aNil)) aNil))) aNil)))) [.dat (.sq (ns.map .int)), .no, .no, .no, .no, .no] [] = .ok (rgs 0 m) [] := by
    have hl : (ns.map D.int).length = ns.length := List.length_map _
    have hm1 := hm.1
    have b4 : m ≤ 4000000000000000000 := by omega
    clear hm
    unfold mRng1
    simp only [mBlt, opN, vws, vw, vws_nil, vws_cons, aCons, aNil, mK, mVar, RE.ok_bind, List.getElem?_cons_zero, Option.bind_some, Option.map_some, dat'_some, lenF_sq, min2F_i, max2F_i, hl, hm1, Int.natAbs_natCast, b4, if_true, Int.toNat_natCast]
  obtain ⟨ρ', S', el, ⟨w1, w2, w3, rfl, hp⟩⟩ := forL_inv (j := 1) (g := cOut) (fun n ρ S => ∃ w1 w2 w3, ρ = [.dat (.sq (ns.map .int)), w1, w2, w3, .no, .no] ∧ plain S = true) (rgs 0 m) 0 [.dat (.sq (ns.map .int)), .no, .no, .no, .no, .no] [] ⟨_, _, _, rfl, rfl⟩ (fun k d hk ρ T hI => by
    obtain ⟨w1, w2, w3, rfl, hpT⟩ := hI
    have hk6 : k < m := by have := (List.getElem?_eq_some_iff.mp hk).1; rw [rgs_len] at this; exact this
    rw [rgs_get hk6, Int.zero_add] at hk
    cases hk
    obtain ⟨T', u2, u3, et, hpT'⟩ := out_eq (v2 := w2) (v3 := w3) h (show k ≤ 63 by omega) hpT
    exact ⟨_, _, et, ⟨_, _, _, rfl, hpT'⟩⟩)
  have hr := rest_eq (x := .dat (.sq (ns.map .int))) (v1 := w1) (v2 := w2) (v3 := w3) hp
  obtain ⟨S2, hc⟩ := cut_ex 0 (.bl true) S'
  refine ⟨S2, ?_⟩
  show outF 0 (m_law 0 [.dat (.sq (ns.map .int)), .no, .no, .no, .no, .no] []) = _
  rw [law_parts]
  unfold gSeq gFor
  rw [hit]
  show outF 0 ((forL 1 cOut (rgs 0 m) _ []).bind cRest) = _
  rw [el]
  show outF 0 (cRest _ S') = _
  rw [hr]
  exact hc
end Mir

set_option maxHeartbeats 4000000
namespace Mir
open PySem PySem.Spec L2
/-! the facts of the written part, the law -/
theorem vs_tup {K : PySem.W.Frag} {a : Addr} {o : Option Addr} {its : Array Value} {n : Nat} {sl : Array (Option Value)} {vs : List V} {G : Hp} (hl : K.lookup a = some ⟨.type "tuple", o, .seq its n, sl⟩) (hz : its.size ≤ sizeLine) (hv : Vals vs its.toList) : SqT K G a vs := .inr ⟨_, its, n, hl, rfl, rfl, hz, hv⟩
def spEnd (K : PySem.W.Frag) : Sp := fun vs H Q _ => ∃ (a : Addr) (ns : List Int), vs = [.ref a] ∧ ns.length ≤ 63 ∧ SqL K H a (ns.map V.int) ∧ ∀ H', Q (.bl true) H'
theorem end_of [CM : ClsMap] {P : Program} {w : World} {K : PySem.W.Frag} {mg : Str → Option Value} {base : Heap} {k : Nat} {f : Addr} (h : RunG P w K mg base k f (spM K 1 f_law)) : RunG P w K mg base k f (spEnd K) := fun A outer s H us vs Q E hr hG e0 r hs => by
  obtain ⟨a, ns, rfl, hl, hS, q⟩ := hs
  refine h A outer s H us _ Q E hr hG e0 r ⟨H, [], [], [.dat (.sq (ns.map .int))], rfl, ⟨Ex.refl H, Ex.refl H, fun _ _ _ e => e, fun _ _ e => .inl e, List.prefix_refl _, List.nodup_nil, fun _ h => (nomatch h), fun _ h => (nomatch h), rfl, rfl, fun _ _ h => by simp at h, fun _ _ _ h => by simp at h⟩, .cons (.dat (.sq hS (ints_at ns))) .nil, ?_⟩
  obtain ⟨S', e⟩ := lawTrue ns hl
  rw [e]
  intro v G' ps' H' o av
  cases av with | dat av => cases av; exact q H'

theorem init_ParseError {prog : Program} {w : World} {K : PySem.W.Frag} {mg : Str → Option Value} {C fI : Addr} {oc doc pm cdv ct kV : Value} {od an : Option Addr} {osl : Array (Option Value)} (T : ErrCls K mg "ParseError" "number" C fI)
    (ho : K.lookup fI = some ⟨oc, od, .func (PySem.W.fnOf "__init__" "ParseError.__init__" (defArgs s_ParseError_init) (defBody s_ParseError_init) (defScope s_ParseError_init) .none kV doc pm an cdv ct), osl⟩) (hcd : PySem.W.codeIn K cdv "ParseError.__init__" = true) : InitDoes prog w K C fI "number" := by
  intro A R s x t0 v X hlim hx hnx hroom hq
  obtain ⟨bmB, B, newId, initId, FB, SF, nm, q, N, bs, bm, sn, sub, ab, col, dd, k0, k1, k2, k3, k5, hC, hbm⟩ := T.cls
  have hov : PySem.W.excOver K C bmB = true := by
    unfold PySem.W.excOver
    rw [clsIn_of hC]
    show ((C == C) && PySem.W.excTail bmB bm) = true
    rw [hbm, Bool.and_true]
    exact beq_self_eq_true C
  refine Att.call_fn (binds := [("self", .ref x), ("number", v)]) X hlim ho hcd hroom (BindsTo.of_eq (by first | rfl | with_unfolding_all rfl)) (by first | rfl | decide | with_unfolding_all rfl) (fun s₁ IC => ?_) rfl rfl rfl
  obtain ⟨h₁, tk₁, rfl⟩ := IC.toInCall.same
  have k : ∀ b o, s.heap.get? b = some o → h₁.get? b = some o := IC.toInCall.keep
  have hn := IC.toInCall.ns
  have hxL : s.heap.objs.size ≠ x := Nat.ne_of_gt (Heap.lt_size hx)
  have X₁ : K.In h₁ := X.keeps k
  have hx₁ := k _ _ hx
  show wpAny _ _ (execs _ _) _ _ _
  refine wpAny_execs_cons (plainObj_wpAny_Assign_Attribute ?_)
  refine err_ld (v := v) hn (by first | rfl | with_unfolding_all rfl | kernel_rfl) (err_ld (v := .ref x) hn (by first | rfl | with_unfolding_all rfl | kernel_rfl) ?_)
  refine PySem.W.set_plain X₁ (ox := PySem.W.excObj C t0 none .none) (od := none) ⟨hx₁, rfl, rfl, trivial⟩ T.sa ?_
  refine err_store SF X₁ hx₁ hov (NoAttr.taker (K := K) (C := C) (f := "number") T.noF) T.hdC (fun h₃ tk₃ dx k₃ dn dne hx₃ hn₃ => ?_)
  have z : s.heap.objs.size < h₁.objs.size := hn.lt
  exact wpAny_execs_nil (hq h₃ tk₃ dx (fun b o hb e => k₃ b o hb (k b o e)) hx₃ (Nat.le_of_lt (Nat.lt_of_lt_of_le z dn)) dne hn₃)

theorem all_mk {l : PySem.W.OpenLaw} {w : World} {K : PySem.W.Frag} {h : Heap} {mg : Str → Option Value} {fa : Addr} (X : K.In h) (G : h.Ns mainGlobals mg) (hfa : mg "law" = some (.ref fa))
    {C_PressError : Addr}
    {f0 : Addr} {od0 an0 : Option Addr} {sl0 : Array (Option Value)} {oc0 kV0 dc0 pm0 cd0 ct0 : Value}
    {f1 : Addr} {od1 an1 : Option Addr} {sl1 : Array (Option Value)} {oc1 kV1 dc1 pm1 cd1 ct1 : Value}
    {f2 : Addr} {od2 an2 : Option Addr} {sl2 : Array (Option Value)} {oc2 kV2 dc2 pm2 cd2 ct2 : Value}
    {f3 : Addr} {od3 an3 : Option Addr} {sl3 : Array (Option Value)} {oc3 kV3 dc3 pm3 cd3 ct3 : Value}
    {f4 : Addr} {od4 an4 : Option Addr} {sl4 : Array (Option Value)} {oc4 kV4 dc4 pm4 cd4 ct4 : Value}
    {f5 : Addr} {od5 an5 : Option Addr} {sl5 : Array (Option Value)} {oc5 kV5 dc5 pm5 cd5 ct5 : Value}
    {f6 : Addr} {od6 an6 : Option Addr} {sl6 : Array (Option Value)} {oc6 kV6 dc6 pm6 cd6 ct6 : Value}
    {f7 : Addr} {od7 an7 : Option Addr} {sl7 : Array (Option Value)} {oc7 kV7 dc7 pm7 cd7 ct7 : Value}
    {f8 : Addr} {od8 an8 : Option Addr} {sl8 : Array (Option Value)} {oc8 kV8 dc8 pm8 cd8 ct8 : Value}
    {f9 : Addr} {od9 an9 : Option Addr} {sl9 : Array (Option Value)} {oc9 kV9 dc9 pm9 cd9 ct9 : Value}
    {f10 : Addr} {od10 an10 : Option Addr} {sl10 : Array (Option Value)} {oc10 kV10 dc10 pm10 cd10 ct10 : Value}
    {f11 : Addr} {od11 an11 : Option Addr} {sl11 : Array (Option Value)} {oc11 kV11 dc11 pm11 cd11 ct11 : Value}
    {f12 : Addr} {od12 an12 : Option Addr} {sl12 : Array (Option Value)} {oc12 kV12 dc12 pm12 cd12 ct12 : Value}
    {f13 : Addr} {od13 an13 : Option Addr} {sl13 : Array (Option Value)} {oc13 kV13 dc13 pm13 cd13 ct13 : Value}
    {f14 : Addr} {od14 an14 : Option Addr} {sl14 : Array (Option Value)} {oc14 kV14 dc14 pm14 cd14 ct14 : Value}
    {f15 : Addr} {od15 an15 : Option Addr} {sl15 : Array (Option Value)} {oc15 kV15 dc15 pm15 cd15 ct15 : Value}
    {f16 : Addr} {od16 an16 : Option Addr} {sl16 : Array (Option Value)} {oc16 kV16 dc16 pm16 cd16 ct16 : Value}
    {f17 : Addr} {od17 an17 : Option Addr} {sl17 : Array (Option Value)} {oc17 kV17 dc17 pm17 cd17 ct17 : Value}
    {f18 : Addr} {od18 an18 : Option Addr} {sl18 : Array (Option Value)} {oc18 kV18 dc18 pm18 cd18 ct18 : Value}
    {f19 : Addr} {od19 an19 : Option Addr} {sl19 : Array (Option Value)} {oc19 kV19 dc19 pm19 cd19 ct19 : Value}
    {tk1 : Tok}
    {tk2 : Tok}
    {tk3 : Tok}
    {tk4 : Tok}
    {tk5 : Tok}
    {tk6 : Tok}
    {tk7 : Tok}
    {C_InvalidLength : Addr}
    {C_ParseError : Addr}
    {fI_ParseError N_ParseError : Addr} {nm_ParseError q_ParseError : Str} {bs_ParseError sub_ParseError : List Value} {sn_ParseError : List Str} {ab_ParseError : Bool} {col_ParseError : Option Bool} {dd_ParseError : Option Addr} {m0_ParseError m1_ParseError m2_ParseError m3_ParseError m5_ParseError : Option Value}
    {io_ParseError id_ParseError ip_ParseError ic_ParseError it_ParseError ik_ParseError : Value} {iod_ParseError ian_ParseError : Option Addr} {isl_ParseError : Array (Option Value)}
    (ea_PressError : PySem.W.nsIn K mainGlobals "PressError" = some (some (.ref C_PressError)))
    (a0 : PySem.W.nsIn K mainGlobals "is_int" = some (some (.ref f0)))
    (l0 : K.lookup f0 = some ⟨oc0, od0, .func (PySem.W.fnOf "is_int" "is_int" (defArgs s_is_int) (defBody s_is_int) (defScope s_is_int) .none kV0 dc0 pm0 an0 cd0 ct0), sl0⟩)
    (c0 : PySem.W.codeIn K cd0 "is_int" = true) (k0 : PySem.W.keepIn K (.ref f0) = true)
    (a1 : PySem.W.nsIn K mainGlobals "rounded" = some (some (.ref f1)))
    (l1 : K.lookup f1 = some ⟨oc1, od1, .func (PySem.W.fnOf "rounded" "rounded" (defArgs s_rounded) (defBody s_rounded) (defScope s_rounded) .none kV1 dc1 pm1 an1 cd1 ct1), sl1⟩)
    (c1 : PySem.W.codeIn K cd1 "rounded" = true) (k1 : PySem.W.keepIn K (.ref f1) = true)
    (a2 : PySem.W.nsIn K mainGlobals "end_of_digits" = some (some (.ref f2)))
    (l2 : K.lookup f2 = some ⟨oc2, od2, .func (PySem.W.fnOf "end_of_digits" "end_of_digits" (defArgs s_end_of_digits) (defBody s_end_of_digits) (defScope s_end_of_digits) .none kV2 dc2 pm2 an2 cd2 ct2), sl2⟩)
    (c2 : PySem.W.codeIn K cd2 "end_of_digits" = true) (k2 : PySem.W.keepIn K (.ref f2) = true)
    (a3 : PySem.W.nsIn K mainGlobals "check_name" = some (some (.ref f3)))
    (l3 : K.lookup f3 = some ⟨oc3, od3, .func (PySem.W.fnOf "check_name" "check_name" (defArgs s_check_name) (defBody s_check_name) (defScope s_check_name) .none kV3 dc3 pm3 an3 cd3 ct3), sl3⟩)
    (c3 : PySem.W.codeIn K cd3 "check_name" = true) (k3 : PySem.W.keepIn K (.ref f3) = true)
    (a4 : PySem.W.nsIn K mainGlobals "nearest_number" = some (some (.ref f4)))
    (l4 : K.lookup f4 = some ⟨oc4, od4, .func (PySem.W.fnOf "nearest_number" "nearest_number" (defArgs s_nearest_number) (defBody s_nearest_number) (defScope s_nearest_number) .none kV4 dc4 pm4 an4 cd4 ct4), sl4⟩)
    (c4 : PySem.W.codeIn K cd4 "nearest_number" = true) (k4 : PySem.W.keepIn K (.ref f4) = true)
    (a5 : PySem.W.nsIn K mainGlobals "decimal_text" = some (some (.ref f5)))
    (l5 : K.lookup f5 = some ⟨oc5, od5, .func (PySem.W.fnOf "decimal_text" "decimal_text" (defArgs s_decimal_text) (defBody s_decimal_text) (defScope s_decimal_text) .none kV5 dc5 pm5 an5 cd5 ct5), sl5⟩)
    (c5 : PySem.W.codeIn K cd5 "decimal_text" = true) (k5 : PySem.W.keepIn K (.ref f5) = true)
    (a6 : PySem.W.nsIn K mainGlobals "_law_dice" = some (some (.ref f6)))
    (l6 : K.lookup f6 = some ⟨oc6, od6, .func (PySem.W.fnOf "_law_dice" "_law_dice" (defArgs s__law_dice) (defBody s__law_dice) (defScope s__law_dice) .none kV6 dc6 pm6 an6 cd6 ct6), sl6⟩)
    (c6 : PySem.W.codeIn K cd6 "_law_dice" = true) (k6 : PySem.W.keepIn K (.ref f6) = true)
    (a7 : PySem.W.nsIn K mainGlobals "_law_roll" = some (some (.ref f7)))
    (l7 : K.lookup f7 = some ⟨oc7, od7, .func (PySem.W.fnOf "_law_roll" "_law_roll" (defArgs s__law_roll) (defBody s__law_roll) (defScope s__law_roll) .none kV7 dc7 pm7 an7 cd7 ct7), sl7⟩)
    (c7 : PySem.W.codeIn K cd7 "_law_roll" = true) (k7 : PySem.W.keepIn K (.ref f7) = true)
    (a8 : PySem.W.nsIn K mainGlobals "_law_nearest" = some (some (.ref f8)))
    (l8 : K.lookup f8 = some ⟨oc8, od8, .func (PySem.W.fnOf "_law_nearest" "_law_nearest" (defArgs s__law_nearest) (defBody s__law_nearest) (defScope s__law_nearest) .none kV8 dc8 pm8 an8 cd8 ct8), sl8⟩)
    (c8 : PySem.W.codeIn K cd8 "_law_nearest" = true) (k8 : PySem.W.keepIn K (.ref f8) = true)
    (a9 : PySem.W.nsIn K mainGlobals "is_length" = some (some (.ref f9)))
    (l9 : K.lookup f9 = some ⟨oc9, od9, .func (PySem.W.fnOf "is_length" "is_length" (defArgs s_is_length) (defBody s_is_length) (defScope s_is_length) .none kV9 dc9 pm9 an9 cd9 ct9), sl9⟩)
    (c9 : PySem.W.codeIn K cd9 "is_length" = true) (k9 : PySem.W.keepIn K (.ref f9) = true)
    (a10 : PySem.W.nsIn K mainGlobals "size_with_decimals" = some (some (.ref f10)))
    (l10 : K.lookup f10 = some ⟨oc10, od10, .func (PySem.W.fnOf "size_with_decimals" "size_with_decimals" (defArgs s_size_with_decimals) (defBody s_size_with_decimals) (defScope s_size_with_decimals) .none kV10 dc10 pm10 an10 cd10 ct10), sl10⟩)
    (c10 : PySem.W.codeIn K cd10 "size_with_decimals" = true) (k10 : PySem.W.keepIn K (.ref f10) = true)
    (a11 : PySem.W.nsIn K mainGlobals "_law_number_text" = some (some (.ref f11)))
    (l11 : K.lookup f11 = some ⟨oc11, od11, .func (PySem.W.fnOf "_law_number_text" "_law_number_text" (defArgs s__law_number_text) (defBody s__law_number_text) (defScope s__law_number_text) .none kV11 dc11 pm11 an11 cd11 ct11), sl11⟩)
    (c11 : PySem.W.codeIn K cd11 "_law_number_text" = true) (k11 : PySem.W.keepIn K (.ref f11) = true)
    (a12 : PySem.W.nsIn K mainGlobals "_law_drawn_length" = some (some (.ref f12)))
    (l12 : K.lookup f12 = some ⟨oc12, od12, .func (PySem.W.fnOf "_law_drawn_length" "_law_drawn_length" (defArgs s__law_drawn_length) (defBody s__law_drawn_length) (defScope s__law_drawn_length) .none kV12 dc12 pm12 an12 cd12 ct12), sl12⟩)
    (c12 : PySem.W.codeIn K cd12 "_law_drawn_length" = true) (k12 : PySem.W.keepIn K (.ref f12) = true)
    (a13 : PySem.W.nsIn K mainGlobals "check_length" = some (some (.ref f13)))
    (l13 : K.lookup f13 = some ⟨oc13, od13, .func (PySem.W.fnOf "check_length" "check_length" (defArgs s_check_length) (defBody s_check_length) (defScope s_check_length) .none kV13 dc13 pm13 an13 cd13 ct13), sl13⟩)
    (c13 : PySem.W.codeIn K cd13 "check_length" = true) (k13 : PySem.W.keepIn K (.ref f13) = true)
    (a14 : PySem.W.nsIn K mainGlobals "size_of" = some (some (.ref f14)))
    (l14 : K.lookup f14 = some ⟨oc14, od14, .func (PySem.W.fnOf "size_of" "size_of" (defArgs s_size_of) (defBody s_size_of) (defScope s_size_of) .none kV14 dc14 pm14 an14 cd14 ct14), sl14⟩)
    (c14 : PySem.W.codeIn K cd14 "size_of" = true) (k14 : PySem.W.keepIn K (.ref f14) = true)
    (a15 : PySem.W.nsIn K mainGlobals "_law_length_text" = some (some (.ref f15)))
    (l15 : K.lookup f15 = some ⟨oc15, od15, .func (PySem.W.fnOf "_law_length_text" "_law_length_text" (defArgs s__law_length_text) (defBody s__law_length_text) (defScope s__law_length_text) .none kV15 dc15 pm15 an15 cd15 ct15), sl15⟩)
    (c15 : PySem.W.codeIn K cd15 "_law_length_text" = true) (k15 : PySem.W.keepIn K (.ref f15) = true)
    (a16 : PySem.W.nsIn K mainGlobals "length_of" = some (some (.ref f16)))
    (l16 : K.lookup f16 = some ⟨oc16, od16, .func (PySem.W.fnOf "length_of" "length_of" (defArgs s_length_of) (defBody s_length_of) (defScope s_length_of) .none kV16 dc16 pm16 an16 cd16 ct16), sl16⟩)
    (c16 : PySem.W.codeIn K cd16 "length_of" = true) (k16 : PySem.W.keepIn K (.ref f16) = true)
    (a17 : PySem.W.nsIn K mainGlobals "text_of_length" = some (some (.ref f17)))
    (l17 : K.lookup f17 = some ⟨oc17, od17, .func (PySem.W.fnOf "text_of_length" "text_of_length" (defArgs s_text_of_length) (defBody s_text_of_length) (defScope s_text_of_length) .none kV17 dc17 pm17 an17 cd17 ct17), sl17⟩)
    (c17 : PySem.W.codeIn K cd17 "text_of_length" = true) (k17 : PySem.W.keepIn K (.ref f17) = true)
    (a18 : PySem.W.nsIn K mainGlobals "_law_right" = some (some (.ref f18)))
    (l18 : K.lookup f18 = some ⟨oc18, od18, .func (PySem.W.fnOf "_law_right" "_law_right" (defArgs s__law_right) (defBody s__law_right) (defScope s__law_right) .none kV18 dc18 pm18 an18 cd18 ct18), sl18⟩)
    (c18 : PySem.W.codeIn K cd18 "_law_right" = true) (k18 : PySem.W.keepIn K (.ref f18) = true)
    (a19 : PySem.W.nsIn K mainGlobals "law" = some (some (.ref f19)))
    (l19 : K.lookup f19 = some ⟨oc19, od19, .func (PySem.W.fnOf "law" "law" (defArgs s_law) (defBody s_law) (defScope s_law) .none kV19 dc19 pm19 an19 cd19 ct19), sl19⟩)
    (c19 : PySem.W.codeIn K cd19 "law" = true) (k19 : PySem.W.keepIn K (.ref f19) = true)
    (z_abs : PySem.W.nsIn K mainGlobals "abs" = some none)
    (z_bool : PySem.W.nsIn K mainGlobals "bool" = some none)
    (z_divmod : PySem.W.nsIn K mainGlobals "divmod" = some none)
    (z_int : PySem.W.nsIn K mainGlobals "int" = some none)
    (z_isinstance : PySem.W.nsIn K mainGlobals "isinstance" = some none)
    (z_len : PySem.W.nsIn K mainGlobals "len" = some none)
    (z_max : PySem.W.nsIn K mainGlobals "max" = some none)
    (z_min : PySem.W.nsIn K mainGlobals "min" = some none)
    (z_range : PySem.W.nsIn K mainGlobals "range" = some none)
    (z_str : PySem.W.nsIn K mainGlobals "str" = some none)
    (gn_BILLION : PySem.W.nsIn K mainGlobals "BILLION" = some (some (.int 1000000000 tk1)))
    (gn_INTEGER_END : PySem.W.nsIn K mainGlobals "INTEGER_END" = some (some (.int 1000000000000000000000000000000000000000000000000000000000000 tk2)))
    (gn_MAX_LENGTH : PySem.W.nsIn K mainGlobals "MAX_LENGTH" = some (some (.int 1073741823 tk3)))
    (gn_MOST_DECIMALS : PySem.W.nsIn K mainGlobals "MOST_DECIMALS" = some (some (.int 9 tk4)))
    (gn_MOST_POINT_DIGITS : PySem.W.nsIn K mainGlobals "MOST_POINT_DIGITS" = some (some (.int 5 tk5)))
    (gn_MOST_UNIT_DIGITS : PySem.W.nsIn K mainGlobals "MOST_UNIT_DIGITS" = some (some (.int 10 tk6)))
    (gn_POINT : PySem.W.nsIn K mainGlobals "POINT" = some (some (.int 65536 tk7)))
    (ea_InvalidLength : PySem.W.nsIn K mainGlobals "InvalidLength" = some (some (.ref C_InvalidLength)))
    (ek_InvalidLength : PySem.W.keepIn K (.ref C_InvalidLength) = true) (eb_InvalidLength : PySem.W.subIn K (.ref C_InvalidLength) (.type "BaseException") = some true) (et_InvalidLength : PySem.W.typeIn K (.ref C_InvalidLength) = some (.type "type")) (eh_InvalidLength : PySem.W.hasDictIn K C_InvalidLength = true)
    (ei_InvalidLength : PySem.W.excIn K C_InvalidLength [.type "ValueError", .type "Exception", .type "BaseException", .type "object"] "ValueError.__new__" = true)
    (ea_ParseError : PySem.W.nsIn K mainGlobals "ParseError" = some (some (.ref C_ParseError)))
    (ek_ParseError : PySem.W.keepIn K (.ref C_ParseError) = true) (eb_ParseError : PySem.W.subIn K (.ref C_ParseError) (.type "BaseException") = some true) (et_ParseError : PySem.W.typeIn K (.ref C_ParseError) = some (.type "type")) (eh_ParseError : PySem.W.hasDictIn K C_ParseError = true)
    (ex_ParseError : K.lookup C_ParseError = some (excClassObj nm_ParseError q_ParseError C_ParseError N_ParseError bs_ParseError [.ref C_PressError, .type "ValueError", .type "Exception", .type "BaseException", .type "object"] true sn_ParseError sub_ParseError ab_ParseError col_ParseError dd_ParseError m0_ParseError m1_ParseError m2_ParseError m3_ParseError m5_ParseError "ValueError.__new__"))
    (es_ParseError : PySem.W.findIn K (.ref C_ParseError) "__setattr__" = some (some (.builtin "object.__setattr__")))
    (eg_ParseError : PySem.W.findIn K (.ref C_ParseError) "__getattribute__" = some (some (.builtin "BaseException.__getattribute__")))
    (eq_ParseError : PySem.W.findIn K (.ref C_ParseError) "__getattr__" = some none)
    (en_ParseError : PySem.W.findIn K (.ref C_ParseError) "number" = some none)
    (eI_ParseError : PySem.W.findIn K (.ref C_ParseError) "__init__" = some (some (.ref fI_ParseError)))
    (eT_ParseError : PySem.W.typeIn K (.ref fI_ParseError) = some (.type "function"))
    (el_ParseError : K.lookup fI_ParseError = some ⟨io_ParseError, iod_ParseError, .func (PySem.W.fnOf "__init__" "ParseError.__init__" (defArgs s_ParseError_init) (defBody s_ParseError_init) (defScope s_ParseError_init) .none ik_ParseError id_ParseError ip_ParseError ian_ParseError ic_ParseError it_ParseError), isl_ParseError⟩)
    (ec_ParseError : PySem.W.codeIn K ic_ParseError "ParseError.__init__" = true) :
    ∀ base : Heap, K.In base → base.Ns mainGlobals mg → RunG l.prog w K mg base 6 fa (spEnd K) := by
  have e := hfa.symm.trans (PySem.W.mg_of X G a19)
  cases e
  letI CM : ClsMap := ⟨fun i => match i with | 1 => C_InvalidLength | 2 => C_ParseError | 1002 => fI_ParseError | _ => 0⟩
  have e_ParseError : ErrCls K mg "ParseError" "number" (CM.A 2) (CM.A 1002) := { gC := PySem.W.mg_of X G ea_ParseError, cls := ⟨_, _, _, _, PySem.F.excBase_ValueError, PySem.F.store_ValueError, _, _, _, _, _, _, _, _, _, _, _, _, _, _, _, ex_ParseError, by first | rfl | decide +kernel⟩, sa := es_ParseError, ga := eg_ParseError, gg := eq_ParseError, noF := en_ParseError, iC := eI_ParseError, tI := eT_ParseError, kC := ek_ParseError, exC := eb_ParseError, tyC := et_ParseError, hdC := eh_ParseError }
  have T : Tx l.prog w K mg := {
    b_abs := PySem.W.mg_none_of X G z_abs,
    b_bool := PySem.W.mg_none_of X G z_bool,
    b_divmod := PySem.W.mg_none_of X G z_divmod,
    b_int := PySem.W.mg_none_of X G z_int,
    b_isinstance := PySem.W.mg_none_of X G z_isinstance,
    b_len := PySem.W.mg_none_of X G z_len,
    b_max := PySem.W.mg_none_of X G z_max,
    b_min := PySem.W.mg_none_of X G z_min,
    b_range := PySem.W.mg_none_of X G z_range,
    b_str := PySem.W.mg_none_of X G z_str,
    g_BILLION := ⟨_, (.int 1000000000), PySem.W.mg_of X G gn_BILLION, ⟨tk1, rfl⟩, fun G => (.int _)⟩,
    g_INTEGER_END := ⟨_, (.int 1000000000000000000000000000000000000000000000000000000000000), PySem.W.mg_of X G gn_INTEGER_END, ⟨tk2, rfl⟩, fun G => (.int _)⟩,
    g_MAX_LENGTH := ⟨_, (.int 1073741823), PySem.W.mg_of X G gn_MAX_LENGTH, ⟨tk3, rfl⟩, fun G => (.int _)⟩,
    g_MOST_DECIMALS := ⟨_, (.int 9), PySem.W.mg_of X G gn_MOST_DECIMALS, ⟨tk4, rfl⟩, fun G => (.int _)⟩,
    g_MOST_POINT_DIGITS := ⟨_, (.int 5), PySem.W.mg_of X G gn_MOST_POINT_DIGITS, ⟨tk5, rfl⟩, fun G => (.int _)⟩,
    g_MOST_UNIT_DIGITS := ⟨_, (.int 10), PySem.W.mg_of X G gn_MOST_UNIT_DIGITS, ⟨tk6, rfl⟩, fun G => (.int _)⟩,
    g_POINT := ⟨_, (.int 65536), PySem.W.mg_of X G gn_POINT, ⟨tk7, rfl⟩, fun G => (.int _)⟩,
    e_InvalidLength := ⟨PySem.W.mg_of X G ea_InvalidLength, ⟨_, _, _, _, PySem.F.excBase_ValueError, ei_InvalidLength⟩, ek_InvalidLength, eb_InvalidLength, et_InvalidLength⟩,
    x_ParseError := ⟨e_ParseError, init_ParseError e_ParseError el_ParseError ec_ParseError⟩ }
  intro base _ _
  have m_is_int := PySem.W.mg_of X G a0
  have F_is_int := fun_mk (st := s_is_int) l0 c0 k0
  have C_is_int := cal_is_int (P := l.prog) (w := w) (base := base) T  F_is_int m_is_int (F_is_int.binds (ps := ["value"]) fun _ _ _ _ _ _ us hl => match us, hl with | [_], _ => rfl)
  have m_rounded := PySem.W.mg_of X G a1
  have F_rounded := fun_mk (st := s_rounded) l1 c1 k1
  have C_rounded := cal_rounded (P := l.prog) (w := w) (base := base) T  F_rounded m_rounded (F_rounded.binds (ps := ["over", "under"]) fun _ _ _ _ _ _ us hl => match us, hl with | [_, _], _ => rfl)
  have m_end_of_digits := PySem.W.mg_of X G a2
  have F_end_of_digits := fun_mk (st := s_end_of_digits) l2 c2 k2
  have C_end_of_digits := cal_end_of_digits (P := l.prog) (w := w) (base := base) T  F_end_of_digits m_end_of_digits (F_end_of_digits.binds (ps := ["text", "begin", "most"]) fun _ _ _ _ _ _ us hl => match us, hl with | [_, _, _], _ => rfl)
  have m_check_name := PySem.W.mg_of X G a3
  have F_check_name := fun_mk (st := s_check_name) l3 c3 k3
  have C_check_name := cal_check_name (P := l.prog) (w := w) (base := base) T  F_check_name m_check_name (F_check_name.binds (ps := ["text", "begin", "name"]) fun _ _ _ _ _ _ us hl => match us, hl with | [_, _, _], _ => rfl)
  have m_nearest_number := PySem.W.mg_of X G a4
  have F_nearest_number := fun_mk (st := s_nearest_number) l4 c4 k4
  have C_nearest_number := cal_nearest_number (P := l.prog) (w := w) (base := base) T  F_nearest_number m_nearest_number (F_nearest_number.binds (ps := ["size", "power"]) fun _ _ _ _ _ _ us hl => match us, hl with | [_, _], _ => rfl)
  have m_decimal_text := PySem.W.mg_of X G a5
  have F_decimal_text := fun_mk (st := s_decimal_text) l5 c5 k5
  have C_decimal_text := cal_decimal_text (P := l.prog) (w := w) (base := base) T  F_decimal_text m_decimal_text (F_decimal_text.binds (ps := ["number", "decimals", "power"]) fun _ _ _ _ _ _ us hl => match us, hl with | [_, _, _], _ => rfl)
  have m__law_dice := PySem.W.mg_of X G a6
  have F__law_dice := fun_mk (st := s__law_dice) l6 c6 k6
  have C__law_dice := cal__law_dice (P := l.prog) (w := w) (base := base) T  F__law_dice m__law_dice (F__law_dice.binds (ps := ["_law_script", "_law_spot"]) fun _ _ _ _ _ _ us hl => match us, hl with | [_, _], _ => rfl)
  have m__law_roll := PySem.W.mg_of X G a7
  have F__law_roll := fun_mk (st := s__law_roll) l7 c7 k7
  have C__law_roll := cal__law_roll (P := l.prog) (w := w) (base := base) T  F__law_roll m__law_roll (F__law_roll.binds (ps := ["_law_dice_here", "_law_total"]) fun _ _ _ _ _ _ us hl => match us, hl with | [_, _], _ => rfl)
  have m__law_nearest := PySem.W.mg_of X G a8
  have F__law_nearest := fun_mk (st := s__law_nearest) l8 c8 k8
  have C__law_nearest := cal__law_nearest (P := l.prog) (w := w) (base := base) T  F__law_nearest m__law_nearest (F__law_nearest.binds (ps := ["_law_number", "_law_by"]) fun _ _ _ _ _ _ us hl => match us, hl with | [_, _], _ => rfl)
  have m_is_length := PySem.W.mg_of X G a9
  have F_is_length := fun_mk (st := s_is_length) l9 c9 k9
  have C_is_length := cal_is_length (P := l.prog) (w := w) (base := base) T C_is_int F_is_length m_is_length (F_is_length.binds (ps := ["value"]) fun _ _ _ _ _ _ us hl => match us, hl with | [_], _ => rfl)
  have m_size_with_decimals := PySem.W.mg_of X G a10
  have F_size_with_decimals := fun_mk (st := s_size_with_decimals) l10 c10 k10
  have C_size_with_decimals := cal_size_with_decimals (P := l.prog) (w := w) (base := base) T C_rounded C_end_of_digits C_check_name F_size_with_decimals m_size_with_decimals (F_size_with_decimals.binds (ps := ["text", "begin", "dot"]) fun _ _ _ _ _ _ us hl => match us, hl with | [_, _, _], _ => rfl)
  have m__law_number_text := PySem.W.mg_of X G a11
  have F__law_number_text := fun_mk (st := s__law_number_text) l11 c11 k11
  have C__law_number_text := cal__law_number_text (P := l.prog) (w := w) (base := base) T C__law_nearest F__law_number_text m__law_number_text (F__law_number_text.binds (ps := ["_law_length"]) fun _ _ _ _ _ _ us hl => match us, hl with | [_], _ => rfl)
  have m__law_drawn_length := PySem.W.mg_of X G a12
  have F__law_drawn_length := fun_mk (st := s__law_drawn_length) l12 c12 k12
  have C__law_drawn_length := cal__law_drawn_length (P := l.prog) (w := w) (base := base) T C__law_roll F__law_drawn_length m__law_drawn_length (F__law_drawn_length.binds (ps := ["_law_dice_here"]) fun _ _ _ _ _ _ us hl => match us, hl with | [_], _ => rfl)
  have m_check_length := PySem.W.mg_of X G a13
  have F_check_length := fun_mk (st := s_check_length) l13 c13 k13
  have C_check_length := cal_check_length (P := l.prog) (w := w) (base := base) T C_is_length F_check_length m_check_length (F_check_length.binds (ps := ["value"]) fun _ _ _ _ _ _ us hl => match us, hl with | [_], _ => rfl)
  have m_size_of := PySem.W.mg_of X G a14
  have F_size_of := fun_mk (st := s_size_of) l14 c14 k14
  have C_size_of := cal_size_of (P := l.prog) (w := w) (base := base) T C_size_with_decimals C_end_of_digits C_check_name F_size_of m_size_of (F_size_of.binds (ps := ["text", "begin"]) fun _ _ _ _ _ _ us hl => match us, hl with | [_, _], _ => rfl)
  have m__law_length_text := PySem.W.mg_of X G a15
  have F__law_length_text := fun_mk (st := s__law_length_text) l15 c15 k15
  have C__law_length_text := cal__law_length_text (P := l.prog) (w := w) (base := base) T C__law_number_text F__law_length_text m__law_length_text (F__law_length_text.binds (ps := ["_law_length"]) fun _ _ _ _ _ _ us hl => match us, hl with | [_], _ => rfl)
  have m_length_of := PySem.W.mg_of X G a16
  have F_length_of := fun_mk (st := s_length_of) l16 c16 k16
  have C_length_of := cal_length_of (P := l.prog) (w := w) (base := base) T C_check_length C_size_of F_length_of m_length_of (F_length_of.binds (ps := ["text"]) fun _ _ _ _ _ _ us hl => match us, hl with | [_], _ => rfl)
  have m_text_of_length := PySem.W.mg_of X G a17
  have F_text_of_length := fun_mk (st := s_text_of_length) l17 c17 k17
  have C_text_of_length := cal_text_of_length (P := l.prog) (w := w) (base := base) T C_rounded C_check_length C_nearest_number C_decimal_text F_text_of_length m_text_of_length (F_text_of_length.binds (ps := ["length"]) fun _ _ _ _ _ _ us hl => match us, hl with | [_], _ => rfl)
  have m__law_right := PySem.W.mg_of X G a18
  have F__law_right := fun_mk (st := s__law_right) l18 c18 k18
  have C__law_right := cal__law_right (P := l.prog) (w := w) (base := base) T C_length_of C_text_of_length C__law_length_text F__law_right m__law_right (F__law_right.binds (ps := ["_law_length"]) fun _ _ _ _ _ _ us hl => match us, hl with | [_], _ => rfl)
  have m_law := PySem.W.mg_of X G a19
  have F_law := fun_mk (st := s_law) l19 c19 k19
  have C_law := cal_law (P := l.prog) (w := w) (base := base) T C_text_of_length C__law_dice C__law_drawn_length C__law_right F_law m_law (F_law.binds (ps := ["_law_script"]) fun _ _ _ _ _ _ us hl => match us, hl with | [_], _ => rfl)
  obtain ⟨f, R, hf, _⟩ := C_law.toG
  have e := (PySem.W.mg_of X G a19).symm.trans hf
  cases e
  exact end_of R
theorem topE {P : Program} {w : World} {K : PySem.W.Frag} {mg mb : Str → Option Value} {k : Nat} {fa a : Addr} {s1 : Shared} {vs : List Value} {ns : List Int} : True := trivial
theorem walk {l : PySem.W.OpenLaw} {q : Program} {loose : List Str} {XP : (Str → Option Value) → Heap → Prop} {YP : World → Heap → Prop} {d : DefRec} {K : Params → PySem.W.Frag} (hn : l.most = some 63) (hdf : d.params.defaults = [])
    (hY : ∀ (w : World) (h : Heap), YP w h → (K w.params).In h)
    (F : ∀ (w : World) (mg : Str → Option Value) (fa : Addr) (h : Heap), (K w.params).In h → h.Ns mainGlobals mg → mg d.name = some (.ref fa) →
      ∀ base : Heap, (K w.params).In base → base.Ns mainGlobals mg → RunG l.prog w (K w.params) mg base 6 fa (spEnd (K w.params))) :
    PySem.W.WalkO q loose XP YP l.row.toRowW d [] (fun f vs => PySem.call f vs) :=
  walk_ofG (n := 63) (k := 6) (sp := fun w => spEnd (K w.params)) hn (by decide) hdf ⟨rfl, by decide, by decide⟩ hY F fun w H a ns hl hS => ⟨a, ns, rfl, hl, hS, fun _ => rfl⟩
end Mir

open PySem PySem.W PyProof.Rows in
set_option maxRecDepth 100000 in
set_option maxHeartbeats 0 in
theorem PySem.Challenge.cw_pagewright_k01_whole_texts_of_lengths_holds : PySem.Challenge.rw_pagewright_k01_whole_texts_of_lengths.Holds := by
  w_on; o_law; k_head; (case hw => w_witness2)
  k_fill
  refine Mir.walk (l := PySem.Challenge.rw_pagewright_k01_whole_texts_of_lengths) rfl rfl (fun w h Y => PySem.W.kIn_of Y) ?F
  case F =>
    intro w mg fa h KX G hmg
    refine' Mir.all_mk (l := PySem.Challenge.rw_pagewright_k01_whole_texts_of_lengths) KX G hmg ?ea_PressError ?a0 ?l0 ?c0 ?k0 ?a1 ?l1 ?c1 ?k1 ?a2 ?l2 ?c2 ?k2 ?a3 ?l3 ?c3 ?k3 ?a4 ?l4 ?c4 ?k4 ?a5 ?l5 ?c5 ?k5 ?a6 ?l6 ?c6 ?k6 ?a7 ?l7 ?c7 ?k7 ?a8 ?l8 ?c8 ?k8 ?a9 ?l9 ?c9 ?k9 ?a10 ?l10 ?c10 ?k10 ?a11 ?l11 ?c11 ?k11 ?a12 ?l12 ?c12 ?k12 ?a13 ?l13 ?c13 ?k13 ?a14 ?l14 ?c14 ?k14 ?a15 ?l15 ?c15 ?k15 ?a16 ?l16 ?c16 ?k16 ?a17 ?l17 ?c17 ?k17 ?a18 ?l18 ?c18 ?k18 ?a19 ?l19 ?c19 ?k19 ?z_abs ?z_bool ?z_divmod ?z_int ?z_isinstance ?z_len ?z_max ?z_min ?z_range ?z_str ?gn_BILLION ?gn_INTEGER_END ?gn_MAX_LENGTH ?gn_MOST_DECIMALS ?gn_MOST_POINT_DIGITS ?gn_MOST_UNIT_DIGITS ?gn_POINT ?ea_InvalidLength ?ek_InvalidLength ?eb_InvalidLength ?et_InvalidLength ?eh_InvalidLength ?ei_InvalidLength ?ea_ParseError ?ek_ParseError ?eb_ParseError ?et_ParseError ?eh_ParseError ?ex_ParseError ?es_ParseError ?eg_ParseError ?eq_ParseError ?en_ParseError ?eI_ParseError ?eT_ParseError ?el_ParseError ?ec_ParseError
    (case ea_PressError => k_is)
    (case a0 => k_is)
    (case l0 => k_is)
    (case c0 => k_is)
    (case k0 => k_is)
    (case a1 => k_is)
    (case l1 => k_is)
    (case c1 => k_is)
    (case k1 => k_is)
    (case a2 => k_is)
    (case l2 => k_is)
    (case c2 => k_is)
    (case k2 => k_is)
    (case a3 => k_is)
    (case l3 => k_is)
    (case c3 => k_is)
    (case k3 => k_is)
    (case a4 => k_is)
    (case l4 => k_is)
    (case c4 => k_is)
    (case k4 => k_is)
    (case a5 => k_is)
    (case l5 => k_is)
    (case c5 => k_is)
    (case k5 => k_is)
    (case a6 => k_is)
    (case l6 => k_is)
    (case c6 => k_is)
    (case k6 => k_is)
    (case a7 => k_is)
    (case l7 => k_is)
    (case c7 => k_is)
    (case k7 => k_is)
    (case a8 => k_is)
    (case l8 => k_is)
    (case c8 => k_is)
    (case k8 => k_is)
    (case a9 => k_is)
    (case l9 => k_is)
    (case c9 => k_is)
    (case k9 => k_is)
    (case a10 => k_is)
    (case l10 => k_is)
    (case c10 => k_is)
    (case k10 => k_is)
    (case a11 => k_is)
    (case l11 => k_is)
    (case c11 => k_is)
    (case k11 => k_is)
    (case a12 => k_is)
    (case l12 => k_is)
    (case c12 => k_is)
    (case k12 => k_is)
    (case a13 => k_is)
    (case l13 => k_is)
    (case c13 => k_is)
    (case k13 => k_is)
    (case a14 => k_is)
    (case l14 => k_is)
    (case c14 => k_is)
    (case k14 => k_is)
    (case a15 => k_is)
    (case l15 => k_is)
    (case c15 => k_is)
    (case k15 => k_is)
    (case a16 => k_is)
    (case l16 => k_is)
    (case c16 => k_is)
    (case k16 => k_is)
    (case a17 => k_is)
    (case l17 => k_is)
    (case c17 => k_is)
    (case k17 => k_is)
    (case a18 => k_is)
    (case l18 => k_is)
    (case c18 => k_is)
    (case k18 => k_is)
    (case a19 => k_is)
    (case l19 => k_is)
    (case c19 => k_is)
    (case k19 => k_is)
    (case z_abs => k_is)
    (case z_bool => k_is)
    (case z_divmod => k_is)
    (case z_int => k_is)
    (case z_isinstance => k_is)
    (case z_len => k_is)
    (case z_max => k_is)
    (case z_min => k_is)
    (case z_range => k_is)
    (case z_str => k_is)
    (case gn_BILLION => k_is)
    (case gn_INTEGER_END => k_is)
    (case gn_MAX_LENGTH => k_is)
    (case gn_MOST_DECIMALS => k_is)
    (case gn_MOST_POINT_DIGITS => k_is)
    (case gn_MOST_UNIT_DIGITS => k_is)
    (case gn_POINT => k_is)
    (case ea_InvalidLength => k_is)
    (case ek_InvalidLength => k_is)
    (case eb_InvalidLength => k_is)
    (case et_InvalidLength => k_is)
    (case eh_InvalidLength => k_is)
    (case ei_InvalidLength => k_exc)
    (case ea_ParseError => k_is)
    (case ek_ParseError => k_is)
    (case eb_ParseError => k_is)
    (case et_ParseError => k_is)
    (case eh_ParseError => k_is)
    (case ex_ParseError => k_is)
    (case es_ParseError => k_is)
    (case eg_ParseError => k_is)
    (case eq_ParseError => k_is)
    (case en_ParseError => k_is)
    (case eI_ParseError => k_is)
    (case eT_ParseError => k_is)
    (case el_ParseError => k_is)
    (case ec_ParseError => k_is)

