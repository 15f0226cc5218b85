import PyProof.Rows.All
import Wide.All
import OpenK.AllK
import Wide.FinOn
import HandS.ForMost
import HandS.ForExc
import HandS.Wide
import HandS.Flow
import PyProof.ReprRoads
import KE.KExcInit
import HandS.ExcField
import HandS.TupAny
import HandS.TupMul
import HandS.IsInst
import HandS.Style
import HandS.RaiseMore
import HandS.WideBits
import PyProof.StrOps2
import HandS.FStr
import HandS.StrMore
import HandS.TupSets
import PyProof.StrCalls
import PyProof.Rows.StrCut
import KE.DataMinMax
import HandS.Property
import HandS.MakeKwOnly
import PyProof.InstEq
import HandS.SlotsOwn
import KE.KOpsOwn
import HandS.NoneIn
import HandS.Deep
import HandS.Defaults
import PySem.Challenge.RW_pagewright_k03_whole_sums_of_glue
import HandS.ExcIs
import KE.RegKIsAll
set_option Elab.async false
set_option linter.all false
set_option maxRecDepth 100000
/-! Mirrors: a def's reading as a function of data and cells. The data, the state. -/
namespace Mir
open PySem PySem.Spec L2

/-- the addresses of the text's classes -/
class ClsMap where
  A : Nat → Addr
variable [CM : ClsMap]

/-! ### heaps that grow -/
def Ex (H H' : Hp) : Prop := ∀ a o, H a = some o → H' a = some o
theorem Ex.refl (H : Hp) : Ex H H := fun _ _ h => h
theorem Ex.trans {H H1 H2 : Hp} (a : Ex H H1) (b : Ex H1 H2) : Ex H H2 := fun x o h => b x o (a x o h)
theorem Ex.new {H : Hp} {p : Addr} {o : HO} (h : H p = none) : Ex H (upd H p o) := fun a u e => by
  rw [upd_ne (ne_of_none e h)]
  exact e
theorem Ex.rd {H H' : Hp} {a : Addr} {u : HO} (e : Ex H H') (h : Rd H a u) : Rd H' a u := by
  rcases h with h | ⟨o, h⟩
  · exact Or.inl (e a _ h)
  · exact Or.inr ⟨o, e a _ h⟩
theorem Ex.sl {K : PySem.W.Frag} {H H' : Hp} {a : Addr} {xs : List V} (e : Ex H H') (h : SqL K H a xs) : SqL K H' a xs := by
  rcases h with h | h
  · exact Or.inl (e.rd h)
  · exact Or.inr h
theorem Ex.st {K : PySem.W.Frag} {H H' : Hp} {a : Addr} {xs : List V} (e : Ex H H') (h : SqT K H a xs) : SqT K H' a xs := by
  rcases h with h | h
  · exact Or.inl (e.rd h)
  · exact Or.inr h
theorem Ex.back {H H' : Hp} {p : Addr} (e : Ex H H') (h : H' p = none) : H p = none := by
  cases h1 : H p with
  | none => rfl
  | some o =>
    rw [e p o h1] at h
    cases h

/-! ### data -/
inductive D where
  | non | bl (b : Bool) | int (i : Int) | str (s : Str)
  | lst (ds : List D) | tup (ds : List D) | dct (kvs : List (Key × D))
  | ins (C : Nat) (fs : List (Str × D))
  | sq (ds : List D) | ty (n : String) | obj (k : Nat)

mutual
inductive AtD (K : PySem.W.Frag) (G : Hp) : V → D → Prop
  | non : AtD K G .non .non
  | bl (b : Bool) : AtD K G (.bl b) (.bl b)
  | int (i : Int) : AtD K G (.int i) (.int i)
  | str (x : Str) : AtD K G (.str x) (.str x)
  | lst {a : Addr} {xs : List V} {ds : List D} : G a = some (.lst xs) → AtDs K G xs ds → AtD K G (.ref a) (.lst ds)
  | sq {a : Addr} {xs : List V} {ds : List D} : SqL K G a xs → AtDs K G xs ds → AtD K G (.ref a) (.sq ds)
  | ty (n : String) : AtD K G (.ty n) (.ty n)
  | obj (k : Nat) : AtD K G (.ref (CM.A k)) (.obj k)
  | tup {a : Addr} {xs : List V} {ds : List D} : SqT K G a xs → AtDs K G xs ds → AtD K G (.ref a) (.tup ds)
  | dct {a : Addr} {kvs : List (Key × V)} {ds : List (Key × D)} : G a = some (.dK kvs) → AtKs K G kvs ds → AtD K G (.ref a) (.dct ds)
  | ins {a dx : Addr} {C : Nat} {fs : List (Str × V)} {ds : List (Str × D)} : G a = some (.ins (CM.A C) dx fs) → AtFs K G fs ds → AtD K G (.ref a) (.ins C ds)
inductive AtDs (K : PySem.W.Frag) (G : Hp) : List V → List D → Prop
  | nil : AtDs K G [] []
  | cons {v : V} {vs : List V} {d : D} {ds : List D} : AtD K G v d → AtDs K G vs ds → AtDs K G (v :: vs) (d :: ds)
inductive AtKs (K : PySem.W.Frag) (G : Hp) : List (Key × V) → List (Key × D) → Prop
  | nil : AtKs K G [] []
  | cons {k : Key} {v : V} {vs : List (Key × V)} {d : D} {ds : List (Key × D)} : AtD K G v d → AtKs K G vs ds → AtKs K G ((k, v) :: vs) ((k, d) :: ds)
inductive AtFs (K : PySem.W.Frag) (G : Hp) : List (Str × V) → List (Str × D) → Prop
  | nil : AtFs K G [] []
  | cons {k : Str} {v : V} {vs : List (Str × V)} {d : D} {ds : List (Str × D)} : AtD K G v d → AtFs K G vs ds → AtFs K G ((k, v) :: vs) ((k, d) :: ds)
end

section
variable {K : PySem.W.Frag} {G G' : Hp}
mutual
theorem AtD.mono (e : Ex G G') : ∀ {v : V} {d : D}, AtD K G v d → AtD K G' v d
  | _, _, .non => .non
  | _, _, .bl b => .bl b
  | _, _, .int b => .int b
  | _, _, .str b => .str b
  | _, _, .lst h hs => .lst (e _ _ h) (AtDs.mono e hs)
  | _, _, .sq h hs => .sq (e.sl h) (AtDs.mono e hs)
  | _, _, .ty n => .ty n
  | _, _, .obj n => .obj n
  | _, _, .tup h hs => .tup (e.st h) (AtDs.mono e hs)
  | _, _, .dct h hs => .dct (e _ _ h) (AtKs.mono e hs)
  | _, _, .ins h hs => .ins (e _ _ h) (AtFs.mono e hs)
theorem AtDs.mono (e : Ex G G') : ∀ {v : List V} {d : List D}, AtDs K G v d → AtDs K G' v d
  | _, _, .nil => .nil
  | _, _, .cons h hs => .cons (AtD.mono e h) (AtDs.mono e hs)
theorem AtKs.mono (e : Ex G G') : ∀ {v : List (Key × V)} {d : List (Key × D)}, AtKs K G v d → AtKs K G' v d
  | _, _, .nil => .nil
  | _, _, .cons h hs => .cons (AtD.mono e h) (AtKs.mono e hs)
theorem AtFs.mono (e : Ex G G') : ∀ {v : List (Str × V)} {d : List (Str × D)}, AtFs K G v d → AtFs K G' v d
  | _, _, .nil => .nil
  | _, _, .cons h hs => .cons (AtD.mono e h) (AtFs.mono e hs)
end
theorem AtDs.len : ∀ {v : List V} {d : List D}, AtDs K G v d → v.length = d.length
  | _, _, .nil => rfl
  | _, _, .cons _ hs => by rw [List.length_cons, List.length_cons, AtDs.len hs]
theorem AtDs.get : ∀ {v : List V} {d : List D} {i : Nat} {x : D}, AtDs K G v d → d[i]? = some x → ∃ u, v[i]? = some u ∧ AtD K G u x
  | _, _, i, _, .nil, e => by simp at e
  | _, _, 0, _, .cons h _, e => by simp at e; subst e; exact ⟨_, rfl, h⟩
  | _, _, i + 1, x, .cons _ hs, e => by
    obtain ⟨u, h1, h2⟩ := AtDs.get (i := i) (x := x) hs (by simpa using e)
    exact ⟨u, by simpa using h1, h2⟩
theorem AtDs.getV : ∀ {v : List V} {d : List D} {i : Nat} {u : V}, AtDs K G v d → v[i]? = some u → ∃ x, d[i]? = some x ∧ AtD K G u x
  | _, _, i, _, .nil, e => by simp at e
  | _, _, 0, _, .cons h _, e => by simp at e; subst e; exact ⟨_, rfl, h⟩
  | _, _, i + 1, x, .cons _ hs, e => by
    obtain ⟨u, h1, h2⟩ := AtDs.getV (i := i) (u := x) hs (by simpa using e)
    exact ⟨u, by simpa using h1, h2⟩
theorem AtDs.append : ∀ {v w : List V} {d e : List D}, AtDs K G v d → AtDs K G w e → AtDs K G (v ++ w) (d ++ e)
  | _, _, _, _, .nil, h => h
  | _, _, _, _, .cons a b, h => .cons a (AtDs.append b h)
theorem AtDs.set : ∀ {v : List V} {d : List D} {u : V} {x : D} (i : Nat), AtDs K G v d → AtD K G u x → AtDs K G (v.set i u) (d.set i x)
  | _, _, _, _, _, .nil, _ => .nil
  | _, _, _, _, 0, .cons _ b, h => .cons h b
  | _, _, _, _, i + 1, .cons a b, h => .cons a (AtDs.set i b h)
theorem AtDs.one {v : V} {d : D} (h : AtD K G v d) : AtDs K G [v] [d] := .cons h .nil
theorem AtDs.drop : ∀ {v : List V} {d : List D} (n : Nat), AtDs K G v d → AtDs K G (v.drop n) (d.drop n)
  | _, _, 0, h => h
  | _, _, _ + 1, .nil => .nil
  | _, _, n + 1, .cons _ b => AtDs.drop n b
theorem AtDs.take : ∀ {v : List V} {d : List D} (n : Nat), AtDs K G v d → AtDs K G (v.take n) (d.take n)
  | _, _, 0, _ => .nil
  | _, _, _ + 1, .nil => .nil
  | _, _, n + 1, .cons a b => .cons a (AtDs.take n b)
theorem AtDs.rev : ∀ {v : List V} {d : List D}, AtDs K G v d → AtDs K G v.reverse d.reverse
  | _, _, .nil => .nil
  | _, _, .cons a b => by rw [List.reverse_cons, List.reverse_cons]; exact (AtDs.rev b).append (.one a)
theorem AtDs.erase : ∀ {v : List V} {d : List D} (i : Nat), AtDs K G v d → AtDs K G (v.eraseIdx i) (d.eraseIdx i)
  | _, _, _, .nil => .nil
  | _, _, 0, .cons _ b => b
  | _, _, i + 1, .cons a b => .cons a (AtDs.erase i b)
theorem AtFs.look : ∀ {fs : List (Str × V)} {ds : List (Str × D)} {f : Str} {x : D}, AtFs K G fs ds → ds.lookup f = some x → ∃ u, fs.lookup f = some u ∧ AtD K G u x
  | _, _, _, _, .nil, e => by simp at e
  | (k, v) :: _, _, f, x, .cons h hs, e => by
    simp only [List.lookup] at e ⊢
    cases hb : f == k with
    | true => rw [hb] at e; cases e; exact ⟨_, rfl, h⟩
    | false => rw [hb] at e; exact AtFs.look hs e
theorem AtFs.none_of : ∀ {fs : List (Str × V)} {ds : List (Str × D)} {f : Str}, AtFs K G fs ds → ds.lookup f = none → fs.lookup f = none
  | _, _, _, .nil, e => rfl
  | (k, v) :: _, _, f, .cons h hs, e => by
    simp only [List.lookup] at e ⊢
    cases hb : f == k with
    | true => rw [hb] at e; cases e
    | false => rw [hb] at e; exact AtFs.none_of hs e
theorem AtKs.len : ∀ {v : List (Key × V)} {d : List (Key × D)}, AtKs K G v d → v.length = d.length
  | _, _, .nil => rfl
  | _, _, .cons _ hs => by rw [List.length_cons, List.length_cons, AtKs.len hs]
end

/-! ### the state -/
/-- a slot, a value: nothing known, data, an owned cell by its number, a caught error -/
inductive Sl where
  | no | dat (d : D) | own (k : Nat) | err (f : Str) (d : D)
inductive Ce where
  | gone | lst (ds : List D) | dct (kvs : List (Key × D)) | ins (C : Nat) (fs : List (Str × Sl))
/-- the frame: the cells that were there, the heap and the public heap at the entry; a caught error and its dict -/
structure Fx where
  P0 : List Addr
  H0 : Hp
  G0 : Hp
  ea : Addr := 0
  ed : Addr := 0
section
variable (K : PySem.W.Frag) (G : Hp) (ps : List Addr)
inductive AtA : V → Sl → Prop
  | dat {v : V} {d : D} : AtD K G v d → AtA v (.dat d)
  | own {p : Addr} {k : Nat} : ps[k]? = some p → AtA (.ref p) (.own k)
inductive AtAs : List V → List Sl → Prop
  | nil : AtAs [] []
  | cons {v : V} {vs : List V} {a : Sl} {as : List Sl} : AtA K G ps v a → AtAs vs as → AtAs (v :: vs) (a :: as)
inductive AtSs : List (Str × V) → List (Str × Sl) → Prop
  | nil : AtSs [] []
  | cons {k : Str} {v : V} {vs : List (Str × V)} {a : Sl} {as : List (Str × Sl)} : AtA K G ps v a → AtSs vs as → AtSs ((k, v) :: vs) ((k, a) :: as)
/-- what stands in a slot: a value, or the error that is caught just now -/
inductive SlAt (ea ed : Addr) : V → Sl → Prop
  | val {v : V} {a : Sl} : AtA K G ps v a → SlAt ea ed v a
  | err {f : Str} {v : V} {d : D} : G ed = some (.xd [(f, v)]) → AtD K G v d → SlAt ea ed (.ref ea) (.err f d)
def CeAt (H : Hp) (p : Addr) : Ce → Prop
  | .gone => True
  | .lst ds => G p = none ∧ ∃ vs, H p = some (.lst vs) ∧ AtDs K G vs ds
  | .dct ds => G p = none ∧ ∃ vs, H p = some (.dK vs) ∧ AtKs K G vs ds
  | .ins C fs => G p = none ∧ ∃ dx vs, H p = some (.ins (CM.A C) dx vs) ∧ AtSs K G ps vs fs
end
section
variable {K : PySem.W.Frag} {G G' : Hp} {ps ps' : List Addr}
theorem pre_get {ps ps' : List Addr} {k : Nat} {p : Addr} (hp : ps <+: ps') (h : ps[k]? = some p) : ps'[k]? = some p := by
  obtain ⟨t, rfl⟩ := hp
  rw [List.getElem?_append_left (List.getElem?_eq_some_iff.mp h).1]
  exact h
theorem AtA.mono (e : Ex G G') (hp : ps <+: ps') : ∀ {v : V} {a : Sl}, AtA K G ps v a → AtA K G' ps' v a
  | _, _, .dat h => .dat (h.mono e)
  | _, _, .own h => .own (pre_get hp h)
theorem AtAs.mono (e : Ex G G') (hp : ps <+: ps') : ∀ {v : List V} {a : List Sl}, AtAs K G ps v a → AtAs K G' ps' v a
  | _, _, .nil => .nil
  | _, _, .cons h t => .cons (h.mono e hp) (AtAs.mono e hp t)
theorem AtSs.mono (e : Ex G G') (hp : ps <+: ps') : ∀ {v : List (Str × V)} {a : List (Str × Sl)}, AtSs K G ps v a → AtSs K G' ps' v a
  | _, _, .nil => .nil
  | _, _, .cons h t => .cons (h.mono e hp) (AtSs.mono e hp t)
theorem SlAt.mono {ea ed : Addr} (e : Ex G G') (hp : ps <+: ps') : ∀ {v : V} {a : Sl}, SlAt K G ps ea ed v a → SlAt K G' ps' ea ed v a
  | _, _, .val h => .val (h.mono e hp)
  | _, _, .err h a => .err (e _ _ h) (a.mono e)
theorem AtSs.look : ∀ {fs : List (Str × V)} {ds : List (Str × Sl)} {f : Str} {x : Sl}, AtSs K G ps fs ds → ds.lookup f = some x → ∃ u, fs.lookup f = some u ∧ AtA K G ps u x
  | _, _, _, _, .nil, e => by simp at e
  | (k, v) :: _, _, f, x, .cons h hs, e => by
    simp only [List.lookup] at e ⊢
    cases hb : f == k with
    | true => rw [hb] at e; cases e; exact ⟨_, rfl, h⟩
    | false => rw [hb] at e; exact AtSs.look hs e
theorem AtSs.none_of : ∀ {fs : List (Str × V)} {ds : List (Str × Sl)} {f : Str}, AtSs K G ps fs ds → ds.lookup f = none → fs.lookup f = none
  | _, _, _, .nil, e => rfl
  | (k, v) :: _, _, f, .cons h hs, e => by
    simp only [List.lookup] at e ⊢
    cases hb : f == k with
    | true => rw [hb] at e; cases e
    | false => rw [hb] at e; exact AtSs.none_of hs e
end
structure SOk (K : PySem.W.Frag) (F : Fx) (G : Hp) (ps : List Addr) (ρ : List Sl) (S : List Ce) (σ : L2.St) (H : Hp) : Prop where
  sub : Ex G H
  base : Ex F.G0 G
  keep : ∀ a o, a ∉ F.P0 → F.H0 a = some o → H a = some o
  new : ∀ a o, G a = some o → F.G0 a = some o ∨ F.H0 a = none
  pre : F.P0 <+: ps
  nd : ps.Nodup
  fresh : ∀ p ∈ ps, p ∈ F.P0 ∨ F.H0 p = none
  there : ∀ p ∈ ps, ∃ o, H p = some o
  plen : ps.length = S.length
  slen : σ.length = ρ.length
  slot : ∀ (i : Nat) (a : Sl), ρ[i]? = some a → a ≠ .no → ∃ v, σ[i]? = some (some v) ∧ SlAt K G ps F.ea F.ed v a
  cell : ∀ (k : Nat) (p : Addr) (c : Ce), ps[k]? = some p → S[k]? = some c → CeAt K G ps H p c
/-- an exception's own dict -/
def ExcAt (K : PySem.W.Frag) (G : Hp) (d : Option Addr) : Option (Str × D) → Prop
  | none => d = none
  | some (f, x) => ∃ a v, d = some a ∧ G a = some (.xd [(f, v)]) ∧ AtD K G v x

/-! ### growth -/
inductive Grow : Hp → Hp → Hp → Hp → Prop
  | refl (G H : Hp) : Grow G H G H
  | step {G H G' H' : Hp} {p : Addr} {u : HO} : H p = none → Grow (upd G p u) (upd H p u) G' H' → Grow G H G' H'
theorem Grow.one {G H : Hp} {p : Addr} {u : HO} (h : H p = none) : Grow G H (upd G p u) (upd H p u) := .step h (.refl _ _)
theorem CeAt.grow {K : PySem.W.Frag} {G G' H H' : Hp} {ps ps' : List Addr} {p : Addr} {c : Ce} (h : CeAt K G ps H p c) (e : Ex G G') (hp : ps <+: ps') (n : G p = none → (∃ o, H p = some o) → G' p = none) (hh : H' p = H p) : CeAt K G' ps' H' p c := by
  cases c with
  | gone => trivial
  | lst ds => obtain ⟨z1, vs, z2, z3⟩ := h; exact ⟨n z1 ⟨_, z2⟩, vs, by rw [hh]; exact z2, z3.mono e⟩
  | dct ds => obtain ⟨z1, vs, z2, z3⟩ := h; exact ⟨n z1 ⟨_, z2⟩, vs, by rw [hh]; exact z2, z3.mono e⟩
  | ins C fs => obtain ⟨z1, dx, vs, z2, z3⟩ := h; exact ⟨n z1 ⟨_, z2⟩, dx, vs, by rw [hh]; exact z2, z3.mono e hp⟩
section
variable {K : PySem.W.Frag} {F : Fx} {G H : Hp} {ps : List Addr} {ρ : List Sl} {S : List Ce} {σ : L2.St}
theorem SOk.more (o : SOk K F G ps ρ S σ H) {p : Addr} {u : HO} (hp : H p = none) : SOk K F G ps ρ S σ (upd H p u) :=
  ⟨fun a v e => (Ex.new hp) _ _ (o.sub a v e), o.base, fun a v n e => (Ex.new hp) _ _ (o.keep a v n e), o.new, o.pre, o.nd, o.fresh, fun q hq => (o.there q hq).imp fun w e => (Ex.new hp) _ _ e, o.plen, o.slen, o.slot, fun i q cl h1 h2 => by
    refine (o.cell i q cl h1 h2).grow (Ex.refl G) (List.prefix_refl _) (fun z _ => z) (upd_ne ?_)
    obtain ⟨w, hw⟩ := o.there q (List.mem_of_getElem? h1)
    exact ne_of_none hw hp⟩
theorem SOk.free0 (o : SOk K F G ps ρ S σ H) {p : Addr} (hp : H p = none) : F.H0 p = none := by
  cases e : F.H0 p with
  | none => rfl
  | some u =>
    by_cases hm : p ∈ F.P0
    · obtain ⟨w, hw⟩ := o.there p (o.pre.subset hm)
      rw [hp] at hw; cases hw
    · have z := o.keep p u hm e
      rw [hp] at z; cases z
theorem SOk.put (o : SOk K F G ps ρ S σ H) {p : Addr} (u : HO) (hp : H p = none) : SOk K F (upd G p u) ps ρ S σ (upd H p u) := by
  have gp : G p = none := o.sub.back hp
  have eg : Ex G (upd G p u) := Ex.new gp
  have eh : Ex H (upd H p u) := Ex.new hp
  refine ⟨fun q w e => ?_, o.base.trans eg, fun q w n e => eh _ _ (o.keep q w n e), fun q w e => ?_, o.pre, o.nd, o.fresh, fun q hq => (o.there q hq).imp fun w e => eh _ _ e, o.plen, o.slen, fun i a h n => ?_, fun i q cl h1 h2 => ?_⟩
  · by_cases hq : q = p
    · subst hq; rw [upd_same] at e ⊢; exact e
    · rw [upd_ne hq] at e ⊢; exact o.sub q w e
  · by_cases hq : q = p
    · subst hq; exact .inr (o.free0 hp)
    · rw [upd_ne hq] at e; exact o.new q w e
  · obtain ⟨v, h1, h2⟩ := o.slot i a h n
    exact ⟨v, h1, h2.mono eg (List.prefix_refl _)⟩
  · have hq : q ≠ p := by
      obtain ⟨w, hw⟩ := o.there q (List.mem_of_getElem? h1)
      exact ne_of_none hw hp
    exact (o.cell i q cl h1 h2).grow eg (List.prefix_refl _) (fun z _ => by rw [upd_ne hq]; exact z) (upd_ne hq)
end
theorem Grow.ex {G H G' H' : Hp} (g : Grow G H G' H') : Ex G H → Ex G G' ∧ Ex H H' ∧ Ex G' H' := by
  induction g with
  | refl G H => exact fun e => ⟨Ex.refl _, Ex.refl _, e⟩
  | @step G H G' H' p u hp _ ih =>
    intro e
    have e1 : Ex (upd G p u) (upd H p u) := fun q w h => by
      by_cases hq : q = p
      · subst hq; rw [upd_same] at h ⊢; exact h
      · rw [upd_ne hq] at h ⊢; exact e q w h
    obtain ⟨a, b, c⟩ := ih e1
    exact ⟨(Ex.new (e.back hp)).trans a, (Ex.new hp).trans b, c⟩
theorem SOk.grow {K : PySem.W.Frag} {F : Fx} {ps : List Addr} {ρ : List Sl} {S : List Ce} {σ : L2.St} {G H G' H' : Hp} (g : Grow G H G' H') : SOk K F G ps ρ S σ H → SOk K F G' ps ρ S σ H' := by
  induction g with
  | refl G H => exact fun o => o
  | step hp _ ih => exact fun o => ih (o.put _ hp)
end Mir

/-! Results, what they promise, the judgements. -/
namespace Mir
open PySem PySem.Spec L2
variable [CM : ClsMap]
inductive RE (α : Type) where
  | ok (a : α) (S : List Ce) | exc (i : Nat) (pl : Option (Str × D)) (S : List Ce) | stuck
inductive RS where
  | nx (ρ : List Sl) (S : List Ce) | rt (r : Sl) (S : List Ce) | bk (ρ : List Sl) (S : List Ce) | ct (ρ : List Sl) (S : List Ce) | exc (i : Nat) (pl : Option (Str × D)) (ρ : List Sl) (S : List Ce) | stuck
def RE.bind {α β : Type} (r : RE α) (g : α → List Ce → RE β) : RE β := match r with
  | .ok a S => g a S
  | .exc i pl S => .exc i pl S
  | .stuck => .stuck
def RE.toS {α : Type} (r : RE α) (ρ : List Sl) (g : α → List Ce → RS) : RS := match r with
  | .ok a S => g a S
  | .exc i pl S => .exc i pl ρ S
  | .stuck => .stuck
def RS.bind (r : RS) (g : List Sl → List Ce → RS) : RS := match r with
  | .nx ρ S => g ρ S
  | .rt a S => .rt a S
  | .bk ρ S => .bk ρ S
  | .ct ρ S => .ct ρ S
  | .exc i pl ρ S => .exc i pl ρ S
  | .stuck => .stuck
omit CM in
@[simp] theorem RE.ok_bind {α β : Type} (a : α) (S : List Ce) (g : α → List Ce → RE β) : (RE.ok a S).bind g = g a S := rfl
omit CM in
@[simp] theorem RE.exc_bind {α β : Type} (i : Nat) (pl : Option (Str × D)) (S : List Ce) (g : α → List Ce → RE β) : (RE.exc i pl S : RE α).bind g = .exc i pl S := rfl
omit CM in
@[simp] theorem RE.stuck_bind {α β : Type} (g : α → List Ce → RE β) : (RE.stuck : RE α).bind g = .stuck := rfl
omit CM in
@[simp] theorem RE.ok_toS {α : Type} (a : α) (S : List Ce) (ρ : List Sl) (g : α → List Ce → RS) : (RE.ok a S).toS ρ g = g a S := rfl
omit CM in
@[simp] theorem RE.exc_toS {α : Type} (i : Nat) (pl : Option (Str × D)) (S : List Ce) (ρ : List Sl) (g : α → List Ce → RS) : (RE.exc i pl S : RE α).toS ρ g = .exc i pl ρ S := rfl
omit CM in
@[simp] theorem RE.stuck_toS {α : Type} (ρ : List Sl) (g : α → List Ce → RS) : (RE.stuck : RE α).toS ρ g = .stuck := rfl
omit CM in
@[simp] theorem RS.nx_bind (ρ : List Sl) (S : List Ce) (g : List Sl → List Ce → RS) : (RS.nx ρ S).bind g = g ρ S := rfl
omit CM in
@[simp] theorem RS.rt_bind (r : Sl) (S : List Ce) (g : List Sl → List Ce → RS) : (RS.rt r S).bind g = .rt r S := rfl
omit CM in
@[simp] theorem RS.bk_bind (ρ : List Sl) (S : List Ce) (g : List Sl → List Ce → RS) : (RS.bk ρ S).bind g = .bk ρ S := rfl
omit CM in
@[simp] theorem RS.ct_bind (ρ : List Sl) (S : List Ce) (g : List Sl → List Ce → RS) : (RS.ct ρ S).bind g = .ct ρ S := rfl
omit CM in
@[simp] theorem RS.exc_bind (i : Nat) (pl : Option (Str × D)) (ρ : List Sl) (S : List Ce) (g : List Sl → List Ce → RS) : (RS.exc i pl ρ S).bind g = .exc i pl ρ S := rfl
omit CM in
@[simp] theorem RS.stuck_bind (g : List Sl → List Ce → RS) : RS.stuck.bind g = .stuck := rfl

/-- where one stands: the context, the frame, what is wished of exceptions -/
structure Cz where
  X : Cx
  F : Fx
  W : WX
  tk : Takes X W
def WE (X : Cx) (e : Expr) : TE := fun σ H Q => ∃ t, PE X e t ∧ t σ H Q
def WT (X : Cx) (e : Expr) : TT := fun σ H Q => ∃ t, PT X e t ∧ t σ H Q
def WW (X : Cx) (e : Expr) : TT := fun σ H Q => ∃ t, PW X e t ∧ t σ H Q
def WA (X : Cx) (es : List Expr) : TA := fun σ H Q => ∃ t, PA X es t ∧ t σ H Q
def WS (X : Cx) (st : Stmt) : TS := fun D σ H => ∃ t, PS X st t ∧ t D σ H
def WSs (X : Cx) (st : List Stmt) : TS := fun D σ H => ∃ t, PSs X st t ∧ t D σ H
def WI (X : Cx) (tg e : Expr) : TI := fun σ H R => ∃ wi, PI X tg e wi ∧ wi σ H R
omit CM in
section
variable {X : Cx} {e tg : Expr} {es : List Expr} {st : Stmt} {sts : List Stmt}
theorem we_pe : PE X e (WE X e) := ⟨fun pins s σ H Q I ⟨t, h, q⟩ => h.run pins s σ H Q I q⟩
theorem wt_pt : PT X e (WT X e) := ⟨fun pins s σ H Q I ⟨t, h, q⟩ => h.run pins s σ H Q I q⟩
theorem ww_pw : PW X e (WW X e) := ⟨fun wh pins s σ H Q I ⟨t, h, q⟩ => h.run wh pins s σ H Q I q⟩
theorem wa_pa : PA X es (WA X es) := ⟨fun pos pins s σ H Q I ⟨t, h, q⟩ => h.run pos pins s σ H Q I q⟩
theorem ws_ps : PS X st (WS X st) := ⟨fun pins s σ H D I ⟨t, h, q⟩ => h.run pins s σ H D I q⟩
theorem wss_pss : PSs X sts (WSs X sts) := ⟨fun pins s σ H D I ⟨t, h, q⟩ => h.run pins s σ H D I q⟩
theorem wi_pi : PI X tg e (WI X tg e) := ⟨fun pins s σ H R I ⟨wi, h, q⟩ => h.run pins s σ H R I q⟩
end
section
variable (c : Cz)
/-- what a result promises: R tells how a value of the machine is the result's -/
def Sat {α β : Type} (G : Hp) (ps : List Addr) (ρ : List Sl) (σ : L2.St) (R : Hp → Hp → List Addr → β → α → Prop) (k : β → Hp → Prop) : RE α → Prop
  | .ok r S' => ∀ v G' ps' H', SOk c.X.K c.F G' ps' ρ S' σ H' → Ex G G' → ps <+: ps' → R G' H' ps' v r → k v H'
  | .exc i pl S' => ∀ dd G' ps' H', SOk c.X.K c.F G' ps' ρ S' σ H' → Ex G G' → ps <+: ps' → ExcAt c.X.K G' dd pl → c.W (.ref (CM.A i)) dd σ H'
  | .stuck => False
def SatS (G : Hp) (ps : List Addr) (E : Ends) : RS → Prop
  | .nx ρ S => ∀ σ G' ps' H, SOk c.X.K c.F G' ps' ρ S σ H → Ex G G' → ps <+: ps' → E.nx σ H
  | .rt r S => ∀ v ρ σ G' ps' H, SOk c.X.K c.F G' ps' ρ S σ H → Ex G G' → ps <+: ps' → AtA c.X.K G' ps' v r → E.rt v H
  | .bk ρ S => ∀ σ G' ps' H, SOk c.X.K c.F G' ps' ρ S σ H → Ex G G' → ps <+: ps' → E.bk σ H
  | .ct ρ S => ∀ σ G' ps' H, SOk c.X.K c.F G' ps' ρ S σ H → Ex G G' → ps <+: ps' → E.ct σ H
  | .exc i pl ρ S => ∀ σ dd G' ps' H, SOk c.X.K c.F G' ps' ρ S σ H → Ex G G' → ps <+: ps' → ExcAt c.X.K G' dd pl → c.W (.ref (CM.A i)) dd σ H
  | .stuck => False
def RA : Hp → Hp → List Addr → V → Sl → Prop := fun G _ ps v r => AtA c.X.K G ps v r
def RAs : Hp → Hp → List Addr → List V → List Sl → Prop := fun G _ ps v r => AtAs c.X.K G ps v r
omit CM in
def RB : Hp → Hp → List Addr → Bool → Bool → Prop := fun _ _ _ v r => v = r
abbrev ME := List Sl → List Ce → RE Sl
abbrev MT := List Sl → List Ce → RE Bool
abbrev MA' := List Sl → List Ce → RE (List Sl)
abbrev MS := List Sl → List Ce → RS
def DE (e : Expr) (f : ME) : Prop := ∀ ρ S σ G ps H k, SOk c.X.K c.F G ps ρ S σ H → Sat c G ps ρ σ (RA c) k (f ρ S) → WE c.X e σ H k
def DT (e : Expr) (f : MT) : Prop := ∀ ρ S σ G ps H k, SOk c.X.K c.F G ps ρ S σ H → Sat c G ps ρ σ RB k (f ρ S) → WT c.X e σ H k
def DW (e : Expr) (f : MT) : Prop := ∀ ρ S σ G ps H k, SOk c.X.K c.F G ps ρ S σ H → Sat c G ps ρ σ RB k (f ρ S) → WW c.X e σ H k
def DA (es : List Expr) (f : MA') : Prop := ∀ ρ S σ G ps H k, SOk c.X.K c.F G ps ρ S σ H → Sat c G ps ρ σ (RAs c) k (f ρ S) → WA c.X es σ H k
def DS (sts : List Stmt) (g : MS) : Prop := ∀ ρ S σ G ps H E, SOk c.X.K c.F G ps ρ S σ H → SatS c G ps E (g ρ S) → WSs c.X sts E σ H
def D1 (st : Stmt) (g : MS) : Prop := ∀ ρ S σ G ps H E, SOk c.X.K c.F G ps ρ S σ H → SatS c G ps E (g ρ S) → WS c.X st E σ H
end
section
variable {c : Cz} {G G1 : Hp} {ps ps1 : List Addr} {ρ : List Sl} {S : List Ce} {σ : L2.St} {H : Hp} {α β γ δ : Type} {R : Hp → Hp → List Addr → β → α → Prop} {R' : Hp → Hp → List Addr → δ → γ → Prop} {k : β → Hp → Prop} {k' : δ → Hp → Prop} {E : Ends}
theorem Sat.mono {r : RE α} (h : Sat c G ps ρ σ R k r) (e : Ex G G1) (p : ps <+: ps1) : Sat c G1 ps1 ρ σ R k r := by
  cases r with
  | ok r S => exact fun v G' ps' H' o e' p' a => h v G' ps' H' o (e.trans e') (p.trans p') a
  | exc i pl S => exact fun dd G' ps' H' o e' p' a => h dd G' ps' H' o (e.trans e') (p.trans p') a
  | stuck => exact h
theorem SatS.mono {r : RS} (h : SatS c G ps E r) (e : Ex G G1) (p : ps <+: ps1) : SatS c G1 ps1 E r := by
  cases r with
  | nx r S => exact fun σ G' ps' H' o e' p' => h σ G' ps' H' o (e.trans e') (p.trans p')
  | bk r S => exact fun σ G' ps' H' o e' p' => h σ G' ps' H' o (e.trans e') (p.trans p')
  | ct r S => exact fun σ G' ps' H' o e' p' => h σ G' ps' H' o (e.trans e') (p.trans p')
  | rt r S => exact fun v ρ σ G' ps' H' o e' p' a => h v ρ σ G' ps' H' o (e.trans e') (p.trans p') a
  | exc i pl r S => exact fun σ dd G' ps' H' o e' p' a => h σ dd G' ps' H' o (e.trans e') (p.trans p') a
  | stuck => exact h
theorem Sat.bind {r : RE α} {g : α → List Ce → RE γ} (h : Sat c G ps ρ σ R' k' (r.bind g))
    (st : ∀ x S1 v G1 ps1 H1, SOk c.X.K c.F G1 ps1 ρ S1 σ H1 → Ex G G1 → ps <+: ps1 → R G1 H1 ps1 v x → Sat c G1 ps1 ρ σ R' k' (g x S1) → k v H1) : Sat c G ps ρ σ R k r := by
  cases r with
  | ok r S => exact fun v G' ps' H' o e p a => st r S v G' ps' H' o e p a (Sat.mono h e p)
  | exc i pl S => exact h
  | stuck => exact h
theorem Sat.ok {r : α} {v : β} (h : Sat c G ps ρ σ R k (.ok r S)) (o : SOk c.X.K c.F G ps ρ S σ H) (a : R G H ps v r) : k v H := h v G ps H o (Ex.refl G) (List.prefix_refl _) a
/-- the same result, asked for otherwise -/
theorem Sat.imp {r : RE α} (h : Sat c G ps ρ σ R k r) {R2 : Hp → Hp → List Addr → δ → α → Prop} (st : ∀ x S1 v G1 ps1 H1, SOk c.X.K c.F G1 ps1 ρ S1 σ H1 → Ex G G1 → ps <+: ps1 → R2 G1 H1 ps1 v x → Sat c G1 ps1 ρ σ R k (.ok x S1) → k' v H1) : Sat c G ps ρ σ R2 k' r := by
  cases r with
  | ok r S => exact fun v G' ps' H' o e p a => st r S v G' ps' H' o e p a (Sat.mono h e p)
  | exc i pl S => exact h
  | stuck => exact h
theorem Sat.toS {r : RE α} {g : α → List Ce → RS} (h : SatS c G ps E (r.toS ρ g))
    (st : ∀ x S1 v G1 ps1 H1, SOk c.X.K c.F G1 ps1 ρ S1 σ H1 → Ex G G1 → ps <+: ps1 → R G1 H1 ps1 v x → SatS c G1 ps1 E (g x S1) → k v H1) : Sat c G ps ρ σ R k r := by
  cases r with
  | ok r S => exact fun v G' ps' H' o e p a => st r S v G' ps' H' o e p a (SatS.mono h e p)
  | exc i pl S => exact fun dd G' ps' H' o e p a => h σ dd G' ps' H' o e p a
  | stuck => exact h
theorem SatS.nx' (h : SatS c G ps E (.nx ρ S)) (o : SOk c.X.K c.F G ps ρ S σ H) : E.nx σ H := h σ G ps H o (Ex.refl G) (List.prefix_refl _)
/-- the first of two -/
theorem SatS.bind {r : RS} {g : List Sl → List Ce → RS} (h : SatS c G ps E (r.bind g)) {M : L2.St → Hp → Prop}
    (st : ∀ ρ1 S1 σ1 G1 ps1 H1, SOk c.X.K c.F G1 ps1 ρ1 S1 σ1 H1 → Ex G G1 → ps <+: ps1 → SatS c G1 ps1 E (g ρ1 S1) → M σ1 H1) : SatS c G ps { E with nx := M } r := by
  cases r with
  | nx r S => exact fun σ G' ps' H' o e p => st r S σ G' ps' H' o e p (SatS.mono h e p)
  | bk r S => exact h
  | ct r S => exact h
  | rt r S => exact h
  | exc i pl r S => exact h
  | stuck => exact h
end
/-! ### looking at a cell as data -/
omit CM in
def datFs : List (Str × Sl) → Option (List (Str × D))
  | [] => some []
  | (f, .dat d) :: r => (datFs r).map ((f, d) :: ·)
  | _ :: _ => none
omit CM in
def ceD : Ce → Option D
  | .lst ds => some (.lst ds)
  | .dct ds => some (.dct ds)
  | .ins C fs => (datFs fs).map (.ins C)
  | .gone => none
omit CM in
def vw (r : Sl) (S : List Ce) : Option D := match r with
  | .dat d => some d
  | .own j => (S[j]?).bind ceD
  | _ => none
omit CM in
@[simp] theorem vw_dat (d : D) (S : List Ce) : vw (.dat d) S = some d := rfl
inductive TopD (K : PySem.W.Frag) (G H : Hp) : V → D → Prop
  | dat {v : V} {d : D} : AtD K G v d → TopD K G H v d
  | lst {a : Addr} {vs : List V} {ds : List D} : H a = some (.lst vs) → AtDs K G vs ds → TopD K G H (.ref a) (.lst ds)
  | dct {a : Addr} {vs : List (Key × V)} {ds : List (Key × D)} : H a = some (.dK vs) → AtKs K G vs ds → TopD K G H (.ref a) (.dct ds)
  | ins {a dx : Addr} {C : Nat} {vs : List (Str × V)} {ds : List (Str × D)} : H a = some (.ins (CM.A C) dx vs) → AtFs K G vs ds → TopD K G H (.ref a) (.ins C ds)
section
variable {K : PySem.W.Frag} {G H : Hp} {F : Fx} {ps : List Addr} {ρ : List Sl} {S : List Ce} {σ : L2.St}
theorem datFs_at : ∀ {fs : List (Str × Sl)} {vs : List (Str × V)} {ds : List (Str × D)}, AtSs K G ps vs fs → datFs fs = some ds → AtFs K G vs ds
  | _, _, _, .nil, e => by cases e; exact .nil
  | (f, .dat d) :: r, _, ds, .cons (.dat a) t, e => by
    unfold datFs at e
    cases q : datFs r with
    | none => rw [q] at e; cases e
    | some xs => rw [q] at e; cases e; exact .cons a (datFs_at t q)
  | (f, .own d) :: r, _, ds, .cons _ t, e => by cases e
theorem ceD_ok {p : Addr} {cl : Ce} {d : D} (z : CeAt K G ps H p cl) (e : ceD cl = some d) : TopD K G H (.ref p) d := by
  cases cl with
  | gone => cases e
  | lst ds => cases e; obtain ⟨_, vs, h2, h3⟩ := z; exact .lst h2 h3
  | dct ds => cases e; obtain ⟨_, vs, h2, h3⟩ := z; exact .dct h2 h3
  | ins C fs =>
    obtain ⟨_, dx, vs, h2, h3⟩ := z
    have e : (datFs fs).map (D.ins C) = some d := e
    cases q : datFs fs with
    | none => rw [q] at e; cases e
    | some xs => rw [q] at e; cases e; exact .ins h2 (datFs_at h3 q)
theorem vw_ok (o : SOk K F G ps ρ S σ H) {v : V} {r : Sl} {d : D} (a : AtA K G ps v r) (e : vw r S = some d) : TopD K G H v d := by
  cases a with
  | dat a => cases e; exact .dat a
  | @own p j a =>
    unfold vw at e
    dsimp only at e
    cases q : S[j]? with
    | none => rw [q] at e; cases e
    | some cl => rw [q] at e; exact ceD_ok (o.cell j p cl a q) e
theorem TopD.atH (h : TopD K G H v d) (e : Ex G H) : AtD K H v d := by
  cases h with
  | dat a => exact a.mono e
  | lst h hs => exact .lst h (hs.mono e)
  | dct h hs => exact .dct h (hs.mono e)
  | ins h hs => exact .ins h (hs.mono e)
theorem TopD.int_ {v : V} {i : Int} (h : TopD K G H v (.int i)) : v = .int i := by cases h with | dat a => cases a; rfl
theorem TopD.bl_ {v : V} {i : Bool} (h : TopD K G H v (.bl i)) : v = .bl i := by cases h with | dat a => cases a; rfl
theorem TopD.str_ {v : V} {i : Str} (h : TopD K G H v (.str i)) : v = .str i := by cases h with | dat a => cases a; rfl
theorem TopD.non_ {v : V} (h : TopD K G H v .non) : v = .non := by cases h with | dat a => cases a; rfl
theorem TopD.ty_ {v : V} {n : String} (h : TopD K G H v (.ty n)) : v = .ty n := by cases h with | dat a => cases a; rfl
theorem TopD.lst_ {v : V} {ds : List D} (h : TopD K G H v (.lst ds)) (e : Ex G H) : ∃ a vs, v = .ref a ∧ H a = some (.lst vs) ∧ AtDs K G vs ds := by
  cases h with
  | dat a => cases a with | lst h hs => exact ⟨_, _, rfl, e _ _ h, hs⟩
  | lst h hs => exact ⟨_, _, rfl, h, hs⟩
theorem TopD.tup_ {v : V} {ds : List D} (h : TopD K G H v (.tup ds)) (e : Ex G H) : ∃ a vs, v = .ref a ∧ SqT K H a vs ∧ SqT K G a vs ∧ AtDs K G vs ds := by
  cases h with
  | dat a => cases a with | tup h hs => exact ⟨_, _, rfl, e.st h, h, hs⟩
theorem TopD.sq_ {v : V} {ds : List D} (h : TopD K G H v (.sq ds)) (e : Ex G H) : ∃ a vs, v = .ref a ∧ SqL K H a vs ∧ AtDs K G vs ds := by
  cases h with
  | dat a => cases a with | sq h hs => exact ⟨_, _, rfl, e.sl h, hs⟩
theorem TopD.dct_ {v : V} {ds : List (Key × D)} (h : TopD K G H v (.dct ds)) (e : Ex G H) : ∃ a vs, v = .ref a ∧ H a = some (.dK vs) ∧ AtKs K G vs ds := by
  cases h with
  | dat a => cases a with | dct h hs => exact ⟨_, _, rfl, e _ _ h, hs⟩
  | dct h hs => exact ⟨_, _, rfl, h, hs⟩
theorem TopD.ins_ {v : V} {C : Nat} {ds : List (Str × D)} (h : TopD K G H v (.ins C ds)) (e : Ex G H) : ∃ a dx vs, v = .ref a ∧ H a = some (.ins (CM.A C) dx vs) ∧ AtFs K G vs ds := by
  cases h with
  | dat a => cases a with | ins h hs => exact ⟨_, _, _, rfl, e _ _ h, hs⟩
  | ins h hs => exact ⟨_, _, _, rfl, h, hs⟩
end
end Mir

/-! Expressions, tests, arguments. -/
namespace Mir
open PySem PySem.Spec L2
variable [CM : ClsMap]
/-! ### the mirror's words -/
omit CM in
section
def mVar (i : Nat) : ME := fun ρ S => match ρ[i]? with
  | some (.dat d) => .ok (.dat d) S
  | some (.own j) => .ok (.own j) S
  | _ => .stuck
def mK (d : D) : ME := fun _ S => .ok (.dat d) S
/-- what an operator makes of data -/
def ofO {α : Type} (o : Option α) (S : List Ce) : RE α := match o with
  | some d => .ok d S
  | none => .stuck
@[simp] theorem ofO_some {α : Type} (d : α) (S : List Ce) : ofO (some d) S = .ok d S := rfl
@[simp] theorem ofO_none {α : Type} (S : List Ce) : ofO (none : Option α) S = .stuck := rfl
def dat' (o : Option D) (S : List Ce) : RE Sl := match o with
  | some d => .ok (.dat d) S
  | none => .stuck
@[simp] theorem dat'_some (d : D) (S : List Ce) : dat' (some d) S = .ok (.dat d) S := rfl
@[simp] theorem dat'_none (S : List Ce) : dat' none S = .stuck := rfl
def op1 (f : D → Option D) (x : Sl) (S : List Ce) : RE Sl := dat' ((vw x S).bind f) S
def op2 (f : D → D → Option D) (x y : Sl) (S : List Ce) : RE Sl := dat' ((vw x S).bind fun a => (vw y S).bind (f a)) S
@[simp] theorem op1_dat (f : D → Option D) (d : D) (S : List Ce) : op1 f (.dat d) S = dat' (f d) S := rfl
@[simp] theorem op2_dat (f : D → D → Option D) (d e : D) (S : List Ce) : op2 f (.dat d) (.dat e) S = dat' (f d e) S := rfl
def mOp (f : D → D → Option D) (a b : ME) : ME := fun ρ S => (a ρ S).bind fun x S1 => (b ρ S1).bind fun y S2 => op2 f x y S2
def mUn (f : D → Option D) (a : ME) : ME := fun ρ S => (a ρ S).bind fun x S1 => op1 f x S1
/-- a value's truth, of data -/
def truD : D → Option Bool
  | .non => some false
  | .bl b => some b
  | .int i => some (i != 0)
  | .lst ds => some (!ds.isEmpty)
  | .sq ds => some (!ds.isEmpty)
  | .tup ds => some (!ds.isEmpty)
  | .dct ds => some (!ds.isEmpty)
  | .str s => if s.length ≤ sizeLine then some ((s.length : Int) != 0) else none
  | _ => none
def truS (x : Sl) (S : List Ce) : Option Bool := (vw x S).bind truD
@[simp] theorem truS_dat (d : D) (S : List Ce) : truS (.dat d) S = truD d := rfl
def mAnd (a b : ME) : ME := fun ρ S => (a ρ S).bind fun x S1 => match truS x S1 with
  | some true => b ρ S1
  | some false => .ok x S1
  | none => .stuck
def mOr (a b : ME) : ME := fun ρ S => (a ρ S).bind fun x S1 => match truS x S1 with
  | some false => b ρ S1
  | some true => .ok x S1
  | none => .stuck
def mNot (a : ME) : ME := fun ρ S => (a ρ S).bind fun x S1 => match truS x S1 with
  | some t => .ok (.dat (.bl !t)) S1
  | none => .stuck
def mIf (t : MT) (a b : ME) : ME := fun ρ S => (t ρ S).bind fun x S1 => bif x then a ρ S1 else b ρ S1
def mChain (f g : D → D → Option D) (a b d : ME) : ME := fun ρ S => (a ρ S).bind fun x S1 => (b ρ S1).bind fun y S2 =>
  (op2 f x y S2).bind fun z S3 => match z with
    | .dat (.bl true) => (d ρ S3).bind fun u S4 => op2 g y u S4
    | .dat (.bl false) => .ok (.dat (.bl false)) S3
    | _ => .stuck
/-! tests -/
def tTru (a : ME) : MT := fun ρ S => (a ρ S).bind fun x S1 => ofO (truS x S1) S1
def asB : RE Sl → RE Bool
  | .ok (.dat (.bl t)) S => .ok t S
  | .ok _ _ => .stuck
  | .exc i pl S => .exc i pl S
  | .stuck => .stuck
@[simp] theorem asB_ok (t : Bool) (S : List Ce) : asB (.ok (.dat (.bl t)) S) = .ok t S := rfl
def tOf (a : ME) : MT := fun ρ S => asB (a ρ S)
def tAnd (a b : MT) : MT := fun ρ S => (a ρ S).bind fun x S1 => bif x then b ρ S1 else .ok false S1
def tOr (a b : MT) : MT := fun ρ S => (a ρ S).bind fun x S1 => bif x then .ok true S1 else b ρ S1
def tNot (a : MT) : MT := fun ρ S => (a ρ S).bind fun x S1 => .ok (!x) S1
/-! arguments -/
def aNil : MA' := fun _ S => .ok [] S
def aCons (a : ME) (b : MA') : MA' := fun ρ S => (a ρ S).bind fun x S1 => (b ρ S1).bind fun xs S2 => .ok (x :: xs) S2
def datas : List Sl → Option (List D)
  | [] => some []
  | .dat d :: r => (datas r).map (d :: ·)
  | _ :: _ => none
def vws : List Sl → List Ce → Option (List D)
  | [], _ => some []
  | x :: r, S => (vw x S).bind fun d => (vws r S).map (d :: ·)
def opN (f : List D → Option D) (xs : List Sl) (S : List Ce) : RE Sl := dat' ((vws xs S).bind f) S
def mTup (a : MA') : ME := fun ρ S => (a ρ S).bind fun xs S1 => match datas xs with
  | some ds => if ds.length ≤ 1000 then .ok (.dat (.tup ds)) S1 else .stuck
  | none => .stuck
def mLst (a : MA') : ME := fun ρ S => (a ρ S).bind fun xs S1 => match datas xs with
  | some ds => if ds.length ≤ 1000 then .ok (.dat (.lst ds)) S1 else .stuck
  | none => .stuck
/-- .. as a cell of its own -/
def mLstO (a : MA') : ME := fun ρ S => (a ρ S).bind fun xs S1 => match datas xs with
  | some ds => if ds.length ≤ 1000 then .ok (.own S1.length) (S1 ++ [.lst ds]) else .stuck
  | none => .stuck
def mBlt (f : List D → Option D) (a : MA') : ME := fun ρ S => (a ρ S).bind fun xs S1 => opN f xs S1
end
/-- a module's constant whose data stand in the written part -/
def KonD (K : PySem.W.Frag) (mg : Str → Option Value) (x : Str) (d : D) : Prop := ∃ u v, mg x = some u ∧ RelV v u ∧ ∀ G, AtD K G v d
def RD2 (K : PySem.W.Frag) (r : R2) (f : D → D → Option D) : Prop := ∀ (G H : Hp) (x y : V) (k : VK) (d1 d2 d : D), Ex G H → TopD K G H x d1 → TopD K G H y d2 → f d1 d2 = some d → (∀ z G' H', Grow G H G' H' → AtD K G' z d → k z H') → r x y H k
def RD1 (K : PySem.W.Frag) (r : V → Hp → VK → Prop) (f : D → Option D) : Prop := ∀ (G H : Hp) (x : V) (k : VK) (d1 d : D), Ex G H → TopD K G H x d1 → f d1 = some d → (∀ z G' H', Grow G H G' H' → AtD K G' z d → k z H') → r x H k
inductive TopDs (K : PySem.W.Frag) (G H : Hp) : List V → List D → Prop
  | nil : TopDs K G H [] []
  | cons {v : V} {vs : List V} {d : D} {ds : List D} : TopD K G H v d → TopDs K G H vs ds → TopDs K G H (v :: vs) (d :: ds)
def RDN (K : PySem.W.Frag) (r : List V → Hp → VK → Prop) (f : List D → Option D) : Prop := ∀ (G H : Hp) (xs : List V) (k : VK) (ds : List D) (d : D), Ex G H → TopDs K G H xs ds → f ds = some d → (∀ z G' H', Grow G H G' H' → AtD K G' z d → k z H') → r xs H k
theorem AtDs.emp {K : PySem.W.Frag} {G : Hp} {v : List V} {d : List D} (h : AtDs K G v d) : v.isEmpty = d.isEmpty := by
  cases h <;> rfl
theorem AtKs.emp {K : PySem.W.Frag} {G : Hp} {v : List (Key × V)} {d : List (Key × D)} (h : AtKs K G v d) : v.isEmpty = d.isEmpty := by
  cases h <;> rfl
theorem truD_ok {K : PySem.W.Frag} {G H : Hp} {v : V} {d : D} {b : Bool} (g : Ex G H) (h : TopD K G H v d) (e : truD d = some b) : TruV K v H b := by
  cases d with
  | non => cases e; rw [h.non_] <;> rfl
  | bl b => cases e; rw [h.bl_] <;> rfl
  | int i => cases e; rw [h.int_] <;> rfl
  | str s =>
    rw [h.str_]
    have e : (if s.length ≤ sizeLine then some ((s.length : Int) != 0) else none) = some b := e
    by_cases hs : s.length ≤ sizeLine
    · rw [if_pos hs] at e; cases e; exact ⟨hs, rfl⟩
    · rw [if_neg hs] at e; cases e
  | lst ds => cases e; obtain ⟨a, vs, rfl, h1, h2⟩ := h.lst_ g; exact .inl ⟨_, SqL.of h1, by rw [h2.emp]⟩
  | sq ds => cases e; obtain ⟨a, vs, rfl, h1, h2⟩ := h.sq_ g; exact .inl ⟨_, h1, by rw [h2.emp]⟩
  | tup ds => cases e; obtain ⟨a, vs, rfl, h1, _, h2⟩ := h.tup_ g; exact .inr (.inl ⟨_, h1, by rw [h2.emp]⟩)
  | dct ds => cases e; obtain ⟨a, vs, rfl, h1, h2⟩ := h.dct_ g; exact .inr (.inr ⟨_, h1, by rw [h2.emp]⟩)
  | ins _ _ => cases e
  | ty _ => cases e
  | obj _ => cases e
section
variable {c : Cz} {G : Hp} {ps : List Addr} {ρ : List Sl} {S : List Ce} {σ : L2.St} {H : Hp} {k : VK}
theorem sat_dat {o : Option D} (h : Sat c G ps ρ σ (RA c) k (dat' o S)) (ok : SOk c.X.K c.F G ps ρ S σ H) {T : Prop} (st : ∀ d, o = some d → (∀ z G' H', Grow G H G' H' → AtD c.X.K G' z d → k z H') → T) : T := by
  cases o with
  | none => exact h.elim
  | some d => exact st d rfl fun z G' H' g a => h z G' ps H' (ok.grow g) (g.ex ok.sub).1 (List.prefix_refl _) (.dat a)
theorem sat_op2 {f : D → D → Option D} {x y : Sl} {v u : V} {r : R2} (hr : RD2 c.X.K r f) (h : Sat c G ps ρ σ (RA c) k (op2 f x y S)) (o : SOk c.X.K c.F G ps ρ S σ H) (a : AtA c.X.K G ps v x) (b : AtA c.X.K G ps u y) : r v u H k := by
  unfold op2 at h
  cases e1 : vw x S with
  | none => rw [e1] at h; exact h.elim
  | some d1 =>
    cases e2 : vw y S with
    | none => rw [e1, e2] at h; exact h.elim
    | some d2 =>
      rw [e1, e2] at h
      exact sat_dat h o fun d ed kk => hr G H v u k d1 d2 d o.sub (vw_ok o a e1) (vw_ok o b e2) ed kk
theorem sat_op1 {f : D → Option D} {x : Sl} {v : V} {r : V → Hp → VK → Prop} (hr : RD1 c.X.K r f) (h : Sat c G ps ρ σ (RA c) k (op1 f x S)) (o : SOk c.X.K c.F G ps ρ S σ H) (a : AtA c.X.K G ps v x) : r v H k := by
  unfold op1 at h
  cases e1 : vw x S with
  | none => rw [e1] at h; exact h.elim
  | some d1 =>
    rw [e1] at h
    exact sat_dat h o fun d ed kk => hr G H v k d1 d o.sub (vw_ok o a e1) ed kk
theorem vws_ok (o : SOk c.X.K c.F G ps ρ S σ H) : ∀ {vs : List V} {xs : List Sl} {ds : List D}, AtAs c.X.K G ps vs xs → vws xs S = some ds → TopDs c.X.K G H vs ds
  | _, _, _, .nil, e => by cases e; exact .nil
  | _ :: _, x :: r, ds, .cons a t, e => by
    unfold vws at e
    cases e1 : vw x S with
    | none => rw [e1] at e; cases e
    | some d =>
      cases e2 : vws r S with
      | none => rw [e1, e2] at e; cases e
      | some dr => rw [e1, e2] at e; cases e; exact .cons (vw_ok o a e1) (vws_ok o t e2)
theorem sat_opN {f : List D → Option D} {xs : List Sl} {vs : List V} {r : List V → Hp → VK → Prop} (hr : RDN c.X.K r f) (h : Sat c G ps ρ σ (RA c) k (opN f xs S)) (o : SOk c.X.K c.F G ps ρ S σ H) (a : AtAs c.X.K G ps vs xs) : r vs H k := by
  unfold opN at h
  cases e1 : vws xs S with
  | none => rw [e1] at h; exact h.elim
  | some d1 =>
    rw [e1] at h
    exact sat_dat h o fun d ed kk => hr G H vs k d1 d o.sub (vws_ok o a e1) ed kk
theorem truS_ok (o : SOk c.X.K c.F G ps ρ S σ H) {v : V} {x : Sl} {b : Bool} (a : AtA c.X.K G ps v x) (e : truS x S = some b) : TruV c.X.K v H b := by
  unfold truS at e
  cases e1 : vw x S with
  | none => rw [e1] at e; cases e
  | some d => rw [e1] at e; exact truD_ok o.sub (vw_ok o a e1) e
theorem AtAs.toDs {K : PySem.W.Frag} {G : Hp} {ps : List Addr} : ∀ {vs : List V} {as : List Sl} {ds : List D}, AtAs K G ps vs as → datas as = some ds → AtDs K G vs ds
  | _, _, _, .nil, e => by cases e; exact .nil
  | _ :: vs, .dat d :: as, ds, .cons (.dat h) t, e => by
    unfold datas at e
    cases q : datas as with
    | none => rw [q] at e; cases e
    | some ds => rw [q] at e; cases e; exact .cons h (AtAs.toDs t q)
  | _, _, _, .cons (.own h) t, e => by cases e
end
/-! ### the rules -/
section
variable {c : Cz} {a b d e t : Expr} {es : List Expr} {pos : Pos} {f g h : ME} {ft gt : MT} {fa : MA'}
theorem de_var (i : Nat) {x : Str} (hN : c.X.N[i]? = some x := by rfl) (hv : Vis c.X.env.scope x := by first | exact Or.inl rfl | exact Or.inr (Or.inl rfl) | exact Or.inr (Or.inr rfl))
    (h1 : (x == ("__debug__" : Str)) = false := by decide) (h2 : (x == ("__classdict__" : Str)) = false := by decide) : DE c (.Name x pos) (mVar i) := fun ρ S σ G ps H k o q => by
  unfold mVar at q
  cases e : ρ[i]? with
  | none => rw [e] at q; exact q.elim
  | some a =>
    rw [e] at q
    cases a with
    | no => exact q.elim
    | err _ _ => exact q.elim
    | dat d => obtain ⟨v, hs, hv'⟩ := o.slot i _ e (fun z => nomatch z); cases hv' with | val hv' => exact ⟨_, pe_var hN hv h1 h2, v, hs, q.ok o hv'⟩
    | own d => obtain ⟨v, hs, hv'⟩ := o.slot i _ e (fun z => nomatch z); cases hv' with | val hv' => exact ⟨_, pe_var hN hv h1 h2, v, hs, q.ok o hv'⟩
theorem de_int {i : Int} {j : Nat} : DE c (.Constant (.int i) j pos) (mK (.int i)) := fun ρ S σ G ps H k o q => ⟨_, pe_int, q.ok o (AtA.dat (.int i))⟩
theorem de_bl {i : Bool} {j : Nat} : DE c (.Constant (.bool i) j pos) (mK (.bl i)) := fun ρ S σ G ps H k o q => ⟨_, pe_bl, q.ok o (AtA.dat (.bl i))⟩
theorem de_non {j : Nat} : DE c (.Constant .none j pos) (mK .non) := fun ρ S σ G ps H k o q => ⟨_, pe_non, q.ok o (AtA.dat .non)⟩
theorem de_str {i : Str} {j : Nat} : DE c (.Constant (.str i) j pos) (mK (.str i)) := fun ρ S σ G ps H k o q => ⟨_, pe_str, q.ok o (AtA.dat (.str i))⟩
theorem de_glob {x : Str} {d : D} (h : KonD c.X.K c.X.mg x d) (hg : Gl c.X x := by rfl) (hd : (x == ("__debug__" : Str)) = false := by decide) : DE c (.Name x pos) (mK d) := fun ρ S σ G ps H k o q => by
  obtain ⟨u, v, h1, h2, h3⟩ := h
  exact ⟨_, pe_glob hg h1 h2 hd, q.ok o (AtA.dat (h3 G))⟩
theorem de_ty {x : Str} {n : String} (hm : c.X.mg x = none) (hv : bootBuiltins x = some (.type n)) (hg : Gl c.X x := by rfl) (hn : x ≠ "__name__" := by decide) (hd : (x == ("__debug__" : Str)) = false := by decide) : DE c (.Name x pos) (mK (.ty n)) := fun ρ S σ G ps H k o q =>
  ⟨_, pe_bltn (v := .ty n) hg hm hv rfl hn hd, q.ok o (AtA.dat (.ty n))⟩
theorem de_op {op : Operator} {r : R2} {u : D → D → Option D} (ho : OpR c.X (binaryOp op) r) (hr : RD2 c.X.K r u) (ha : DE c a f) (hb : DE c b g) : DE c (.BinOp a op b pos) (mOp u f g) := fun ρ S σ G ps H k o q =>
  ⟨_, pe_op ho we_pe we_pe, ha _ _ _ _ _ _ _ o (Sat.bind q fun x S1 v1 G1 ps1 H1 o1 e1 p1 a1 q => hb _ _ _ _ _ _ _ o1 (Sat.bind q fun y S2 v2 G2 ps2 H2 o2 e2 p2 a2 q =>
    sat_op2 hr q o2 (AtA.mono e2 p2 a1) a2))⟩
theorem de_cmp {op : CmpOp} {r : R2} {u : D → D → Option D} (ho : OpR c.X (compareOp op) r) (hr : RD2 c.X.K r u) (ha : DE c a f) (hb : DE c b g) (hm : behindInMarks op b = false := by first | exact nomark _ | rfl) : DE c (.Compare a [op] [b] pos) (mOp u f g) := fun ρ S σ G ps H k o q =>
  ⟨_, pe_cmpR ho we_pe we_pe hm, ha _ _ _ _ _ _ _ o (Sat.bind q fun x S1 v1 G1 ps1 H1 o1 e1 p1 a1 q => hb _ _ _ _ _ _ _ o1 (Sat.bind q fun y S2 v2 G2 ps2 H2 o2 e2 p2 a2 q =>
    sat_op2 hr q o2 (AtA.mono e2 p2 a1) a2))⟩
theorem de_un {op : UnaryOp} {r : V → Hp → VK → Prop} {u : D → Option D} (ho : UnR c.X (unaryOp op) r) (hr : RD1 c.X.K r u) (ha : DE c a f) : DE c (.UnaryOp op a pos) (mUn u f) := fun ρ S σ G ps H k o q =>
  ⟨_, pe_un ho we_pe, ha _ _ _ _ _ _ _ o (Sat.bind q fun x S1 v1 G1 ps1 H1 o1 e1 p1 a1 q => sat_op1 hr q o1 a1)⟩
theorem de_ix {r : R2} {u : D → D → Option D} (ho : IxR c.X r) (hr : RD2 c.X.K r u) (ha : DE c a f) (hb : DE c b g) (hs : PlainIx b := by exact fun _ _ => rfl) : DE c (.Subscript a b pos) (mOp u f g) := fun ρ S σ G ps H k o q =>
  ⟨_, pe_ix ho we_pe we_pe hs, ha _ _ _ _ _ _ _ o (Sat.bind q fun x S1 v1 G1 ps1 H1 o1 e1 p1 a1 q => hb _ _ _ _ _ _ _ o1 (Sat.bind q fun y S2 v2 G2 ps2 H2 o2 e2 p2 a2 q =>
    sat_op2 hr q o2 (AtA.mono e2 p2 a1) a2))⟩
/-! and, or, not, if -/
theorem de_one {op : BoolOp} (ha : DE c a f) : DE c (.BoolOp op [a] pos) f := fun ρ S σ G ps H k o q => ⟨_, pe_one we_pe, ha _ _ _ _ _ _ _ o q⟩
theorem de_and (ha : DE c a f) (hb : DE c (.BoolOp .And (b :: es) pos) g) : DE c (.BoolOp .And (a :: b :: es) pos) (mAnd f g) := fun ρ S σ G ps H k o q =>
  ⟨_, pe_andT we_pe we_pe, ha _ _ _ _ _ _ _ o (Sat.bind q fun x S1 v1 G1 ps1 H1 o1 e1 p1 a1 q => by
    cases et : truS x S1 with
    | none => rw [et] at q; exact q.elim
    | some t =>
      rw [et] at q
      refine ⟨t, truS_ok o1 a1 et, ?_⟩
      cases t with
      | true => exact iteT (hb _ _ _ _ _ _ _ o1 q)
      | false => exact iteF (q.ok o1 a1))⟩
theorem de_or (ha : DE c a f) (hb : DE c (.BoolOp .Or (b :: es) pos) g) : DE c (.BoolOp .Or (a :: b :: es) pos) (mOr f g) := fun ρ S σ G ps H k o q =>
  ⟨_, pe_orT we_pe we_pe, ha _ _ _ _ _ _ _ o (Sat.bind q fun x S1 v1 G1 ps1 H1 o1 e1 p1 a1 q => by
    cases et : truS x S1 with
    | none => rw [et] at q; exact q.elim
    | some t =>
      rw [et] at q
      refine ⟨t, truS_ok o1 a1 et, ?_⟩
      cases t with
      | false => exact iteF (hb _ _ _ _ _ _ _ o1 q)
      | true => exact iteT (q.ok o1 a1))⟩
theorem de_not (ha : DE c a f) : DE c (.UnaryOp .Not a pos) (mNot f) := fun ρ S σ G ps H k o q =>
  ⟨_, pe_notT we_pe, ha _ _ _ _ _ _ _ o (Sat.bind q fun x S1 v1 G1 ps1 H1 o1 e1 p1 a1 q => by
    cases et : truS x S1 with
    | none => rw [et] at q; exact q.elim
    | some t => rw [et] at q; exact ⟨t, truS_ok o1 a1 et, q.ok o1 (AtA.dat (.bl _))⟩)⟩
theorem de_if (ht : DT c t ft) (ha : DE c a f) (hb : DE c b g) : DE c (.IfExp t a b pos) (mIf ft f g) := fun ρ S σ G ps H k o q =>
  ⟨_, pe_ifExp wt_pt we_pe we_pe, ht _ _ _ _ _ _ _ o (Sat.bind q fun x S1 v1 G1 ps1 H1 o1 e1 p1 a1 q => by
    cases a1
    cases x with
    | true => exact iteT (ha _ _ _ _ _ _ _ o1 q)
    | false => exact iteF (hb _ _ _ _ _ _ _ o1 q))⟩
theorem de_chain {op op' : CmpOp} {r r' : R2} {u u' : D → D → Option D} (ho : OpR c.X (compareOp op) r) (hr : RD2 c.X.K r u) (ho' : OpR c.X (compareOp op') r') (hr' : RD2 c.X.K r' u') (ha : DE c a f) (hb : DE c b g) (hd : DE c d h)
    (hm : lastMarks [op, op'] [b, d] = false := by with_unfolding_all rfl) : DE c (.Compare a [op, op'] [b, d] pos) (mChain u u' f g h) := fun ρ S σ G ps H k o q =>
  ⟨_, pe_chain ho ho' we_pe we_pe we_pe hm, ha _ _ _ _ _ _ _ o (Sat.bind q fun x S1 v1 G1 ps1 H1 o1 e1 p1 a1 q => hb _ _ _ _ _ _ _ o1 (Sat.bind q fun y S2 v2 G2 ps2 H2 o2 e2 p2 a2 q =>
    sat_op2 hr (Sat.bind q fun z S3 v3 G3 ps3 H3 o3 e3 p3 a3 q => by
      cases a3 with
      | dat a3 => cases a3 with
        | bl t =>
          refine ⟨t, rfl, ?_⟩
          cases t with
          | true => exact iteT (hd _ _ _ _ _ _ _ o3 (Sat.bind q fun w S4 v4 G4 ps4 H4 o4 e4 p4 a4 q => sat_op2 hr' q o4 (AtA.mono (e3.trans e4) (p3.trans p4) a2) a4))
          | false => exact iteF (q.ok o3 (AtA.dat (.bl false)))
        | _ => exact q.elim
      | own _ => exact q.elim) o2 (AtA.mono e2 p2 a1) a2))⟩
/-! tests -/
theorem dt_tru (ha : DE c a f) (he : ∀ whole, isTrue a c.X.env whole = (do let v ← whole; standAt a.pos; holding [v] (truthy v)) := by intro _; rfl) : DT c a (tTru f) := fun ρ S σ G ps H k o q =>
  ⟨_, pt_truth we_pe he, ha _ _ _ _ _ _ _ o (Sat.bind q fun x S1 v1 G1 ps1 H1 o1 e1 p1 a1 q => by
    cases et : truS x S1 with
    | none => rw [et] at q; exact q.elim
    | some t => rw [et] at q; exact ⟨t, truS_ok o1 a1 et, q.ok o1 rfl⟩)⟩
theorem sat_asB {G : Hp} {ps : List Addr} {ρ : List Sl} {σ : L2.St} {k : Bool → Hp → Prop} {r : RE Sl} (h : Sat c G ps ρ σ RB k (asB r)) : Sat c G ps ρ σ (RA c) (fun x H' => ∃ t, x = .bl t ∧ k t H') r := by
  cases r with
  | ok x S =>
    intro v G' ps' H' o e p a
    cases x with
    | dat d =>
      cases d with
      | bl t => cases a with | dat a => cases a; exact ⟨t, rfl, h t G' ps' H' o e p rfl⟩
      | _ => exact h.elim
    | _ => exact h.elim
  | exc i pl S => exact h
  | stuck => exact h
theorem dt_cmp {op : CmpOp} {r : R2} {u : D → D → Option D} (ho : OpR c.X (compareOp op) r) (hr : RD2 c.X.K r u) (ha : DE c a f) (hb : DE c b g) (hm : behindInMarks op b = false := by first | exact nomark _ | rfl) : DT c (.Compare a [op] [b] pos) (tOf (mOp u f g)) := fun ρ S σ G ps H k o q =>
  ⟨_, pt_cmpR ho we_pe we_pe hm, ha _ _ _ _ _ _ _ o (Sat.bind (sat_asB q) fun x S1 v1 G1 ps1 H1 o1 e1 p1 a1 q => hb _ _ _ _ _ _ _ o1 (Sat.bind q fun y S2 v2 G2 ps2 H2 o2 e2 p2 a2 q =>
    sat_op2 hr q o2 (AtA.mono e2 p2 a1) a2))⟩
theorem dt_chain {op op' : CmpOp} {r r' : R2} {u u' : D → D → Option D} (ho : OpR c.X (compareOp op) r) (hr : RD2 c.X.K r u) (ho' : OpR c.X (compareOp op') r') (hr' : RD2 c.X.K r' u') (ha : DE c a f) (hb : DE c b g) (hd : DE c d h)
    (hm : lastMarks [op, op'] [b, d] = false := by with_unfolding_all rfl) : DT c (.Compare a [op, op'] [b, d] pos) (tOf (mChain u u' f g h)) := fun ρ S σ G ps H k o q =>
  ⟨_, pt_chain ho ho' we_pe we_pe we_pe hm, ha _ _ _ _ _ _ _ o (Sat.bind (sat_asB q) fun x S1 v1 G1 ps1 H1 o1 e1 p1 a1 q => hb _ _ _ _ _ _ _ o1 (Sat.bind q fun y S2 v2 G2 ps2 H2 o2 e2 p2 a2 q =>
    sat_op2 hr (Sat.bind q fun z S3 v3 G3 ps3 H3 o3 e3 p3 a3 q => by
      cases a3 with
      | dat a3 => cases a3 with
        | bl t =>
          refine ⟨t, rfl, ?_⟩
          cases t with
          | true => exact iteT (hd _ _ _ _ _ _ _ o3 (Sat.bind q fun w S4 v4 G4 ps4 H4 o4 e4 p4 a4 q => sat_op2 hr' q o4 (AtA.mono (e3.trans e4) (p3.trans p4) a2) a4))
          | false => exact iteF (q.ok o3 (AtA.dat (.bl false)))
        | _ => exact q.elim
      | own _ => exact q.elim) o2 (AtA.mono e2 p2 a1) a2))⟩
theorem dt_w (h : DW c a ft) : DT c a ft := fun ρ S σ G ps H k o q => ⟨_, ww_pw.pt, h _ _ _ _ _ _ _ o q⟩
theorem dw_and1 (ha : DT c a ft) : DW c (.BoolOp .And [a] pos) ft := fun ρ S σ G ps H k o q => ⟨_, pw_and1 wt_pt, ha _ _ _ _ _ _ _ o q⟩
theorem dw_or1 (ha : DT c a ft) : DW c (.BoolOp .Or [a] pos) ft := fun ρ S σ G ps H k o q => ⟨_, pw_or1 wt_pt, ha _ _ _ _ _ _ _ o q⟩
theorem dw_and (ha : DT c a ft) (hb : DW c (.BoolOp .And (b :: es) pos) gt) : DW c (.BoolOp .And (a :: b :: es) pos) (tAnd ft gt) := fun ρ S σ G ps H k o q =>
  ⟨_, pw_and wt_pt ww_pw, ha _ _ _ _ _ _ _ o (Sat.bind q fun x S1 v1 G1 ps1 H1 o1 e1 p1 a1 q => by
    cases a1
    cases x with
    | true => exact iteT (hb _ _ _ _ _ _ _ o1 q)
    | false => exact iteF (q.ok o1 rfl))⟩
theorem dw_or (ha : DT c a ft) (hb : DW c (.BoolOp .Or (b :: es) pos) gt) : DW c (.BoolOp .Or (a :: b :: es) pos) (tOr ft gt) := fun ρ S σ G ps H k o q =>
  ⟨_, pw_or wt_pt ww_pw, ha _ _ _ _ _ _ _ o (Sat.bind q fun x S1 v1 G1 ps1 H1 o1 e1 p1 a1 q => by
    cases a1
    cases x with
    | false => exact iteF (hb _ _ _ _ _ _ _ o1 q)
    | true => exact iteT (q.ok o1 rfl))⟩
theorem dt_not (ha : DT c a ft) : DT c (.UnaryOp .Not a pos) (tNot ft) := fun ρ S σ G ps H k o q =>
  ⟨_, pt_not wt_pt, ha _ _ _ _ _ _ _ o (Sat.bind q fun x S1 v1 G1 ps1 H1 o1 e1 p1 a1 q => by
    cases a1
    exact q.ok o1 rfl)⟩
/-! arguments -/
theorem da_nil : DA c [] aNil := fun ρ S σ G ps H k o q => ⟨_, pa_nil, q.ok o AtAs.nil⟩
theorem da_cons (ha : DE c a f) (hb : DA c es fa) (hs : starEach (a :: es) c.X.env = (false, eval a c.X.env) :: starEach es c.X.env := by rfl) : DA c (a :: es) (aCons f fa) := fun ρ S σ G ps H k o q =>
  ⟨_, pa_cons we_pe wa_pa hs, ha _ _ _ _ _ _ _ o (Sat.bind q fun x S1 v1 G1 ps1 H1 o1 e1 p1 a1 q => hb _ _ _ _ _ _ _ o1 (Sat.bind q fun y S2 v2 G2 ps2 H2 o2 e2 p2 a2 q => q.ok o2 (AtAs.cons (AtA.mono e2 p2 a1) a2)))⟩
theorem de_tup {j : Nat} (ha : DA c es fa) : DE c (.Tuple es j pos) (mTup fa) := fun ρ S σ G ps H k o q =>
  ⟨_, pe_tup wa_pa, ha _ _ _ _ _ _ _ o (Sat.bind q fun x S1 v1 G1 ps1 H1 o1 e1 p1 a1 q => by
    cases ed : datas x with
    | none => rw [ed] at q; exact q.elim
    | some ds =>
      rw [ed] at q
      dsimp only at q
      have hv := AtAs.toDs a1 ed
      by_cases hl : ds.length ≤ 1000
      · rw [if_pos hl] at q
        refine ⟨by rw [hv.len]; exact Nat.le_trans hl (by decide), fun p hp => ?_⟩
        have gp : G1 p = none := o1.sub.back hp
        exact q (.ref p) (upd G1 p (.tup v1)) ps1 _ (o1.put _ hp) (Ex.new gp) (List.prefix_refl _) (.dat (.tup (SqT.of upd_same) (hv.mono (Ex.new gp))))
      · rw [if_neg hl] at q; exact q.elim)⟩
theorem de_lst (ha : DA c es fa) : DE c (.List es pos) (mLst fa) := fun ρ S σ G ps H k o q =>
  ⟨_, pe_lst wa_pa, ha _ _ _ _ _ _ _ o (Sat.bind q fun x S1 v1 G1 ps1 H1 o1 e1 p1 a1 q => by
    cases ed : datas x with
    | none => rw [ed] at q; exact q.elim
    | some ds =>
      rw [ed] at q
      dsimp only at q
      have hv := AtAs.toDs a1 ed
      by_cases hl : ds.length ≤ 1000
      · rw [if_pos hl] at q
        refine ⟨by rw [hv.len]; exact Nat.le_trans hl (by decide), fun p hp => ?_⟩
        have gp : G1 p = none := o1.sub.back hp
        exact q (.ref p) (upd G1 p (.lst v1)) ps1 _ (o1.put _ hp) (Ex.new gp) (List.prefix_refl _) (.dat (.lst upd_same (hv.mono (Ex.new gp))))
      · rw [if_neg hl] at q; exact q.elim)⟩
/-- a built-in by values -/
theorem de_callB {id : String} {r : List V → Hp → VK → Prop} {u : List D → Option D} {x : Str} {p1 : Pos} (hc : CallR c.X (.builtin id) r) (hr : RDN c.X.K r u) (hm : c.X.mg x = none) (hv : bootBuiltins x = some (.builtin id)) (ha : DA c (e :: es) fa)
    (hg : Gl c.X x := by rfl) (hn : x ≠ "__name__" := by decide) (hdb : (x == ("__debug__" : Str)) = false := by decide) (hpl : (backTo pos (starEach es c.X.env)).any (·.1) = false := by rfl) (he : starEach (e :: es) c.X.env = (false, eval e c.X.env) :: starEach es c.X.env := by rfl) : DE c (.Call (.Name x p1) (e :: es) [] pos) (mBlt u fa) := fun ρ S σ G ps H k o q =>
  ⟨_, pe_callB hc hg hm hv wa_pa (hn := hn) (hdb := hdb) (he := he) (hpl := hpl), ha _ _ _ _ _ _ _ o (Sat.bind q fun x S1 v1 G1 ps1 H1 o1 e1 p1 a1 q => sat_opN hr q o1 a1)⟩
theorem de_callTy {T : String} {r : List V → Hp → VK → Prop} {u : List D → Option D} {x : Str} {p1 : Pos} (hc : CallR c.X (.type T) r) (hr : RDN c.X.K r u) (hm : c.X.mg x = none) (hv : bootBuiltins x = some (.type T)) (ha : DA c (e :: es) fa)
    (hg : Gl c.X x := by rfl) (hn : x ≠ "__name__" := by decide) (hdb : (x == ("__debug__" : Str)) = false := by decide) (hpl : (backTo pos (starEach es c.X.env)).any (·.1) = false := by rfl) (he : starEach (e :: es) c.X.env = (false, eval e c.X.env) :: starEach es c.X.env := by rfl) : DE c (.Call (.Name x p1) (e :: es) [] pos) (mBlt u fa) := fun ρ S σ G ps H k o q =>
  ⟨_, pe_callTy hc hg hm hv wa_pa (hn := hn) (hdb := hdb) (he := he) (hpl := hpl), ha _ _ _ _ _ _ _ o (Sat.bind q fun x S1 v1 G1 ps1 H1 o1 e1 p1 a1 q => sat_opN hr q o1 a1)⟩
end
end Mir

/-! Changes of the state. -/
namespace Mir
open PySem PySem.Spec L2
variable [CM : ClsMap]
section
variable {K : PySem.W.Frag} {F : Fx} {G H : Hp} {ps : List Addr} {ρ : List Sl} {S : List Ce} {σ : L2.St}
theorem SOk.setA (o : SOk K F G ps ρ S σ H) (i : Nat) {v : V} {a : Sl} (h : AtA K G ps v a) : SOk K F G ps (ρ.set i a) S (σ.set i (some v)) H := by
  refine ⟨o.sub, o.base, o.keep, o.new, o.pre, o.nd, o.fresh, o.there, o.plen, by rw [List.length_set, List.length_set]; exact o.slen, fun j x q n => ?_, o.cell⟩
  by_cases hj : j = i
  · subst hj
    have hlt : j < ρ.length := by
      have z := (List.getElem?_eq_some_iff.mp q).1
      rw [List.length_set] at z; exact z
    rw [List.getElem?_set_self hlt] at q
    cases q
    exact ⟨v, List.getElem?_set_self (by rw [o.slen]; exact hlt), .val h⟩
  · rw [List.getElem?_set_ne (Ne.symm hj)] at q ⊢
    exact o.slot j x q n
theorem SOk.setN (o : SOk K F G ps ρ S σ H) (i : Nat) (v : Option V) : SOk K F G ps (ρ.set i .no) S (σ.set i v) H := by
  refine ⟨o.sub, o.base, o.keep, o.new, o.pre, o.nd, o.fresh, o.there, o.plen, by rw [List.length_set, List.length_set]; exact o.slen, fun j x q n => ?_, o.cell⟩
  by_cases hj : j = i
  · subst hj
    have hlt : j < ρ.length := by
      have z := (List.getElem?_eq_some_iff.mp q).1
      rw [List.length_set] at z; exact z
    rw [List.getElem?_set_self hlt] at q
    cases q
    exact (n rfl).elim
  · rw [List.getElem?_set_ne (Ne.symm hj)] at q ⊢
    exact o.slot j x q n
theorem SOk.ownlt (o : SOk K F G ps ρ S σ H) (i k : Nat) (h : ρ[i]? = some (.own k)) : k < S.length := by
  obtain ⟨v, _, a⟩ := o.slot i _ h (fun z => nomatch z)
  cases a with
  | val a => cases a with
    | own a => rw [← o.plen]; exact (List.getElem?_eq_some_iff.mp a).1
theorem AtA.lt {v : V} {k : Nat} (a : AtA K G ps v (.own k)) (h : ps.length = S.length) : k < S.length := by
  cases a with
  | own a => rw [← h]; exact (List.getElem?_eq_some_iff.mp a).1
theorem SOk.cellOf (o : SOk K F G ps ρ S σ H) {p : Addr} {j : Nat} {cl : Ce} (hp : ps[j]? = some p) (hS : S[j]? = some cl) : CeAt K G ps H p cl := o.cell j p cl hp hS
theorem pnd {ps : List Addr} (nd : ps.Nodup) {j k : Nat} {p q : Addr} (hp : ps[j]? = some p) (hq : ps[k]? = some q) (n : k ≠ j) : q ≠ p := fun y => n (by
  subst y
  obtain ⟨l1, e1⟩ := List.getElem?_eq_some_iff.mp hq
  obtain ⟨l2, e2⟩ := List.getElem?_eq_some_iff.mp hp
  exact (List.getElem_inj nd).mp (e1.trans e2.symm))
/-- a new cell at the end -/
theorem SOk.push (o : SOk K F G ps ρ S σ H) {p : Addr} {u : HO} {cl : Ce} (hp : H p = none) (hc : CeAt K G (ps ++ [p]) (upd H p u) p cl) : SOk K F G (ps ++ [p]) ρ (S ++ [cl]) σ (upd H p u) := by
  have npp : p ∉ ps := fun hm => by
    obtain ⟨w, hw⟩ := o.there p hm
    rw [hp] at hw; cases hw
  have pp : ps <+: ps ++ [p] := List.prefix_append _ _
  refine ⟨fun a u e => (Ex.new hp) _ _ (o.sub a u e), o.base, fun a u n e => (Ex.new hp) _ _ (o.keep a u n e), o.new, o.pre.trans pp, ?_, fun q hq => ?_, fun q hq => ?_, by rw [List.length_append, List.length_append, o.plen]; rfl, o.slen, fun j x q n => ?_, fun k q cl' q1 q2 => ?_⟩
  · rw [List.nodup_append]
    exact ⟨o.nd, by simp, fun a ha b hb => by
      have e : b = p := by simpa using hb
      subst e
      exact fun e => npp (e ▸ ha)⟩
  · rcases List.mem_append.mp hq with z | z
    · exact o.fresh q z
    · have e : q = p := by simpa using z
      subst e
      exact .inr (o.free0 hp)
  · rcases List.mem_append.mp hq with z | z
    · exact (o.there q z).imp fun w e => (Ex.new hp) _ _ e
    · have e : q = p := by simpa using z
      subst e
      exact ⟨_, upd_same⟩
  · obtain ⟨v, h1, h2⟩ := o.slot j x q n
    exact ⟨v, h1, h2.mono (Ex.refl G) pp⟩
  · by_cases hk : k < ps.length
    · rw [List.getElem?_append_left hk] at q1
      rw [List.getElem?_append_left (by rw [← o.plen]; exact hk)] at q2
      have hqp : q ≠ p := fun e => npp (e ▸ List.mem_of_getElem? q1)
      exact (o.cell k q cl' q1 q2).grow (Ex.refl G) pp (fun z _ => z) (upd_ne hqp)
    · have hk' : k = ps.length := by
        have z := (List.getElem?_eq_some_iff.mp q1).1
        rw [List.length_append] at z
        have : ([p] : List Addr).length = 1 := rfl
        omega
      subst hk'
      have q1' : (ps ++ [p])[ps.length]? = some p := by simp
      rw [q1'] at q1; cases q1
      have q2' : (S ++ [cl])[ps.length]? = some cl := by rw [o.plen]; simp
      rw [q2'] at q2; cases q2
      exact hc
theorem SOk.pushL (o : SOk K F G ps ρ S σ H) {p : Addr} {vs : List V} {ds : List D} (hp : H p = none) (h : AtDs K G vs ds) : SOk K F G (ps ++ [p]) ρ (S ++ [.lst ds]) σ (upd H p (.lst vs)) := o.push hp ⟨o.sub.back hp, vs, upd_same, h⟩
/-- a cell is written -/
theorem SOk.wr (o : SOk K F G ps ρ S σ H) {j : Nat} {p : Addr} {cl cl' : Ce} {u : HO} (hp : ps[j]? = some p) (hS : S[j]? = some cl) (gp : G p = none) (hc : CeAt K G ps (upd H p u) p cl') : SOk K F G ps ρ (S.set j cl') σ (upd H p u) := by
  have pm := List.mem_of_getElem? hp
  refine ⟨fun a w e => ?_, o.base, fun a w n e => ?_, o.new, o.pre, o.nd, o.fresh, fun q hq => ?_, by rw [List.length_set]; exact o.plen, o.slen, o.slot, fun k q cl2 q1 q2 => ?_⟩
  · rw [upd_ne (fun z => by subst z; rw [gp] at e; cases e)]; exact o.sub a w e
  · by_cases ha : a = p
    · subst ha
      rcases o.fresh a pm with z | z
      · exact (n z).elim
      · rw [e] at z; cases z
    · rw [upd_ne ha]; exact o.keep a w n e
  · by_cases hq' : q = p
    · subst hq'; exact ⟨_, upd_same⟩
    · rw [upd_ne hq']; exact o.there q hq
  · by_cases hk : k = j
    · subst hk
      rw [hp] at q1; cases q1
      rw [List.getElem?_set_self (List.getElem?_eq_some_iff.mp hS).1] at q2
      cases q2
      exact hc
    · rw [List.getElem?_set_ne (Ne.symm hk)] at q2
      exact (o.cell k q cl2 q1 q2).grow (Ex.refl G) (List.prefix_refl _) (fun z _ => z) (upd_ne (pnd o.nd hp q1 hk))
/-! ### calls: the frame of the caller and of the callee -/
theorem SOk.ent (o : SOk K F G ps ρ S σ H) : SOk K ⟨ps, H, G, 0, 0⟩ G ps [] (S.map fun c => c) [] H := by
  rw [List.map_id']
  refine ⟨o.sub, Ex.refl G, fun a o n e => e, fun a o e => .inl e, List.prefix_refl _, o.nd, fun p h => .inl h, o.there, o.plen, rfl, fun i a q => by simp at q, fun k p cl h1 h2 => ?_⟩
  exact o.cell k p cl h1 h2
theorem SOk.ent' (o : SOk K F G ps ρ S σ H) : SOk K ⟨ps, H, G, 0, 0⟩ G ps [] S [] H := by
  have z := o.ent
  rw [List.map_id'] at z
  exact z
theorem SOk.ret (o : SOk K F G ps ρ S σ H) {G' H' : Hp} {ps' : List Addr} {S' : List Ce} (q : SOk K ⟨ps, H, G, 0, 0⟩ G' ps' [] S' [] H') : SOk K F G' ps' ρ S' σ H' := by
  refine ⟨q.sub, o.base.trans q.base, fun a w n e => ?_, fun a w e => ?_, o.pre.trans q.pre, q.nd, fun p hp => ?_, q.there, q.plen, o.slen, fun i a h n => ?_, fun k p cl h1 h2 => ?_⟩
  · have h1 := o.keep a w n e
    by_cases hm : a ∈ ps
    · exfalso
      rcases o.fresh a hm with z | z
      · exact n z
      · rw [e] at z; cases z
    · exact q.keep a w hm h1
  · rcases q.new a w e with z | z
    · exact o.new a w z
    · exact .inr (o.free0 z)
  · rcases q.fresh p hp with z | z
    · exact o.fresh p z
    · exact .inr (o.free0 z)
  · obtain ⟨v, h1, h2⟩ := o.slot i a h n
    exact ⟨v, h1, h2.mono q.base q.pre⟩
  · exact q.cell k p cl h1 h2
/-- no slots -/
theorem SOk.bare (o : SOk K F G ps ρ S σ H) : SOk K F G ps [] S [] H := ⟨o.sub, o.base, o.keep, o.new, o.pre, o.nd, o.fresh, o.there, o.plen, rfl, fun i a q => by simp at q, o.cell⟩
/-- whether no cell's attribute names a cell from n on -/
def slLt (n : Nat) : Sl → Bool
  | .own k => decide (k < n)
  | .no => true
  | .dat _ => true
  | .err _ _ => true
def ceLt (n : Nat) : Ce → Bool
  | .ins _ fs => fs.all fun f => slLt n f.2
  | _ => true
def okTake (n : Nat) (S : List Ce) : Bool := (S.take n).all (ceLt n)
omit CM in
theorem take_get {α : Type} {l : List α} {n k : Nat} {x : α} (h : (l.take n)[k]? = some x) : k < n ∧ l[k]? = some x := by
  rw [List.getElem?_take] at h
  split at h
  · exact ⟨by assumption, h⟩
  · cases h
theorem AtA.take {v : V} {a : Sl} {n : Nat} (h : AtA K G ps v a) (l : slLt n a = true) : AtA K G (ps.take n) v a := by
  cases h with
  | dat h => exact .dat h
  | own h => exact .own (by rw [List.getElem?_take_of_lt (of_decide_eq_true l)]; exact h)
theorem SlAt.take {ea ed : Addr} {v : V} {a : Sl} {n : Nat} (h : SlAt K G ps ea ed v a) (l : slLt n a = true) : SlAt K G (ps.take n) ea ed v a := by
  cases h with
  | val h => exact .val (h.take l)
  | err h k => exact .err h k
theorem AtSs.take {n : Nat} : ∀ {v : List (Str × V)} {a : List (Str × Sl)}, AtSs K G ps v a → (a.all fun f => slLt n f.2) = true → AtSs K G (ps.take n) v a
  | _, _, .nil, _ => .nil
  | _, _, .cons h t, l => by
    rw [List.all_cons, Bool.and_eq_true] at l
    exact .cons (h.take l.1) (AtSs.take t l.2)
theorem CeAt.take {n : Nat} {p : Addr} {cl : Ce} (h : CeAt K G ps H p cl) (l : ceLt n cl = true) : CeAt K G (ps.take n) H p cl := by
  cases cl with
  | gone => trivial
  | lst ds => exact h
  | dct ds => exact h
  | ins C fs => obtain ⟨z1, dx, vs, z2, z3⟩ := h; exact ⟨z1, dx, vs, z2, z3.take l⟩
/-- the cells from n on are forgotten -/
theorem SOk.takeN (o : SOk K F G ps ρ S σ H) {n : Nat} (hn : F.P0.length ≤ n) (hl : n ≤ S.length) (ok : okTake n S = true) (hr : ∀ (i : Nat) (a : Sl), ρ[i]? = some a → slLt n a = true) : SOk K F G (ps.take n) ρ (S.take n) σ H := by
  refine ⟨o.sub, o.base, o.keep, o.new, List.prefix_take_iff.mpr ⟨o.pre, hn⟩, o.nd.sublist (List.take_sublist _ _), fun p hp => o.fresh p (List.mem_of_mem_take hp), fun p hp => o.there p (List.mem_of_mem_take hp), by rw [List.length_take, List.length_take, o.plen], o.slen, fun i a h m => ?_, fun k p cl h1 h2 => ?_⟩
  · obtain ⟨v, q1, q2⟩ := o.slot i a h m
    exact ⟨v, q1, q2.take (hr i a h)⟩
  · obtain ⟨_, q1⟩ := take_get h1
    obtain ⟨_, q2⟩ := take_get h2
    exact (o.cell k p cl q1 q2).take (List.all_eq_true.mp ok cl (List.mem_of_getElem? h2))
end
/-! ### the last cell as data; a def's answer -/
/-- a fresh cell as data -/
def thaw : Ce → Option D := ceD
/-- the cell j, the last one, made above n, becomes data -/
def frzL (n : Nat) (r : RE Sl) : RE Sl := match r with
  | .ok (.own j) S => if n ≤ j ∧ j + 1 = S.length ∧ okTake j S = true then
      match (S[j]?).bind ceD with
      | some d => .ok (.dat d) (S.take j)
      | none => .ok (.own j) S
    else .ok (.own j) S
  | r => r
/-- what a def hands back, the cells of its own forgotten -/
def cut (n : Nat) (r : Sl) (S : List Ce) : RE Sl := if okTake n S = true then
    match r with
    | .dat d => .ok (.dat d) (S.take n)
    | .own j => if j < n then .ok (.own j) (S.take n) else match S[j]? with
      | some cl => if ceLt n cl = true then .ok (.own n) (S.take n ++ [cl]) else .ok (.own j) S
      | none => .stuck
    | _ => .stuck
  else match r with
    | .dat d => .ok (.dat d) S
    | .own j => .ok (.own j) S
    | _ => .stuck
def cutX (n : Nat) (i : Nat) (pl : Option (Str × D)) (S : List Ce) : RE Sl := if okTake n S = true then .exc i pl (S.take n) else .exc i pl S
section
variable {K : PySem.W.Frag} {F : Fx} {G H : Hp} {ps : List Addr} {ρ : List Sl} {S : List Ce} {σ : L2.St}
/-- a cell of this frame as data -/
theorem SOk.toData (o : SOk K F G ps ρ S σ H) {j : Nat} {p : Addr} {cl : Ce} {d : D} (hj : F.P0.length ≤ j) (hp : ps[j]? = some p) (hS : S[j]? = some cl) (hd : ceD cl = some d) (hl : j + 1 = S.length) (ok : okTake j S = true) (hr : ∀ (i : Nat) (a : Sl), ρ[i]? = some a → slLt j a = true) :
    ∃ G', Ex G G' ∧ SOk K F G' (ps.take j) ρ (S.take j) σ H ∧ AtD K G' (.ref p) d := by
  obtain ⟨u, hu⟩ := o.there p (List.mem_of_getElem? hp)
  have gp : G p = none := by
    have z := o.cell j p cl hp hS
    cases cl with
    | gone => cases hd
    | lst ds => exact z.1
    | dct ds => exact z.1
    | ins C fs => exact z.1
  have eg : Ex G (upd G p u) := Ex.new gp
  have top := ceD_ok (o.cell j p cl hp hS) hd
  have q := o.takeN hj (by omega) ok hr
  have n0 : F.H0 p = none := by
    rcases o.fresh p (List.mem_of_getElem? hp) with z | z
    · exfalso
      obtain ⟨t, ht⟩ := o.pre
      obtain ⟨m, hm, hz⟩ := List.mem_iff_getElem.mp z
      have h1 : ps[m]? = some p := by rw [← ht, List.getElem?_append_left hm, List.getElem?_eq_getElem hm, hz]
      by_cases e : m = j
      · omega
      · exact pnd o.nd hp h1 e rfl
    · exact z
  have pout : p ∉ ps.take j := fun hm => by
    obtain ⟨m, hm, hz⟩ := List.mem_iff_getElem.mp hm
    have h1 : (ps.take j)[m]? = some p := by rw [List.getElem?_eq_getElem hm, hz]
    obtain ⟨h2, h3⟩ := take_get h1
    exact pnd o.nd hp h3 (by omega) rfl
  refine ⟨upd G p u, eg, ⟨fun a w e => ?_, q.base.trans eg, q.keep, fun a w e => ?_, q.pre, q.nd, q.fresh, q.there, q.plen, q.slen, fun i a h m => ?_, fun k r c2 h1 h2 => ?_⟩, ?_⟩
  · by_cases ha : a = p
    · subst ha; rw [upd_same] at e; cases e; exact hu
    · rw [upd_ne ha] at e; exact q.sub a w e
  · by_cases ha : a = p
    · subst ha; exact .inr n0
    · rw [upd_ne ha] at e; exact q.new a w e
  · obtain ⟨v, q1, q2⟩ := q.slot i a h m
    exact ⟨v, q1, q2.mono eg (List.prefix_refl _)⟩
  · have hrp : r ≠ p := fun z => pout (z ▸ List.mem_of_getElem? h1)
    exact (q.cell k r c2 h1 h2).grow eg (List.prefix_refl _) (fun z _ => by rw [upd_ne hrp]; exact z) rfl
  · cases top with
    | dat a => cases a with
      | lst h hs => rw [gp] at h; cases h
      | dct h hs => rw [gp] at h; cases h
      | ins h hs => rw [gp] at h; cases h
      | sq h hs => cases cl <;> first | (cases hd; done) | (simp only [ceD, Option.map_eq_some_iff] at hd; obtain ⟨_, _, e⟩ := hd; cases e)
      | tup h hs => cases cl <;> first | (cases hd; done) | (simp only [ceD, Option.map_eq_some_iff] at hd; obtain ⟨_, _, e⟩ := hd; cases e)
      | obj k => cases cl <;> first | (cases hd; done) | (simp only [ceD, Option.map_eq_some_iff] at hd; obtain ⟨_, _, e⟩ := hd; cases e)
    | lst h hs => rw [hu] at h; cases h; exact .lst upd_same (hs.mono eg)
    | dct h hs => rw [hu] at h; cases h; exact .dct upd_same (hs.mono eg)
    | ins h hs => rw [hu] at h; cases h; exact .ins upd_same (hs.mono eg)
end
section
variable {c : Cz} {e : Expr} {f : ME}
theorem sl_lt {K : PySem.W.Frag} {F : Fx} {G H : Hp} {ps : List Addr} {ρ : List Sl} {S : List Ce} {σ : L2.St} (o : SOk K F G ps ρ S σ H) {n : Nat} (hn : S.length ≤ n) (i : Nat) (a : Sl) (h : ρ[i]? = some a) : slLt n a = true := by
  cases a with
  | own k => exact decide_eq_true (Nat.lt_of_lt_of_le (o.ownlt i k h) hn)
  | no => rfl
  | dat _ => rfl
  | err _ _ => rfl
theorem pre_len {K : PySem.W.Frag} {F : Fx} {G H : Hp} {ps : List Addr} {ρ : List Sl} {S : List Ce} {σ : L2.St} (o : SOk K F G ps ρ S σ H) : F.P0.length ≤ S.length := by
  rw [← o.plen]; exact o.pre.length_le
/-- a fresh list, dict or object is data -/
theorem sat_frz {ρ : List Sl} {S : List Ce} {σ : L2.St} {G : Hp} {ps : List Addr} {H : Hp} {k : VK} {r : RE Sl} (o : SOk c.X.K c.F G ps ρ S σ H) (q : Sat c G ps ρ σ (RA c) k (frzL S.length r)) : Sat c G ps ρ σ (RA c) k r := by
  revert q
  cases r with
  | stuck => exact id
  | exc i pl S => exact id
  | ok r S1 =>
    cases r with
    | no => exact id
    | dat d => exact id
    | err _ _ => exact id
    | own j =>
      unfold frzL
      by_cases h : S.length ≤ j ∧ j + 1 = S1.length ∧ okTake j S1 = true
      · dsimp only
        rw [if_pos h]
        obtain ⟨h1, h2, h3⟩ := h
        cases q1 : S1[j]? with
        | none => exact id
        | some cl =>
          dsimp only [Option.bind]
          cases q2 : ceD cl with
          | none => exact id
          | some d =>
            dsimp only
            intro q v G' ps' H' o' e' p' a'
            cases a' with
            | own hp =>
              obtain ⟨G2, e2, o2, a2⟩ := o'.toData (Nat.le_trans (pre_len o) h1) hp q1 q2 h2 h3 fun i a h => sl_lt o h1 i a h
              refine q _ G2 _ H' o2 (e'.trans e2) ?_ (.dat a2)
              exact List.prefix_take_iff.mpr ⟨p', by rw [o.plen]; exact h1⟩
      · dsimp only
        rw [if_neg h]
        exact id
theorem de_frz (ha : DE c e f) : DE c e (fun ρ S => frzL S.length (f ρ S)) := fun ρ S σ G ps H k o q => ha _ _ _ _ _ _ _ o (sat_frz o q)
theorem de_lstO {es : List Expr} {pos : Pos} {fa : MA'} (ha : DA c es fa) : DE c (.List es pos) (mLstO fa) := fun ρ S σ G ps H k o q =>
  ⟨_, pe_lst wa_pa, ha _ _ _ _ _ _ _ o (Sat.bind q fun x S1 v1 G1 ps1 H1 o1 e1 p1 a1 q => by
    cases ed : datas x with
    | none => rw [ed] at q; exact q.elim
    | some ds =>
      rw [ed] at q
      dsimp only at q
      have hv := AtAs.toDs a1 ed
      by_cases hl : ds.length ≤ 1000
      · rw [if_pos hl] at q
        refine ⟨by rw [hv.len]; exact Nat.le_trans hl (by decide), fun p hp => ?_⟩
        exact q (.ref p) G1 (ps1 ++ [p]) _ (o1.pushL hp hv) (Ex.refl _) (List.prefix_append _ _) (.own (by rw [← o1.plen]; simp))
      · rw [if_neg hl] at q; exact q.elim)⟩
end
end Mir

/-! Defs and their calls. -/
namespace Mir
open PySem PySem.Spec L2
variable [CM : ClsMap]
abbrev MF := List Sl → List Ce → RE Sl
/-- what a call's answer promises -/
def Ret (K : PySem.W.Frag) (ps : List Addr) (H G : Hp) (Q : VK) (E : XK) : RE Sl → Prop
  | .ok r S' => ∀ v G' ps' H', SOk K ⟨ps, H, G, 0, 0⟩ G' ps' [] S' [] H' → AtA K G' ps' v r → Q v H'
  | .exc i pl S' => ∀ dd G' ps' H', SOk K ⟨ps, H, G, 0, 0⟩ G' ps' [] S' [] H' → ExcAt K G' dd pl → E (.ref (CM.A i)) dd H'
  | .stuck => False
def spM (K : PySem.W.Frag) (n : Nat) (F : MF) : Sp := fun vs H Q E => ∃ (G : Hp) (ps : List Addr) (S : List Ce) (as : List Sl), as.length = n ∧ SOk K ⟨ps, H, G, 0, 0⟩ G ps [] S [] H ∧ AtAs K G ps vs as ∧ Ret K ps H G Q E (F as S)
def mCall (F : MF) (a : MA') : ME := fun ρ S => (a ρ S).bind fun xs S1 => F xs S1
/-- a def as a function: n slots beyond its parameters -/
def outF (n : Nat) : RS → RE Sl
  | .nx _ S' => cut n (.dat .non) S'
  | .rt r S' => cut n r S'
  | .exc i pl _ S' => cutX n i pl S'
  | _ => .stuck
def mkF (m : Nat) (g : Nat → MS) : MF := fun as S => outF S.length (g S.length (as ++ List.replicate m .no) S)
theorem AtAs.len {K : PySem.W.Frag} {G : Hp} {ps : List Addr} : ∀ {v : List V} {d : List Sl}, AtAs K G ps v d → v.length = d.length
  | _, _, .nil => rfl
  | _, _, .cons _ hs => by rw [List.length_cons, List.length_cons, AtAs.len hs]
theorem AtAs.get {K : PySem.W.Frag} {G : Hp} {ps : List Addr} : ∀ {v : List V} {d : List Sl} {i : Nat} {x : Sl}, AtAs K G ps v d → d[i]? = some x → ∃ u, v[i]? = some u ∧ AtA K G ps u x
  | _, _, i, _, .nil, e => by simp at e
  | _, _, 0, _, .cons h _, e => by simp at e; subst e; exact ⟨_, rfl, h⟩
  | _, _, i + 1, x, .cons _ hs, e => by
    obtain ⟨u, h1, h2⟩ := AtAs.get (i := i) (x := x) hs (by simpa using e)
    exact ⟨u, by simpa using h1, h2⟩
/-- the length of what arguments come to -/
class LenA (f : MA') (n : outParam Nat) : Prop where
  ln : ∀ ρ S, match f ρ S with | .ok xs _ => xs.length = n | _ => True
instance : LenA aNil 0 := ⟨fun _ _ => rfl⟩
instance {a : ME} {f : MA'} {n : Nat} [h : LenA f n] : LenA (aCons a f) (n + 1) := ⟨fun ρ S => by
  unfold aCons
  cases e : a ρ S with
  | stuck => trivial
  | exc i pl S => trivial
  | ok x S1 =>
    have z := h.ln ρ S1
    dsimp only [RE.bind]
    cases e2 : f ρ S1 with
    | stuck => trivial
    | exc i pl S => trivial
    | ok xs S2 => rw [e2] at z; dsimp only at z ⊢; rw [List.length_cons, z]⟩
/-- a def of the module that keeps a promise -/
def Cal (P : Program) (w : World) (K : PySem.W.Frag) (mg : Str → Option Value) (base : Heap) (k : Nat) (x : Str) (sp : Sp) : Prop :=
  ∃ (f : Addr) (fd : FuncData) (ps : List Str), FnOk P w K mg base (L2.CX P w) k f fd ps sp ∧ mg x = some (.ref f) ∧ PySem.W.keepIn K (.ref f) = true ∧ Binds K fd ps []
section
variable {c : Cz} {e : Expr} {es : List Expr} {pos p1 : Pos} {fa : MA'}
theorem ret_of {G1 H1 : Hp} {ps1 : List Addr} {ρ : List Sl} {σ : L2.St} {S1 : List Ce} {k : VK} {r : RE Sl} (o1 : SOk c.X.K c.F G1 ps1 ρ S1 σ H1) (q : Sat c G1 ps1 ρ σ (RA c) k r) : Ret c.X.K ps1 H1 G1 k (fun cls d H => c.W cls d σ H) r := by
  cases r with
  | stuck => exact q
  | ok r S => exact fun v G' ps' H' o a => q v G' ps' H' (o1.ret o) o.base o.pre a
  | exc i pl S => exact fun dd G' ps' H' o a => q dd G' ps' H' (o1.ret o) o.base o.pre a
theorem de_call {k n : Nat} {x : Str} {F : MF} (C : Cal c.X.prog c.X.w c.X.K c.X.mg c.X.base k x (spM c.X.K n F)) (hr : Room k c.X.A) (ha : DA c (e :: es) fa) (hl : (e :: es).length = n := by rfl) (hg : Gl c.X x := by rfl) (hdb : (x == ("__debug__" : Str)) = false := by decide)
    (he : starEach (e :: es) c.X.env = (false, eval e c.X.env) :: starEach es c.X.env := by rfl) (hpl : (backTo pos (starEach es c.X.env)).any (·.1) = false := by rfl) [hA : LenA fa n] : DE c (.Call (.Name x p1) (e :: es) [] pos) (mCall F fa) := fun ρ S σ G ps H k o q => by
  obtain ⟨f, fd, pn, F, hm, hk, hb⟩ := C
  refine ⟨_, pe_callS F hr hg hm hk hb (fun σ => passAt c.tk σ) wa_pa (hdb := hdb) (he := he) (hpl := hpl), ha _ _ _ _ _ _ _ o ?_⟩
  have hn := hA.ln ρ S
  unfold mCall at q
  cases efa : fa ρ S with
  | stuck => rw [efa] at q; exact q
  | exc i pl S1 => rw [efa] at q; exact q
  | ok xs S1 =>
    rw [efa] at q hn
    intro v1 G1 ps1 H1 o1 e1 p1 a1
    exact ⟨G1, ps1, S1, xs, hn, o1.ent', a1, ret_of o1 (Sat.mono q e1 p1)⟩
theorem de_call0 {k : Nat} {x : Str} {F0 : MF} (C : Cal c.X.prog c.X.w c.X.K c.X.mg c.X.base k x (spM c.X.K 0 F0)) (hr : Room k c.X.A) (hg : Gl c.X x := by rfl) (hdb : (x == ("__debug__" : Str)) = false := by decide) : DE c (.Call (.Name x p1) [] [] pos) (mCall F0 aNil) := fun ρ S σ G ps H k o q => by
  obtain ⟨f, fd, pn, F, hm, hk, hb⟩ := C
  have pe : PE c.X (.Call (.Name x p1) [] [] pos) (tCallS (spM c.X.K 0 F0) (L2.WE c.W) tNil) := ⟨fun pins s σ H Q I h =>
    wpAny_Call_Name_kw (ld_glob I hg hm (PySem.W.callWith_K0 I.kIn hk (run_fnS (us := []) F hr hb (passAt c.tk σ) I .nil h)) hdb)⟩
  exact ⟨_, pe, G, ps, S, [], rfl, o.ent', .nil, ret_of o q⟩
end
/-! ### a def's body -/
abbrev czOf (P : Program) (w : World) (K : PySem.W.Frag) (mg : Str → Option Value) (base : Heap) (N : List Str) (qual : Str) (scope : Scope) (f : Addr) (cd : Value) (A : Around) (outer : List Env) (s : Shared) (H : Hp) (E : XK) (F : Fx) : Cz :=
  ⟨cxOf (L2.CX P w) P w K mg base N qual scope f cd A outer s H E, F, fun cls d _ H => E cls d H, takes_of rfl rfl rfl rfl⟩
omit CM in
theorem start_len {N : List Str} {vs : List V} (h : vs.length ≤ N.length) : (L2.start N vs).length = N.length := by
  unfold L2.start
  rw [List.length_append, List.length_map, List.length_replicate]; omega
omit CM in
theorem start_get {N : List Str} {vs : List V} {i : Nat} {v : V} (h : vs[i]? = some v) : (L2.start N vs)[i]? = some (some v) := by
  unfold L2.start
  have hl := (List.getElem?_eq_some_iff.mp h).1
  rw [List.getElem?_append_left (by rw [List.length_map]; exact hl), List.getElem?_map, h]
  rfl
theorem SOk.begin {K : PySem.W.Frag} {N : List Str} {G H : Hp} {ps : List Addr} {S : List Ce} {vs : List V} {as : List Sl} {n m : Nat} (o : SOk K ⟨ps, H, G, 0, 0⟩ G ps [] S [] H) (a : AtAs K G ps vs as) (hl : as.length = n) (hN : n + m = N.length) : SOk K ⟨ps, H, G, 0, 0⟩ G ps (as ++ List.replicate m .no) S (L2.start N vs) H := by
  refine ⟨o.sub, o.base, o.keep, o.new, o.pre, o.nd, o.fresh, o.there, o.plen, ?_, fun i x q nn => ?_, o.cell⟩
  · rw [start_len (by rw [a.len, hl]; omega), List.length_append, List.length_replicate, hl]; omega
  · by_cases hi : i < as.length
    · rw [List.getElem?_append_left hi] at q
      obtain ⟨v, h1, h2⟩ := a.get q
      exact ⟨v, start_get h1, .val h2⟩
    · rw [List.getElem?_append_right (by omega)] at q
      exact absurd (List.eq_of_mem_replicate (List.mem_of_getElem? q)) nn
theorem ret_cut {K : PySem.W.Frag} {ps ps' : List Addr} {H G G' H' : Hp} {ρ : List Sl} {σ : L2.St} {S S' : List Ce} {Q : VK} {E : XK} {r : Sl} {v : V} (hS : ps.length = S.length) (o : SOk K ⟨ps, H, G, 0, 0⟩ G' ps' ρ S' σ H') (a : AtA K G' ps' v r) (q : Ret K ps H G Q E (cut S.length r S')) : Q v H' := by
  have ob := o.bare
  have hle : S.length ≤ S'.length := by rw [← hS, ← o.plen]; exact o.pre.length_le
  have no : ∀ (i : Nat) (a : Sl), ([] : List Sl)[i]? = some a → slLt S.length a = true := fun i a h => by simp at h
  unfold cut at q
  by_cases h : okTake S.length S' = true
  · rw [if_pos h] at q
    have ot := ob.takeN (by rw [← hS]; exact Nat.le_refl _) hle h no
    cases a with
    | dat a => exact q v G' _ H' ot (.dat a)
    | @own p j hp =>
      dsimp only at q
      by_cases hj : j < S.length
      · rw [if_pos hj] at q
        exact q _ G' _ H' ot (.own (by rw [List.getElem?_take_of_lt hj]; exact hp))
      · rw [if_neg hj] at q
        cases e : S'[j]? with
        | none => rw [e] at q; exact q.elim
        | some cl =>
          rw [e] at q
          dsimp only at q
          by_cases hc : ceLt S.length cl = true
          · rw [if_pos hc] at q
            have ce := (o.cell j p cl hp e).take hc
            have pout : p ∉ ps'.take S.length := fun hm => by
              obtain ⟨m, hm, hz⟩ := List.mem_iff_getElem.mp hm
              have h1 : (ps'.take S.length)[m]? = some p := by rw [List.getElem?_eq_getElem hm, hz]
              obtain ⟨h2, h3⟩ := take_get h1
              exact pnd o.nd hp h3 (by omega) rfl
            have pl : (ps'.take S.length).length = S.length := by rw [List.length_take, o.plen]; omega
            have pp : ps'.take S.length <+: ps'.take S.length ++ [p] := List.prefix_append _ _
            refine q _ G' (ps'.take S.length ++ [p]) H' ⟨ot.sub, ot.base, ot.keep, ot.new, ot.pre.trans pp, ?_, fun r hr => ?_, fun r hr => ?_, ?_, rfl, fun i a h => by simp at h, fun k r c2 h1 h2 => ?_⟩ (.own (by rw [List.getElem?_append_right (by omega), pl, Nat.sub_self] <;> rfl))
            · rw [List.nodup_append]
              exact ⟨ot.nd, by simp, fun a ha b hb => by
                have e : b = p := by simpa using hb
                subst e
                exact fun e => pout (e ▸ ha)⟩
            · rcases List.mem_append.mp hr with z | z
              · exact ot.fresh r z
              · have e : r = p := by simpa using z
                rw [e]; exact o.fresh p (List.mem_of_getElem? hp)
            · rcases List.mem_append.mp hr with z | z
              · exact ot.there r z
              · have e : r = p := by simpa using z
                rw [e]; exact o.there p (List.mem_of_getElem? hp)
            · rw [List.length_append, List.length_append, pl, List.length_take, Nat.min_eq_left hle] <;> rfl
            · have sl : (S'.take S.length).length = S.length := by rw [List.length_take]; omega
              by_cases hk : k < S.length
              · rw [List.getElem?_append_left (by omega)] at h1 h2
                exact (ot.cell k r c2 h1 h2).grow (Ex.refl _) pp (fun z _ => z) rfl
              · have hk' := (List.getElem?_eq_some_iff.mp h1).1
                rw [List.length_append, pl] at hk'
                have e1 : ([p] : List Addr).length = 1 := rfl
                have ek : k = S.length := by omega
                subst ek
                rw [List.getElem?_append_right (by omega), pl, Nat.sub_self] at h1
                rw [List.getElem?_append_right (by omega), sl, Nat.sub_self] at h2
                cases h1; cases h2
                exact ce.grow (Ex.refl _) pp (fun z _ => z) rfl
          · rw [if_neg hc] at q
            exact q _ G' ps' H' ob (.own hp)
  · rw [if_neg h] at q
    cases a with
    | dat a => exact q v G' _ H' ob (.dat a)
    | own hp => exact q _ G' _ H' ob (.own hp)
theorem ret_cutX {K : PySem.W.Frag} {ps ps' : List Addr} {H G G' H' : Hp} {ρ : List Sl} {σ : L2.St} {S S' : List Ce} {Q : VK} {E : XK} {i : Nat} {pl : Option (Str × D)} {dd : Option Addr} (hS : ps.length = S.length) (o : SOk K ⟨ps, H, G, 0, 0⟩ G' ps' ρ S' σ H') (a : ExcAt K G' dd pl) (q : Ret K ps H G Q E (cutX S.length i pl S')) : E (.ref (CM.A i)) dd H' := by
  have ob := o.bare
  have hle : S.length ≤ S'.length := by rw [← hS, ← o.plen]; exact o.pre.length_le
  unfold cutX at q
  by_cases h : okTake S.length S' = true
  · rw [if_pos h] at q
    exact q dd G' _ H' (ob.takeN (by rw [← hS]; exact Nat.le_refl _) hle h fun i a h => by simp at h) a
  · rw [if_neg h] at q
    exact q dd G' _ H' ob a
/-- the body's result as the ends of a def -/
theorem body_ends {K : PySem.W.Frag} {c : Cz} {ps : List Addr} {H G : Hp} {S : List Ce} {Q : VK} {E : XK} {m : Nat} {g : Nat → MS} {as : List Sl} (hK : c.X.K = K) (hF : c.F = ⟨ps, H, G, 0, 0⟩) (hW : ∀ cls d σ H, E cls d H → c.W cls d σ H) (hS : ps.length = S.length) (q : Ret K ps H G Q E (mkF m g as S)) :
    SatS c G ps { nx := fun _ H' => Q .non H', rt := Q } (g S.length (as ++ List.replicate m .no) S) := by
  subst hK
  unfold mkF at q
  cases e : g S.length (as ++ List.replicate m .no) S with
  | stuck => rw [e] at q; exact q.elim
  | bk _ _ => rw [e] at q; exact q.elim
  | ct _ _ => rw [e] at q; exact q.elim
  | nx ρ' S' => rw [e] at q; exact fun σ G' ps' H' o e' p' => ret_cut hS (hF ▸ o) (.dat .non) q
  | rt r S' => rw [e] at q; exact fun v ρ σ G' ps' H' o e' p' a => ret_cut hS (hF ▸ o) a q
  | exc i pl ρ' S' => rw [e] at q; exact fun σ dd G' ps' H' o e' p' a => hW _ _ _ _ (ret_cutX hS (hF ▸ o) a q)
section
variable {P : Program} {w : World} {K : PySem.W.Frag} {mg : Str → Option Value} {base : Heap}
theorem fnM {x : Str} {st : Stmt} {f : Addr} {fd : FuncData} {N ps : List Str} {k n m : Nat} {g : Nat → MS} (F : Fun K x x st f fd) (S : FnScope N ps (defScope st)) (hm : mg x = some (.ref f)) (hb : Binds K fd ps [])
    (body : ∀ (cdv : Value) (A : Around) (outer : List Env) (s : Shared) (H : Hp) (E : XK) (F : Fx) (n0 : Nat), Room k (A.deeper (PyProof.Rows.envOfC x (defScope st) s.heap.objs.size f cdv)) → F.P0.length = n0 →
      DS (czOf P w K mg base N x (defScope st) f cdv A outer s H E F) (defBody st) (g n0)) (hn : ps.length = n := by rfl) (hN : n + m = N.length := by rfl) : Cal P w K mg base (k + 1) x (spM K n (mkF m g)) := by
  refine ⟨f, fd, ps, F.okX S (fun vs H Q E h => ?_) (fun cdv A outer s H vs Q E hr h => ?_), hm, F.kp, hb⟩
  · obtain ⟨G, ps', S', as, hl, _, a, _⟩ := h
    rw [a.len, hl, hn]
  · obtain ⟨G, ps', S', as, hl, o, a, q⟩ := h
    exact ⟨_, wss_pss, body cdv A outer s H E ⟨ps', H, G, 0, 0⟩ S'.length hr o.plen _ S' _ G ps' H _ (o.begin a hl hN) (body_ends rfl rfl (fun _ _ _ _ z => z) o.plen q)⟩
end
/-! ### with no guards about (repr of lists and tuples) -/
def RunG (P : Program) (w : World) (K : PySem.W.Frag) (mg : Str → Option Value) (base : Heap) (k : Nat) (f : Addr) (sp : Sp) : Prop :=
  ∀ (A : Around) (outer : List Env) (s : Shared) (H : Hp) (us : List Value) (vs : List V) (Q : VK) (E : XK), Room k A → A.guards = some [] → Env0 P w K mg base A outer s H → Vals vs us → sp vs H Q E →
    codeAny (model P w) A (.call (.ref f) ⟨us, []⟩) (CR (L2.CX P w) outer P w H s Q E) s
omit CM in
section
variable {P : Program} {w : World} {K : PySem.W.Frag} {mg : Str → Option Value} {base : Heap}
theorem RunG.of {k : Nat} {f : Addr} {fd : FuncData} {ps : List Str} {sp : Sp} (F : FnOk P w K mg base (L2.CX P w) k f fd ps sp) (hb : Binds K fd ps []) : RunG P w K mg base k f sp := fun A outer s H us vs Q E hr _ e0 r hs => by
  have KX : K.In s.heap := PySem.W.Frag.In.keeps e0.mod.kin fun b o e => (e0.bs b o e).1
  have n : us.length = ps.length := r.length.symm.trans (F.len _ _ _ _ hs)
  have bb := hb s us KX (by rw [List.append_nil]; exact n)
  rw [List.append_nil] at bb
  exact F.run A outer s H ⟨us, []⟩ us vs Q E hr e0 bb r hs
theorem runG_mk {x : Str} {st : Stmt} {f : Addr} {fd : FuncData} {N ps : List Str} {k : Nat} {sp : Sp} (F : Fun K x x st f fd) (hb : Binds K fd ps []) (S : FnScope N ps (defScope st)) (len : ∀ vs H Q E, sp vs H Q E → vs.length = ps.length)
    (body : ∀ (cdv : Value) (A : Around) (outer : List Env) (s : Shared) (H : Hp) (vs : List V) (Q : VK) (E : XK), Room k (A.deeper (PyProof.Rows.envOfC x (defScope st) s.heap.objs.size f cdv)) → A.guards = some [] → sp vs H Q E →
      ∃ t, PSs (cxOf (L2.CX P w) P w K mg base N x (defScope st) f cdv A outer s H E) (defBody st) t ∧ t { nx := fun _ H' => Q .non H', rt := Q } (L2.start N vs) H) : RunG P w K mg base (k + 1) f sp := fun A outer s H us vs Q E hr hG e0 r hsp => by
  obtain ⟨oc, od, kV, doc, pm, an, cdv, ct, osl, rfl, lk, hcd⟩ := F.ex
  have old := fun (b : Addr) (o : Obj) (e : base.get? b = some o) => (e0.bs b o e).1
  have inK := PySem.W.Frag.In.keeps e0.mod.kin old
  have n := len _ _ _ _ hsp
  have bb := hb s us inK (by rw [List.append_nil]; exact r.length.symm.trans n)
  rw [List.append_nil] at bb
  have places : ∀ z ∈ ps.zip us, (defScope st).names.lookup z.1 = some .local ∨ ((defScope st).names.lookup z.1 = some .cell ∧ ((cellsFrom (s.heap.objs.size + 1) (defScope st).names []).lookup z.1).isSome = true) := by
    rintro ⟨y, u⟩ hz
    exact (S.par y (List.of_mem_zip hz).1).imp id fun c => ⟨c, PySem.W.cellsFrom_some _ _ _ (.inl c)⟩
  refine codeAny_call_function hr.depth (inK _ _ lk) rfl S.co S.gen rfl (PySem.W.codeRec_of inK hcd) (bb _ _ _ _ (wpAny_newFunctionEnv_cells S.kind places fun env he s1 ic => ?_))
  cases he
  refine ⟨(e0.mod.nolimit.keeps old).keeps ic.toInCall.keep, codeAny_func ?_⟩
  obtain ⟨t, ht, q⟩ := body cdv A outer s H vs Q E (hr.deeper _) hG hsp
  refine wpAny_mono (ht.run [] s1 (L2.start N vs) H _ (inv_start S hr.hd e0 n r ic) q) ?_ fun _ _ z => z
  intro fl s' z
  cases fl with
  | brk => obtain ⟨_, _, _, y⟩ := z; exact y.elim
  | cont => obtain ⟨_, _, _, y⟩ := z; exact y.elim
  | next =>
    obtain ⟨_, H', J, y⟩ := z
    exact ⟨.non, H', J.os, J.bare, J.base, J.hok, rfl, y⟩
  | ret u =>
    obtain ⟨v, _, H', J, rv, y⟩ := z
    exact ⟨v, H', J.os, J.bare, J.base, J.hok, rv, y⟩
/-- a def that is called with no guards about, and keeps a promise -/
def CalG (P : Program) (w : World) (K : PySem.W.Frag) (mg : Str → Option Value) (base : Heap) (k : Nat) (x : Str) (sp : Sp) : Prop :=
  ∃ f : Addr, RunG P w K mg base k f sp ∧ mg x = some (.ref f) ∧ PySem.W.keepIn K (.ref f) = true
theorem Cal.toG {k : Nat} {x : Str} {sp : Sp} (h : Cal P w K mg base k x sp) : CalG P w K mg base k x sp := by
  obtain ⟨f, fd, ps, h1, h2, h3, h4⟩ := h
  exact ⟨f, .of h1 h4, h2, h3⟩
end
section
variable {P : Program} {w : World} {K : PySem.W.Frag} {mg : Str → Option Value} {base : Heap}
theorem fnMG {x : Str} {st : Stmt} {f : Addr} {fd : FuncData} {N ps : List Str} {k n m : Nat} {g : Nat → MS} (F : Fun K x x st f fd) (S : FnScope N ps (defScope st)) (hm : mg x = some (.ref f)) (hb : Binds K fd ps [])
    (body : ∀ (cdv : Value) (A : Around) (outer : List Env) (s : Shared) (H : Hp) (E : XK) (F : Fx) (n0 : Nat), Room k (A.deeper (PyProof.Rows.envOfC x (defScope st) s.heap.objs.size f cdv)) → A.guards = some [] → F.P0.length = n0 →
      DS (czOf P w K mg base N x (defScope st) f cdv A outer s H E F) (defBody st) (g n0)) (hn : ps.length = n := by rfl) (hN : n + m = N.length := by rfl) : CalG P w K mg base (k + 1) x (spM K n (mkF m g)) := by
  refine ⟨f, runG_mk F hb S (fun vs H Q E h => ?_) (fun cdv A outer s H vs Q E hr hGu h => ?_), hm, F.kp⟩
  · obtain ⟨G, ps', S', as, hl, _, a, _⟩ := h
    rw [a.len, hl, hn]
  · obtain ⟨G, ps', S', as, hl, o, a, q⟩ := h
    exact ⟨_, wss_pss, body cdv A outer s H E ⟨ps', H, G, 0, 0⟩ S'.length hr hGu o.plen _ S' _ G ps' H _ (o.begin a hl hN) (body_ends rfl rfl (fun _ _ _ _ z => z) o.plen q)⟩
end
section
variable {X : Cx} {k : Nat} {f : Addr} {sp : Sp} {E : L2.St → XK} {x : Str} {p pos : Pos} {e : Expr} {es : List Expr} {t : TA}
omit CM in
theorem pe_callG (F : RunG X.prog X.w X.K X.mg X.base k f sp) (hr : Room k X.A) (hGu : X.A.guards = some []) (hg : Gl X x) (hm : X.mg x = some (.ref f)) (hk : PySem.W.keepIn X.K (.ref f) = true) (hx : ∀ σ, PassesAt (L2.CX X.prog X.w) X σ (E σ)) (ha : PA X (e :: es) t)
    (hdb : (x == ("__debug__" : Str)) = false := by decide) (he : starEach (e :: es) X.env = (false, eval e X.env) :: starEach es X.env := by rfl) (hpl : (backTo pos (starEach es X.env)).any (·.1) = false := by rfl) : PE X (.Call (.Name x p) (e :: es) [] pos) (tCallS sp E t) :=
  ⟨fun pins s σ H Q I h => wpAny_Call_Name_kw (ld_glob I hg hm (PySem.W.callWith_K (h₀ := X.base) I.ok.mod.kin hk (thn (ha.run pos pins s σ H _ I h) fun us s1 ⟨vs, H1, I1, r, q⟩ => ⟨I1.kIn,
    wpAny_call (codeAny_mono (F X.A X.stack s1 H1 us vs Q (E σ) hr hGu I1.env0 r q) fun y s' z => by
      cases y with
      | error u => exact hx σ pins H1 s1 u s' I1 z
      | ok fl => cases fl <;> first | exact I1.after z | exact (show False from z).elim)⟩) he hpl) hdb)⟩
variable {c : Cz} {fa : MA'}
theorem de_callG {k n : Nat} {x : Str} {F : MF} (C : CalG c.X.prog c.X.w c.X.K c.X.mg c.X.base k x (spM c.X.K n F)) (hr : Room k c.X.A) (hGu : c.X.A.guards = some []) (ha : DA c (e :: es) fa) (hl : (e :: es).length = n := by rfl) (hg : Gl c.X x := by rfl) (hdb : (x == ("__debug__" : Str)) = false := by decide)
    (he : starEach (e :: es) c.X.env = (false, eval e c.X.env) :: starEach es c.X.env := by rfl) (hpl : (backTo pos (starEach es c.X.env)).any (·.1) = false := by rfl) [hA : LenA fa n] : DE c (.Call (.Name x p) (e :: es) [] pos) (mCall F fa) := fun ρ S σ G ps H k o q => by
  obtain ⟨f, F, hm, hk⟩ := C
  refine ⟨_, pe_callG F hr hGu hg hm hk (fun σ => passAt c.tk σ) wa_pa (hdb := hdb) (he := he) (hpl := hpl), ha _ _ _ _ _ _ _ o ?_⟩
  have hn := hA.ln ρ S
  unfold mCall at q
  cases efa : fa ρ S with
  | stuck => rw [efa] at q; exact q
  | exc i pl S1 => rw [efa] at q; exact q
  | ok xs S1 =>
    rw [efa] at q hn
    intro v1 G1 ps1 H1 o1 e1 p1 a1
    exact ⟨G1, ps1, S1, xs, hn, o1.ent', a1, ret_of o1 (Sat.mono q e1 p1)⟩
end
end Mir

set_option maxHeartbeats 2000000
/-! errors of the program's own with one field: self.F = F in __init__; any built-in base -/
namespace Mir
open PySem PySem.W PySem.Calls PySem.HandSPX
section
variable {prog : Program} {w : World} {A : Around} {R : Result → Shared → Prop} {hp : Heap} {g : Array GenState} {d : Drawn} {t : Nat} {os : OsState}
/-- the first field of a fresh own error -/
theorem err_store {B : String} {bmB : List Value} {K : Frag} {name : Str} {tk : Tok} {v : Value} {x C t0 : Addr} (SF : StoreFacts B bmB "object.__setattr__" "object") (X : K.In hp) (hx : hp.get? x = some (PySem.W.excObj C t0 none .none))
    (ho : excOver K C bmB = true) (ht : takerIn K C name = some none) (hh : hasDictIn K C = true)
    (hq : ∀ h' tk' dx, (∀ b o, b ≠ x → hp.get? b = some o → h'.get? b = some o) → hp.objs.size ≤ dx → dx ≠ x → h'.get? x = some (PySem.W.excObj C t0 (some dx) .none) →
      h'.Ns1 dx (fun y => if y = name then some v else none) → R (.ok (.ret .none)) ⟨h', g, d, tk', os⟩) :
    codeAny (model prog w) A (.call (.builtin "object.__setattr__") ⟨[.ref x, .str name tk, v], []⟩) R ⟨hp, g, d, t, os⟩ := by
  have hxs : x ≠ hp.objs.size := Nat.ne_of_lt (Heap.lt_size hx)
  refine osa_openX (s := ⟨hp, g, d, t, os⟩) (od := none) SF X ⟨hx, rfl, rfl, trivial⟩ ho ht fun b => ?_
  obtain ⟨cd, hc, hd'⟩ := any_some hh
  refine wpAny_bind (wpAny_pure (wpAny_bind (instanceDict_exc (s := ⟨hp, g, d, t, os⟩) hx (looks_clsIn X hc) hd' ?_)))
  show wpAny _ _ (Builtin.ObjectAttr.storeInDict hp.objs.size (.str name tk) name v) _ _ _
  refine store_in_new (dx := hp.objs.size) ?_ ?_
  · exact ⟨_, #[], _, (Heap.get?_update_ne _ _ _ _ hxs.symm).trans (Heap.get?_push_at rfl rfl), rfl, fun e he => absurd he (by simp), fun _ => rfl⟩
  · intro h' tk' hn' hs
    have old : ∀ b o, hp.get? b = some o → (hp.push (dictOf [] 0)).get? b = some o := fun b o e => Heap.get?_push_of_some _ e
    refine hq h' tk' hp.objs.size (fun b o hb e => ?_) (Nat.le_refl _) hxs.symm ?_ hn'
    · rw [hs.2 b (Nat.ne_of_lt (Heap.lt_size e)), Heap.get?_update_ne _ _ _ _ hb]
      exact old b o e
    · rw [hs.2 x hxs]
      exact Heap.get?_update_self _ (old x _ hx) rfl
end
/-- what the written part says of such a class, at C -/
structure ErrCls (K : Frag) (mg : Str → Option Value) (x fl : Str) (C fI : Addr) : Prop where
  gC : mg x = some (.ref C)
  cls : ∃ (bmB : List Value) (B newId initId : String), ExcBaseFacts B newId initId bmB ∧ StoreFacts B bmB "object.__setattr__" "object" ∧ ∃ nm q N bs bm sn sub ab col dd k0 k1 k2 k3 k5, K.lookup C = some (excClassObj nm q C N bs bm true sn sub ab col dd k0 k1 k2 k3 k5 newId) ∧ excTail bmB bm = true
  sa : findIn K (.ref C) "__setattr__" = some (some (.builtin "object.__setattr__"))
  ga : findIn K (.ref C) "__getattribute__" = some (some (.builtin "BaseException.__getattribute__"))
  gg : findIn K (.ref C) "__getattr__" = some none
  noF : findIn K (.ref C) fl = some none
  iC : findIn K (.ref C) "__init__" = some (some (.ref fI))
  tI : typeIn K (.ref fI) = some (.type "function")
  kC : keepIn K (.ref C) = true
  exC : subIn K (.ref C) (.type "BaseException") = some true
  tyC : typeIn K (.ref C) = some (.type "type")
  hdC : hasDictIn K C = true
/-- what its __init__ does of a fresh error at x -/
def InitDoes (prog : Program) (w : World) (K : Frag) (C fI : Addr) (fl : Str) : Prop :=
  ∀ (A : Around) (R : Result → Shared → Prop) (s : Shared) (x t0 : Addr) (v : Value), K.In s.heap → s.heap.NoLimit → s.heap.get? x = some (PySem.W.excObj C t0 none .none) → K.lookup x = none → A.depth < recursionLimit →
    (∀ h' tk dx, (∀ b o, b ≠ x → s.heap.get? b = some o → h'.get? b = some o) → h'.get? x = some (PySem.W.excObj C t0 (some dx) .none) → s.heap.objs.size ≤ dx → dx ≠ x → h'.Ns1 dx (fun y => if y = fl then some v else none) → R (.ok (.ret .none)) { s with heap := h', toks := tk }) →
    codeAny (model prog w) A (.call (.ref fI) ⟨[.ref x, v], []⟩) R s
theorem kept_out {K : Frag} {h h' : Heap} {x : Addr} (X : K.In h) (hx : K.lookup x = none) (k : ∀ b o, b ≠ x → h.get? b = some o → h'.get? b = some o) : K.In h' := fun a o e =>
  k a o (fun z => by rw [z, hx] at e; cases e) (X a o e)
section
variable {prog : Program} {w : World} {A : Around} {R : Result → Shared → Prop} {s : Shared} {K : Frag} {mg : Str → Option Value} {xn fl : Str} {C fI : Addr}
theorem clsIn_of {nm q : Str} {N : Addr} {bs bm : List Value} {sn : List Str} {sub : List Value} {ab : Bool} {col : Option Bool} {dd : Option Addr} {k0 k1 k2 k3 k5 : Option Value} {newId : String}
    (h : K.lookup C = some (excClassObj nm q C N bs bm true sn sub ab col dd k0 k1 k2 k3 k5 newId)) :
    clsIn K C = some { name := nm, bases := bs, mro := .ref C :: bm, ns := N, qualname := q, hasDict := true, slotNames := sn, subclasses := sub, abstract := ab, collection := col, hasDel := false } := by
  unfold clsIn
  rw [h] <;> rfl
/-- X(v) -/
theorem err_made (T : ErrCls K mg xn fl C fI) (hI : InitDoes prog w K C fI fl) {v : Value} (X : K.In s.heap) (hlim : s.heap.NoLimit) (hroom : A.depth + 1 < recursionLimit)
    (hq : ∀ h' tk e dx t0, (∀ b o, s.heap.get? b = some o → h'.get? b = some o) → s.heap.objs.size ≤ e → h'.get? e = some (PySem.W.excObj C t0 (some dx) .none) → s.heap.objs.size ≤ dx → dx ≠ e → h'.Ns1 dx (fun y => if y = fl then some v else none) → R (.ok (.ret (.ref e))) { s with heap := h', toks := tk }) :
    codeAny (model prog w) A (.call (.ref C) ⟨[v], []⟩) R s := by
  obtain ⟨bmB, B, newId, initId, FB, SF, nm, q, N, bs, bm, sn, sub, ab, col, dd, k0, k1, k2, k3, k5, hC, hbm⟩ := T.cls
  obtain ⟨hp, g, dr, tk, os⟩ := s
  have old : ∀ b o, hp.get? b = some o → ((hp.push (kdv_tup [v])).push (excO C hp.objs.size)).get? b = some o := fun b o e => Heap.get?_push_of_some _ (Heap.get?_push_of_some _ e)
  have at1 : ((hp.push (kdv_tup [v])).push (excO C hp.objs.size)).get? (hp.objs.size + 1) = some (excO C hp.objs.size) := by heap_get
  have out : K.lookup (hp.objs.size + 1) = none := by
    cases e : K.lookup (hp.objs.size + 1) with
    | none => rfl
    | some o =>
      have z : hp.objs.size + 1 < hp.objs.size := Heap.lt_size (X _ _ e)
      omega
  refine call_own FB (fun Y => excTail_contains Y bm hbm) (X _ _ hC) (looks_findIn X T.iC) (fun self => bind_fn X self T.tI) (by show 1 ≤ sizeLine; decide) ?_
  refine hI _ _ ⟨(hp.push (kdv_tup [v])).push (excO C hp.objs.size), g, dr, tk, os⟩ (hp.objs.size + 1) hp.objs.size v (X.keeps old) (hlim.keeps old) at1 out (show A.depth + 1 < recursionLimit from hroom) fun h' tk' dx k' hx dn dne hns => ?_
  have more : hp.objs.size + 2 ≤ dx := by
    have z : ((hp.push (kdv_tup [v])).push (excO C hp.objs.size)).objs.size ≤ dx := dn
    rw [Heap.size_push, Heap.size_push] at z
    exact z
  have b1 : hp.objs.size ≤ hp.objs.size + 1 := Nat.le_succ _
  have b2 : hp.objs.size ≤ dx := by omega
  exact ⟨rfl, hq h' tk' (hp.objs.size + 1) dx hp.objs.size (fun b o e => k' b o (Nat.ne_of_lt (Nat.lt_succ_of_lt (show b < hp.objs.size from Heap.lt_size e))) (old b o e)) b1 hx b2 dne hns⟩
end
end Mir
namespace Mir
open PySem PySem.Spec L2
theorem relO_one {v : V} {v' : Value} (r : RelV v v') (fl f : Str) : RelO (List.lookup f [(fl, v)]) (if f = fl then some v' else none) := by
  by_cases h : f = fl
  · subst h
    have q : List.lookup f [(f, v)] = some v := by simp [List.lookup]
    rw [if_pos rfl, q]
    exact r
  · have z : (f == fl) = false := by simpa using h
    have q : List.lookup f [(fl, v)] = none := by simp [List.lookup, z]
    rw [if_neg h, q]
    trivial
section
variable {X : Cx} {C fI : Addr} {xn fl : Str}
def tMkE (C : Addr) (fl : Str) (ta : TA) : L2.St → Hp → XK → Prop := fun σ H Q => ta σ H fun vs H1 => ∃ v, vs = [v] ∧ ∀ d, H1 d = none → Q (.ref C) (some d) (upd H1 d (.xd [(fl, v)]))
theorem pmk_err {a : Expr} {ta : TA} {p pos : Pos} {k : Nat} (T : ErrCls X.K X.mg xn fl C fI) (hI : InitDoes X.prog X.w X.K C fI fl) (hr : Room k X.A) (ha : PA X [a] ta) (hg : Gl X xn) (hdb : (xn == ("__debug__" : Str)) = false)
    (he : starEach (a :: []) X.env = (false, eval a X.env) :: starEach [] X.env) (hpl : (backTo pos (starEach [] X.env)).any (·.1) = false) : PMk X (.Call (.Name xn p) [a] [] pos) (tMkE C fl ta) := by
  intro pins s σ H Q I h
  refine wpAny_Call_Name_kw (ld_glob I hg T.gC ?_ hdb)
  refine PySem.W.callWith_K (h₀ := X.base) I.ok.mod.kin T.kC (thn (ha.run pos pins s σ H _ I h) fun us s1 hh => ?_) he hpl
  obtain ⟨vs, H1, I1, r1, v, ev, q1⟩ := hh
  subst ev
  refine ⟨I1.kIn, ?_⟩
  cases r1 with
  | cons rv rn =>
    rename_i v' us'
    cases rn
    show wpAny _ _ (call (.ref C) [v']) _ _ _
    have hlim := I1.nolimit
    obtain ⟨hp, g, dr, tk, os⟩ := s1
    refine wpAny_call (err_made T hI I1.kIn hlim (by have := hr.dp; omega) fun h' tk' e d t0 keep new obj dbig dne ns => ?_)
    show MkP X pins σ Q (.ref e) ⟨h', g, dr, tk', os⟩
    obtain ⟨G', g1, g2⟩ := restrict h' fun b => decide (b ≠ e)
    have gk : ∀ b, b ≠ e → G'.get? b = h'.get? b := fun b hb => g1 b (decide_eq_true hb)
    have ge : G'.get? e = none := g2 e (by simp)
    have old : ∀ b o, hp.get? b = some o → G'.get? b = some o := fun b o q => (gk b (Nat.ne_of_lt (Nat.lt_of_lt_of_le (Heap.lt_size q) new))).trans (keep b o q)
    have ob : ObjOk X.prog X.w (upd H1 d (.xd [(fl, v)])) G' d (.xd [(fl, v)]) := ⟨_, ns.at (fun o q => (gk d dne).trans q), fun f => relO_one rv fl f⟩
    have J : Inv X pins σ (upd H1 d (.xd [(fl, v)])) ⟨G', g, dr, tk', os⟩ := I1.laid (t' := tk') old dbig ob
    refine ⟨e, _, _, ⟨G', g, dr, tk', os⟩, _, .ref C, some d, rfl, J, fun b o q => ?_, ge, obj, ⟨rfl, rfl⟩, rfl, rfl, ?_, rfl, I1.bare, raises_own T.exC T.tyC, q1 d (I1.hok.fresh dbig)⟩
    · by_cases hb : b = e
      · have q' : G'.get? b = some o := q
        rw [hb, ge] at q'; cases q'
      · exact (gk b hb).symm.trans q
    · rw [upd_ne (Ne.symm dne)]
      exact I1.hok.fresh new
end
end Mir
namespace Mir
open PySem
/-- a local name of a frame -/
theorem err_ld {M : Model} {s : Shared} {name : Str} {scope : Scope} {L a : Addr} {cd : Value} {m : Str → Option Value} {x : Str} {pos : Pos} {v : Value} {Q : Value → Shared → Prop} {A : Around} {E : Value → Shared → Prop} (hn : s.heap.Ns L m) (hv : m x = some v) (h : Q v s)
    (hk : scope.kind = .function := by rfl) (hl : (PyProof.Rows.envOfC name scope L a cd).kindOf x = some .local := by rfl) (hd : (x == ("__debug__" : Str)) = false := by decide) :
    wpAny M A (eval (.Name x pos) (PyProof.Rows.envOfC name scope L a cd)) Q E s := wpAny_Name (wpAny_loadName_local hk hl hn hv h) hd
end Mir

set_option maxHeartbeats 2000000
/-! try with several clauses, each with or without a name -/
namespace Mir
open PySem PySem.Spec L2
open PyProof.Rows (AllBare)
abbrev Suite := Addr → Value → Option Addr → TS
/-- the ends of a suite whose name (slot i) goes behind it -/
def goneE (E : Ends) : Option Nat → Ends
  | none => E
  | some i => { nx := fun σ H => E.nx (σ.set i none) H, rt := E.rt, bk := fun σ H => E.bk (σ.set i none) H, ct := fun σ H => E.ct (σ.set i none) H }
def nameS (a : Addr) (σ : L2.St) : Option Nat → L2.St
  | none => σ
  | some i => σ.set i (some (.ref a))
structure Cla where
  cl : Value
  sl : Option Nat
  su : Suite
def wCla (K : PySem.W.Frag) (W : WX) (E : Ends) : List Cla → WX
  | [] => W
  | k :: r => fun cls d σ H => ∃ b, PySem.W.exmOne K cls k.cl = some b ∧ (b = true → ∀ a, H a = none → k.su a cls d (goneE E k.sl) (nameS a σ k.sl) H) ∧ (b = false → wCla K W E r cls d σ H)
inductive ClaOk (X : Cx) : List ExceptHandler → List Cla → Prop
  | nil : ClaOk X [] []
  | bare {x : Str} {c : Value} {u : Suite} {b : Stmt} {bs : List Stmt} {p q : Pos} {hs : List ExceptHandler} {l : List Cla} : Names X x c →
      (∀ (a : Addr) (oe : Obj) (cls : Value) (d : Option Addr) (pn : List (Addr × Obj)), Zc cls d oe → (∃ vs, oe.data = .fields vs) → PSs (X.suite a ((a, oe) :: pn)) (b :: bs) (u a cls d)) → ClaOk X hs l →
      ClaOk X (.ExceptHandler (some (.Name x p)) none (b :: bs) q :: hs) (⟨c, none, u⟩ :: l)
  | named {x n : Str} {i : Nat} {c : Value} {u : Suite} {b : Stmt} {bs : List Stmt} {p q : Pos} {hs : List ExceptHandler} {l : List Cla} : Names X x c → X.N[i]? = some n → X.env.kindOf n = some .local →
      (∀ (a : Addr) (oe : Obj) (cls : Value) (d : Option Addr) (pn : List (Addr × Obj)), Zc cls d oe → (∃ vs, oe.data = .fields vs) → PSs (X.suite a ((a, oe) :: pn)) (b :: bs) (u a cls d)) → ClaOk X hs l →
      ClaOk X (.ExceptHandler (some (.Name x p)) (some n) (b :: bs) q :: hs) (⟨c, some i, u⟩ :: l)
section
variable {X : Cx} {W : WX} {pos : Pos}
/-- the class test of a clause -/
theorem cla_test {a : Addr} {x : Str} {c : Value} {p : Pos} {pn : List (Addr × Obj)} {σ : L2.St} {H : Hp} {s : Shared} {Q : Value → Shared → Prop} {E : Value → Shared → Prop} (nm : Names X x c) (J : Inv (X.suite a pn) [] σ H s) (q : Q c s) :
    wpAny (model X.prog X.w) (X.A.mark (some (.ref a))) (eval (.Name x p) X.env) Q E s := by
  rcases nm with ⟨g, db, m | ⟨m, bv, ne⟩⟩
  · exact ld_glob (X := X.suite a pn) J g m q db
  · exact ld_blt (X := X.suite a pn) J g m bv q ne db
theorem sp_unsuite {a : Addr} {y : Addr × Obj} {pins : List (Addr × Obj)} {E : Ends} {f : Flow} {s : Shared} (ok : X.Ok) (h : SP (X.suite a (y :: (X.pn ++ pins))) [] E f s) : SP X pins E f s := by
  cases f with
  | next => exact let ⟨σ, H, J, z⟩ := h; ⟨σ, H, J.unsuite ok, z⟩
  | brk => exact let ⟨σ, H, J, z⟩ := h; ⟨σ, H, J.unsuite ok, z⟩
  | cont => exact let ⟨σ, H, J, z⟩ := h; ⟨σ, H, J.unsuite ok, z⟩
  | ret u => exact let ⟨v, σ, H, J, r, z⟩ := h; ⟨v, σ, H, J.unsuite ok, r, z⟩
theorem sp_ofTry {pins : List (Addr × Obj)} {xe : Value → Shared → Prop} {E : Ends} {f : Flow} {s : Shared} (ok : X.Ok) (h : SP (X.tr (X.pn ++ pins) xe) [] E f s) : SP X pins E f s := by
  cases f with
  | next => exact let ⟨σ, H, J, z⟩ := h; ⟨σ, H, J.ofTry ok, z⟩
  | brk => exact let ⟨σ, H, J, z⟩ := h; ⟨σ, H, J.ofTry ok, z⟩
  | cont => exact let ⟨σ, H, J, z⟩ := h; ⟨σ, H, J.ofTry ok, z⟩
  | ret u => exact let ⟨v, σ, H, J, r, z⟩ := h; ⟨v, σ, H, J.ofTry ok, r, z⟩
/-- a caught error on the ground, then the clauses -/
theorem clauses_go (fr : X.env.frame = some X.env.locals) (st : X.stack = X.env :: X.outer) (nd : X.N.Nodup) (tk : Takes X W) {pins : List (Addr × Obj)} {E : Ends} {a : Addr} {B : Heap} {s0 sz : Shared} {σ : L2.St} {H : Hp} {cls : Value} {d : Option Addr}
    (J0 : Inv X pins σ H s0) (nb : ∀ b o, s0.heap.get? b = some o → b ∉ frs X.stack → B.get? b = some o) (fly : HandSPX.FlyingZ B (X.env :: X.outer) a (Zc cls d) sz.heap) (ups : s0.heap.UpToSlots sz.heap) (na : H a = none) (os : sz.os = s0.os) (ag : AllBare sz.gens)
    (nL : a ≠ X.env.locals) (nF : a ∉ X.fs) : ∀ {hs : List ExceptHandler} {l : List Cla}, ClaOk X hs l → wCla X.K W E l cls d σ H → wpAny (model X.prog X.w) X.A (handleBy (.ref a) X.env hs) (SP X pins E) X.xe sz := by
  intro hs l ok
  have okx := J0.ok
  have Jz : Inv X pins σ H sz := by
    have := J0.landed (s' := sz) nb fly.1 ups os ag
    exact this
  obtain ⟨oz, vz, gz, zz, dz⟩ := fly.there
  have Sz := Jz.suite gz dz na nL nF
  have lands : ∀ {Q : Unit → Shared → Prop} {E' : Value → Shared → Prop} {A' : Around}, (∀ h4 o4, HandSPX.FlyingZ B (X.env :: X.outer) a (Zc cls d) h4 → Zc cls d o4 → (∃ vs, o4.data = .fields vs) → Inv (X.suite a ((a, o4) :: (X.pn ++ pins))) [] σ H { sz with heap := h4 } → Q () { sz with heap := h4 }) →
      wpAny (model X.prog X.w) A' (setFlight (.ref a) none) Q E' sz := fun {Q E' A'} hq => HandSPX.lands_againZ fly fun h4 fly4 up4 => by
    obtain ⟨o4, v4, g4, z4, d4⟩ := fly4.there
    exact hq h4 o4 fly4 z4 ⟨_, d4⟩ ((J0.landed (s' := { sz with heap := h4 }) nb fly4.1 (ups.trans up4) os ag).suite g4 d4 na nL nF)
  have look : PySem.W.Looks (model X.prog X.w) sz.heap (typeOf (.ref a)) cls := fun A' Q E' s k q => wpAny_typeOf_ref (k _ _ gz) (by rw [zz.1]; exact q)
  induction ok with
  | nil =>
    intro w
    refine wpAny_handleBy_nil ?_
    obtain ⟨_, _, _, oe, vs, T, oT, ts, he, _, hd, h1, _⟩ := id fly
    unfold PySem.passOn
    refine wpAny_bind (wpAny_field he hd h1 ?_)
    rw [if_neg (by simp : ¬ ((Value.ref T == Value.none) = true))]
    have up1 : wpAny (model X.prog X.w) X.A (setFlight (.ref a) X.env.frame) (fun _ s4 => wpAny (model X.prog X.w) X.A (throw (.ref a) : Sem Flow) (SP X pins E) X.xe s4) X.xe sz := by
      rw [fr]
      exact HandSPX.setFlight_upZ fly fun h4 held up4 => wpAny_throw (tk _ _ ⟨a, B, s0, pins, σ, H, cls, d, rfl, J0, nb, ups.trans up4, .inr (.inr (by rw [st]; exact held)), na, os, ag, w⟩)
    first | exact wpAny_bind (wpAny_pure (wpAny_bind up1)) | exact wpAny_bind up1
  | @bare x c u b bs p q hs l nm su _ ih =>
    rintro ⟨t, e, yes, no⟩
    have LM := PySem.W.exm_one (M := model X.prog X.w) Jz.kIn look e
    refine wpAny_handleBy_cons (codeAny_handlers_test (cla_test nm Sz (LM.here ?_))) (by intro z; cases z)
    cases t with
    | false =>
      show wpAny _ X.A (handleBy (.ref a) X.env hs) _ _ _
      exact ih (no rfl)
    | true =>
      refine codeAny_handlers_suite (lands fun h4 o4 _ z4 d4 S4 => ?_)
      exact wpAny_mono ((su a o4 cls d _ z4 d4).run [] _ _ H _ S4 (yes rfl a na)) (fun f s6 h => sp_unsuite okx h) (fun _ _ z => False.elim z)
  | @named x n i c u b bs p q hs l nm hi hk su _ ih =>
    rintro ⟨t, e, yes, no⟩
    have LM := PySem.W.exm_one (M := model X.prog X.w) Jz.kIn look e
    refine wpAny_handleBy_cons (codeAny_handlers_test (cla_test nm Sz (LM.here ?_))) (by intro z; cases z)
    cases t with
    | false =>
      show wpAny _ X.A (handleBy (.ref a) X.env hs) _ _ _
      exact ih (no rfl)
    | true =>
      refine codeAny_handlers_suite_as (lands fun h4 o4 _ z4 d4 S4 => ?_)
      refine store_ok (X := X.suite a ((a, o4) :: (X.pn ++ pins))) (v := .ref a) S4 nd hi (.inl hk) rfl (fun s5 S5 => ?_) (.inr hk)
      refine wpAny_mono ((su a o4 cls d _ z4 d4).run [] s5 _ H _ S5 (yes rfl a na)) (fun f s6 h => ?_) (fun _ _ z => False.elim z)
      have bye : ∀ {σ6 : L2.St} {H6 : Hp} {Q : Shared → Prop}, Inv (X.suite a ((a, o4) :: (X.pn ++ pins))) [] σ6 H6 s6 → (∀ s7, Inv X pins (σ6.set i none) H6 s7 → Q s7) → wpAny (model X.prog X.w) X.A (do bindName X.env n .none; unbindBehindTheSuite X.env n q) (fun _ s7 => Q s7) X.xe s6 :=
        fun S6 hq => gone_ok (S6.unsuite okx) nd hi hk hq
      cases f with
      | next => exact let ⟨σ6, H6, S6, y⟩ := h; bye S6 fun s7 J7 => ⟨_, _, J7, y⟩
      | brk => exact let ⟨σ6, H6, S6, y⟩ := h; bye S6 fun s7 J7 => ⟨_, _, J7, y⟩
      | cont => exact let ⟨σ6, H6, S6, y⟩ := h; bye S6 fun s7 J7 => ⟨_, _, J7, y⟩
      | ret v => exact let ⟨v6, σ6, H6, S6, r6, y⟩ := h; bye S6 fun s7 J7 => ⟨_, _, _, J7, r6, y⟩
theorem ps_clauses {body : List Stmt} {h0 : ExceptHandler} {hs : List ExceptHandler} {l : List Cla} {tb : WX → TS} (st : X.stack = X.env :: X.outer) (fr : X.env.frame = some X.env.locals) (nd : X.N.Nodup) (tk : Takes X W)
    (hb : ∀ (W : WX) (pn : List (Addr × Obj)) (xe : Value → Shared → Prop), Takes (X.tr pn xe) W → PassesOwn (model X.prog X.w) X.A X.env xe → PSs (X.tr pn xe) body (tb W)) (hh : ClaOk X (h0 :: hs) l) :
    PS X (.Try body (h0 :: hs) [] [] pos) (fun E σ H => tb (wCla X.K W E l) E σ H) := by
  constructor
  intro pins s σ H E I h
  have okx := I.ok
  have afr : X.A.frames = some (X.env :: X.outer) := okx.frames.trans (by rw [st])
  refine wpAny_Try_except (wpAny_mono ((hb (wCla X.K W E l) (X.pn ++ pins) (fun e s₁ => wpAny (model X.prog X.w) X.A (noteFrame e X.env) (fun _ s₂ => wpAny (model X.prog X.w) X.A (setFlight e none) (fun _ s₃ =>
    wpAny (model X.prog X.w) X.A (handleBy e X.env (h0 :: hs)) (SP X pins E) X.xe s₃) X.xe s₂) X.xe s₁) (fun u s' xx => ?_) PassesOwn.looking).run [] s σ H E (I.toTry _) h) (fun f s1 sp => ?_) (fun e s1 he => he))
  · obtain ⟨a, B, s0, pins', σ1, H1, cls, d, eu, J', nb, up, sky, na, os, ag, w⟩ := xx
    subst eu
    have J := J'.ofTry okx
    have sky1 : Sky B (X.env :: X.outer) a (Zc cls d) X.env.locals s'.heap := st ▸ sky
    refine Sky.land Zc.steady afr fr sky1 fun hz fly up2 => ?_
    obtain ⟨oz, vz, gz, zz, dz⟩ := fly.there
    have out : a ∉ frs (X.env :: X.outer) := fun m => by
      obtain ⟨_, o2, g2, no⟩ := fly.2.2.1.mem m
      rw [gz] at g2
      cases g2
      exact no _ dz
    exact clauses_go fr st nd tk (sz := { s' with heap := hz }) J nb fly (up.trans up2) na os ag
      (fun z => out (List.mem_filterMap.mpr ⟨X.env, List.mem_cons_self, by rw [fr, z]⟩))
      (fun m => out (by
        obtain ⟨e, he, q⟩ := List.mem_filterMap.mp m
        exact List.mem_filterMap.mpr ⟨e, List.mem_cons_of_mem _ he, q⟩)) hh w
  · have z := sp_ofTry okx sp
    cases f with
    | next =>
      obtain ⟨σ2, H2, J2, q⟩ := z
      exact wpAny_execs_nil ⟨σ2, H2, J2, q⟩
    | brk => exact z
    | cont => exact z
    | ret u => exact z
end
end Mir

/-! Statements. -/
namespace Mir
open PySem PySem.Spec L2
variable [CM : ClsMap]
section
def gNil : MS := fun ρ S => .nx ρ S
def gSeq (a b : MS) : MS := fun ρ S => (a ρ S).bind b
def gIf (t : MT) (A B : MS) : MS := fun ρ S => (t ρ S).toS ρ fun x S1 => bif x then A ρ S1 else B ρ S1
def gRet (a : ME) : MS := fun ρ S => (a ρ S).toS ρ fun r S1 => .rt r S1
def gRetN : MS := fun _ S => .rt (.dat .non) S
def gBk : MS := fun ρ S => .bk ρ S
def gCt : MS := fun ρ S => .ct ρ S
def gEx (a : ME) : MS := fun ρ S => (a ρ S).toS ρ fun _ S1 => .nx ρ S1
def gSet (i : Nat) (a : ME) : MS := fun ρ S => (a ρ S).toS ρ fun r S1 => .nx (ρ.set i r) S1
def gRaise (i : Nat) : MS := fun ρ S => .exc i none ρ S
def gRaise1 (i : Nat) (f : Str) (a : ME) : MS := fun ρ S => (a ρ S).toS ρ fun r S1 => match r with
  | .dat d => .exc i (some (f, d)) ρ S1
  | _ => .stuck
def gAug (i : Nat) (f : D → D → Option D) (a : ME) : MS := fun ρ S => match ρ[i]? with
  | some (.dat u) => (a ρ S).toS ρ fun r S1 => match r with
    | .dat v => match f u v with
      | some d => .nx (ρ.set i (.dat d)) S1
      | none => .stuck
    | _ => .stuck
  | _ => .stuck
def gPar (i j : Nat) (a : MA') : MS := fun ρ S => (a ρ S).toS ρ fun xs S1 => match xs with
  | [x, y] => .nx ((ρ.set i x).set j y) S1
  | _ => .stuck
def forL (j : Nat) (g : MS) : List D → MS
  | [], ρ, S => .nx ρ S
  | d :: ds, ρ, S => match g (ρ.set j (.dat d)) S with
    | .nx ρ1 S1 => forL j g ds ρ1 S1
    | .ct ρ1 S1 => forL j g ds ρ1 S1
    | .bk ρ1 S1 => .nx ρ1 S1
    | r => r
abbrev MI := List Sl → List Ce → RE (List D)
def gFor (j : Nat) (it : MI) (g : MS) : MS := fun ρ S => (it ρ S).toS ρ fun ds S1 => forL j g ds ρ S1
def whileL (t : MT) (g : MS) : Nat → MS
  | 0, _, _ => .stuck
  | n + 1, ρ, S => (t ρ S).toS ρ fun x S1 => bif x then (match g ρ S1 with
    | .nx ρ1 S1 => whileL t g n ρ1 S1
    | .ct ρ1 S1 => whileL t g n ρ1 S1
    | .bk ρ1 S1 => .nx ρ1 S1
    | r => r) else .nx ρ S1
def gWhile (n : Nat) (t : MT) (g : MS) : MS := whileL t g n
/-- x.append(e), x a cell -/
def gApp (i : Nat) (a : ME) : MS := fun ρ S => (a ρ S).toS ρ fun r S1 => match r, ρ[i]? with
  | .dat d, some (.own j) => match S1[j]? with
    | some (.lst cs) => if cs.length < 100000 then .nx ρ (S1.set j (.lst (cs ++ [d]))) else .stuck
    | _ => .stuck
  | _, _ => .stuck
/-- x[b] = e, x a list's cell -/
def gSto (i : Nat) (b a : ME) : MS := fun ρ S => (a ρ S).toS ρ fun r S1 => (b ρ S1).toS ρ fun n S2 => match r, n, ρ[i]? with
  | .dat d, .dat (.int n), some (.own j) => match S2[j]? with
    | some (.lst cs) => match ixN cs.length n with
      | some m => .nx ρ (S2.set j (.lst (cs.set m d)))
      | none => .stuck
    | _ => .stuck
  | _, _, _ => .stuck
end
section
variable {c : Cz} {a b e t : Expr} {es : List Expr} {pos p1 p2 p3 : Pos} {st : Stmt} {sts A B body : List Stmt} {f g : ME} {ft : MT} {fa : MA'} {s1 s2 : MS}
theorem ds_nil : DS c [] gNil := fun ρ S σ G ps H E o q => ⟨_, pss_nil, q.nx' o⟩
theorem ds_cons (h1 : D1 c st s1) (h2 : DS c sts s2) : DS c (st :: sts) (gSeq s1 s2) := fun ρ S σ G ps H E o q =>
  ⟨_, pss_cons ws_ps wss_pss, h1 _ _ _ _ _ _ _ o (SatS.bind q fun ρ1 S1 σ1 G1 ps1 H1 o1 e1 p1 q => h2 _ _ _ _ _ _ _ o1 q)⟩
theorem ds_one (h1 : D1 c st s1) : DS c [st] s1 := fun ρ S σ G ps H E o q => ⟨_, pss_one ws_ps, h1 _ _ _ _ _ _ _ o q⟩
theorem d1_if (ht : DT c t ft) (ha : DS c A s1) (hb : DS c B s2) : D1 c (.If t A B pos) (gIf ft s1 s2) := fun ρ S σ G ps H E o q =>
  ⟨_, ps_if wt_pt wss_pss wss_pss, ht _ _ _ _ _ _ _ o (Sat.toS q fun x S1 v G1 ps1 H1 o1 e1 p1 a1 q => by
    cases a1
    cases x with
    | true => exact iteT (ha _ _ _ _ _ _ _ o1 q)
    | false => exact iteF (hb _ _ _ _ _ _ _ o1 q))⟩
theorem d1_ret (ha : DE c e f) : D1 c (.Return (some e) pos) (gRet f) := fun ρ S σ G ps H E o q =>
  ⟨_, ps_ret we_pe, ha _ _ _ _ _ _ _ o (Sat.toS q fun x S1 v G1 ps1 H1 o1 e1 p1 a1 q => q v _ _ G1 ps1 H1 o1 (Ex.refl _) (List.prefix_refl _) a1)⟩
theorem d1_retN : D1 c (.Return none pos) gRetN := fun ρ S σ G ps H E o q => ⟨_, ps_retN, q .non _ _ G ps H o (Ex.refl G) (List.prefix_refl _) (.dat .non)⟩
theorem d1_pass : D1 c (.Pass pos) gNil := fun ρ S σ G ps H E o q => ⟨_, ps_pass, q.nx' o⟩
theorem d1_break : D1 c (.Break pos) gBk := fun ρ S σ G ps H E o q => ⟨_, ps_break, q σ G ps H o (Ex.refl G) (List.prefix_refl _)⟩
theorem d1_continue : D1 c (.Continue pos) gCt := fun ρ S σ G ps H E o q => ⟨_, ps_continue, q σ G ps H o (Ex.refl G) (List.prefix_refl _)⟩
theorem d1_doc {x : Str} {j : Nat} : D1 c (.Expr (.Constant (.str x) j p2) pos) gNil := fun ρ S σ G ps H E o q => ⟨_, ps_doc, q.nx' o⟩
theorem d1_expr (ha : DE c e f) (hs : swapsWith e none pos.line c.X.env = pure false := by rfl) : D1 c (.Expr e pos) (gEx f) := fun ρ S σ G ps H E o q =>
  ⟨_, ps_expr we_pe hs, ha _ _ _ _ _ _ _ o (Sat.toS q fun x S1 v G1 ps1 H1 o1 e1 p1 a1 q => q σ G1 ps1 H1 o1 (Ex.refl _) (List.prefix_refl _))⟩
/-- x = e -/
theorem d1_set (i : Nat) {x : Str} (hN : c.X.N.Nodup) (ha : DE c e f) (hi : c.X.N[i]? = some x := by rfl) (hx : Loc c.X.env.scope x := by first | exact Or.inl rfl | exact Or.inr rfl)
    (hs : swapsWith e (some (.Name x p2)) pos.line c.X.env = pure false := by rfl) (hf : c.X.fn x = true ∨ c.X.env.scope.names.lookup x = some .local := by first | exact .inl rfl | exact .inr rfl) : D1 c (.Assign [.Name x p2] e pos) (gSet i f) := fun ρ S σ G ps H E o q =>
  ⟨_, ps_set hN hi hx we_pe hs hf, ha _ _ _ _ _ _ _ o (Sat.toS q fun x S1 v G1 ps1 H1 o1 e1 p1 a1 q => q _ G1 ps1 H1 (o1.setA i a1) (Ex.refl _) (List.prefix_refl _))⟩
/-- x op= e -/
def RIp (X : Cx) (op : Operator) (u : D → D → Option D) : Prop := ∃ ti : TIp, PIp X op ti ∧ ∀ (G : Hp) (H : Hp) (x y : V) (k : VK) (d1 d2 d : D), Ex G H → AtD X.K G x d1 → AtD X.K G y d2 → u d1 d2 = some d → (∀ z G' H', Grow G H G' H' → AtD X.K G' z d → k z H') → ti x y H k
theorem d1_aug (i : Nat) {x : Str} {op : Operator} {u : D → D → Option D} (hop : RIp c.X op u) (hN : c.X.N.Nodup) (ha : DE c e f) (hi : c.X.N[i]? = some x := by rfl) (hl : Loc c.X.env.scope x := by first | exact Or.inl rfl | exact Or.inr rfl)
    (hf : c.X.fn x = true ∨ c.X.env.scope.names.lookup x = some .local := by first | exact .inl rfl | exact .inr rfl) : D1 c (.AugAssign (.Name x p1) op e pos) (gAug i u f) := fun ρ S σ G ps H E o q => by
  obtain ⟨ti, h1, h2⟩ := hop
  unfold gAug at q
  cases er : ρ[i]? with
  | none => rw [er] at q; exact q.elim
  | some a =>
    rw [er] at q
    cases a with
    | dat d1 =>
      obtain ⟨v0, hs, hv⟩ := o.slot i _ er (fun z => nomatch z)
      cases hv with | val hv => cases hv with | dat hv =>
      refine ⟨_, ps_aug hN hi hl we_pe h1 hf, v0, hs, ha _ _ _ _ _ _ _ o (Sat.toS q fun r S1 v G1 ps1 H1 o1 e1 p1 a1 q => ?_)⟩
      cases a1 with
      | own _ => exact q.elim
      | @dat _ d2 a1 =>
        dsimp only at q
        cases eu : u d1 d2 with
        | none => rw [eu] at q; exact q.elim
        | some d =>
          rw [eu] at q
          exact h2 G1 H1 v0 v _ d1 d2 d o1.sub (hv.mono e1) a1 eu fun z G' H' g az => q _ G' ps1 H' ((o1.grow g).setA i (.dat az)) (g.ex o1.sub).1 (List.prefix_refl _)
    | _ => exact q.elim
/-- a, b = e1, e2 -/
theorem d1_par (i j : Nat) {x y : Str} {px py pt : Pos} {kt k2 : Nat} {pt2 : Pos} (hc : c.X.calm = true) (hN : c.X.N.Nodup) (ha : DA c [a, b] fa) (hij : i ≠ j := by decide)
    (hi : c.X.N[i]? = some x := by rfl) (hj : c.X.N[j]? = some y := by rfl) (hx : c.X.env.scope.names.lookup x = some .local := by rfl) (hy : c.X.env.scope.names.lookup y = some .local := by rfl)
    (hw : swappedStores [.Tuple [.Name x px, .Name y py] kt pt] (.Tuple [a, b] k2 pt2) c.X.env = pure (some [x, y]) := by rfl) (hs : swapsWithSole [.Tuple [.Name x px, .Name y py] kt pt] (.Tuple [a, b] k2 pt2) pos.line c.X.env = pure false := by rfl) : D1 c (.Assign [.Tuple [.Name x px, .Name y py] kt pt] (.Tuple [a, b] k2 pt2) pos) (gPar i j fa) := fun ρ S σ G ps H E o q =>
  ⟨_, ps_par hc hN hi hj hij hx hy wa_pa hw hs, ha _ _ _ _ _ _ _ o (Sat.toS q fun xs S1 v G1 ps1 H1 o1 e1 p1 a1 q => by
    cases a1 with
    | nil => exact q.elim
    | cons a1 t1 => cases t1 with
      | nil => exact q.elim
      | cons a2 t2 => cases t2 with
        | cons _ _ => exact q.elim
        | nil => exact ⟨_, _, rfl, q _ G1 ps1 H1 ((o1.setA i a1).setA j a2) (Ex.refl _) (List.prefix_refl _)⟩)⟩
/-! raise -/
/-- an own error class without an __init__ of its own -/
structure OwnE (K : PySem.W.Frag) (mg : Str → Option Value) (x : Str) (C : Addr) : Prop where
  gC : mg x = some (.ref C)
  ex : ∃ (bmB : List Value) (B newId initId : String), ExcBaseFacts B newId initId bmB ∧ PySem.W.excIn K C bmB newId = true
  kC : PySem.W.keepIn K (.ref C) = true
  bC : PySem.W.subIn K (.ref C) (.type "BaseException") = some true
  tC : PySem.W.typeIn K (.ref C) = some (.type "type")
theorem d1_raise0 (i : Nat) {x m : Str} {j : Nat} (hc : c.X.calm = true) (T : OwnE c.X.K c.X.mg x (CM.A i)) (hg : Gl c.X x := by rfl) (hdb : (x == ("__debug__" : Str)) = false := by decide) : D1 c (.Raise (some (.Call (.Name x p1) [.Constant (.str m) j p2] [] p3)) none pos) (gRaise i) := fun ρ S σ G ps H E o q => by
  obtain ⟨bmB, B, newId, initId, F, hex⟩ := T.ex
  exact ⟨_, ps_raise hc c.tk (pmk_own F hex T.gC T.kC (raises_own T.bC T.tC) hg hdb), q σ none G ps H o (Ex.refl G) (List.prefix_refl _) rfl⟩
theorem d1_raise1 (i : Nat) {x fl : Str} {fI : Addr} {k : Nat} (hc : c.X.calm = true) (T : ErrCls c.X.K c.X.mg x fl (CM.A i) fI) (hI : InitDoes c.X.prog c.X.w c.X.K (CM.A i) fI fl) (hr : Room k c.X.A) (ha : DE c e f)
    (hg : Gl c.X x := by rfl) (hdb : (x == ("__debug__" : Str)) = false := by decide) (he : starEach [e] c.X.env = (false, eval e c.X.env) :: starEach [] c.X.env := by rfl) (hpl : (backTo p3 (starEach [] c.X.env)).any (·.1) = false := by rfl) :
    D1 c (.Raise (some (.Call (.Name x p1) [e] [] p3)) none pos) (gRaise1 i fl f) := fun ρ S σ G ps H E o q =>
  ⟨_, ps_raise hc c.tk (pmk_err T hI hr (pa_cons we_pe pa_nil he) hg hdb he hpl), ha _ _ _ _ _ _ _ o (Sat.toS q fun r S1 v G1 ps1 H1 o1 e1 p1 a1 q => ⟨v, rfl, fun dd hd => by
    have gd := o1.sub.back hd
    cases a1 with
    | own _ => exact q.elim
    | dat a1 => exact q σ (some dd) _ ps1 _ (o1.put (.xd [(fl, v)]) hd) (Ex.new gd) (List.prefix_refl _) ⟨dd, v, rfl, upd_same, a1.mono (Ex.new gd)⟩⟩)⟩
/-! loops -/
/-- an iterator that gives these data one by one while G0 stands -/
structure WkD (K : PySem.W.Frag) (J : It) (G0 : Hp) (ds : List D) : Prop where
  goes : ∀ i H, i < ds.length → Ex G0 H → J.go i H
  stops : ∀ H, Ex G0 H → J.stop ds.length H
  yields : ∀ (i : Nat) G H x H', i < ds.length → Ex G0 G → Ex G H → J.yld i H x H' → ∃ d G', ds[i]? = some d ∧ Grow G H G' H' ∧ AtD K G' x d
def RW (c : Cz) : Hp → Hp → List Addr → It → List D → Prop := fun G _ _ J ds => WkD c.X.K J G ds
def DI (c : Cz) (tg e : Expr) (f : MI) : Prop := ∀ ρ S σ G ps H R, SOk c.X.K c.F G ps ρ S σ H → Sat c G ps ρ σ (RW c) R (f ρ S) → WI c.X tg e σ H R
/-- the signs of a text; the ints of a range -/
def sgs (s : Str) : List D := s.cps.toList.map fun n => .str ⟨#[n]⟩
def rgs (lo : Int) (n : Nat) : List D := (List.range n).map fun (i : Nat) => .int (lo + (i : Int))
omit CM in
theorem sgs_len (s : Str) : (sgs s).length = s.cps.size := by unfold sgs; rw [List.length_map]; exact Array.length_toList
omit CM in
theorem rgs_len (lo : Int) (n : Nat) : (rgs lo n).length = n := by unfold rgs; rw [List.length_map, List.length_range]
omit CM in
theorem rgs_get {lo : Int} {n i : Nat} (h : i < n) : (rgs lo n)[i]? = some (.int (lo + (i : Int))) := by
  unfold rgs
  rw [List.getElem?_map, List.getElem?_range h] <;> rfl
/-- what a value is walked by -/
def itD : D → Option (List D)
  | .lst ds => some ds
  | .sq ds => some ds
  | .tup ds => some ds
  | .str s => some (sgs s)
  | _ => none
def mIt (a : ME) : MI := fun ρ S => (a ρ S).bind fun r S1 => match r with
  | .dat d => ofO (itD d) S1
  | _ => .stuck
def mRng1 (a : ME) : MI := fun ρ S => (a ρ S).bind fun r S1 => match r with
  | .dat (.int n) => if n.natAbs ≤ 4000000000000000000 then .ok (rgs 0 n.toNat) S1 else .stuck
  | _ => .stuck
def mRng2 (a b : ME) : MI := fun ρ S => (a ρ S).bind fun r S1 => (b ρ S1).bind fun r2 S2 => match r, r2 with
  | .dat (.int i), .dat (.int j) => if i.natAbs ≤ 4000000000000000000 ∧ j.natAbs ≤ 4000000000000000000 then .ok (rgs i (j - i).toNat) S2 else .stuck
  | _, _ => .stuck
theorem wk_rng {K : PySem.W.Frag} {lo : Int} {n : Nat} {G0 : Hp} : WkD K (Itr lo n) G0 (rgs lo n) := ⟨fun i H' hi _ => by rw [rgs_len] at hi; exact hi, fun H' _ => by rw [rgs_len]; exact Nat.le_refl _, fun i G' H' x H2 hi h1 h2 hy => by
    rw [rgs_len] at hi
    obtain ⟨rfl, rfl⟩ := hy
    exact ⟨_, G', rgs_get hi, .refl _ _, .int _⟩⟩
omit CM in
theorem PI.or {X : Cx} {tg e : Expr} {w1 w2 : TI} (h1 : PI X tg e w1) (h2 : PI X tg e w2) : PI X tg e (fun σ H R => w1 σ H R ∨ w2 σ H R) := ⟨fun pins s σ H R I h => h.elim (h1.run pins s σ H R I) (h2.run pins s σ H R I)⟩
theorem di_it {tg : Expr} (ha : DE c e f) : DI c tg e (mIt f) := fun ρ S σ G ps H R o q => by
  unfold mIt at q
  have hv := ha ρ S σ G ps H
  cases ef : f ρ S with
  | stuck => rw [ef] at q; exact q.elim
  | exc i pl S1 => rw [ef] at q; exact ⟨_, pi_list we_pe, ha _ _ _ _ _ _ _ o (by rw [ef]; exact q)⟩
  | ok r S1 =>
    rw [ef] at q
    dsimp only [RE.bind] at q
    cases r with
    | dat d =>
      dsimp only at q
      cases d with
      | lst ds =>
        refine ⟨_, pi_list we_pe, ha _ _ _ _ _ _ _ o (by
          rw [ef]
          intro v G1 ps1 H1 o1 e1 p1 a1
          cases a1 with | dat a1 => cases a1 with
          | @lst a vs _ h hv =>
            refine ⟨a, rfl, ⟨vs, SqL.of (o1.sub _ _ h)⟩, q (Itl c.X.K a) G1 ps1 H1 o1 e1 p1 ⟨fun i H' hi hx => ?_, fun H' hx => ⟨vs, SqL.of (hx _ _ h), by rw [hv.len]; exact Nat.le_refl _⟩, fun i G' H' x H2 hi h1 h2 hy => ?_⟩⟩
            · exact ⟨vs, vs[i]'(by rw [hv.len]; exact hi), SqL.of (hx _ _ h), by simp⟩
            · obtain ⟨rfl, hy⟩ := hy
              obtain ⟨d, d1, d2⟩ := hv.getV (hy vs (SqL.of ((h1.trans h2) _ _ h)))
              exact ⟨d, G', d1, .refl _ _, d2.mono h1⟩)⟩
      | sq ds =>
        refine ⟨_, pi_list we_pe, ha _ _ _ _ _ _ _ o (by
          rw [ef]
          intro v G1 ps1 H1 o1 e1 p1 a1
          cases a1 with | dat a1 => cases a1 with
          | @sq a vs _ h hv =>
            refine ⟨a, rfl, ⟨vs, o1.sub.sl h⟩, q (Itl c.X.K a) G1 ps1 H1 o1 e1 p1 ⟨fun i H' hi hx => ?_, fun H' hx => ⟨vs, hx.sl h, by rw [hv.len]; exact Nat.le_refl _⟩, fun i G' H' x H2 hi h1 h2 hy => ?_⟩⟩
            · exact ⟨vs, vs[i]'(by rw [hv.len]; exact hi), hx.sl h, by simp⟩
            · obtain ⟨rfl, hy⟩ := hy
              obtain ⟨d, d1, d2⟩ := hv.getV (hy vs ((h1.trans h2).sl h))
              exact ⟨d, G', d1, .refl _ _, d2.mono h1⟩)⟩
      | tup ds =>
        refine ⟨_, pi_tup we_pe, ha _ _ _ _ _ _ _ o (by
          rw [ef]
          intro v G1 ps1 H1 o1 e1 p1 a1
          cases a1 with | dat a1 => cases a1 with
          | @tup a vs _ h hv =>
            refine ⟨a, rfl, ⟨vs, o1.sub.st h⟩, q (Itt c.X.K a) G1 ps1 H1 o1 e1 p1 ⟨fun i H' hi hx => ?_, fun H' hx => ⟨vs, hx.st h, by rw [hv.len]; exact Nat.le_refl _⟩, fun i G' H' x H2 hi h1 h2 hy => ?_⟩⟩
            · exact ⟨vs, vs[i]'(by rw [hv.len]; exact hi), hx.st h, by simp⟩
            · obtain ⟨rfl, hy⟩ := hy
              obtain ⟨d, d1, d2⟩ := hv.getV (hy vs ((h1.trans h2).st h))
              exact ⟨d, G', d1, .refl _ _, d2.mono h1⟩)⟩
      | str s =>
        refine ⟨_, pi_str we_pe, ha _ _ _ _ _ _ _ o (by
          rw [ef]
          intro v G1 ps1 H1 o1 e1 p1 a1
          cases a1 with | dat a1 => cases a1 with
          | str =>
            refine ⟨s, rfl, q _ G1 ps1 H1 o1 e1 p1 ⟨fun i H' hi hx => by rw [sgs_len] at hi; exact hi, fun H' hx => by rw [sgs_len]; exact Nat.le_refl _, fun i G' H' x H2 hi h1 h2 hy => ?_⟩⟩
            obtain ⟨rfl, n, hn, rfl⟩ := hy
            refine ⟨.str ⟨#[n]⟩, G', ?_, .refl _ _, .str _⟩
            unfold sgs
            rw [List.getElem?_map, Array.getElem?_toList, hn] <;> rfl)⟩
      | _ => exact q.elim
    | _ => exact q.elim
omit CM in
theorem nb62 {n : Int} (h : n.natAbs ≤ 4000000000000000000) : -(2 ^ 62) ≤ n ∧ n < 2 ^ 62 := by
  have p : (2 : Int) ^ 62 = 4611686018427387904 := by decide +kernel
  rw [p]
  omega
theorem di_rng1 {tg : Expr} (hm : c.X.mg "range" = none) (ha : DE c e f) (hg : Gl c.X "range" := by rfl) (hse : starEach [e] c.X.env = [(false, eval e c.X.env)] := by rfl) : DI c tg (.Call (.Name "range" p1) [e] [] p3) (mRng1 f) := fun ρ S σ G ps H R o q =>
  ⟨_, pi_range1 hg hm (pa_cons we_pe pa_nil (by rw [hse]; rfl)) hse, ha _ _ _ _ _ _ _ o (Sat.bind q fun r S1 v1 G1 ps1 H1 o1 e1 p1 a1 q => by
    cases a1 with
    | own _ => exact q.elim
    | dat a1 => cases a1 with
      | int n =>
        dsimp only at q
        by_cases h : n.natAbs ≤ 4000000000000000000
        · rw [if_pos h] at q
          exact ⟨n, rfl, (nb62 h).1, (nb62 h).2, q.ok o1 wk_rng⟩
        · rw [if_neg h] at q; exact q.elim
      | _ => exact q.elim)⟩
theorem di_rng2 {tg : Expr} (hm : c.X.mg "range" = none) (ha : DE c a f) (hb : DE c b g) (hg : Gl c.X "range" := by rfl)
    (hse : starEach [a, b] c.X.env = [(false, eval a c.X.env), (false, eval b c.X.env)] := by rfl) (hs1 : starEach [b] c.X.env = (false, eval b c.X.env) :: starEach [] c.X.env := by rfl) (hs2 : starEach [b] c.X.env = [(false, eval b c.X.env)] := by rfl) : DI c tg (.Call (.Name "range" p1) [a, b] [] p3) (mRng2 f g) := fun ρ S σ G ps H R o q =>
  ⟨_, pi_range2 hg hm (pa_cons we_pe (pa_cons we_pe pa_nil hs1) (by rw [hse, hs1]; rfl)) hse hs2, ha _ _ _ _ _ _ _ o (Sat.bind q fun r S1 v1 G1 ps1 H1 o1 e1 p1 a1 q => hb _ _ _ _ _ _ _ o1 (Sat.bind q fun r2 S2 v2 G2 ps2 H2 o2 e2 p2 a2 q => by
    cases a1 with
    | own _ => exact q.elim
    | dat a1 => cases a1 with
      | int i =>
        cases a2 with
        | own _ => exact q.elim
        | dat a2 => cases a2 with
          | int j =>
            dsimp only at q
            by_cases h : i.natAbs ≤ 4000000000000000000 ∧ j.natAbs ≤ 4000000000000000000
            · rw [if_pos h] at q
              exact ⟨i, j, rfl, ⟨(nb62 h.1).1, (nb62 h.1).2, (nb62 h.2).1, (nb62 h.2).2⟩, q.ok o2 wk_rng⟩
            · rw [if_neg h] at q; exact q.elim
          | _ => exact q.elim
      | _ => exact q.elim))⟩
/-- for x in e -/
theorem d1_for (j : Nat) {x : Str} {fi : MI} (hp : PassesOwn (model c.X.prog c.X.w) c.X.A c.X.env c.X.xe) (hc : c.X.calm = true) (hN : c.X.N.Nodup) (hit : DI c (.Name x p2) e fi) (hb : DS c body s1)
    (hi : c.X.N[j]? = some x := by rfl) (hx : Loc c.X.env.scope x := by first | exact Or.inl rfl | exact Or.inr rfl) (hf : c.X.fn x = true ∨ c.X.env.scope.names.lookup x = some .local := by first | exact .inl rfl | exact .inr rfl)
    (hs : ∀ x, foldedSetIterable e c.X.env x = pure x := by intro _; rfl) : D1 c (.For (.Name x p2) e body [] pos) (gFor j fi s1) := fun ρ S σ G ps H E o q =>
  ⟨_, ps_for hp hc wi_pi (pg_name hN hi hx hf) wss_pss hs, hit _ _ _ _ _ _ _ o (Sat.toS q fun ds S1 J G1 ps1 H1 o1 e1 p1 wk q => by
    have wk : WkD c.X.K J G1 ds := wk
    refine ⟨fun i m σ' H' => m = ds.length - i ∧ i ≤ ds.length ∧ ∃ G' ps' ρ' S', SOk c.X.K c.F G' ps' ρ' S' σ' H' ∧ Ex G1 G' ∧ ps1 <+: ps' ∧ SatS c G' ps' E (forL j s1 (ds.drop i) ρ' S'), ⟨ds.length, by simp, Nat.zero_le _, G1, ps1, ρ, S1, o1, Ex.refl _, List.prefix_refl _, q⟩, ?_⟩
    rintro i m σ' H' ⟨rfl, hi, G', ps', ρ', S', o', e', p', q'⟩
    by_cases hlt : i < ds.length
    · refine .inr ⟨wk.goes i H' hlt (e'.trans o'.sub), fun σ2 H2 => ∃ G' ps' ρ' S', SOk c.X.K c.F G' ps' ρ' S' σ2 H2 ∧ Ex G1 G' ∧ ps1 <+: ps' ∧ SatS c G' ps' E (forL j s1 (ds.drop (i + 1)) ρ' S'), fun σ2 H2 p' => ⟨ds.length - (i + 1), by omega, rfl, hlt, p'⟩, fun x H2 y => ?_⟩
      obtain ⟨d, G2, hd1, g, hat⟩ := wk.yields i G' H' x H2 hlt e' o'.sub y
      have o2 := o'.grow g
      have e2 := (g.ex o'.sub).1
      have ed : ds.drop i = d :: ds.drop (i + 1) := by
        rw [List.drop_eq_getElem_cons hlt]
        congr 1
        rw [List.getElem?_eq_getElem hlt] at hd1
        cases hd1; rfl
      rw [ed] at q'
      unfold forL at q'
      refine hb (ρ'.set j (.dat d)) S' _ G2 ps' H2 _ (o2.setA j (.dat hat)) ?_
      have q' := q'.mono e2 (List.prefix_refl ps')
      revert q'
      cases s1 (ρ'.set j (.dat d)) S' with
      | nx ρ3 S3 => exact fun q' σ3 G3 ps3 H3 o3 e3 p3 => ⟨G3, ps3, ρ3, S3, o3, (e'.trans e2).trans e3, p'.trans p3, q'.mono e3 p3⟩
      | ct ρ3 S3 => exact fun q' σ3 G3 ps3 H3 o3 e3 p3 => ⟨G3, ps3, ρ3, S3, o3, (e'.trans e2).trans e3, p'.trans p3, q'.mono e3 p3⟩
      | bk ρ3 S3 => exact fun q' => q'
      | rt r3 S3 => exact fun q' => q'
      | exc i3 pl ρ3 S3 => exact fun q' => q'
      | stuck => exact fun q' => q'
    · have e : i = ds.length := by omega
      subst e
      rw [List.drop_length] at q'
      exact .inl ⟨wk.stops H' (e'.trans o'.sub), q'.nx' o'⟩)⟩
/-- while -/
theorem d1_while (n : Nat) (hp : PassesOwn (model c.X.prog c.X.w) c.X.A c.X.env c.X.xe) (ht : DT c t ft) (hb : DS c body s1) : D1 c (.While t body [] pos) (gWhile n ft s1) := fun ρ S σ G ps H E o q =>
  ⟨_, ps_while hp wt_pt wss_pss, fun m σ' H' => ∃ G' ps' ρ' S', SOk c.X.K c.F G' ps' ρ' S' σ' H' ∧ SatS c G' ps' E (whileL ft s1 m ρ' S'), ⟨n, G, ps, ρ, S, o, q⟩, fun m σ' H' hh => by
    obtain ⟨G', ps', ρ', S', o', q'⟩ := hh
    cases m with
    | zero => exact q'.elim
    | succ m =>
      unfold whileL at q'
      refine ht _ _ _ _ _ _ _ o' (Sat.toS q' fun x S1 v G1 ps1 H1 o1 e1 p1 a1 q => ?_)
      cases a1
      cases x with
      | true =>
        refine iteT ⟨fun σ2 H2 => ∃ G' ps' ρ' S', SOk c.X.K c.F G' ps' ρ' S' σ2 H2 ∧ SatS c G' ps' E (whileL ft s1 m ρ' S'), fun σ2 H2 z => ⟨m, Nat.lt_succ_self m, z⟩, hb _ _ _ _ _ _ _ o1 ?_⟩
        dsimp only [cond] at q
        revert q
        cases s1 ρ' S1 with
        | nx ρ3 S3 => exact fun q' σ3 G3 ps3 H3 o3 e3 p3 => ⟨G3, ps3, ρ3, S3, o3, q'.mono e3 p3⟩
        | ct ρ3 S3 => exact fun q' σ3 G3 ps3 H3 o3 e3 p3 => ⟨G3, ps3, ρ3, S3, o3, q'.mono e3 p3⟩
        | bk ρ3 S3 => exact fun q' => q'
        | rt r3 S3 => exact fun q' => q'
        | exc i3 pl ρ3 S3 => exact fun q' => q'
        | stuck => exact fun q' => q'
      | false => exact iteF (q.nx' o1)⟩
/-! cells -/
theorem d1_app (i : Nat) {x : Str} (ha : DE c e f) (hN : c.X.N[i]? = some x := by rfl)
    (hv : Vis c.X.env.scope x := by first | exact Or.inl rfl | exact Or.inr (Or.inl rfl) | exact Or.inr (Or.inr rfl)) (h1 : (x == ("__debug__" : Str)) = false := by decide) (h2 : (x == ("__classdict__" : Str)) = false := by decide)
    (he : starEach [e] c.X.env = (false, eval e c.X.env) :: starEach [] c.X.env := by rfl) (hpl : (backTo p3 (starEach [] c.X.env)).any (·.1) = false := by rfl)
    (hfew : ((backTo p3 (starEach [e] c.X.env)).all (fun x => !x.1) && (backToKw p3 (keywordEach [] c.X.env)).all (fun x => x.1.isSome)
      && decide (([e] : List Expr).length + ([] : List Keyword).length + (if ([] : List Keyword).isEmpty then 0 else 1) < 30)) = true := by rfl)
    (hline : (p2.endLine == p3.line) = true := by rfl)
    (hba : attributeBase (.Name x p1) "append" c.X.env (eval (.Name x p1) c.X.env) = eval (.Name x p1) c.X.env := by rfl) (hs : swapsWith (.Call (.Attribute (.Name x p1) "append" p2) [e] [] p3) none pos.line c.X.env = pure false := by rfl) :
    D1 c (.Expr (.Call (.Attribute (.Name x p1) "append" p2) [e] [] p3) pos) (fun ρ S => match ρ[i]? with | some (.own j) => (match S[j]? with | some (.lst _) => gApp i f ρ S | _ => .stuck) | _ => .stuck) := fun ρ S σ G ps H E o q => by
  dsimp only at q
  cases er : ρ[i]? with
  | none => rw [er] at q; exact q.elim
  | some r => cases r with
    | own j =>
      obtain ⟨v0, hsx, hv0⟩ := o.slot i _ er (fun z => nomatch z)
      rw [er] at q
      dsimp only at q
      cases hv0 with | val hv0 => cases hv0 with | @own p _ hp =>
      cases eS : S[j]? with
      | none => rw [eS] at q; exact q.elim
      | some cl => cases cl with
        | lst cs0 =>
          rw [eS] at q
          dsimp only at q
          unfold gApp at q
          obtain ⟨z1, vs, z2, z3⟩ := (o.cell j p _ hp eS : CeAt c.X.K G ps H p (.lst cs0))
          refine ⟨_, ps_expr (pe_bm PySem.F.plainAttrs_list PySem.F.slot_list_append PySem.F.type_list_append mt_append (pe_var hN hv h1 h2) (pa_cons we_pe pa_nil he) (hfew := hfew) (hline := hline) (hs := he) (hplain := hpl) (hbase := hba)) hs, .ref p, hsx, .inl ⟨rfl, vs, SqL.of z2⟩, ?_⟩
          refine ha _ _ _ _ _ _ _ o (Sat.toS q fun r S1 v G1 ps1 H1 o1 e1 p1 a1 q => ?_)
          rw [er] at q
          cases a1 with
          | own _ => exact q.elim
          | dat a1 =>
            dsimp only at q
            cases eS1 : S1[j]? with
            | none => rw [eS1] at q; exact q.elim
            | some cl => cases cl with
              | lst cs =>
                rw [eS1] at q
                dsimp only at q
                by_cases hl : cs.length < 100000
                · rw [if_pos hl] at q
                  have hp1 := pre_get p1 hp
                  obtain ⟨y1, us, y2, y3⟩ := (o1.cell j p _ hp1 eS1 : CeAt c.X.K G1 ps1 H1 p (.lst cs))
                  exact ⟨p, us, v, rfl, rfl, y2, by rw [y3.len]; exact Nat.lt_of_lt_of_le hl (by decide), q σ G1 ps1 _ (o1.wr hp1 eS1 y1 ⟨y1, _, upd_same, y3.append (.one a1)⟩) (Ex.refl _) (List.prefix_refl _)⟩
                · rw [if_neg hl] at q; exact q.elim
              | _ => rw [eS1] at q; exact q.elim
        | _ => rw [eS] at q; exact q.elim
    | _ => rw [er] at q; exact q.elim
theorem d1_sto (i : Nat) {x : Str} (ha : DE c e f) (hb : DE c b g) (hN : c.X.N[i]? = some x := by rfl)
    (hv : Vis c.X.env.scope x := by first | exact Or.inl rfl | exact Or.inr (Or.inl rfl) | exact Or.inr (Or.inr rfl)) (h1 : (x == ("__debug__" : Str)) = false := by decide) (h2 : (x == ("__classdict__" : Str)) = false := by decide)
    (ha' : ∀ v, assign (.Subscript (.Name x p1) b p2) c.X.env v = (do
      let ov ← holding [v] (eval (.Name x p1) c.X.env)
      let iv ← holding [v, ov] (eval b c.X.env)
      standAt p2
      holding [v, ov, iv] (setItem ov iv v)
      release [v, ov, iv] []) := by intro _; rfl)
    (hs : swapsWithSole [.Subscript (.Name x p1) b p2] e pos.line c.X.env = pure false := by rfl) (hw : swappedStores [.Subscript (.Name x p1) b p2] e c.X.env = pure none := by rfl)
    (h3 : (assignEach [.Subscript (.Name x p1) b p2] c.X.env).map (·.2) = [assign (.Subscript (.Name x p1) b p2) c.X.env] := by rfl) :
    D1 c (.Assign [.Subscript (.Name x p1) b p2] e pos) (fun ρ S => match ρ[i]? with | some (.own j) => gSto i g f ρ S | _ => .stuck) := fun ρ S σ G ps H E o q => by
  dsimp only at q
  cases er : ρ[i]? with
  | none => rw [er] at q; exact q.elim
  | some r => cases r with
    | own j =>
      obtain ⟨v0, hsx, hv0⟩ := o.slot i _ er (fun z => nomatch z)
      rw [er] at q
      dsimp only at q
      unfold gSto at q
      cases hv0 with | val hv0 => cases hv0 with | @own p _ hp =>
      refine ⟨_, ps_asg we_pe (pg_sub (pe_var hN hv h1 h2) we_pe set_list ha') hs hw h3, ha _ _ _ _ _ _ _ o (Sat.toS q fun r S1 v G1 ps1 H1 o1 e1 p1 a1 q => ⟨.ref p, hsx, hb _ _ _ _ _ _ _ o1 (Sat.toS q fun r2 S2 v2 G2 ps2 H2 o2 e2 p2 a2 q => ?_)⟩)⟩
      rw [er] at q
      cases a1 with
      | own _ => exact q.elim
      | dat a1 => cases a2 with
        | own _ => exact q.elim
        | dat a2 => cases a2 with
          | int n =>
            dsimp only at q
            cases eS1 : S2[j]? with
            | none => rw [eS1] at q; exact q.elim
            | some cl => cases cl with
              | lst cs =>
                rw [eS1] at q
                dsimp only at q
                cases em : ixN cs.length n with
                | none => rw [em] at q; exact q.elim
                | some m =>
                  rw [em] at q
                  have hp1 := pre_get (p1.trans p2) hp
                  obtain ⟨y1, us, y2, y3⟩ := (o2.cell j p _ hp1 eS1 : CeAt c.X.K G2 ps2 H2 p (.lst cs))
                  exact ⟨p, us, n, m, rfl, rfl, y2, by rw [y3.len]; exact em, q σ G2 ps2 _ (o2.wr hp1 eS1 y1 ⟨y1, _, upd_same, y3.set m (a1.mono e2)⟩) (Ex.refl _) (List.prefix_refl _)⟩
              | _ => rw [eS1] at q; exact q.elim
          | _ => exact q.elim
    | _ => rw [er] at q; exact q.elim
end
end Mir

/-! Comprehensions, try, cells that become data. -/
namespace Mir
open PySem PySem.Spec L2
variable [CM : ClsMap]
section
variable {K : PySem.W.Frag} {F : Fx} {G H : Hp} {ps : List Addr} {ρ : List Sl} {S : List Ce} {σ : L2.St}
theorem SOk.swap (o : SOk K F G ps ρ S σ H) {G2 H2 : Hp} {ps2 : List Addr} {ρ2 : List Sl} {S2 : List Ce} {σ2 : L2.St} (o2 : SOk K F G2 ps2 ρ2 S2 σ2 H2) (e : Ex G G2) (p : ps <+: ps2) : SOk K F G2 ps2 ρ S2 σ H2 :=
  ⟨o2.sub, o2.base, o2.keep, o2.new, o2.pre, o2.nd, o2.fresh, o2.there, o2.plen, o.slen, fun i a h n => by
    obtain ⟨v, h1, h2⟩ := o.slot i a h n
    exact ⟨v, h1, h2.mono e p⟩, o2.cell⟩
end
abbrev Cz.blk (c : Cz) (s : Shared) (H : Hp) (scope : Scope) (cl : List (Str × Addr)) (C : Addr) (fp : List Addr) : Cz :=
  ⟨c.X.blk s H scope (compEnvC scope cl C c.X.env) fp, c.F, fun _ _ _ _ => False, takes0⟩
def RE.noX {α : Type} : RE α → RE α
  | .exc _ _ _ => .stuck
  | r => r
omit CM in
@[simp] theorem RE.noX_ok {α : Type} (a : α) (S : List Ce) : (RE.ok a S).noX = .ok a S := rfl
omit CM in
@[simp] theorem RE.noX_stuck {α : Type} : (RE.stuck : RE α).noX = .stuck := rfl
/-- the turns of a comprehension whose list is the cell n -/
def lcL (n j : Nat) (t : MT) (elt : ME) : List D → List Sl → List Ce → RE Unit
  | [], _, S => .ok () S
  | d :: ds, ρ, S => (t (ρ.set j (.dat d)) S).noX.bind fun b S1 => bif b then (elt (ρ.set j (.dat d)) S1).noX.bind fun r S2 => (match r, S2[n]? with
      | .dat y, some (.lst acc) => if acc.length < 1000000 then lcL n j t elt ds ρ (S2.set n (.lst (acc ++ [y]))) else .stuck
      | _, _ => .stuck) else lcL n j t elt ds ρ S1
def tYes' : MT := fun _ S => .ok true S
def mLcO (j : Nat) (it : MI) (t : MT) (elt : ME) : ME := fun ρ S => (it ρ S).bind fun ds S1 => (lcL S1.length j t elt ds ρ (S1 ++ [.lst []])).bind fun _ S2 => .ok (.own S1.length) S2
def mLc (j : Nat) (it : MI) (t : MT) (elt : ME) : ME := fun ρ S => frzL S.length (mLcO j it t elt ρ S)
section
variable {c : Cz}
omit CM in
def teB (X : Cx) (scope : Scope) (elt : Expr) : TE := fun σ H Q => ∀ (s : Shared) (H' : Hp) (C : Addr) (cl : List (Str × Addr)) (fp : List Addr), WE (X.blk s H' scope (compEnvC scope cl C X.env) fp) elt σ H Q
omit CM in
theorem teB_pe {X : Cx} {scope : Scope} {elt : Expr} (s : Shared) (H' : Hp) (C : Addr) (cl : List (Str × Addr)) (fp : List Addr) : PE (X.blk s H' scope (compEnvC scope cl C X.env) fp) elt (teB X scope elt) :=
  ⟨fun pins s1 σ H Q I h => we_pe.run pins s1 σ H Q I (h s H' C cl fp)⟩
omit CM in
def ttB (X : Cx) (scope : Scope) (ifs : List Expr) : TT := fun σ H Q => (ifs = [] ∧ Q true H) ∨ ∃ t, ifs = [t] ∧ ∀ (s : Shared) (H' : Hp) (C : Addr) (cl : List (Str × Addr)) (fp : List Addr), WT (X.blk s H' scope (compEnvC scope cl C X.env) fp) t σ H Q
omit CM in
theorem ttB_pts {X : Cx} {scope : Scope} {ifs : List Expr} (s : Shared) (H' : Hp) (C : Addr) (cl : List (Str × Addr)) (fp : List Addr) : PTs (X.blk s H' scope (compEnvC scope cl C X.env) fp) ifs (ttB X scope ifs) :=
  ⟨fun pins s1 σ H Q I h => by
    rcases h with ⟨e, h⟩ | ⟨t, e, h⟩
    · subst e; exact pts_nil.run pins s1 σ H Q I h
    · subst e; exact (pts_one wt_pt).run pins s1 σ H Q I (h s H' C cl fp)⟩
/-- the tests of a comprehension -/
inductive LcT (c : Cz) (scope : Scope) : List Expr → MT → Prop
  | no : LcT c scope [] tYes'
  | one {t : Expr} {f : MT} : (∀ (s : Shared) (H : Hp) (C : Addr) (cl : List (Str × Addr)) (fp : List Addr), DT (c.blk s H scope cl C fp) t f) → LcT c scope [t] f
variable {scope : Scope} {elt iter : Expr} {ifs : List Expr} {own : List (Str × Nat)} {x : Str} {p2 pos : Pos} {it : MI} {t : MT} {fe : ME}
theorem lc_run (j : Nat) (hit : DI c (.Name x p2) iter it) (ht : LcT c scope ifs t) (he : ∀ (s : Shared) (H : Hp) (C : Addr) (cl : List (Str × Addr)) (fp : List Addr), DE (c.blk s H scope cl C fp) elt fe)
    {ρ : List Sl} {S : List Ce} {σ : L2.St} {G : Hp} {ps : List Addr} {H : Hp} {k : VK} (o : SOk c.X.K c.F G ps ρ S σ H) (q : Sat c G ps ρ σ (RA c) k (mLcO j it t fe ρ S)) : tLc (WI c.X (.Name x p2) iter) (gName j) (ttB c.X scope ifs) (teB c.X scope elt) [j] σ H k := by
  refine hit _ _ _ _ _ _ _ o (Sat.bind q fun ds S1 J G1 ps1 H1 o1 e1 p1 wk q => ?_)
  have wk : WkD c.X.K J G1 ds := wk
  intro Dl hD
  have oD := o1.pushL (ds := []) hD .nil
  have pD : ps1 <+: ps1 ++ [Dl] := List.prefix_append _ _
  have at_ : (ps1 ++ [Dl])[S1.length]? = some Dl := by rw [← o1.plen]; simp
  have q0 : Sat c G1 (ps1 ++ [Dl]) ρ σ (β := Unit) (fun _ _ _ _ _ => True) (fun _ H2 => k (.ref Dl) H2) (lcL S1.length j t fe ds ρ (S1 ++ [.lst []])) :=
    Sat.bind (q.mono (Ex.refl _) pD) fun u S2 v G2 ps2 H2 o2 e2 p2 _ q => q.ok o2 (AtA.own (pre_get p2 at_))
  refine ⟨fun i m H' => m = ds.length - i ∧ i ≤ ds.length ∧ ∃ G' ps' S', SOk c.X.K c.F G' ps' ρ S' σ H' ∧ Ex G1 G' ∧ ps1 ++ [Dl] <+: ps' ∧ Sat c G' ps' ρ σ (β := Unit) (fun _ _ _ _ _ => True) (fun _ H2 => k (.ref Dl) H2) (lcL S1.length j t fe (ds.drop i) ρ S'), ⟨ds.length, by simp, Nat.zero_le _, G1, _, _, oD, Ex.refl _, List.prefix_refl _, q0⟩, ?_⟩
  rintro i m H' ⟨rfl, hi, G', ps', S', o', e', p', q'⟩
  by_cases hlt : i < ds.length
  · refine .inr ⟨wk.goes i H' hlt (e'.trans o'.sub), fun H2 => ∃ G' ps' S', SOk c.X.K c.F G' ps' ρ S' σ H2 ∧ Ex G1 G' ∧ ps1 ++ [Dl] <+: ps' ∧ Sat c G' ps' ρ σ (β := Unit) (fun _ _ _ _ _ => True) (fun _ H2 => k (.ref Dl) H2) (lcL S1.length j t fe (ds.drop (i + 1)) ρ S'), fun H2 p' => ⟨ds.length - (i + 1), by omega, rfl, hlt, p'⟩, fun v H2 y => ?_⟩
    obtain ⟨d, G2, hd1, g, hat⟩ := wk.yields i G' H' v H2 hlt e' o'.sub y
    have o2 := o'.grow g
    have e2 := (g.ex o'.sub).1
    have ed : ds.drop i = d :: ds.drop (i + 1) := by
      rw [List.drop_eq_getElem_cons hlt]
      congr 1
      rw [List.getElem?_eq_getElem hlt] at hd1
      cases hd1; rfl
    rw [ed] at q'
    unfold lcL at q'
    have q' := q'.mono e2 (List.prefix_refl ps')
    have es : (wipe σ [j]).set j (some v) = σ.set j (some v) := by
      show (σ.set j none).set j (some v) = σ.set j (some v)
      rw [List.set_set]
    refine ⟨by rw [es]; show (σ.set j (some v)).set j none = σ.set j none; rw [List.set_set], ?_⟩
    rw [es]
    have oj := o2.setA j (.dat hat)
    have eltOk : ∀ {S3 : List Ce} {G3 H3 : Hp} {ps3 : List Addr}, SOk c.X.K c.F G3 ps3 (ρ.set j (.dat d)) S3 (σ.set j (some v)) H3 → Ex G2 G3 → ps' <+: ps3 →
        Sat c G3 ps3 ρ σ (β := Unit) (fun _ _ _ _ _ => True) (fun _ H2 => k (.ref Dl) H2) ((fe (ρ.set j (.dat d)) S3).noX.bind fun r S2 => (match r, S2[S1.length]? with
          | .dat y, some (.lst acc) => if acc.length < 1000000 then lcL S1.length j t fe (ds.drop (i + 1)) ρ (S2.set S1.length (.lst (acc ++ [y]))) else .stuck
          | _, _ => .stuck)) →
        teB c.X scope elt (σ.set j (some v)) H3 fun y H4 => ∃ ac, H4 Dl = some (.lst ac) ∧ ac.length < sizeLine ∧ ∃ G' ps' S', SOk c.X.K c.F G' ps' ρ S' σ (upd H4 Dl (.lst (ac ++ [y]))) ∧ Ex G1 G' ∧ ps1 ++ [Dl] <+: ps' ∧ Sat c G' ps' ρ σ (β := Unit) (fun _ _ _ _ _ => True) (fun _ H2 => k (.ref Dl) H2) (lcL S1.length j t fe (ds.drop (i + 1)) ρ S') := by
      intro S3 G3 H3 ps3 o3 e3 p3 q3 s H5 C cl fp
      refine he s H5 C cl fp _ _ _ G3 ps3 H3 _ o3 ?_
      cases ef : fe (ρ.set j (.dat d)) S3 with
      | stuck => rw [ef] at q3; exact q3
      | exc _ _ _ => rw [ef] at q3; exact q3.elim
      | ok r S4 =>
        rw [ef] at q3
        intro u G4 ps4 H4 o4 e4 p4 a4
        dsimp only [RE.noX, RE.bind] at q3
        cases a4 with
        | own _ => exact q3.elim
        | @dat _ dy a4 =>
          cases ec : S4[S1.length]? with
          | none => rw [ec] at q3; exact q3.elim
          | some cl => cases cl with
            | lst acc =>
              rw [ec] at q3
              dsimp only at q3
              by_cases hz : acc.length < 1000000
              · rw [if_pos hz] at q3
                have hp4 := pre_get (p'.trans (p3.trans p4)) at_
                obtain ⟨y1, us, y2, y3⟩ := (o4.cell _ Dl _ hp4 ec : CeAt c.X.K G4 ps4 H4 Dl (.lst acc))
                have o5 := (o2.swap o4 (e3.trans e4) (p3.trans p4)).wr hp4 ec y1 (cl' := .lst (acc ++ [dy])) (u := .lst (us ++ [u])) ⟨y1, _, upd_same, y3.append (.one a4)⟩
                exact ⟨us, y2, by rw [y3.len]; exact Nat.lt_of_lt_of_le hz (by decide), G4, ps4, _, o5, (e'.trans e2).trans (e3.trans e4), p'.trans (p3.trans p4), q3.mono e4 p4⟩
              · rw [if_neg hz] at q3; exact q3.elim
            | _ => rw [ec] at q3; exact q3.elim
    cases ht with
    | no =>
      exact .inl ⟨rfl, iteT (eltOk oj (Ex.refl _) (List.prefix_refl _) q')⟩
    | one ht =>
      refine .inr ⟨_, rfl, fun s H5 C cl fp => ?_⟩
      refine ht s H5 C cl fp _ _ _ G2 ps' H2 _ oj ?_
      cases ef : t (ρ.set j (.dat d)) S' with
      | stuck => rw [ef] at q'; exact q'
      | exc _ _ _ => rw [ef] at q'; exact q'.elim
      | ok b S3 =>
        rw [ef] at q'
        intro u G3 ps3 H3 o3 e3 p3 a3
        cases a3
        dsimp only [RE.noX, RE.bind] at q'
        cases b with
        | true => exact iteT (eltOk o3 e3 p3 (q'.mono e3 p3))
        | false => exact iteF ⟨G3, ps3, S3, o2.swap o3 e3 p3, (e'.trans e2).trans e3, p'.trans p3, q'.mono e3 p3⟩
  · have e : i = ds.length := by omega
    subst e
    rw [List.drop_length] at q'
    exact .inl ⟨wk.stops H' (e'.trans o'.sub), q' () G' ps' H' o' (Ex.refl _) (List.prefix_refl _) trivial⟩
section
variable {i : Nat} {y : Str} {py spos : Pos}
theorem de_lcO (j : Nat) (hc : c.X.calm = true) (hN : c.X.N.Nodup) (ok : BlkOk c.X.N c.X.env.scope scope own) (ho : own.map (·.2) = [j])
    (hg : ∀ (s : Shared) (H : Hp) (C : Addr) (cl : List (Str × Addr)) (fp : List Addr), PG (c.X.blk s H scope (compEnvC scope cl C c.X.env) fp) (.Name x p2) (gName j))
    (hit : DI c (.Name x p2) iter it) (ht : LcT c scope ifs t) (he : ∀ (s : Shared) (H : Hp) (C : Addr) (cl : List (Str × Addr)) (fp : List Addr), DE (c.blk s H scope cl C fp) elt fe)
    (hs : ∀ x, foldedSetIterable iter c.X.env x = pure x := by intro _; rfl) : DE c (.ListComp elt [⟨.Name x p2, iter, ifs, 0⟩] scope pos) (mLcO j it t fe) := fun ρ S σ G ps H k o q =>
  ⟨_, pe_lc hc hN wi_pi ok hg (fun s H C cl fp => ttB_pts s H C cl fp) (fun s H C cl fp => teB_pe s H C cl fp) hs, by rw [ho]; exact lc_run j hit ht he o q⟩
theorem de_lc (j : Nat) (hc : c.X.calm = true) (hN : c.X.N.Nodup) (ok : BlkOk c.X.N c.X.env.scope scope own) (ho : own.map (·.2) = [j])
    (hg : ∀ (s : Shared) (H : Hp) (C : Addr) (cl : List (Str × Addr)) (fp : List Addr), PG (c.X.blk s H scope (compEnvC scope cl C c.X.env) fp) (.Name x p2) (gName j))
    (hit : DI c (.Name x p2) iter it) (ht : LcT c scope ifs t) (he : ∀ (s : Shared) (H : Hp) (C : Addr) (cl : List (Str × Addr)) (fp : List Addr), DE (c.blk s H scope cl C fp) elt fe)
    (hs : ∀ x, foldedSetIterable iter c.X.env x = pure x := by intro _; rfl) : DE c (.ListComp elt [⟨.Name x p2, iter, ifs, 0⟩] scope pos) (mLc j it t fe) := de_frz (de_lcO j hc hN ok ho hg hit ht he hs)
/-- y = [..], on one line, y a local -/
theorem d1_setLcO (i j : Nat) (hc : c.X.calm = true) (hN : c.X.N.Nodup) (ok : BlkOk c.X.N c.X.env.scope scope own) (ho : own.map (·.2) = [j])
    (hg : ∀ (s : Shared) (H : Hp) (C : Addr) (cl : List (Str × Addr)) (fp : List Addr), PG (c.X.blk s H scope (compEnvC scope cl C c.X.env) fp) (.Name x p2) (gName j))
    (hsw : swapsWith (.ListComp elt [⟨.Name x p2, iter, ifs, 0⟩] scope pos) (some (.Name y py)) spos.line c.X.env = pure true)
    (hit : DI c (.Name x p2) iter it) (ht : LcT c scope ifs t) (he : ∀ (s : Shared) (H : Hp) (C : Addr) (cl : List (Str × Addr)) (fp : List Addr), DE (c.blk s H scope cl C fp) elt fe)
    (hy : c.X.N[i]? = some y := by rfl) (hyl : c.X.env.scope.names.lookup y = some .local := by rfl) (hs : ∀ x, foldedSetIterable iter c.X.env x = pure x := by intro _; rfl) : D1 c (.Assign [.Name y py] (.ListComp elt [⟨.Name x p2, iter, ifs, 0⟩] scope pos) spos) (gSet i (mLcO j it t fe)) := fun ρ S σ G ps H E o q =>
  ⟨_, ps_setLc (i := i) hc hN hy hyl hsw wi_pi ok hg (fun s H C cl fp => ttB_pts s H C cl fp) (fun s H C cl fp => teB_pe s H C cl fp) hs, by
    rw [ho]
    exact lc_run j hit ht he o (Sat.toS q fun x S1 v G1 ps1 H1 o1 e1 p1 a1 q => q _ G1 ps1 H1 (o1.setA i a1) (Ex.refl _) (List.prefix_refl _))⟩
theorem d1_setLc (i j : Nat) (hc : c.X.calm = true) (hN : c.X.N.Nodup) (ok : BlkOk c.X.N c.X.env.scope scope own) (ho : own.map (·.2) = [j])
    (hg : ∀ (s : Shared) (H : Hp) (C : Addr) (cl : List (Str × Addr)) (fp : List Addr), PG (c.X.blk s H scope (compEnvC scope cl C c.X.env) fp) (.Name x p2) (gName j))
    (hsw : swapsWith (.ListComp elt [⟨.Name x p2, iter, ifs, 0⟩] scope pos) (some (.Name y py)) spos.line c.X.env = pure true)
    (hit : DI c (.Name x p2) iter it) (ht : LcT c scope ifs t) (he : ∀ (s : Shared) (H : Hp) (C : Addr) (cl : List (Str × Addr)) (fp : List Addr), DE (c.blk s H scope cl C fp) elt fe)
    (hy : c.X.N[i]? = some y := by rfl) (hyl : c.X.env.scope.names.lookup y = some .local := by rfl) (hs : ∀ x, foldedSetIterable iter c.X.env x = pure x := by intro _; rfl) : D1 c (.Assign [.Name y py] (.ListComp elt [⟨.Name x p2, iter, ifs, 0⟩] scope pos) spos) (gSet i (mLc j it t fe)) := fun ρ S σ G ps H E o q =>
  ⟨_, ps_setLc (i := i) hc hN hy hyl hsw wi_pi ok hg (fun s H C cl fp => ttB_pts s H C cl fp) (fun s H C cl fp => teB_pe s H C cl fp) hs, by
    rw [ho]
    exact lc_run j hit ht he o (sat_frz o (Sat.toS (r := frzL S.length (mLcO j it t fe ρ S)) q fun x S1 v G1 ps1 H1 o1 e1 p1 a1 q => q _ G1 ps1 H1 (o1.setA i a1) (Ex.refl _) (List.prefix_refl _)))⟩
end
end
/-! ### a name's cell is data from now on -/
def slNe (j : Nat) : Sl → Bool
  | .own k => decide (k ≠ j)
  | _ => true
def ceNe (j : Nat) : Ce → Bool
  | .ins _ fs => fs.all fun f => slNe j f.2
  | _ => true
def frzSl (j : Nat) (d : D) : Sl → Sl
  | .own k => if k = j then .dat d else .own k
  | a => a
def gFrz (n0 i : Nat) (g : MS) : MS := fun ρ S => match ρ[i]? with
  | some (.own j) => if n0 ≤ j ∧ S.all (ceNe j) = true then match (S[j]?).bind ceD with
      | some d => g (ρ.map (frzSl j d)) (S.set j .gone)
      | none => .stuck
    else .stuck
  | some (.dat _) => g ρ S
  | _ => .stuck
section
variable {K : PySem.W.Frag} {F : Fx} {G H : Hp} {ps : List Addr} {ρ : List Sl} {S : List Ce} {σ : L2.St}
theorem SOk.frz (o : SOk K F G ps ρ S σ H) {j : Nat} {cl : Ce} {d : D} (hj : F.P0.length ≤ j) (hS : S[j]? = some cl) (hd : ceD cl = some d) (hn : S.all (ceNe j) = true) : ∃ G', Ex G G' ∧ SOk K F G' ps (ρ.map (frzSl j d)) (S.set j .gone) σ H := by
  have hlt : j < S.length := (List.getElem?_eq_some_iff.mp hS).1
  obtain ⟨p, hp⟩ : ∃ p, ps[j]? = some p := ⟨_, List.getElem?_eq_getElem (by rw [o.plen]; exact hlt)⟩
  obtain ⟨u, hu⟩ := o.there p (List.mem_of_getElem? hp)
  have gp : G p = none := by
    have z := o.cell j p cl hp hS
    cases cl with
    | gone => cases hd
    | lst ds => exact z.1
    | dct ds => exact z.1
    | ins C fs => exact z.1
  have eg : Ex G (upd G p u) := Ex.new gp
  have top := ceD_ok (o.cell j p cl hp hS) hd
  have n0 : F.H0 p = none := by
    rcases o.fresh p (List.mem_of_getElem? hp) with z | z
    · exfalso
      obtain ⟨t, ht⟩ := o.pre
      obtain ⟨m, hm, hz⟩ := List.mem_iff_getElem.mp z
      have h1 : ps[m]? = some p := by rw [← ht, List.getElem?_append_left hm, List.getElem?_eq_getElem hm, hz]
      by_cases e : m = j
      · omega
      · exact pnd o.nd hp h1 e rfl
    · exact z
  have ad : AtD K (upd G p u) (.ref p) d := by
    cases top with
    | dat a => cases a with
      | lst h hs => rw [gp] at h; cases h
      | dct h hs => rw [gp] at h; cases h
      | ins h hs => rw [gp] at h; cases h
      | sq h hs => cases cl <;> first | (cases hd; done) | (simp only [ceD, Option.map_eq_some_iff] at hd; obtain ⟨_, _, e⟩ := hd; cases e)
      | tup h hs => cases cl <;> first | (cases hd; done) | (simp only [ceD, Option.map_eq_some_iff] at hd; obtain ⟨_, _, e⟩ := hd; cases e)
      | obj k => cases cl <;> first | (cases hd; done) | (simp only [ceD, Option.map_eq_some_iff] at hd; obtain ⟨_, _, e⟩ := hd; cases e)
    | lst h hs => rw [hu] at h; cases h; exact .lst upd_same (hs.mono eg)
    | dct h hs => rw [hu] at h; cases h; exact .dct upd_same (hs.mono eg)
    | ins h hs => rw [hu] at h; cases h; exact .ins upd_same (hs.mono eg)
  refine ⟨_, eg, ⟨fun a w e => ?_, o.base.trans eg, o.keep, fun a w e => ?_, o.pre, o.nd, o.fresh, o.there, by rw [List.length_set]; exact o.plen, by rw [List.length_map]; exact o.slen, fun i a h m => ?_, fun k r c2 h1 h2 => ?_⟩⟩
  · by_cases ha : a = p
    · subst ha; rw [upd_same] at e; cases e; exact hu
    · rw [upd_ne ha] at e; exact o.sub a w e
  · by_cases ha : a = p
    · subst ha; exact .inr n0
    · rw [upd_ne ha] at e; exact o.new a w e
  · rw [List.getElem?_map] at h
    cases e : ρ[i]? with
    | none => rw [e] at h; cases h
    | some b =>
      rw [e] at h
      have h : frzSl j d b = a := by simpa using h
      subst h
      cases b with
      | no => exact (m rfl).elim
      | dat x =>
        obtain ⟨v, h1, h2⟩ := o.slot i _ e (fun z => nomatch z)
        exact ⟨v, h1, h2.mono eg (List.prefix_refl _)⟩
      | err f x =>
        obtain ⟨v, h1, h2⟩ := o.slot i _ e (fun z => nomatch z)
        exact ⟨v, h1, h2.mono eg (List.prefix_refl _)⟩
      | own k =>
        obtain ⟨v, h1, h2⟩ := o.slot i _ e (fun z => nomatch z)
        by_cases hk : k = j
        · subst hk
          cases h2 with | val h2 => cases h2 with | own h2 =>
          rw [hp] at h2; cases h2
          refine ⟨_, h1, ?_⟩
          show SlAt K (upd G p u) ps F.ea F.ed (.ref p) (if k = k then .dat d else .own k)
          rw [if_pos rfl]
          exact .val (.dat ad)
        · refine ⟨v, h1, ?_⟩
          show SlAt K (upd G p u) ps F.ea F.ed v (if k = j then .dat d else .own k)
          rw [if_neg hk]
          exact h2.mono eg (List.prefix_refl _)
  · by_cases hk : k = j
    · subst hk
      rw [List.getElem?_set_self hlt] at h2
      cases h2; trivial
    · rw [List.getElem?_set_ne (Ne.symm hk)] at h2
      have hrp := pnd o.nd hp h1 hk
      exact (o.cell k r c2 h1 h2).grow eg (List.prefix_refl _) (fun z _ => by rw [upd_ne hrp]; exact z) rfl
end
section
variable {c : Cz} {sts : List Stmt} {g : MS}
theorem ds_frz {n0 : Nat} (i : Nat) (h0 : c.F.P0.length = n0) (h : DS c sts g) : DS c sts (gFrz n0 i g) := fun ρ S σ G ps H E o q => by
  unfold gFrz at q
  cases e : ρ[i]? with
  | none => rw [e] at q; exact q.elim
  | some a =>
    rw [e] at q
    cases a with
    | no => exact q.elim
    | err _ _ => exact q.elim
    | dat _ => exact h _ _ _ _ _ _ _ o q
    | own j =>
      dsimp only at q
      by_cases hc : n0 ≤ j ∧ S.all (ceNe j) = true
      · rw [if_pos hc] at q
        cases e1 : S[j]? with
        | none => rw [e1] at q; exact q.elim
        | some cl =>
          rw [e1] at q
          dsimp only [Option.bind] at q
          cases e2 : ceD cl with
          | none => rw [e2] at q; exact q.elim
          | some d =>
            rw [e2] at q
            obtain ⟨G', eg, o'⟩ := o.frz (by rw [h0]; exact hc.1) e1 e2 hc.2
            exact h _ _ _ _ _ _ _ o' (q.mono eg (List.prefix_refl _))
      · rw [if_neg hc] at q; exact q.elim
end
/-! ### try -/
/-- which class is which -/
structure Subs (K : PySem.W.Frag) (nk : Nat) (sub : Nat → Nat → Bool) : Prop where
  is : ∀ i j, i < nk → j < nk → PySem.W.exmOne K (.ref (CM.A i)) (.ref (CM.A j)) = some (sub i j)
def slE : Sl → Sl
  | .err _ _ => .no
  | a => a
/-- a suite's result behind it: the name is gone -/
def gone (i : Nat) : RS → RS
  | .nx ρ S => .nx ((ρ.map slE).set i .no) S
  | .bk ρ S => .bk ((ρ.map slE).set i .no) S
  | .ct ρ S => .ct ((ρ.map slE).set i .no) S
  | .rt r S => .rt r S
  | _ => .stuck
def bareE : RS → RS
  | .exc _ _ _ _ => .stuck
  | r => r
/-- except clauses: the class, the name's slot, the suite -/
inductive Hd where
  | bare (k : Nat) (g : MS) | named (k i : Nat) (g : MS)
def hdl (nk : Nat) (sub : Nat → Nat → Bool) : List Hd → Nat → Option (Str × D) → MS
  | [], i, pl, ρ, S => .exc i pl ρ S
  | .bare k g :: r, i, pl, ρ, S => if i < nk ∧ k < nk then (bif sub i k then bareE (g ρ S) else hdl nk sub r i pl ρ S) else .stuck
  | .named k j g :: r, i, pl, ρ, S => if i < nk ∧ k < nk then (bif sub i k then (match pl with
      | some (f, x) => gone j (g ((ρ.map slE).set j (.err f x)) S)
      | none => .stuck) else hdl nk sub r i pl ρ S) else .stuck
def gTry (nk : Nat) (sub : Nat → Nat → Bool) (body : MS) (hs : List Hd) : MS := fun ρ S => match body ρ S with
  | .exc i pl ρ1 S1 => hdl nk sub hs i pl ρ1 S1
  | r => r
/-- within an except suite; within a try's body -/
abbrev Cz.sui (c : Cz) (a : Addr) (oe : Obj) (pn : List (Addr × Obj)) (F : Fx) : Cz := ⟨c.X.suite a ((a, oe) :: pn), F, fun _ _ _ _ => False, takes0⟩
abbrev Cz.try' (c : Cz) (W : WX) (pn : List (Addr × Obj)) (xe : Value → Shared → Prop) (tk : Takes (c.X.tr pn xe) W) : Cz := ⟨c.X.tr pn xe, c.F, W, tk⟩
inductive HX (c : Cz) (nk : Nat) (sub : Nat → Nat → Bool) : List ExceptHandler → List Hd → Prop
  | nil : HX c nk sub [] []
  | bare {x : Str} {k : Nat} {b : Stmt} {bs : List Stmt} {p q : Pos} {hs : List ExceptHandler} {g : MS} {l : List Hd} : Names c.X x (.ref (CM.A k)) → (∀ a oe pn, DS (c.sui a oe pn c.F) (b :: bs) g) → HX c nk sub hs l →
      HX c nk sub (.ExceptHandler (some (.Name x p)) none (b :: bs) q :: hs) (.bare k g :: l)
  | named {x n : Str} {k i : Nat} {b : Stmt} {bs : List Stmt} {p q : Pos} {hs : List ExceptHandler} {g : MS} {l : List Hd} : Names c.X x (.ref (CM.A k)) → c.X.N[i]? = some n → c.X.env.kindOf n = some .local →
      (∀ a oe pn dd j, j < nk → sub j k = true → Zc (.ref (CM.A j)) (some dd) oe → (∃ vs, oe.data = .fields vs) → DS (c.sui a oe pn { c.F with ea := a, ed := dd }) (b :: bs) g) → HX c nk sub hs l → HX c nk sub (.ExceptHandler (some (.Name x p)) (some n) (b :: bs) q :: hs) (.named k i g :: l)
def suU (c : Cz) (sts : List Stmt) : Suite := fun a cls d E σ H => ∀ (oe : Obj) (pn : List (Addr × Obj)), Zc cls d oe → (∃ vs, oe.data = .fields vs) → WSs (c.X.suite a ((a, oe) :: pn)) sts E σ H
theorem suU_ok {c : Cz} {sts : List Stmt} (a : Addr) (oe : Obj) (cls : Value) (d : Option Addr) (pn : List (Addr × Obj)) (hz : Zc cls d oe) (hf : ∃ vs, oe.data = .fields vs) : PSs (c.X.suite a ((a, oe) :: pn)) sts (suU c sts a cls d) :=
  ⟨fun pins s σ H E I h => wss_pss.run pins s σ H E I (h oe pn hz hf)⟩
section
variable {K : PySem.W.Frag} {F : Fx} {G H : Hp} {ps : List Addr} {ρ : List Sl} {S : List Ce} {σ : L2.St}
theorem SOk.slE (o : SOk K F G ps ρ S σ H) (ea ed : Addr) : SOk K { F with ea := ea, ed := ed } G ps (ρ.map slE) S σ H :=
  ⟨o.sub, o.base, o.keep, o.new, o.pre, o.nd, o.fresh, o.there, o.plen, by rw [List.length_map]; exact o.slen, fun i a h n => by
    rw [List.getElem?_map] at h
    cases e : ρ[i]? with
    | none => rw [e] at h; cases h
    | some b =>
      rw [e] at h
      have h : Mir.slE b = a := by simpa using h
      subst h
      cases b with
      | no => exact (n rfl).elim
      | err _ _ => exact (n rfl).elim
      | dat x =>
        obtain ⟨v, h1, h2⟩ := o.slot i _ e (fun z => nomatch z)
        cases h2 with | val h2 => exact ⟨v, h1, .val h2⟩
      | own x =>
        obtain ⟨v, h1, h2⟩ := o.slot i _ e (fun z => nomatch z)
        cases h2 with | val h2 => exact ⟨v, h1, .val h2⟩, o.cell⟩
theorem SOk.setErr (o : SOk K F G ps ρ S σ H) (i : Nat) {ea ed : Addr} {f : Str} {v : V} {d : D} (h : G ed = some (.xd [(f, v)])) (a : AtD K G v d) : SOk K { F with ea := ea, ed := ed } G ps ((ρ.map Mir.slE).set i (.err f d)) S (σ.set i (some (.ref ea))) H := by
  have o2 := o.slE ea ed
  refine ⟨o2.sub, o2.base, o2.keep, o2.new, o2.pre, o2.nd, o2.fresh, o2.there, o2.plen, by rw [List.length_set, List.length_set]; exact o2.slen, fun j x q n => ?_, o2.cell⟩
  by_cases hj : j = i
  · subst hj
    have hlt : j < (ρ.map Mir.slE).length := by
      have z := (List.getElem?_eq_some_iff.mp q).1
      rw [List.length_set] at z; exact z
    rw [List.getElem?_set_self hlt] at q
    cases q
    exact ⟨_, List.getElem?_set_self (by rw [o2.slen]; exact hlt), .err h a⟩
  · rw [List.getElem?_set_ne (Ne.symm hj)] at q ⊢
    exact o2.slot j x q n
end
/-- whatever error comes, the clauses take it as hdl says -/
theorem hx_cla {c : Cz} {nk : Nat} {sub : Nat → Nat → Bool} (sb : Subs c.X.K nk sub) {hs : List ExceptHandler} {l : List Hd} (h : HX c nk sub hs l) : ∃ l', ClaOk c.X hs l' ∧ ∀ G ps E i pl ρ S, SatS c G ps E (hdl nk sub l i pl ρ S) →
    ∀ σ G' ps' H dd, SOk c.X.K c.F G' ps' ρ S σ H → Ex G G' → ps <+: ps' → ExcAt c.X.K G' dd pl → wCla c.X.K c.W E l' (.ref (CM.A i)) dd σ H := by
  induction h with
  | nil => exact ⟨[], .nil, fun G ps E i pl ρ S q σ G' ps' H dd o e p x => q σ dd G' ps' H o e p x⟩
  | @bare x k b bs p q hs g l nm hsu _ ih =>
    obtain ⟨l', h1, h2⟩ := ih
    refine ⟨⟨.ref (CM.A k), none, suU c (b :: bs)⟩ :: l', .bare nm (fun a oe cls d pn hz hf => suU_ok a oe cls d pn hz hf) h1, fun G ps E i pl ρ S q σ G' ps' H dd o e p x => ?_⟩
    unfold hdl at q
    by_cases hk : i < nk ∧ k < nk
    · rw [if_pos hk] at q
      refine ⟨sub i k, sb.is i k hk.1 hk.2, fun y a na oe pn hz hf => ?_, fun y => ?_⟩
      · rw [y] at q
        dsimp only [cond] at q
        refine hsu a oe pn _ _ _ G' ps' H _ o ?_
        have q := q.mono e p
        revert q
        cases g ρ S with
        | nx ρ1 S1 => exact fun q => q
        | bk ρ1 S1 => exact fun q => q
        | ct ρ1 S1 => exact fun q => q
        | rt ρ1 S1 => exact fun q => q
        | exc _ _ _ _ => exact fun q => q.elim
        | stuck => exact fun q => q
      · rw [y] at q
        exact h2 G ps E i pl ρ S q σ G' ps' H dd o e p x
    · rw [if_neg hk] at q; exact q.elim
  | @named x n k i b bs p q hs g l nm hi hk' hsu _ ih =>
    obtain ⟨l', h1, h2⟩ := ih
    refine ⟨⟨.ref (CM.A k), some i, suU c (b :: bs)⟩ :: l', .named nm hi hk' (fun a oe cls d pn hz hf => suU_ok a oe cls d pn hz hf) h1, fun G ps E i' pl ρ S q σ G' ps' H dd o e p x => ?_⟩
    unfold hdl at q
    by_cases hk : i' < nk ∧ k < nk
    · rw [if_pos hk] at q
      refine ⟨sub i' k, sb.is i' k hk.1 hk.2, fun y a na oe pn hz hf => ?_, fun y => ?_⟩
      · rw [y] at q
        dsimp only [cond] at q
        cases pl with
        | none => exact q.elim
        | some fx =>
          obtain ⟨f, d⟩ := fx
          obtain ⟨d0, v, ed, gd, av⟩ := x
          subst ed
          dsimp only at q
          have oe' := o.setErr i (ea := a) (ed := d0) gd av
          refine hsu a oe pn d0 i' hk.1 y hz hf _ _ _ G' ps' H _ oe' ?_
          have q := q.mono e p
          have back : ∀ {ρ1 : List Sl} {S1 : List Ce} {G3 : Hp} {ps3 : List Addr} {σ3 : L2.St} {H3 : Hp}, SOk c.X.K { c.F with ea := a, ed := d0 } G3 ps3 ρ1 S1 σ3 H3 → SOk c.X.K c.F G3 ps3 ((ρ1.map slE).set i .no) S1 (σ3.set i none) H3 := fun o3 => (o3.slE c.F.ea c.F.ed).setN i none
          revert q
          cases g ((ρ.map slE).set i (.err f d)) S with
          | nx ρ1 S1 => exact fun q σ3 G3 ps3 H3 o3 e3 p3 => q _ G3 ps3 H3 (back o3) e3 p3
          | bk ρ1 S1 => exact fun q σ3 G3 ps3 H3 o3 e3 p3 => q _ G3 ps3 H3 (back o3) e3 p3
          | ct ρ1 S1 => exact fun q σ3 G3 ps3 H3 o3 e3 p3 => q _ G3 ps3 H3 (back o3) e3 p3
          | rt r S1 => exact fun q v ρ3 σ3 G3 ps3 H3 o3 e3 p3 a3 => q v _ _ G3 ps3 H3 (back o3) e3 p3 a3
          | exc _ _ _ _ => exact fun q => q.elim
          | stuck => exact fun q => q
      · rw [y] at q
        exact h2 G ps E i' pl ρ S q σ G' ps' H dd o e p x
    · rw [if_neg hk] at q; exact q.elim
def tryU (c : Cz) (body : List Stmt) (W : WX) : TS := fun E σ H => ∀ (pn : List (Addr × Obj)) (xe : Value → Shared → Prop), Takes (c.X.tr pn xe) W → PassesOwn (model c.X.prog c.X.w) c.X.A c.X.env xe → WSs (c.X.tr pn xe) body E σ H
/-- try: body except X: .. except Y as n: .. -/
theorem d1_try {c : Cz} {nk : Nat} {sub : Nat → Nat → Bool} {body : List Stmt} {h0 : ExceptHandler} {hs : List ExceptHandler} {l : List Hd} {g : MS} {pos : Pos} (sb : Subs c.X.K nk sub) (nd : c.X.N.Nodup)
    (hb : ∀ (W : WX) (pn : List (Addr × Obj)) (xe : Value → Shared → Prop) (tk : Takes (c.X.tr pn xe) W), PassesOwn (model c.X.prog c.X.w) c.X.A c.X.env xe → DS (c.try' W pn xe tk) body g) (hx : HX c nk sub (h0 :: hs) l)
    (st : c.X.stack = c.X.env :: c.X.outer := by rfl) (fr : c.X.env.frame = some c.X.env.locals := by rfl) : D1 c (.Try body (h0 :: hs) [] [] pos) (gTry nk sub g l) := fun ρ S σ G ps H E o q => by
  obtain ⟨l', h1, h2⟩ := hx_cla sb hx
  refine ⟨_, ps_clauses (tb := tryU c body) st fr nd c.tk (fun W pn xe tk hp => ⟨fun pins s σ H E I hh => wss_pss.run pins s σ H E I (hh pn xe tk hp)⟩) h1, ?_⟩
  intro pn xe tk hp
  refine hb _ pn xe tk hp _ _ _ G ps H E o ?_
  unfold gTry at q
  revert q
  cases g ρ S with
  | nx ρ1 S1 => exact fun q => q
  | bk ρ1 S1 => exact fun q => q
  | ct ρ1 S1 => exact fun q => q
  | rt ρ1 S1 => exact fun q => q
  | exc i pl ρ1 S1 => exact fun q σ3 dd G3 ps3 H3 o3 e3 p3 x3 => h2 G ps E i pl ρ1 S1 q σ3 G3 ps3 H3 dd o3 e3 p3 x3
  | stuck => exact fun q => q
/-- n.f, n the caught error -/
def mErr (i : Nat) (f : Str) : ME := fun ρ S => match ρ[i]? with
  | some (.err g d) => if g = f then .ok (.dat d) S else .stuck
  | _ => .stuck
/-- the errors of class k keep f -/
def Keeps (K : PySem.W.Frag) (nk : Nat) (sub : Nat → Nat → Bool) (k : Nat) (f : Str) : Prop := ∀ j, j < nk → sub j k = true → XfC K (CM.A j) ∧ PySem.W.findIn K (.ref (CM.A j)) f = some none
theorem de_err {c : Cz} (i : Nat) {n f : Str} {C a dd : Addr} {oe : Obj} {pn : List (Addr × Obj)} {p1 pos : Pos} (TT : XfC c.X.K C ∧ PySem.W.findIn c.X.K (.ref C) f = some none) (hz : Zc (.ref C) (some dd) oe) (hf : ∃ vs, oe.data = .fields vs)
    (hN : c.X.N[i]? = some n := by rfl) (hv : Vis c.X.env.scope n := by first | exact Or.inl rfl | exact Or.inr (Or.inl rfl) | exact Or.inr (Or.inr rfl))
    (h1 : (n == ("__debug__" : Str)) = false := by decide) (h2 : (n == ("__classdict__" : Str)) = false := by decide)
    (hb : attributeBase (.Name n p1) f (c.X.suite a ((a, oe) :: pn)).env (eval (.Name n p1) (c.X.suite a ((a, oe) :: pn)).env) = eval (.Name n p1) (c.X.suite a ((a, oe) :: pn)).env := by rfl) :
    DE (c.sui a oe pn { c.F with ea := a, ed := dd }) (.Attribute (.Name n p1) f pos) (mErr i f) := fun ρ S σ G ps H k o q => by
  unfold mErr at q
  cases e : ρ[i]? with
  | none => rw [e] at q; exact q.elim
  | some b =>
    rw [e] at q
    cases b with
    | err g d =>
      dsimp only at q
      by_cases hg : g = f
      · subst hg
        rw [if_pos rfl] at q
        obtain ⟨v, hs, hv'⟩ := o.slot i _ e (fun z => nomatch z)
        obtain ⟨T, no⟩ := TT
        cases hv' with
        | err gd av =>
          exact ⟨_, pe_xf (X := c.X) T no hz hf (pe_var (X := c.X.suite a ((a, oe) :: pn)) hN hv h1 h2) hb, _, hs, rfl, rfl, dd, _, _, rfl, o.sub _ _ gd, by simp [List.lookup], q.ok o (AtA.dat av)⟩
        | val z => cases z
      · rw [if_neg hg] at q; exact q.elim
    | _ => exact q.elim
end Mir

set_option maxHeartbeats 1000000
/-! Operators and built-ins, on data. -/
namespace Mir
open PySem PySem.Spec L2
variable [CM : ClsMap]
/-! ### ints, texts, sequences -/
section
def okMul (i j : Int) : Bool := decide (i.natAbs.log2 + j.natAbs.log2 < 1000000)
def okDiv (j : Int) : Bool := decide (0 < j ∧ j.natAbs.log2 < 9000)
def repS (s : Str) (n : Int) : Str := ⟨(List.replicate n.toNat s.cps).foldl (· ++ ·) #[]⟩
def addF : D → D → Option D
  | .int i, .int j => some (.int (i + j))
  | .str a, .str b => if a.length + b.length ≤ sizeLine then some (.str (a ++ b)) else none
  | .lst a, .lst b => if a.length + b.length ≤ 100000 then some (.lst (a ++ b)) else none
  | .tup a, .tup b => if a.length + b.length ≤ 100000 then some (.tup (a ++ b)) else none
  | _, _ => none
def subF : D → D → Option D
  | .int i, .int j => some (.int (i - j))
  | _, _ => none
def mulF : D → D → Option D
  | .int i, .int j => if okMul i j = true then some (.int (i * j)) else none
  | .str s, .int n => if n < 1 ∧ -1000000 ≤ n then some (.str Str.empty) else if n = 1 then some (.str s) else if 2 ≤ n ∧ n ≤ 100000 ∧ 0 < s.length ∧ s.length ≤ 100 then some (.str (repS s n)) else none
  | .lst ds, .int n => if 0 ≤ n ∧ n ≤ 100000 ∧ ds.length ≤ 100 then some (.lst (List.replicate n.toNat ds).flatten) else none
  | .tup ds, .int n => if 2 ≤ n ∧ n ≤ 100000 ∧ ds ≠ [] ∧ ds.length ≤ 100 then some (.tup (List.replicate n.toNat ds).flatten) else none
  | _, _ => none
def divF : D → D → Option D
  | .int i, .int j => if okDiv j = true then some (.int (i / j)) else none
  | _, _ => none
def modF : D → D → Option D
  | .int i, .int j => if 0 < j then some (.int (i % j)) else none
  | _, _ => none
def powF : D → D → Option D
  | .int i, .int j => if 0 ≤ j ∧ j ≤ 1000000 ∧ i.natAbs < 2 ^ 64 then some (.int (i ^ j.toNat)) else none
  | _, _ => none
def negF : D → Option D
  | .int i => some (.int (-i))
  | _ => none
def ltF : D → D → Option D
  | .int i, .int j => some (.bl (decide (i < j)))
  | .str a, .str b => some (.bl (decide (a.cps.toList < b.cps.toList)))
  | _, _ => none
def leF : D → D → Option D
  | .int i, .int j => some (.bl (decide (i ≤ j)))
  | .str a, .str b => some (.bl (!decide (b.cps.toList < a.cps.toList)))
  | _, _ => none
def gtF : D → D → Option D
  | .int i, .int j => some (.bl (decide (j < i)))
  | .str a, .str b => some (.bl (decide (b.cps.toList < a.cps.toList)))
  | _, _ => none
def geF : D → D → Option D
  | .int i, .int j => some (.bl (decide (j ≤ i)))
  | .str a, .str b => some (.bl (!decide (a.cps.toList < b.cps.toList)))
  | _, _ => none
def isNonD : D → Bool
  | .non => true
  | _ => false
def isF : D → D → Option D
  | d, .non => some (.bl (isNonD d))
  | .bl a, .bl b => some (.bl (decide (a = b)))
  | _, _ => none
def isnF : D → D → Option D
  | d, .non => some (.bl (!isNonD d))
  | .bl a, .bl b => some (.bl (!decide (a = b)))
  | _, _ => none
def subS (a b : Str) : Bool := !(Builtin.Str.occurrences b a 0 b.length 1).isEmpty
/-- flat data -/
def flatD : D → Option V
  | .non => some .non
  | .bl b => some (.bl b)
  | .int i => some (.int i)
  | .str s => some (.str s)
  | _ => none
def flatDs : List D → Option (List V)
  | [] => some []
  | d :: r => match flatD d, flatDs r with
    | some v, some vs => some (v :: vs)
    | _, _ => none
def inSeq (d : D) (ds : List D) : Option Bool := match flatD d, flatDs ds with
  | some v, some vs => some (inV v vs)
  | _, _ => none
def kOf : D → Option Key
  | .int i => some (.inl i)
  | .str s => some (.inr s)
  | _ => none
def hasK (kvs : List (Key × D)) (k : Key) : Bool := (kvs.lookup k).isSome
def inF : D → D → Option D
  | .str a, .str b => some (.bl (subS a b))
  | d, .tup ds => (inSeq d ds).map .bl
  | d, .lst ds => (inSeq d ds).map .bl
  | _, _ => none
def ninF : D → D → Option D
  | .str a, .str b => some (.bl (!subS a b))
  | d, .tup ds => (inSeq d ds).map fun b => .bl !b
  | d, .lst ds => (inSeq d ds).map fun b => .bl !b
  | _, _ => none
def ixF : D → D → Option D
  | .tup ds, .int n => atI ds n
  | .lst ds, .int n => atI ds n
  | .sq ds, .int n => atI ds n
  | .str z, .int n => if z.length ≤ sizeLine then (atI z.cps.toList n).map fun x => .str ⟨#[x]⟩ else none
  | _, _ => none
end
section
variable {X : Cx} {K : PySem.W.Frag} {d d1 d2 : D}
theorem RD2.or {r r' : R2} {f g : D → D → Option D} (h : RD2 K r f) (h' : RD2 K r' g) {u : D → D → Option D} (hu : ∀ a b d, u a b = some d → f a b = some d ∨ g a b = some d) : RD2 K (fun x y H Q => r x y H Q ∨ r' x y H Q) u := fun G H x y k d1 d2 d s a b e q =>
  (hu d1 d2 d e).elim (fun z => .inl (h G H x y k d1 d2 d s a b z q)) fun z => .inr (h' G H x y k d1 d2 d s a b z q)
/-- ints to flat data -/
theorem rd_I {C : Int → Int → Prop} {g : Int → Int → V} {f : D → D → Option D} (h : ∀ a b d, f a b = some d → ∃ i j, a = .int i ∧ b = .int j ∧ C i j ∧ ∀ G, AtD K G (g i j) d) : RD2 K (rI C g) f := fun G H x y k d1 d2 d s a b e q => by
  obtain ⟨i, j, rfl, rfl, hc, hd⟩ := h _ _ _ e
  exact ⟨i, j, a.int_, b.int_, hc, q _ G H (.refl _ _) (hd G)⟩
theorem rd_I0 {g : Int → Int → V} {f : D → D → Option D} (h : ∀ a b d, f a b = some d → ∃ i j, a = .int i ∧ b = .int j ∧ ∀ G, AtD K G (g i j) d) : RD2 K (rI0 g) f := fun G H x y k d1 d2 d s a b e q => by
  obtain ⟨i, j, rfl, rfl, hd⟩ := h _ _ _ e
  exact ⟨i, j, a.int_, b.int_, q _ G H (.refl _ _) (hd G)⟩
/-- texts to flat data -/
theorem rd_S {C : Str → Str → Prop} {g : Str → Str → V} {f : D → D → Option D} (h : ∀ a b d, f a b = some d → ∃ i j, a = .str i ∧ b = .str j ∧ C i j ∧ ∀ G, AtD K G (g i j) d) : RD2 K (fun x y H Q => ∃ i j, x = .str i ∧ y = .str j ∧ C i j ∧ Q (g i j) H) f := fun G H x y k d1 d2 d s a b e q => by
  obtain ⟨i, j, rfl, rfl, hc, hd⟩ := h _ _ _ e
  exact ⟨i, j, a.str_, b.str_, hc, q _ G H (.refl _ _) (hd G)⟩
theorem rd_S0 {g : Str → Str → V} {f : D → D → Option D} (h : ∀ a b d, f a b = some d → ∃ i j, a = .str i ∧ b = .str j ∧ ∀ G, AtD K G (g i j) d) : RD2 K (fun x y H Q => ∃ i j, x = .str i ∧ y = .str j ∧ Q (g i j) H) f := fun G H x y k d1 d2 d s a b e q => by
  obtain ⟨i, j, rfl, rfl, hd⟩ := h _ _ _ e
  exact ⟨i, j, a.str_, b.str_, q _ G H (.refl _ _) (hd G)⟩
def rStrCat : R2 := fun x y H Q => ∃ i j, x = .str i ∧ y = .str j ∧ i.length + j.length ≤ sizeLine ∧ Q (.str (i ++ j)) H
def rAddA (K : PySem.W.Frag) : R2 := fun x y H Q => rI0 (fun i j => .int (i + j)) x y H Q ∨ rStrCat x y H Q ∨ rCat x y H Q ∨ rCatA K x y H Q
omit CM in
theorem opAdd : OpR X (binaryOp .Add) (rAddA X.K) := OpR.or op_add (OpR.or op_add_str (OpR.or op_cat op_catA))
theorem rdAdd : RD2 K (rAddA K) addF := fun G H x y k d1 d2 d s a b e q => by
  unfold addF at e
  split at e
  · cases e; exact .inl ⟨_, _, a.int_, b.int_, q _ G H (.refl _ _) (.int _)⟩
  · split at e
    · rename_i h; cases e; exact .inr (.inl ⟨_, _, a.str_, b.str_, h, q _ G H (.refl _ _) (.str _)⟩)
    · cases e
  · split at e
    · rename_i h; cases e
      obtain ⟨p1, v1, rfl, h1, s1⟩ := a.lst_ s
      obtain ⟨p2, v2, rfl, h2, s2⟩ := b.lst_ s
      refine .inr (.inr (.inl ⟨_, _, _, _, rfl, rfl, h1, h2, by rw [s1.len, s2.len]; exact Nat.le_trans h (by decide), fun p hp => q _ _ _ (.one hp) ?_⟩))
      exact .lst upd_same ((s1.append s2).mono (Ex.new (s.back hp)))
    · cases e
  · split at e
    · rename_i h; cases e
      obtain ⟨p1, v1, rfl, h1, g1, s1⟩ := a.tup_ s
      obtain ⟨p2, v2, rfl, h2, g2, s2⟩ := b.tup_ s
      refine .inr (.inr (.inr ⟨_, _, _, _, rfl, rfl, h1, h2, by rw [s1.len, s2.len]; exact Nat.le_trans h (by decide), fun e => ?_, fun n e => ?_, fun n n' p hp => q _ _ _ (.one hp) ?_⟩))
      · subst e
        cases s1
        exact q _ _ _ (.refl _ _) (.tup g2 s2)
      · subst e
        cases s2
        rw [List.append_nil] at q
        exact q _ _ _ (.refl _ _) (.tup g1 s1)
      · exact .tup (SqT.of upd_same) ((s1.append s2).mono (Ex.new (s.back hp)))
    · cases e
  · cases e
omit CM in
theorem opSub : OpR X (binaryOp .Sub) (rI0 fun i j => .int (i - j)) := op_sub
theorem rdSub : RD2 K (rI0 fun i j => .int (i - j)) subF := rd_I0 fun a b d e => by
  unfold subF at e
  split at e
  · cases e; exact ⟨_, _, rfl, rfl, fun G => .int _⟩
  · cases e
omit CM in
theorem opDiv : OpR X (binaryOp .FloorDiv) (rI CDivW fun i j => .int (i / j)) := op_fdivW
theorem rdDiv : RD2 K (rI CDivW fun i j => .int (i / j)) divF := rd_I fun a b d e => by
  unfold divF at e
  split at e
  · split at e
    · rename_i h; cases e; exact ⟨_, _, rfl, rfl, (show _ ∧ _ from of_decide_eq_true (p := _ ∧ _) h), fun G => .int _⟩
    · cases e
  · cases e
omit CM in
theorem opMod : OpR X (binaryOp .Mod) (rI (fun _ j => 0 < j) fun i j => .int (i % j)) := op_mod
theorem rdMod : RD2 K (rI (fun _ j => 0 < j) fun i j => .int (i % j)) modF := rd_I fun a b d e => by
  unfold modF at e
  split at e
  · split at e
    · rename_i h; cases e; exact ⟨_, _, rfl, rfl, h, fun G => .int _⟩
    · cases e
  · cases e
omit CM in
theorem opPow : OpR X (binaryOp .Pow) (rI CPow fun i j => .int (i ^ j.toNat)) := op_pow
theorem rdPow : RD2 K (rI CPow fun i j => .int (i ^ j.toNat)) powF := rd_I fun a b d e => by
  unfold powF at e
  split at e
  · split at e
    · rename_i h; cases e; exact ⟨_, _, rfl, rfl, h, fun G => .int _⟩
    · cases e
  · cases e
theorem rdNeg : RD1 K (fun x H Q => ∃ i, x = .int i ∧ Q (.int (-i)) H) negF := fun G H x k d1 d s a e q => by
  unfold negF at e
  split at e
  · cases e; exact ⟨_, a.int_, q _ G H (.refl _ _) (.int _)⟩
  · cases e
/-! order -/
def rLtA : R2 := fun x y H Q => rI0 (fun i j => .bl (decide (i < j))) x y H Q ∨ ∃ i j, x = .str i ∧ y = .str j ∧ Q (.bl (decide (i.cps.toList < j.cps.toList))) H
def rLeA : R2 := fun x y H Q => rI0 (fun i j => .bl (decide (i ≤ j))) x y H Q ∨ ∃ i j, x = .str i ∧ y = .str j ∧ Q (.bl (!decide (j.cps.toList < i.cps.toList))) H
def rGtA : R2 := fun x y H Q => rI0 (fun i j => .bl (decide (j < i))) x y H Q ∨ ∃ i j, x = .str i ∧ y = .str j ∧ Q (.bl (decide (j.cps.toList < i.cps.toList))) H
def rGeA : R2 := fun x y H Q => rI0 (fun i j => .bl (decide (j ≤ i))) x y H Q ∨ ∃ i j, x = .str i ∧ y = .str j ∧ Q (.bl (!decide (i.cps.toList < j.cps.toList))) H
omit CM in
theorem opLt : OpR X (compareOp .Lt) rLtA := OpR.or op_lt op_lt_str
omit CM in
theorem opLe : OpR X (compareOp .LtE) rLeA := OpR.or op_le op_le_str
omit CM in
theorem opGt : OpR X (compareOp .Gt) rGtA := OpR.or op_gt op_gt_str
omit CM in
theorem opGe : OpR X (compareOp .GtE) rGeA := OpR.or op_ge op_ge_str
theorem rdLt : RD2 K rLtA ltF := fun G H x y k d1 d2 d s a b e q => by
  unfold ltF at e
  split at e
  · cases e; exact .inl ⟨_, _, a.int_, b.int_, q _ G H (.refl _ _) (.bl _)⟩
  · cases e; exact .inr ⟨_, _, a.str_, b.str_, q _ G H (.refl _ _) (.bl _)⟩
  · cases e
theorem rdLe : RD2 K rLeA leF := fun G H x y k d1 d2 d s a b e q => by
  unfold leF at e
  split at e
  · cases e; exact .inl ⟨_, _, a.int_, b.int_, q _ G H (.refl _ _) (.bl _)⟩
  · cases e; exact .inr ⟨_, _, a.str_, b.str_, q _ G H (.refl _ _) (.bl _)⟩
  · cases e
theorem rdGt : RD2 K rGtA gtF := fun G H x y k d1 d2 d s a b e q => by
  unfold gtF at e
  split at e
  · cases e; exact .inl ⟨_, _, a.int_, b.int_, q _ G H (.refl _ _) (.bl _)⟩
  · cases e; exact .inr ⟨_, _, a.str_, b.str_, q _ G H (.refl _ _) (.bl _)⟩
  · cases e
theorem rdGe : RD2 K rGeA geF := fun G H x y k d1 d2 d s a b e q => by
  unfold geF at e
  split at e
  · cases e; exact .inl ⟨_, _, a.int_, b.int_, q _ G H (.refl _ _) (.bl _)⟩
  · cases e; exact .inr ⟨_, _, a.str_, b.str_, q _ G H (.refl _ _) (.bl _)⟩
  · cases e
/-! is -/
theorem isNonD_ok {G H : Hp} {v : V} (s : Ex G H) (h : TopD K G H v d) : decide (v = V.non) = isNonD d := by
  cases h with
  | dat h => cases h <;> first | rfl | exact decide_eq_false (fun z => nomatch z)
  | lst _ _ => exact decide_eq_false (fun z => nomatch z)
  | dct _ _ => exact decide_eq_false (fun z => nomatch z)
  | ins _ _ => exact decide_eq_false (fun z => nomatch z)
def rIsA : R2 := fun x y H Q => (y = .non ∧ Q (.bl (decide (x = .non))) H) ∨ rIsB x y H Q
def rNotA : R2 := fun x y H Q => (y = .non ∧ Q (.bl (!decide (x = .non))) H) ∨ rNotB x y H Q
omit CM in
theorem opIs : OpR X (compareOp .Is) rIsA := OpR.or op_isN op_isBl
omit CM in
theorem opNot : OpR X (compareOp .IsNot) rNotA := OpR.or op_notN op_notBl
theorem rdIs : RD2 K rIsA isF := fun G H x y k d1 d2 d s a b e q => by
  unfold isF at e
  split at e
  · cases e
    refine .inl ⟨b.non_, q _ G H (.refl _ _) ?_⟩
    rw [isNonD_ok s a]; exact .bl _
  · cases e; exact .inr ⟨_, _, a.bl_, b.bl_, q _ G H (.refl _ _) (.bl _)⟩
  · cases e
theorem rdNot : RD2 K rNotA isnF := fun G H x y k d1 d2 d s a b e q => by
  unfold isnF at e
  split at e
  · cases e
    refine .inl ⟨b.non_, q _ G H (.refl _ _) ?_⟩
    rw [isNonD_ok s a]; exact .bl _
  · cases e; exact .inr ⟨_, _, a.bl_, b.bl_, q _ G H (.refl _ _) (.bl _)⟩
  · cases e
/-! in -/
theorem flatD_ok {G H : Hp} {v u : V} (h : TopD K G H v d) (e : flatD d = some u) : v = u ∧ flatV u = true := by
  cases h with
  | dat h => cases h <;> cases e <;> exact ⟨rfl, rfl⟩
  | lst _ _ => cases e
  | dct _ _ => cases e
  | ins _ _ => cases e
theorem flatDs_ok {G : Hp} : ∀ {vs : List V} {ds : List D} {us : List V}, AtDs K G vs ds → flatDs ds = some us → vs = us ∧ us.all flatV = true
  | _, _, _, .nil, e => by cases e; exact ⟨rfl, rfl⟩
  | _ :: vs, d :: ds, us, .cons h hs, e => by
    unfold flatDs at e
    cases e1 : flatD d with
    | none => rw [e1] at e; cases e
    | some u =>
      cases e2 : flatDs ds with
      | none => rw [e1, e2] at e; cases e
      | some ws =>
        rw [e1, e2] at e
        cases e
        obtain ⟨q1, q2⟩ := flatD_ok (H := G) (.dat h) e1
        obtain ⟨q3, q4⟩ := flatDs_ok hs e2
        subst q1 q3
        exact ⟨rfl, by rw [List.all_cons, q2, q4] <;> rfl⟩
def rInA (K : PySem.W.Frag) : R2 := fun x y H Q => (∃ i j, x = .str i ∧ y = .str j ∧ Q (.bl (!(Builtin.Str.occurrences j i 0 j.length 1).isEmpty)) H) ∨ rIn K false x y H Q
def rNinA (K : PySem.W.Frag) : R2 := fun x y H Q => (∃ i j, x = .str i ∧ y = .str j ∧ Q (.bl (!(!(Builtin.Str.occurrences j i 0 j.length 1).isEmpty))) H) ∨ rIn K true x y H Q
omit CM in
theorem opIn : OpR X (compareOp .In) (rInA X.K) := OpR.or op_in_str op_in_seq
omit CM in
theorem opNin : OpR X (compareOp .NotIn) (rNinA X.K) := OpR.or op_notin_str op_notIn_seq
theorem inSeq_ok {neg : Bool} {G H : Hp} {x y : V} {k : VK} {ds : List D} {t : Bool} (s : Ex G H) (a : TopD K G H x d) (b : TopD K G H y (.tup ds) ∨ TopD K G H y (.lst ds)) (e : inSeq d ds = some t) (q : k (.bl (if neg then !t else t)) H) : rIn K neg x y H k := by
  unfold inSeq at e
  cases e1 : flatD d with
  | none => rw [e1] at e; cases e
  | some v =>
    cases e2 : flatDs ds with
    | none => rw [e1, e2] at e; cases e
    | some vs =>
      rw [e1, e2] at e
      cases e
      obtain ⟨rfl, f1⟩ := flatD_ok a e1
      rcases b with b | b
      · obtain ⟨p, ws, rfl, h1, _, h2⟩ := b.tup_ s
        obtain ⟨rfl, f2⟩ := flatDs_ok h2 e2
        exact ⟨_, _, rfl, .inr h1, f1, f2, q⟩
      · obtain ⟨p, ws, rfl, h1, h2⟩ := b.lst_ s
        obtain ⟨rfl, f2⟩ := flatDs_ok h2 e2
        exact ⟨_, _, rfl, .inl (SqL.of h1), f1, f2, q⟩
theorem rdIn : RD2 K (rInA K) inF := fun G H x y k d1 d2 d s a b e q => by
  unfold inF at e
  split at e
  · cases e; exact .inl ⟨_, _, a.str_, b.str_, q _ G H (.refl _ _) (.bl _)⟩
  · rename_i ds
    cases ei : inSeq d1 ds with
    | none => rw [ei] at e; cases e
    | some t => rw [ei] at e; cases e; exact .inr (inSeq_ok (neg := false) s a (.inl b) ei (q _ G H (.refl _ _) (.bl _)))
  · rename_i ds
    cases ei : inSeq d1 ds with
    | none => rw [ei] at e; cases e
    | some t => rw [ei] at e; cases e; exact .inr (inSeq_ok (neg := false) s a (.inr b) ei (q _ G H (.refl _ _) (.bl _)))
  · cases e
theorem rdNin : RD2 K (rNinA K) ninF := fun G H x y k d1 d2 d s a b e q => by
  unfold ninF at e
  split at e
  · cases e; exact .inl ⟨_, _, a.str_, b.str_, q _ G H (.refl _ _) (.bl _)⟩
  · rename_i ds
    cases ei : inSeq d1 ds with
    | none => rw [ei] at e; cases e
    | some t => rw [ei] at e; cases e; exact .inr (inSeq_ok (neg := true) s a (.inl b) ei (q _ G H (.refl _ _) (.bl _)))
  · rename_i ds
    cases ei : inSeq d1 ds with
    | none => rw [ei] at e; cases e
    | some t => rw [ei] at e; cases e; exact .inr (inSeq_ok (neg := true) s a (.inr b) ei (q _ G H (.refl _ _) (.bl _)))
  · cases e
/-! subscripts -/
theorem atI_of {G : Hp} {vs : List V} {ds : List D} {n : Int} {x : D} (h : AtDs K G vs ds) (e : atI ds n = some x) : ∃ u, atI vs n = some u ∧ AtD K G u x := by
  unfold atI at e ⊢
  rw [h.len]
  cases hi : ixN ds.length n with
  | none => rw [hi] at e; cases e
  | some w =>
    rw [hi] at e
    exact h.get e
theorem ixSeq : IxR X (rIx X.K) := ix_seq
theorem rdIx : RD2 K (rIx K) ixF := fun G H x y k d1 d2 d s a b e q => by
  unfold ixF at e
  split at e
  · obtain ⟨p, vs, rfl, h1, _, h2⟩ := a.tup_ s
    obtain ⟨u, e1, e2⟩ := atI_of h2 e
    exact .inr (.inl ⟨_, _, _, u, rfl, b.int_, h1, e1, q _ G H (.refl _ _) e2⟩)
  · obtain ⟨p, vs, rfl, h1, h2⟩ := a.lst_ s
    obtain ⟨u, e1, e2⟩ := atI_of h2 e
    exact .inl ⟨_, _, _, u, rfl, b.int_, SqL.of h1, e1, q _ G H (.refl _ _) e2⟩
  · obtain ⟨p, vs, rfl, h1, h2⟩ := a.sq_ s
    obtain ⟨u, e1, e2⟩ := atI_of h2 e
    exact .inl ⟨_, _, _, u, rfl, b.int_, h1, e1, q _ G H (.refl _ _) e2⟩
  · split at e
    · rename_i z n hz
      cases ea : atI z.cps.toList n with
      | none => rw [ea] at e; cases e
      | some c => rw [ea] at e; cases e; exact .inr (.inr ⟨_, _, _, a.str_, b.int_, hz, ea, q _ G H (.refl _ _) (.str _)⟩)
    · cases e
  · cases e
end
/-! ### products -/
section
variable {X : Cx} {K : PySem.W.Frag}
omit CM in
theorem rep_size (a : Array Nat) : ∀ (m : Nat) (acc : Array Nat), ((List.replicate m a).foldl (· ++ ·) acc).size = acc.size + m * a.size := by
  intro m
  induction m with
  | zero => intro acc; simp
  | succ m ih =>
    intro acc
    rw [List.replicate_succ, List.foldl_cons, ih, Array.size_append, Nat.succ_mul]
    omega
omit CM in
theorem repS_len (s : Str) (n : Int) : (repS s n).length = n.toNat * s.length := by
  show ((List.replicate n.toNat s.cps).foldl (· ++ ·) #[]).size = _
  rw [rep_size]
  show 0 + _ = _
  rw [Nat.zero_add]
  rfl
def rRepS : R2 := fun x y H Q => ∃ s n, x = .str s ∧ y = .int n ∧ 2 ≤ n ∧ n ≤ 100000 ∧ 0 < s.length ∧ s.length ≤ 100 ∧ Q (.str (repS s n)) H
omit CM in
theorem op_repS : OpR X (binaryOp .Mult) rRepS := by
  intro pins s σ H x y v u Q I rx ry h
  obtain ⟨z, n, e1, e2, h1, h2, h3, h4, q⟩ := h
  subst e1 e2
  obtain ⟨t, e⟩ := rx
  obtain ⟨t', e'⟩ := ry
  subst e e'
  have nz : (n == 1 || z.length == 0) = false := by
    have a1 : (n == 1) = false := beq_eq_false_iff_ne.mpr (by omega)
    have a2 : (z.length == 0) = false := beq_eq_false_iff_ne.mpr (by omega)
    rw [a1, a2] <;> rfl
  refine PySem.P.mul_str (by rw [decide_eq_false (by omega), decide_eq_false (by omega)] <;> rfl) (fun _ _ => ?_) (fun _ _ => ?_) ?_
  · have d1 : (92233720368547 : Int) ≤ (2 ^ 63 - 1) / n := (Int.le_ediv_iff_mul_le (by omega)).mpr (by omega)
    omega
  · unfold Builtin.Str.tooLong
    refine decide_eq_false ?_
    have a1 : z.length * n.toNat ≤ 100 * 100000 := Nat.mul_le_mul h4 (by omega)
    rw [sizeLine_eq]
    omega
  · rw [if_neg (by omega), if_neg (by rw [nz]; decide)]
    refine ⟨?_, ⟨.str (repS z n), H, I.tok _, ⟨_, rfl⟩, q⟩⟩
    show (repS z n).length ≤ sizeLine
    rw [repS_len, sizeLine_eq]
    have a1 : n.toNat * z.length ≤ 100000 * 100 := Nat.mul_le_mul (by omega) h4
    omega
def rRepTu (K : PySem.W.Frag) : R2 := fun x y H Q => ∃ (l : Addr) (k : Int) (xs : List V), x = .ref l ∧ y = .int k ∧ SqT K H l xs ∧ xs ≠ [] ∧ 2 ≤ k ∧ k ≤ 100000 ∧ xs.length ≤ 100 ∧ ∀ p, H p = none → Q (.ref p) (upd H p (.tup (List.replicate k.toNat xs).flatten))
omit CM in
theorem op_repTu : OpR X (binaryOp .Mult) (rRepTu X.K) := by
  intro pins s σ H x y v u Q I rx ry h
  obtain ⟨l, k, xs, e1, e2, hT, hne, h1, h2, hz, q⟩ := h
  subst e1 e2
  cases rx
  obtain ⟨t, e⟩ := ry
  subst e
  obtain ⟨its, r, tp, hs⟩ := I.tuple hT
  obtain ⟨⟨cls, dd, data, sl⟩, ho, hc, n, hd⟩ := tp
  dsimp only at hc hd
  subst hc hd
  have len : its.length = xs.length := r.length.symm
  have some1 : its.toArray.isEmpty = false := by
    cases its with
    | nil => exact absurd (List.eq_nil_of_length_eq_zero len.symm) hne
    | cons a b => rfl
  have size : its.toArray.size = xs.length := by rw [List.size_toArray, len]
  have prod : xs.length * k.toNat ≤ 100 * 100000 := Nat.mul_le_mul hz (by omega)
  have prodI : ((its.toArray.size : Nat) : Int) * k ≤ 10000000 := by
    rw [size]
    have e : ((xs.length * k.toNat : Nat) : Int) = (xs.length : Int) * k := by rw [Int.natCast_mul, Int.toNat_of_nonneg (by omega)]
    rw [← e]
    omega
  have flat : (List.replicate k.toNat its).flatten.length ≤ sizeLine := by
    rw [PyProof.Rows.lm_len_rep_flat, len, sizeLine_eq, Nat.mul_comm]
    omega
  have t0 : (decide (k < -(2 ^ 63)) || decide (k ≥ 2 ^ 63)) = false := by rw [decide_eq_false (by omega), decide_eq_false (by omega)] <;> rfl
  have t1 : (its.toArray.isEmpty || k == 1) = false := by rw [some1, Bool.false_or, beq_eq_false_iff_ne]; omega
  have t2 : (decide (k ≤ 0) || its.toArray.isEmpty) = false := by rw [some1, Bool.or_false, decide_eq_false_iff_not]; omega
  have t4 : Builtin.Tuple.tupleTooMany (((its.toArray.size : Nat) : Int) * k) = false := by
    show decide (_ > (sizeLine : Int)) = false
    rw [sizeLine_eq, decide_eq_false_iff_not]
    omega
  have made := tuple_mulW l its.toArray n dd sl k t t0 t1 t2 (by omega) t4 (by rw [size_rep, List.size_toArray]; exact flat)
  refine wpAny_binaryOp_repeat_ref (T := "tuple") (U := "int") (by decide) ⟨_, ho, rfl⟩ (fun s' => typeIs_int s' k t) noFill_tuple_mul F.fills_int_mul F.slot_int_rmul repeat_tuple F.slot_int_index.lookup
    (PySem.call_meets F.slot_int_rmul (typeIs_int s k t) F.entry_int_rmul (F.args_int_rmul_2 _ _) (int_rmul_tuple k t l its.toArray n dd sl) ⟨ho, rfl, ⟨_, ho, rfl⟩, PySem.call_meets F.slot_tuple_mul ⟨_, ho, rfl⟩ F.entry_tuple_mul (F.args_tuple_mul_2 _ _) made ⟨ho, ?_⟩⟩)
  rw [size_rep]
  have new : ObjOk X.prog X.w (upd H s.heap.objs.size (.tup (List.replicate k.toNat xs).flatten)) (s.heap.push { cls := .type "tuple", data := .seq (List.replicate k.toNat its).flatten.toArray }) s.heap.objs.size (.tup (List.replicate k.toNat xs).flatten) :=
    ⟨by rw [PyProof.Rows.lm_len_rep_flat, sizeLine_eq, Nat.mul_comm]; omega, _, r.rep k.toNat, PyProof.Rows.IsTup.new _ _⟩
  exact ⟨.ref s.heap.objs.size, _, I.laid (t' := s.toks) (fun b ob z => Heap.get?_push_of_some _ z) (Nat.le_refl _) new, rfl, q _ (I.hok.fresh (Nat.le_refl _))⟩
theorem AtDs.rep {G : Hp} {vs : List V} {ds : List D} (h : AtDs K G vs ds) : ∀ m : Nat, AtDs K G (List.replicate m vs).flatten (List.replicate m ds).flatten
  | 0 => .nil
  | m + 1 => by
    rw [List.replicate_succ, List.replicate_succ, List.flatten_cons, List.flatten_cons]
    exact h.append (h.rep m)
def rRepS1 : R2 := fun x y H Q => ∃ s, x = .str s ∧ y = .int 1 ∧ Q (.str s) H
omit CM in
theorem op_repS1 {X : Cx} : OpR X (binaryOp .Mult) rRepS1 := by
  intro pins s σ H x y v u Q I rx ry h
  obtain ⟨z, e1, e2, q⟩ := h
  subst e1 e2
  obtain ⟨t, e⟩ := rx
  obtain ⟨t', e'⟩ := ry
  subst e e'
  refine PySem.P.mul_str (by decide) (fun _ h => by cases h) (fun _ h => by cases h) ?_
  exact ⟨.str z, H, I, ⟨t, rfl⟩, q⟩
def rRepS0 : R2 := fun x y H Q => ∃ s n, x = .str s ∧ y = .int n ∧ n < 1 ∧ -1000000 ≤ n ∧ Q (.str Str.empty) H
omit CM in
theorem op_repS0 {X : Cx} : OpR X (binaryOp .Mult) rRepS0 := by
  intro pins s σ H x y v u Q I rx ry h
  obtain ⟨z, n, e1, e2, h1, h2, q⟩ := h
  subst e1 e2
  obtain ⟨t, e⟩ := rx
  obtain ⟨t', e'⟩ := ry
  subst e e'
  exact PySem.P.mul_str_none h1 (by omega) ⟨.str Str.empty, H, I.tok _, ⟨_, rfl⟩, q⟩
def rMulA (K : PySem.W.Frag) : R2 := fun x y H Q => rI CMulW (fun i j => .int (i * j)) x y H Q ∨ rRepS x y H Q ∨ rRepTu K x y H Q ∨ rRep x y H Q ∨ rRepS1 x y H Q ∨ rRepS0 x y H Q
omit CM in
theorem opMul : OpR X (binaryOp .Mult) (rMulA X.K) := OpR.or op_mulW (OpR.or op_repS (OpR.or op_repTu (OpR.or op_rep (OpR.or op_repS1 op_repS0))))
theorem rdMul : RD2 K (rMulA K) mulF := fun G H x y k d1 d2 d s a b e q => by
  unfold mulF at e
  split at e
  · split at e
    · rename_i h; cases e; exact .inl ⟨_, _, a.int_, b.int_, (show _ < 1000000 from of_decide_eq_true (p := _ < 1000000) h), q _ G H (.refl _ _) (.int _)⟩
    · cases e
  · split at e
    · rename_i h; cases e; exact .inr (.inr (.inr (.inr (.inr ⟨_, _, a.str_, b.int_, h.1, h.2, q _ G H (.refl _ _) (.str _)⟩))))
    · split at e
      · rename_i h; cases e; subst h; exact .inr (.inr (.inr (.inr (.inl ⟨_, a.str_, b.int_, q _ G H (.refl _ _) (.str _)⟩))))
      · split at e
        · rename_i h; cases e; exact .inr (.inl ⟨_, _, a.str_, b.int_, h.1, h.2.1, h.2.2.1, h.2.2.2, q _ G H (.refl _ _) (.str _)⟩)
        · cases e
  · split at e
    · rename_i ds n h; cases e
      obtain ⟨p, vs, rfl, h1, hs⟩ := a.lst_ s
      have z : vs.length * n.toNat ≤ 100 * 100000 := Nat.mul_le_mul (by rw [hs.len]; exact h.2.2) (by omega)
      refine .inr (.inr (.inr (.inl ⟨p, n, vs, rfl, b.int_, h1, by omega, by omega, by rw [sizeLine_eq]; omega, fun r hr => q _ _ _ (.one hr) (.lst upd_same ((hs.rep _).mono (Ex.new (s.back hr))))⟩)))
    · cases e
  · split at e
    · rename_i ds n h; cases e
      obtain ⟨p, vs, rfl, h1, _, hs⟩ := a.tup_ s
      refine .inr (.inr (.inl ⟨p, n, vs, rfl, b.int_, h1, fun z => h.2.2.1 ?_, h.1, h.2.1, by rw [hs.len]; exact h.2.2.2, fun r hr => q _ _ _ (.one hr) (.tup (SqT.of upd_same) ((hs.rep _).mono (Ex.new (s.back hr))))⟩))
      subst z
      cases hs
      rfl
    · cases e
  · cases e
end
end Mir

set_option maxHeartbeats 1000000
/-! Equality, built-ins, texts, slices. -/
namespace Mir
open PySem PySem.Spec L2
variable [CM : ClsMap]
/-! ### equality -/
mutual
def toPy : D → Option PyData
  | .non => some .none
  | .bl b => some (.bool b)
  | .int i => some (.int i)
  | .str s => some (.str s)
  | .lst ds => (toPys ds).map PyData.list
  | .sq ds => (toPys ds).map PyData.list
  | .tup ds => (toPys ds).map PyData.tuple
  | _ => none
def toPys : List D → Option (List PyData)
  | [] => some []
  | d :: r => match toPy d, toPys r with
    | some x, some xs => some (x :: xs)
    | _, _ => none
end
/-- data of flat kinds and sequences, not too deep, with fair texts -/
def okP : Nat → D → Bool
  | 0, _ => false
  | n + 1, .non => true
  | n + 1, .bl _ => true
  | n + 1, .int _ => true
  | n + 1, .str s => decide (s.length ≤ 100000) && PyData.strOk s
  | n + 1, .lst ds => ds.all (okP n)
  | n + 1, .tup ds => ds.all (okP n)
  | n + 1, _ => false
def pyOf (d : D) : PyData := (toPy d).getD .none
mutual
/-- equality of such data -/
def eqB : D → D → Bool
  | .non, .non => true
  | .bl a, .bl b => a == b
  | .bl a, .int j => (if a then 1 else 0) == j
  | .int i, .bl b => i == (if b then 1 else 0)
  | .int i, .int j => i == j
  | .str x, .str y => x == y
  | .lst xs, .lst ys => eqBs xs ys
  | .tup xs, .tup ys => eqBs xs ys
  | _, _ => false
def eqBs : List D → List D → Bool
  | [], [] => true
  | x :: xs, y :: ys => eqB x y && eqBs xs ys
  | _, _ => false
end
def eqF (a b : D) : Option D := match flatD a, flatD b with
  | some v, some u => if scal v u = true then some (.bl (decide (v = u))) else if okP 60 a = true ∧ okP 60 b = true then some (.bl (eqB a b)) else none
  | _, _ => if okP 60 a = true ∧ okP 60 b = true then some (.bl (eqB a b)) else none
def neF (a b : D) : Option D := match eqF a b with
  | some (.bl t) => some (.bl !t)
  | _ => none
omit CM in
theorem okP_py : ∀ (n : Nat) (d : D), okP n d = true → toPy d = some (pyOf d) ∧ (pyOf d).canLay0 = true ∧ (pyOf d).depth ≤ n := by
  intro n
  induction n with
  | zero => intro d h; unfold okP at h; cases h
  | succ n ih =>
    have all : ∀ ds : List D, ds.all (okP n) = true → ∃ l, toPys ds = some l ∧ PyData.canLayAll0 l = true ∧ PyData.depthAll l ≤ n := by
      intro ds
      induction ds with
      | nil => intro _; exact ⟨[], by simp only [toPys], by simp only [PyData.canLayAll0], by simp only [PyData.depthAll]; omega⟩
      | cons d r ihr =>
        intro h
        rw [List.all_cons, Bool.and_eq_true] at h
        obtain ⟨l, h1, h2, h3⟩ := ihr h.2
        obtain ⟨g1, g2, g3⟩ := ih d h.1
        exact ⟨pyOf d :: l, by simp only [toPys, g1, h1], by simp only [PyData.canLayAll0, g2, h2, Bool.and_self], by simp only [PyData.depthAll]; omega⟩
    intro d h
    cases d with
    | non => exact ⟨rfl, by simp only [pyOf, toPy, Option.getD, PyData.canLay0], by simp only [pyOf, toPy, Option.getD, PyData.depth]; omega⟩
    | bl b => exact ⟨rfl, by simp only [pyOf, toPy, Option.getD, PyData.canLay0], by simp only [pyOf, toPy, Option.getD, PyData.depth]; omega⟩
    | int i => exact ⟨rfl, by simp only [pyOf, toPy, Option.getD, PyData.canLay0], by simp only [pyOf, toPy, Option.getD, PyData.depth]; omega⟩
    | str s =>
      simp only [okP, Bool.and_eq_true] at h
      exact ⟨rfl, by simp only [pyOf, toPy, Option.getD, PyData.canLay0]; exact h.2, by simp only [pyOf, toPy, Option.getD, PyData.depth]; omega⟩
    | lst ds =>
      simp only [okP] at h
      obtain ⟨l, h1, h2, h3⟩ := all ds h
      have e : toPy (.lst ds) = some (.list l) := by simp only [toPy, h1, Option.map]
      refine ⟨by simp only [pyOf, e, Option.getD], ?_, ?_⟩
      · simp only [pyOf, e, Option.getD, PyData.canLay0]; exact h2
      · simp only [pyOf, e, Option.getD, PyData.depth]; omega
    | tup ds =>
      simp only [okP] at h
      obtain ⟨l, h1, h2, h3⟩ := all ds h
      have e : toPy (.tup ds) = some (.tuple l) := by simp only [toPy, h1, Option.map]
      refine ⟨by simp only [pyOf, e, Option.getD], ?_, ?_⟩
      · simp only [pyOf, e, Option.getD, PyData.canLay0]; exact h2
      · simp only [pyOf, e, Option.getD, PyData.depth]; omega
    | _ => simp only [okP] at h; cases h
omit CM in
theorem shaped_of {n : Nat} {d : D} (h : okP n d = true) (hn : n ≤ 64) : SeqAt.shaped (pyOf d) = true := by
  obtain ⟨_, h2, h3⟩ := okP_py n d h
  unfold SeqAt.shaped
  rw [h2, decide_eq_true (by omega)] <;> rfl
omit CM in
theorem pyOfs : ∀ {n : Nat} {ds : List D}, ds.all (okP n) = true → toPys ds = some (ds.map pyOf)
  | n, [], _ => by simp only [toPys, List.map]
  | n, d :: r, h => by
    rw [List.all_cons, Bool.and_eq_true] at h
    simp only [toPys, (okP_py n d h.1).1, pyOfs h.2, List.map]
omit CM in
theorem eqv_eqB : ∀ (n : Nat) (a b : D), okP n a = true → okP n b = true → PyData.eqv (pyOf a) (pyOf b) = eqB a b := by
  intro n
  induction n with
  | zero => intro a b h; unfold okP at h; cases h
  | succ n ih =>
    have all : ∀ (xs ys : List D), xs.all (okP n) = true → ys.all (okP n) = true → PyData.eqvAll (xs.map pyOf) (ys.map pyOf) = eqBs xs ys := by
      intro xs
      induction xs with
      | nil => intro ys _ _; cases ys <;> simp only [List.map, PyData.eqvAll, eqBs]
      | cons x xs ihx =>
        intro ys h1 h2
        cases ys with
        | nil => simp only [List.map, PyData.eqvAll, eqBs]
        | cons y ys =>
          rw [List.all_cons, Bool.and_eq_true] at h1 h2
          simp only [List.map, PyData.eqvAll, eqBs, ih x y h1.1 h2.1, ihx ys h1.2 h2.2]
    have lstP : ∀ ds : List D, ds.all (okP n) = true → pyOf (.lst ds) = .list (ds.map pyOf) := fun ds h => by simp only [pyOf, toPy, pyOfs h, Option.map, Option.getD]
    have tupP : ∀ ds : List D, ds.all (okP n) = true → pyOf (.tup ds) = .tuple (ds.map pyOf) := fun ds h => by simp only [pyOf, toPy, pyOfs h, Option.map, Option.getD]
    intro a b ha hb
    cases a <;> cases b <;> first
      | (simp only [okP] at ha; cases ha; done)
      | (simp only [okP] at hb; cases hb; done)
      | (simp only [okP] at ha hb
         first
         | rw [lstP _ ha, lstP _ hb, PyData.eqv, eqB, all _ _ ha hb]
         | rw [tupP _ ha, tupP _ hb, PyData.eqv, eqB, all _ _ ha hb]
         | (rw [lstP _ ha, tupP _ hb]; simp only [PyData.eqv, eqB])
         | (rw [tupP _ ha, lstP _ hb]; simp only [PyData.eqv, eqB])
         | (rw [lstP _ ha]; simp only [pyOf, toPy, Option.getD, PyData.eqv, eqB])
         | (rw [lstP _ hb]; simp only [pyOf, toPy, Option.getD, PyData.eqv, eqB])
         | (rw [tupP _ ha]; simp only [pyOf, toPy, Option.getD, PyData.eqv, eqB])
         | (rw [tupP _ hb]; simp only [pyOf, toPy, Option.getD, PyData.eqv, eqB])
         | simp only [pyOf, toPy, Option.getD, PyData.eqv, eqB])
section
variable {X : Cx} {K : PySem.W.Frag} {G : Hp}
mutual
theorem toPy_ok : ∀ {v : V} {d : D} {p : PyData}, AtD K G v d → toPy d = some p → Dp K G v p
  | _, _, _, .non, e => by simp only [toPy] at e; cases e; exact .non
  | _, _, _, .bl b, e => by simp only [toPy] at e; cases e; exact .bl b
  | _, _, _, .int b, e => by simp only [toPy] at e; cases e; exact .int b
  | _, _, _, .str b, e => by simp only [toPy] at e; cases e; exact .str b
  | _, .lst ds, _, .lst h hs, e => by
    simp only [toPy] at e
    cases q : toPys ds with
    | none => rw [q] at e; cases e
    | some l => rw [q] at e; cases e; exact .lst (SqL.of h) (toPys_ok hs q)
  | _, .sq ds, _, .sq h hs, e => by
    simp only [toPy] at e
    cases q : toPys ds with
    | none => rw [q] at e; cases e
    | some l => rw [q] at e; cases e; exact .lst h (toPys_ok hs q)
  | _, .tup ds, _, .tup h hs, e => by
    simp only [toPy] at e
    cases q : toPys ds with
    | none => rw [q] at e; cases e
    | some l => rw [q] at e; cases e; exact .tup h (toPys_ok hs q)
  | _, _, _, .ty n, e => by simp only [toPy] at e; cases e
  | _, _, _, .obj n, e => by simp only [toPy] at e; cases e
  | _, _, _, .dct h hs, e => by simp only [toPy] at e; cases e
  | _, _, _, .ins h hs, e => by simp only [toPy] at e; cases e
theorem toPys_ok : ∀ {v : List V} {d : List D} {p : List PyData}, AtDs K G v d → toPys d = some p → DpAll K G v p
  | _, _, _, .nil, e => by simp only [toPys] at e; cases e; exact .nil
  | _ :: _, d :: ds, _, .cons h hs, e => by
    simp only [toPys] at e
    cases q1 : toPy d with
    | none => rw [q1] at e; cases e
    | some x =>
      cases q2 : toPys ds with
      | none => rw [q1, q2] at e; cases e
      | some xs => rw [q1, q2] at e; cases e; exact .cons (toPy_ok h q1) (toPys_ok hs q2)
end
def rEqA (K : PySem.W.Frag) : R2 := fun x y H Q => rEq x y H Q ∨ rEqD K x y H Q
def rNeA (K : PySem.W.Frag) : R2 := fun x y H Q => rNe x y H Q ∨ rNeD K x y H Q
omit CM in
theorem opEq (hu : X.A.units + 64 < cLine) : OpR X (compareOp .Eq) (rEqA X.K) := OpR.or op_eq (op_eqD hu)
omit CM in
theorem opNe (hu : X.A.units + 64 < cLine) : OpR X (compareOp .NotEq) (rNeA X.K) := OpR.or op_ne (op_neD hu)
theorem eqF_cases {a b d : D} (e : eqF a b = some d) : (∃ v u, flatD a = some v ∧ flatD b = some u ∧ scal v u = true ∧ d = .bl (decide (v = u))) ∨ (okP 60 a = true ∧ okP 60 b = true ∧ d = .bl (eqB a b)) := by
  unfold eqF at e
  split at e
  · rename_i v u h1 h2
    by_cases h : scal v u = true
    · rw [if_pos h] at e; cases e; exact .inl ⟨v, u, h1, h2, h, rfl⟩
    · rw [if_neg h] at e
      by_cases h : okP 60 a = true ∧ okP 60 b = true
      · rw [if_pos h] at e; cases e; exact .inr ⟨h.1, h.2, rfl⟩
      · rw [if_neg h] at e; cases e
  · by_cases h : okP 60 a = true ∧ okP 60 b = true
    · rw [if_pos h] at e; cases e; exact .inr ⟨h.1, h.2, rfl⟩
    · rw [if_neg h] at e; cases e
theorem rdEq : RD2 K (rEqA K) eqF := fun G H x y k d1 d2 d s a b e q => by
  rcases eqF_cases e with ⟨v, u, h1, h2, h3, rfl⟩ | ⟨h1, h2, rfl⟩
  · obtain ⟨rfl, _⟩ := flatD_ok a h1
    obtain ⟨rfl, _⟩ := flatD_ok b h2
    exact .inl ⟨h3, q _ G H (.refl _ _) (.bl _)⟩
  · refine .inr ⟨pyOf d1, pyOf d2, toPy_ok (a.atH s) (okP_py _ _ h1).1, toPy_ok (b.atH s) (okP_py _ _ h2).1, shaped_of h1 (by decide), shaped_of h2 (by decide), ?_⟩
    rw [eqv_eqB 60 _ _ h1 h2]
    exact q _ G H (.refl _ _) (.bl _)
theorem rdNe : RD2 K (rNeA K) neF := fun G H x y k d1 d2 d s a b e q => by
  unfold neF at e
  cases e1 : eqF d1 d2 with
  | none => rw [e1] at e; cases e
  | some d' =>
    rw [e1] at e
    rcases eqF_cases e1 with ⟨v, u, h1, h2, h3, rfl⟩ | ⟨h1, h2, rfl⟩
    · cases e
      obtain ⟨rfl, _⟩ := flatD_ok a h1
      obtain ⟨rfl, _⟩ := flatD_ok b h2
      exact .inl ⟨h3, q _ G H (.refl _ _) (.bl _)⟩
    · cases e
      refine .inr ⟨pyOf d1, pyOf d2, toPy_ok (a.atH s) (okP_py _ _ h1).1, toPy_ok (b.atH s) (okP_py _ _ h2).1, shaped_of h1 (by decide), shaped_of h2 (by decide), ?_⟩
      rw [eqv_eqB 60 _ _ h1 h2]
      exact q _ G H (.refl _ _) (.bl _)
end
/-! ### built-ins -/
section
def lenF : List D → Option D
  | [.str s] => if s.length ≤ sizeLine then some (.int s.length) else none
  | [.lst ds] => some (.int ds.length)
  | [.sq ds] => some (.int ds.length)
  | [.tup ds] => some (.int ds.length)
  | _ => none
def absF : List D → Option D
  | [.int i] => some (.int (if i < 0 then -i else i))
  | _ => none
def max2F : List D → Option D
  | [.int i, .int j] => some (.int (if j > i then j else i))
  | _ => none
def min2F : List D → Option D
  | [.int i, .int j] => some (.int (if j < i then j else i))
  | _ => none
def intF : List D → Option D
  | [.int i] => some (.int i)
  | [.bl b] => some (.int (if b then 1 else 0))
  | [.str a] => match PySem.intText? a with
    | some n => if a.length ≤ 640 then some (.int n) else none
    | none => none
  | _ => none
def strF : List D → Option D
  | [.int i] => if i.natAbs.log2 < 1920 then some (.str (toString i)) else none
  | [.str a] => some (.str a)
  | _ => none
def reprV : D → Option Str
  | .non => some "None"
  | .bl b => some (if b then "True" else "False")
  | .int i => if i.natAbs.log2 < 1920 then some (toString i) else none
  | .str s => if (PySem.reprText s).length ≤ sizeLine then some (PySem.reprText s) else none
  | _ => none
def reprF : List D → Option D
  | [d] => (reprV d).map .str
  | _ => none
def tyD : D → Option String
  | .non => some "NoneType"
  | .bl _ => some "bool"
  | .int _ => some "int"
  | .str _ => some "str"
  | .lst _ => some "list"
  | .tup _ => some "tuple"
  | .dct _ => some "dict"
  | _ => none
/-- isinstance, of a built-in class -/
def isiF : List D → Option D
  | [d, .ty n] => match tyD d with
    | some m => (kitB m n).map .bl
    | none => none
  | _ => none
def blsOf : List D → Option (List Bool)
  | [] => some []
  | .bl b :: r => (blsOf r).map (b :: ·)
  | _ => none
def intsOf : List D → Option (List Int)
  | [] => some []
  | .int b :: r => (intsOf r).map (b :: ·)
  | _ => none
def strsOf : List D → Option (List Str)
  | [] => some []
  | .str b :: r => (strsOf r).map (b :: ·)
  | _ => none
def allF : List D → Option D
  | [.lst ds] => (blsOf ds).map fun bs => .bl (bs.all id)
  | _ => none
def anyF : List D → Option D
  | [.lst ds] => (blsOf ds).map fun bs => .bl (bs.any id)
  | _ => none
def listF : List D → Option D
  | [.lst ds] => some (.lst ds)
  | [.sq ds] => some (.lst ds)
  | [.tup ds] => some (.lst ds)
  | _ => none
def tupF : List D → Option D
  | [.lst ds] => some (.tup ds)
  | [.sq ds] => some (.tup ds)
  | [.tup ds] => some (.tup ds)
  | _ => none
def divmodF : List D → Option D
  | [.int i, .int j] => if 0 < j ∧ j < 1073741824 then some (.tup [.int (i / j), .int (i % j)]) else none
  | _ => none
def minL : List Int → Int
  | [] => 0
  | x :: xs => xs.foldl (fun a b => if b < a then b else a) x
end
section
variable {X : Cx} {K : PySem.W.Frag}
theorem TopDs.one {G H : Hp} {vs : List V} {d : D} (h : TopDs K G H vs [d]) : ∃ v, vs = [v] ∧ TopD K G H v d := by
  cases h with | cons a t => cases t; exact ⟨_, rfl, a⟩
theorem TopDs.two {G H : Hp} {vs : List V} {d e : D} (h : TopDs K G H vs [d, e]) : ∃ v u, vs = [v, u] ∧ TopD K G H v d ∧ TopD K G H u e := by
  cases h with | cons a t => cases t with | cons b t => cases t; exact ⟨_, _, rfl, a, b⟩
theorem TopDs.nil_ {G H : Hp} {vs : List V} (h : TopDs K G H vs []) : vs = [] := by cases h; rfl
def rLenD (K : PySem.W.Frag) : List V → Hp → VK → Prop := fun xs H Q => ∃ x n, xs = [x] ∧ LenV K x H n ∧ Q (.int n) H
omit CM in
theorem cr_len : CallR X (.builtin "len") (rLenD X.K) := call_len
theorem rdLen : RDN K (rLenD K) lenF := fun G H xs k ds d s a e q => by
  unfold lenF at e
  split at e
  · split at e
    · rename_i hs; cases e
      obtain ⟨v, rfl, ha⟩ := a.one
      rw [ha.str_]
      exact ⟨_, _, rfl, ⟨hs, rfl⟩, q _ G H (.refl _ _) (.int _)⟩
    · cases e
  · cases e
    obtain ⟨v, rfl, ha⟩ := a.one
    obtain ⟨p, vs, rfl, h1, h2⟩ := ha.lst_ s
    exact ⟨_, _, rfl, .inl ⟨_, SqL.of h1, h2.len.symm⟩, q _ G H (.refl _ _) (.int _)⟩
  · cases e
    obtain ⟨v, rfl, ha⟩ := a.one
    obtain ⟨p, vs, rfl, h1, h2⟩ := ha.sq_ s
    exact ⟨_, _, rfl, .inl ⟨_, h1, h2.len.symm⟩, q _ G H (.refl _ _) (.int _)⟩
  · cases e
    obtain ⟨v, rfl, ha⟩ := a.one
    obtain ⟨p, vs, rfl, h1, _, h2⟩ := ha.tup_ s
    exact ⟨_, _, rfl, .inr ⟨_, h1, h2.len.symm⟩, q _ G H (.refl _ _) (.int _)⟩
  · cases e
def rAbsD : List V → Hp → VK → Prop := fun xs H Q => ∃ i, xs = [.int i] ∧ Q (.int (if i < 0 then -i else i)) H
omit CM in
theorem cr_abs : CallR X (.builtin "abs") rAbsD := call_abs
theorem rdAbs : RDN K rAbsD absF := fun G H xs k ds d s a e q => by
  unfold absF at e
  split at e
  · cases e
    obtain ⟨v, rfl, ha⟩ := a.one
    rw [ha.int_]
    exact ⟨_, rfl, q _ G H (.refl _ _) (.int _)⟩
  · cases e
def rMax2D : List V → Hp → VK → Prop := fun xs H Q => ∃ i j, xs = [.int i, .int j] ∧ Q (.int (if j > i then j else i)) H
def rMin2D : List V → Hp → VK → Prop := fun xs H Q => ∃ i j, xs = [.int i, .int j] ∧ Q (.int (if j < i then j else i)) H
omit CM in
theorem cr_max2 (hc : X.calm = true) : CallR X (.builtin "max") rMax2D := call_max2 hc
omit CM in
theorem cr_min2 (hc : X.calm = true) : CallR X (.builtin "min") rMin2D := call_min2 hc
theorem rdMax2 : RDN K rMax2D max2F := fun G H xs k ds d s a e q => by
  unfold max2F at e
  split at e
  · cases e
    obtain ⟨v, u, rfl, ha, hb⟩ := a.two
    rw [ha.int_, hb.int_]
    exact ⟨_, _, rfl, q _ G H (.refl _ _) (.int _)⟩
  · cases e
theorem rdMin2 : RDN K rMin2D min2F := fun G H xs k ds d s a e q => by
  unfold min2F at e
  split at e
  · cases e
    obtain ⟨v, u, rfl, ha, hb⟩ := a.two
    rw [ha.int_, hb.int_]
    exact ⟨_, _, rfl, q _ G H (.refl _ _) (.int _)⟩
  · cases e
omit CM in
theorem CallR.or {f : Value} {r r' : List V → Hp → VK → Prop} (h : CallR X f r) (h' : CallR X f r') : CallR X f (fun xs H Q => r xs H Q ∨ r' xs H Q) := fun pins s σ H xs us Q I v q => q.elim (h pins s σ H xs us Q I v) (h' pins s σ H xs us Q I v)
def rIntD : List V → Hp → VK → Prop := fun xs H Q => ((∃ i, xs = [.int i] ∧ Q (.int i) H) ∨ ∃ k, xs = [.bl k] ∧ Q (.int (if k then 1 else 0)) H) ∨ ∃ a n, xs = [.str a] ∧ PySem.intText? a = some n ∧ a.length ≤ 640 ∧ Q (.int n) H
omit CM in
theorem cr_int : CallR X (.type "int") rIntD := CallR.or call_int1 call_int_str
theorem rdInt : RDN K rIntD intF := fun G H xs k ds d s a e q => by
  unfold intF at e
  split at e
  · cases e
    obtain ⟨v, rfl, ha⟩ := a.one
    rw [ha.int_]
    exact .inl (.inl ⟨_, rfl, q _ G H (.refl _ _) (.int _)⟩)
  · cases e
    obtain ⟨v, rfl, ha⟩ := a.one
    rw [ha.bl_]
    exact .inl (.inr ⟨_, rfl, q _ G H (.refl _ _) (.int _)⟩)
  · obtain ⟨v, rfl, ha⟩ := a.one
    rw [ha.str_]
    split at e
    · split at e
      · rename_i n0 h1 h2; cases e; exact .inr ⟨_, _, rfl, h1, h2, q _ G H (.refl _ _) (.int _)⟩
      · cases e
    · cases e
  · cases e
def rStrD : List V → Hp → VK → Prop := fun xs H Q => (∃ i, xs = [.int i] ∧ i.natAbs.log2 < 1920 ∧ Q (.str (toString i)) H) ∨ ∃ a, xs = [.str a] ∧ Q (.str a) H
omit CM in
theorem cr_str : CallR X (.type "str") rStrD := CallR.or call_str_int SkE.call_str_str
theorem rdStr : RDN K rStrD strF := fun G H xs k ds d s a e q => by
  unfold strF at e
  split at e
  · split at e
    · rename_i h; cases e
      obtain ⟨v, rfl, ha⟩ := a.one
      rw [ha.int_]
      exact .inl ⟨_, rfl, h, q _ G H (.refl _ _) (.str _)⟩
    · cases e
  · cases e
    obtain ⟨v, rfl, ha⟩ := a.one
    rw [ha.str_]
    exact .inr ⟨_, rfl, q _ G H (.refl _ _) (.str _)⟩
  · cases e
def vReprV : V → Option Str
  | .non => some "None"
  | .bl b => some (if b then "True" else "False")
  | .int i => if i.natAbs.log2 < 1920 then some (toString i) else none
  | .str s => if (PySem.reprText s).length ≤ sizeLine then some (PySem.reprText s) else none
  | _ => none
def rReprV : List V → Hp → VK → Prop := fun xs H Q => ∃ x s, xs = [x] ∧ vReprV x = some s ∧ Q (.str s) H
omit CM in
theorem cr_repr : CallR X (.builtin "repr") rReprV := by
  intro pins s σ H xs us Q I r h
  obtain ⟨x, z, e, hz, q⟩ := h
  subst e
  obtain ⟨u, e, rx⟩ := vals1 r
  subst e
  cases x with
  | non =>
    cases hz
    cases (show u = Value.none from rx)
    exact PySem.P.repr_of_none ⟨.str _, H, I.tok _, ⟨_, rfl⟩, q⟩
  | bl b =>
    cases hz
    cases (show u = Value.bool b from rx)
    exact PySem.P.repr_of_bool ⟨.str _, H, I.tok _, ⟨_, rfl⟩, q⟩
  | int i =>
    obtain ⟨t, e⟩ := (show ∃ t, u = Value.int i t from rx)
    subst e
    have hz : (if i.natAbs.log2 < 1920 then some (toString i : Str) else none) = some z := hz
    by_cases h : i.natAbs.log2 < 1920
    · rw [if_pos h] at hz
      cases hz
      exact PySem.P.repr_of_int h ⟨.str _, H, I.tok _, ⟨_, rfl⟩, q⟩
    · rw [if_neg h] at hz; cases hz
  | str y =>
    obtain ⟨t, e⟩ := (show ∃ t, u = Value.str y t from rx)
    subst e
    have hz : (if (PySem.reprText y).length ≤ sizeLine then some (PySem.reprText y) else none) = some z := hz
    by_cases h : (PySem.reprText y).length ≤ sizeLine
    · rw [if_pos h] at hz
      cases hz
      exact PySem.P.repr_of_str ⟨.str _, H, I.tok _, ⟨_, rfl⟩, q⟩ h
    · rw [if_neg h] at hz; cases hz
  | byt b => cases hz
  | flt b => cases hz
  | ref b => cases hz
  | ty b => cases hz
theorem reprV_ok {G H : Hp} {v : V} {d : D} {z : Str} (h : TopD K G H v d) (e : reprV d = some z) : vReprV v = some z := by
  cases h with
  | dat h => cases h <;> first | exact e | cases e
  | lst _ _ => cases e
  | dct _ _ => cases e
  | ins _ _ => cases e
theorem rdRepr : RDN K rReprV reprF := fun G H xs k ds d s a e q => by
  unfold reprF at e
  split at e
  · rename_i d0
    cases e1 : reprV d0 with
    | none => rw [e1] at e; cases e
    | some z =>
      rw [e1] at e; cases e
      obtain ⟨v, rfl, ha⟩ := a.one
      exact ⟨_, _, rfl, reprV_ok ha e1, q _ G H (.refl _ _) (.str _)⟩
  · cases e
theorem tyD_ok {G H : Hp} {v : V} {d : D} {n : String} (s : Ex G H) (a : TopD K G H v d) (e : tyD d = some n) : TyX K H v (.type n) := by
  cases a with
  | lst h hs => cases e; exact .base (.lst h)
  | dct h hs => cases e; exact .base (.dK h)
  | ins h hs => cases e
  | dat a =>
    cases a with
    | non => cases e; exact .base .non
    | bl b => cases e; exact .base (.bl b)
    | int b => cases e; exact .base (.int b)
    | str b => cases e; exact .base (.str b)
    | lst h hs => cases e; exact .base (.lst (s _ _ h))
    | tup h hs =>
      cases e
      rcases h with (h | ⟨o, h⟩) | ⟨o, its, n, h1, h2, _⟩
      · exact .base (.tup (s _ _ h))
      · exact .fTuple (s _ _ h)
      · exact .kTuple h1 h2
    | dct h hs => cases e; exact .base (.dK (s _ _ h))
    | ins h hs => cases e
    | sq h hs => cases e
    | ty n => cases e
    | obj _ => cases e
omit CM in
theorem cr_isi : CallR X (.builtin "isinstance") (rIsi X.K) := call_isi
theorem rdIsi : RDN K (rIsi K) isiF := fun G H xs k ds d s a e q => by
  unfold isiF at e
  split at e
  · obtain ⟨v, u, rfl, ha, hb⟩ := a.two
    rw [hb.ty_]
    split at e
    · rename_i m hm
      cases ek : kitB m _ with
      | none => rw [ek] at e; cases e
      | some t => rw [ek] at e; cases e; exact ⟨v, .ty _, .type m, .type _, t, rfl, .ty _, tyD_ok s ha hm, kit_ty ek, q _ G H (.refl _ _) (.bl _)⟩
    · cases e
  · cases e
theorem blsOf_ok {G : Hp} : ∀ {vs : List V} {ds : List D} {bs : List Bool}, AtDs K G vs ds → blsOf ds = some bs → vs = bs.map V.bl
  | _, _, _, .nil, e => by cases e; rfl
  | _ :: vs, .bl b :: ds, bs, .cons (.bl _) hs, e => by
    unfold blsOf at e
    cases e1 : blsOf ds with
    | none => rw [e1] at e; cases e
    | some r => rw [e1] at e; cases e; rw [blsOf_ok hs e1] <;> rfl
  | _ :: _, .non :: _, _, .cons _ _, e => by cases e
  | _ :: _, .int _ :: _, _, .cons _ _, e => by cases e
  | _ :: _, .str _ :: _, _, .cons _ _, e => by cases e
  | _ :: _, .lst _ :: _, _, .cons _ _, e => by cases e
  | _ :: _, .tup _ :: _, _, .cons _ _, e => by cases e
  | _ :: _, .dct _ :: _, _, .cons _ _, e => by cases e
  | _ :: _, .ins _ _ :: _, _, .cons _ _, e => by cases e
  | _ :: _, .sq _ :: _, _, .cons _ _, e => by cases e
  | _ :: _, .ty _ :: _, _, .cons _ _, e => by cases e
  | _ :: _, .obj _ :: _, _, .cons _ _, e => by cases e
theorem intsOf_ok {G : Hp} : ∀ {vs : List V} {ds : List D} {bs : List Int}, AtDs K G vs ds → intsOf ds = some bs → vs = bs.map V.int
  | _, _, _, .nil, e => by cases e; rfl
  | _ :: vs, .int b :: ds, bs, .cons (.int _) hs, e => by
    unfold intsOf at e
    cases e1 : intsOf ds with
    | none => rw [e1] at e; cases e
    | some r => rw [e1] at e; cases e; rw [intsOf_ok hs e1] <;> rfl
  | _ :: _, .non :: _, _, .cons _ _, e => by cases e
  | _ :: _, .bl _ :: _, _, .cons _ _, e => by cases e
  | _ :: _, .str _ :: _, _, .cons _ _, e => by cases e
  | _ :: _, .lst _ :: _, _, .cons _ _, e => by cases e
  | _ :: _, .tup _ :: _, _, .cons _ _, e => by cases e
  | _ :: _, .dct _ :: _, _, .cons _ _, e => by cases e
  | _ :: _, .ins _ _ :: _, _, .cons _ _, e => by cases e
  | _ :: _, .sq _ :: _, _, .cons _ _, e => by cases e
  | _ :: _, .ty _ :: _, _, .cons _ _, e => by cases e
  | _ :: _, .obj _ :: _, _, .cons _ _, e => by cases e
theorem strsOf_ok {G : Hp} : ∀ {vs : List V} {ds : List D} {bs : List Str}, AtDs K G vs ds → strsOf ds = some bs → vs = bs.map V.str
  | _, _, _, .nil, e => by cases e; rfl
  | _ :: vs, .str b :: ds, bs, .cons (.str _) hs, e => by
    unfold strsOf at e
    cases e1 : strsOf ds with
    | none => rw [e1] at e; cases e
    | some r => rw [e1] at e; cases e; rw [strsOf_ok hs e1] <;> rfl
  | _ :: _, .non :: _, _, .cons _ _, e => by cases e
  | _ :: _, .bl _ :: _, _, .cons _ _, e => by cases e
  | _ :: _, .int _ :: _, _, .cons _ _, e => by cases e
  | _ :: _, .lst _ :: _, _, .cons _ _, e => by cases e
  | _ :: _, .tup _ :: _, _, .cons _ _, e => by cases e
  | _ :: _, .dct _ :: _, _, .cons _ _, e => by cases e
  | _ :: _, .ins _ _ :: _, _, .cons _ _, e => by cases e
  | _ :: _, .sq _ :: _, _, .cons _ _, e => by cases e
  | _ :: _, .ty _ :: _, _, .cons _ _, e => by cases e
  | _ :: _, .obj _ :: _, _, .cons _ _, e => by cases e
omit CM in
theorem cr_all (hc : X.calm = true) : CallR X (.builtin "all") (rAll X.K) := L2.cr_all hc
omit CM in
theorem cr_any (hc : X.calm = true) : CallR X (.builtin "any") (rAny X.K) := L2.cr_any hc
theorem rdAll : RDN K (rAll K) allF := fun G H xs k ds d s a e q => by
  unfold allF at e
  split at e
  · rename_i ds0
    cases e1 : blsOf ds0 with
    | none => rw [e1] at e; cases e
    | some bs =>
      rw [e1] at e; cases e
      obtain ⟨v, rfl, ha⟩ := a.one
      obtain ⟨p, vs, rfl, h1, h2⟩ := ha.lst_ s
      have := blsOf_ok h2 e1
      subst this
      exact ⟨_, bs, rfl, SqL.of h1, q _ G H (.refl _ _) (.bl _)⟩
  · cases e
theorem rdAny : RDN K (rAny K) anyF := fun G H xs k ds d s a e q => by
  unfold anyF at e
  split at e
  · rename_i ds0
    cases e1 : blsOf ds0 with
    | none => rw [e1] at e; cases e
    | some bs =>
      rw [e1] at e; cases e
      obtain ⟨v, rfl, ha⟩ := a.one
      obtain ⟨p, vs, rfl, h1, h2⟩ := ha.lst_ s
      have := blsOf_ok h2 e1
      subst this
      exact ⟨_, bs, rfl, SqL.of h1, q _ G H (.refl _ _) (.bl _)⟩
  · cases e
def rListD (K : PySem.W.Frag) : List V → Hp → VK → Prop := fun xs H Q => ∃ p ys, xs = [.ref p] ∧ (SqL K H p ys ∨ SqT K H p ys) ∧ ∀ l, H l = none → Q (.ref l) (upd H l (.lst ys))
omit CM in
theorem cr_list : CallR X (.type "list") (rListD X.K) := call_list_of
theorem rdList : RDN K (rListD K) listF := fun G H xs k ds d s a e q => by
  unfold listF at e
  split at e
  · cases e
    obtain ⟨v, rfl, ha⟩ := a.one
    obtain ⟨p, vs, rfl, h1, h2⟩ := ha.lst_ s
    exact ⟨p, vs, rfl, .inl (SqL.of h1), fun l hl => q _ _ _ (.one hl) (.lst upd_same (h2.mono (Ex.new (s.back hl))))⟩
  · cases e
    obtain ⟨v, rfl, ha⟩ := a.one
    obtain ⟨p, vs, rfl, h1, h2⟩ := ha.sq_ s
    exact ⟨p, vs, rfl, .inl h1, fun l hl => q _ _ _ (.one hl) (.lst upd_same (h2.mono (Ex.new (s.back hl))))⟩
  · cases e
    obtain ⟨v, rfl, ha⟩ := a.one
    obtain ⟨p, vs, rfl, h1, _, h2⟩ := ha.tup_ s
    exact ⟨p, vs, rfl, .inr h1, fun l hl => q _ _ _ (.one hl) (.lst upd_same (h2.mono (Ex.new (s.back hl))))⟩
  · cases e
def rTupD (K : PySem.W.Frag) : List V → Hp → VK → Prop := fun xs H Q => ∃ p ys, xs = [.ref p] ∧ ((SqL K H p ys ∧ ∀ l, H l = none → Q (.ref l) (upd H l (.tup ys))) ∨ (SqT K H p ys ∧ Q (.ref p) H))
omit CM in
theorem cr_tuple : CallR X (.type "tuple") (rTupD X.K) := call_tuple_of
theorem rdTuple : RDN K (rTupD K) tupF := fun G H xs k ds d s a e q => by
  unfold tupF at e
  split at e
  · cases e
    obtain ⟨v, rfl, ha⟩ := a.one
    obtain ⟨p, vs, rfl, h1, h2⟩ := ha.lst_ s
    exact ⟨p, vs, rfl, .inl ⟨SqL.of h1, fun l hl => q _ _ _ (.one hl) (.tup (SqT.of upd_same) (h2.mono (Ex.new (s.back hl))))⟩⟩
  · cases e
    obtain ⟨v, rfl, ha⟩ := a.one
    obtain ⟨p, vs, rfl, h1, h2⟩ := ha.sq_ s
    exact ⟨p, vs, rfl, .inl ⟨h1, fun l hl => q _ _ _ (.one hl) (.tup (SqT.of upd_same) (h2.mono (Ex.new (s.back hl))))⟩⟩
  · cases e
    obtain ⟨v, rfl, ha⟩ := a.one
    obtain ⟨p, vs, rfl, h1, h3, h2⟩ := ha.tup_ s
    exact ⟨p, vs, rfl, .inr ⟨h1, q _ G H (.refl _ _) (.tup h3 h2)⟩⟩
  · cases e
def rDivmodD : List V → Hp → VK → Prop := fun xs H Q => ∃ i j, xs = [.int i, .int j] ∧ CDiv i j ∧ ∀ p, H p = none → Q (.ref p) (upd H p (.tup [.int (i / j), .int (i % j)]))
omit CM in
theorem cr_divmod : CallR X (.builtin "divmod") rDivmodD := call_divmod
theorem rdDivmod : RDN K rDivmodD divmodF := fun G H xs k ds d s a e q => by
  unfold divmodF at e
  split at e
  · split at e
    · rename_i h; cases e
      obtain ⟨v, u, rfl, ha, hb⟩ := a.two
      rw [ha.int_, hb.int_]
      exact ⟨_, _, rfl, h, fun p hp => q _ _ _ (.one hp) (.tup (SqT.of upd_same) (.cons (.int _) (.cons (.int _) .nil)))⟩
    · cases e
  · cases e
end
end Mir

/-! Texts: methods, slices, written texts; ranges as lists. -/
namespace PySem
open Builtin Builtin.Str Builtin.Int
variable {prog : Program} {w : World} {A : Around} {E : Value → Shared → Prop} {s : Shared} {x : Str} {t : Tok} {Q : Value → Shared → Prop}
theorem gives_ljust3 (x : Str) (i : Int) (c : Nat) (t u v : Tok) (hr : (decide (i < -(2 ^ 63 : Int)) || decide (i ≥ 2 ^ 63)) = false) (hl : tooLong i.toNat = false) :
    Gives («str.ljust» ⟨[.str x t, .int i u, .str ⟨#[c]⟩ v], []⟩) (if i ≤ x.length then .val (.str x t) else .str (padded x 0 (i.toNat - x.length) c)) := by
  show Gives (do
    let n ← asSsize "str.ljust" (.int i u)
    let fill ← fillChar "ljust" (some (.str ⟨#[c]⟩ v))
    if n ≤ x.length then (do rule "str.ljust.long-enough"; ret (.str x t)) else if tooLong n.toNat = true then unsupported "str.ljust:memory" else retStr (padded x 0 (n.toNat - x.length) fill)) _
  rw [asSsize_int _ _ _ hr]
  show Gives (if i ≤ x.length then (do rule "str.ljust.long-enough"; ret (.str x t)) else if tooLong i.toNat = true then unsupported "str.ljust:memory" else retStr (padded x 0 (i.toNat - x.length) c)) _
  by_cases h : i ≤ (x.length : Int)
  · rw [if_pos h, if_pos h]
    exact .rule (.of_eq rfl)
  · rw [if_neg h, if_neg h, hl]
    exact .of_eq rfl
def ljust3 (a : Str) (i : Int) (c : Nat) : Str := if i ≤ a.length then a else padded a 0 (i.toNat - a.length) c
theorem run_ljust3 {i : Int} {c : Nat} {u v : Tok} (hp : PadOk i = true) (hq : ∀ t' k, Q (.str (ljust3 x i c) t') { s with toks := k }) : wpAny (model prog w) A (call (.builtin "str.ljust") [.str x t, .int i u, .str ⟨#[c]⟩ v]) Q E s :=
  call_gives F.slot_str_ljust (typeIs_str _ _ _) F.entry_str_ljust (F.args_str_ljust_3 _ _ _) (gives_ljust3 x i c t u v (PadOk.parts hp).1 (PadOk.parts hp).2) (post_val_or_made (fits_padR c (PadOk.parts hp).2) hq)
end PySem
namespace Mir
open PySem PySem.Spec L2
variable [CM : ClsMap]
theorem mt_ljust3 {X : Cx} : MtR X "str.ljust" (fun x xs H Q => ∃ (a : Str) (i : Int) (c : Nat), x = .str a ∧ xs = [.int i, .str ⟨#[c]⟩] ∧ PadOk i = true ∧ Q (.str (ljust3 a i c)) H) := by
  intro pins s σ H x xs v us Q I rx rs h
  obtain ⟨a, i, c, rfl, rfl, hp, q⟩ := h
  obtain ⟨t, rfl⟩ := rx
  obtain ⟨u1, u2, rfl, r1, r2⟩ := vals2 rs
  obtain ⟨t1, rfl⟩ := r1
  obtain ⟨t2, rfl⟩ := r2
  exact run_ljust3 hp fun t' k => ⟨.str _, H, I.tok k, ⟨t', rfl⟩, q⟩
/-! ### methods of a text -/
def mMs (f : Str → List D → Option D) (g : ME) (fa : MA') : ME := fun ρ S => (g ρ S).bind fun x S1 => match x with
  | .dat (.str z) => (fa ρ S1).bind fun xs S2 => opN (f z) xs S2
  | _ => .stuck
section
variable {c : Cz} {o e : Expr} {es : List Expr} {pos apos : Pos} {id : String} {name : Str} {f : Str → List D → Option D} {g ge : ME} {fa : MA'} {r : V → List V → Hp → VK → Prop}
theorem de_m0 (slot : Slot "str" name id) (ty : typeOf (.builtin id) = pure (.type "method_descriptor")) (rule : MtR c.X id r) (hr : ∀ z, RDN c.X.K (fun xs H Q => r (.str z) xs H Q) (f z)) (ha : DE c o g)
    (hbase : attributeBase o name c.X.env (eval o c.X.env) = eval o c.X.env := by rfl) (hline : (apos.endLine == pos.line) = true := by rfl) : DE c (.Call (.Attribute o name apos) [] [] pos) (mMs f g aNil) := fun ρ S σ G ps H k ok q =>
  ⟨_, pe_m0 slot ty rule we_pe hbase hline, ha _ _ _ _ _ _ _ ok (Sat.bind q fun x S1 v1 G1 ps1 H1 o1 e1 p1 a1 q => by
    cases a1 with
    | own _ => exact q.elim
    | dat a1 => cases a1 with
      | str z => exact ⟨⟨z, rfl⟩, sat_opN (hr z) q o1 AtAs.nil⟩
      | _ => exact q.elim)⟩
theorem de_mA (slot : Slot "str" name id) (ty : typeOf (.builtin id) = pure (.type "method_descriptor")) (rule : MtR c.X id r) (hr : ∀ z, RDN c.X.K (fun xs H Q => r (.str z) xs H Q) (f z)) (ha : DE c o g) (hb : DA c (e :: es) fa)
    (hbase : attributeBase o name c.X.env (eval o c.X.env) = eval o c.X.env := by rfl)
    (hfew : ((backTo pos (starEach (e :: es) c.X.env)).all (fun x => !x.1) && (backToKw pos (keywordEach [] c.X.env)).all (fun x => x.1.isSome)
      && decide ((e :: es).length + ([] : List Keyword).length + (if ([] : List Keyword).isEmpty then 0 else 1) < 30)) = true := by rfl)
    (hline : (apos.endLine == pos.line) = true := by rfl) (hs : starEach (e :: es) c.X.env = (false, eval e c.X.env) :: starEach es c.X.env := by rfl) (hpl : (backTo pos (starEach es c.X.env)).any (·.1) = false := by rfl) :
    DE c (.Call (.Attribute o name apos) (e :: es) [] pos) (mMs f g fa) := fun ρ S σ G ps H k ok q =>
  ⟨_, pe_bm F.plainAttrs_str slot ty rule we_pe wa_pa hbase hfew hline hs hpl, ha _ _ _ _ _ _ _ ok (Sat.bind q fun x S1 v1 G1 ps1 H1 o1 e1 p1 a1 q => by
    cases a1 with
    | own _ => exact q.elim
    | dat a1 => cases a1 with
      | str z => exact ⟨by first | trivial | exact rfl, hb _ _ _ _ _ _ _ o1 (Sat.bind q fun xs S2 v2 G2 ps2 H2 o2 e2 p2 a2 q => sat_opN (hr z) q o2 a2)⟩
      | _ => exact q.elim)⟩
end
section
variable {K : PySem.W.Frag}
theorem rdm1 {C : Str → Str → Prop} {g : Str → Str → V} {f : Str → List D → Option D} (h : ∀ z ds d, f z ds = some d → ∃ b, ds = [.str b] ∧ C z b ∧ ∀ G, AtD K G (g z b) d) : ∀ z, RDN K (fun xs H Q => ∃ a b, V.str z = .str a ∧ xs = [.str b] ∧ C a b ∧ Q (g a b) H) (f z) := fun z G H xs k ds d s a e q => by
  obtain ⟨b, rfl, hc, hd⟩ := h z ds d e
  obtain ⟨v, rfl, ha⟩ := a.one
  exact ⟨z, b, rfl, by rw [ha.str_], hc, q _ G H (.refl _ _) (hd G)⟩
theorem rdm1' {g : Str → Str → V} {f : Str → List D → Option D} (h : ∀ z ds d, f z ds = some d → ∃ b, ds = [.str b] ∧ ∀ G, AtD K G (g z b) d) : ∀ z, RDN K (fun xs H Q => ∃ a b, V.str z = .str a ∧ xs = [.str b] ∧ Q (g a b) H) (f z) := fun z G H xs k ds d s a e q => by
  obtain ⟨b, rfl, hd⟩ := h z ds d e
  obtain ⟨v, rfl, ha⟩ := a.one
  exact ⟨z, b, rfl, by rw [ha.str_], q _ G H (.refl _ _) (hd G)⟩
theorem rdm0 {C : Str → Prop} {g : Str → V} {f : Str → List D → Option D} (h : ∀ z ds d, f z ds = some d → ds = [] ∧ C z ∧ ∀ G, AtD K G (g z) d) : ∀ z, RDN K (fun xs H Q => ∃ a, V.str z = .str a ∧ xs = [] ∧ C a ∧ Q (g a) H) (f z) := fun z G H xs k ds d s a e q => by
  obtain ⟨rfl, hc, hd⟩ := h z ds d e
  exact ⟨z, rfl, a.nil_, hc, q _ G H (.refl _ _) (hd G)⟩
def startswithF (z : Str) : List D → Option D
  | [.str b] => some (.bl (Txt.startswith z b))
  | _ => none
def endswithF (z : Str) : List D → Option D
  | [.str b] => some (.bl (Txt.endswith z b))
  | _ => none
def findF (z : Str) : List D → Option D
  | [.str b] => some (.int (Txt.find z b))
  | _ => none
def countF (z : Str) : List D → Option D
  | [.str b] => some (.int (Txt.count z b))
  | _ => none
def stripF (z : Str) : List D → Option D
  | [.str b] => if z.length ≤ sizeLine then some (.str (Txt.stripChars z b)) else none
  | _ => none
def lstripF (z : Str) : List D → Option D
  | [.str b] => if z.length ≤ sizeLine then some (.str (Txt.lstripChars z b)) else none
  | _ => none
def rstripF (z : Str) : List D → Option D
  | [.str b] => if z.length ≤ sizeLine then some (.str (Txt.rstripChars z b)) else none
  | _ => none
def rmprefixF (z : Str) : List D → Option D
  | [.str b] => if z.length ≤ sizeLine then some (.str (Txt.removeprefix z b)) else none
  | _ => none
def rmsuffixF (z : Str) : List D → Option D
  | [.str b] => if z.length ≤ sizeLine then some (.str (Txt.removesuffix z b)) else none
  | _ => none
def isalphaF (z : Str) : List D → Option D
  | [] => some (.bl (Txt.isalpha z))
  | _ => none
def isdigitF (z : Str) : List D → Option D
  | [] => some (.bl (Txt.isdigit z))
  | _ => none
def zfillF (z : Str) : List D → Option D
  | [.int i] => if PadOk i = true then some (.str (Txt.zfill z i)) else none
  | _ => none
def ljust3F (z : Str) : List D → Option D
  | [.int i, .str b] => match b.cps.toList with
    | [c] => if PadOk i = true then some (.str (ljust3 z i c)) else none
    | _ => none
  | _ => none
def splitF (z : Str) : List D → Option D
  | [.str b] => if (b.length == 0) = false ∧ z.length + 2 ≤ sizeLine then some (.lst ((Txt.split z b).map .str)) else none
  | _ => none
def joinF (z : Str) : List D → Option D
  | [.lst ds] => match strsOf ds with
    | some ys => if (ys.map (·.length)).sum + ys.length * z.length ≤ 16777216 then some (.str (Txt.join z ys)) else none
    | none => none
  | [.tup ds] => match strsOf ds with
    | some ys => if (ys.map (·.length)).sum + ys.length * z.length ≤ 16777216 then some (.str (Txt.join z ys)) else none
    | none => none
  | _ => none
theorem rdStartswith : ∀ z, RDN K (fun xs H Q => ∃ a b, V.str z = .str a ∧ xs = [.str b] ∧ Q (.bl (Txt.startswith a b)) H) (startswithF z) := rdm1' fun z ds d e => by
  unfold startswithF at e
  split at e
  · cases e; exact ⟨_, rfl, fun G => .bl _⟩
  · cases e
theorem rdEndswith : ∀ z, RDN K (fun xs H Q => ∃ a b, V.str z = .str a ∧ xs = [.str b] ∧ Q (.bl (Txt.endswith a b)) H) (endswithF z) := rdm1' fun z ds d e => by
  unfold endswithF at e
  split at e
  · cases e; exact ⟨_, rfl, fun G => .bl _⟩
  · cases e
theorem rdFind : ∀ z, RDN K (fun xs H Q => ∃ a b, V.str z = .str a ∧ xs = [.str b] ∧ Q (.int (Txt.find a b)) H) (findF z) := rdm1' fun z ds d e => by
  unfold findF at e
  split at e
  · cases e; exact ⟨_, rfl, fun G => .int _⟩
  · cases e
theorem rdCount : ∀ z, RDN K (fun xs H Q => ∃ a b, V.str z = .str a ∧ xs = [.str b] ∧ Q (.int (Txt.count a b)) H) (countF z) := rdm1' fun z ds d e => by
  unfold countF at e
  split at e
  · cases e; exact ⟨_, rfl, fun G => .int _⟩
  · cases e
theorem rdStrip : ∀ z, RDN K (fun xs H Q => ∃ a b, V.str z = .str a ∧ xs = [.str b] ∧ a.length ≤ sizeLine ∧ Q (.str (Txt.stripChars a b)) H) (stripF z) := rdm1 (C := fun a _ => a.length ≤ sizeLine) fun z ds d e => by
  unfold stripF at e
  split at e
  · split at e
    · rename_i h; cases e; exact ⟨_, rfl, h, fun G => .str _⟩
    · cases e
  · cases e
theorem rdLstrip : ∀ z, RDN K (fun xs H Q => ∃ a b, V.str z = .str a ∧ xs = [.str b] ∧ a.length ≤ sizeLine ∧ Q (.str (Txt.lstripChars a b)) H) (lstripF z) := rdm1 (C := fun a _ => a.length ≤ sizeLine) fun z ds d e => by
  unfold lstripF at e
  split at e
  · split at e
    · rename_i h; cases e; exact ⟨_, rfl, h, fun G => .str _⟩
    · cases e
  · cases e
theorem rdRstrip : ∀ z, RDN K (fun xs H Q => ∃ a b, V.str z = .str a ∧ xs = [.str b] ∧ a.length ≤ sizeLine ∧ Q (.str (Txt.rstripChars a b)) H) (rstripF z) := rdm1 (C := fun a _ => a.length ≤ sizeLine) fun z ds d e => by
  unfold rstripF at e
  split at e
  · split at e
    · rename_i h; cases e; exact ⟨_, rfl, h, fun G => .str _⟩
    · cases e
  · cases e
theorem rdRmprefix : ∀ z, RDN K (fun xs H Q => ∃ a b, V.str z = .str a ∧ xs = [.str b] ∧ a.length ≤ sizeLine ∧ Q (.str (Txt.removeprefix a b)) H) (rmprefixF z) := rdm1 (C := fun a _ => a.length ≤ sizeLine) fun z ds d e => by
  unfold rmprefixF at e
  split at e
  · split at e
    · rename_i h; cases e; exact ⟨_, rfl, h, fun G => .str _⟩
    · cases e
  · cases e
theorem rdRmsuffix : ∀ z, RDN K (fun xs H Q => ∃ a b, V.str z = .str a ∧ xs = [.str b] ∧ a.length ≤ sizeLine ∧ Q (.str (Txt.removesuffix a b)) H) (rmsuffixF z) := rdm1 (C := fun a _ => a.length ≤ sizeLine) fun z ds d e => by
  unfold rmsuffixF at e
  split at e
  · split at e
    · rename_i h; cases e; exact ⟨_, rfl, h, fun G => .str _⟩
    · cases e
  · cases e
theorem rdIsalpha : ∀ z, RDN K (fun xs H Q => ∃ a, V.str z = .str a ∧ xs = [] ∧ True ∧ Q (.bl (Txt.isalpha a)) H) (isalphaF z) := rdm0 (C := fun _ => True) fun z ds d e => by
  unfold isalphaF at e
  split at e
  · cases e; exact ⟨rfl, trivial, fun G => .bl _⟩
  · cases e
theorem rdIsdigit : ∀ z, RDN K (fun xs H Q => ∃ a, V.str z = .str a ∧ xs = [] ∧ True ∧ Q (.bl (Txt.isdigit a)) H) (isdigitF z) := rdm0 (C := fun _ => True) fun z ds d e => by
  unfold isdigitF at e
  split at e
  · cases e; exact ⟨rfl, trivial, fun G => .bl _⟩
  · cases e
theorem rdZfill : ∀ z, RDN K (fun xs H Q => ∃ (a : Str) (i : Int), V.str z = .str a ∧ xs = [.int i] ∧ PadOk i = true ∧ Q (.str (Txt.zfill a i)) H) (zfillF z) := fun z G H xs k ds d s a e q => by
  unfold zfillF at e
  split at e
  · split at e
    · rename_i h; cases e
      obtain ⟨v, rfl, ha⟩ := a.one
      exact ⟨z, _, rfl, by rw [ha.int_], h, q _ G H (.refl _ _) (.str _)⟩
    · cases e
  · cases e
theorem rdLjust3 : ∀ z, RDN K (fun xs H Q => ∃ (a : Str) (i : Int) (c : Nat), V.str z = .str a ∧ xs = [.int i, .str ⟨#[c]⟩] ∧ PadOk i = true ∧ Q (.str (ljust3 a i c)) H) (ljust3F z) := fun z G H xs k ds d s a e q => by
  unfold ljust3F at e
  split at e
  · rename_i i b
    split at e
    · rename_i c hb
      split at e
      · rename_i h; cases e
        obtain ⟨v, u, rfl, ha, hb'⟩ := a.two
        have eb : b = ⟨#[c]⟩ := by
          cases b with | mk cps => 
          have : cps = #[c] := by rw [← Array.toArray_toList (xs := cps), hb]
          rw [this]
        subst eb
        exact ⟨z, _, _, rfl, by rw [ha.int_, hb'.str_], h, q _ G H (.refl _ _) (.str _)⟩
      · cases e
    · cases e
  · cases e
theorem strs_at {G : Hp} : ∀ ys : List Str, AtDs K G (ys.map V.str) (ys.map D.str)
  | [] => .nil
  | y :: r => .cons (.str y) (strs_at r)
theorem ints_at {G : Hp} : ∀ ys : List Int, AtDs K G (ys.map V.int) (ys.map D.int)
  | [] => .nil
  | y :: r => .cons (.int y) (ints_at r)
theorem rdSplit : ∀ z, RDN K (fun xs H Q => ∃ a b, V.str z = .str a ∧ xs = [.str b] ∧ (b.length == 0) = false ∧ a.length + 2 ≤ sizeLine ∧ rNewStrs (Txt.split a b) H Q) (splitF z) := fun z G H xs k ds d s a e q => by
  unfold splitF at e
  split at e
  · split at e
    · rename_i h; cases e
      obtain ⟨v, rfl, ha⟩ := a.one
      exact ⟨z, _, rfl, by rw [ha.str_], h.1, h.2, fun p hp => q _ _ _ (.one hp) (.lst upd_same (strs_at _))⟩
    · cases e
  · cases e
theorem rdJoin : ∀ z, RDN K (fun xs H Q => ∃ a p, ∃ ys : List Str, V.str z = .str a ∧ xs = [.ref p] ∧ (SqL K H p (ys.map V.str) ∨ SqT K H p (ys.map V.str)) ∧
    (ys.map (·.length)).sum + ys.length * a.length ≤ 16777216 ∧ Q (.str (Txt.join a ys)) H) (joinF z) := fun z G H xs k ds d s a e q => by
  unfold joinF at e
  split at e
  · split at e
    · rename_i ys hy
      split at e
      · rename_i h; cases e
        obtain ⟨v, rfl, ha⟩ := a.one
        obtain ⟨p, vs, rfl, h1, h2⟩ := ha.lst_ s
        have := strsOf_ok h2 hy
        subst this
        exact ⟨z, p, ys, rfl, rfl, .inl (SqL.of h1), h, q _ G H (.refl _ _) (.str _)⟩
      · cases e
    · cases e
  · split at e
    · rename_i ys hy
      split at e
      · rename_i h; cases e
        obtain ⟨v, rfl, ha⟩ := a.one
        obtain ⟨p, vs, rfl, h1, _, h2⟩ := ha.tup_ s
        have := strsOf_ok h2 hy
        subst this
        exact ⟨z, p, ys, rfl, rfl, .inr h1, h, q _ G H (.refl _ _) (.str _)⟩
      · cases e
    · cases e
  · cases e
end
/-! ### slices -/
def cutD (xs : List D) (lo hi : Option Int) : List D := (xs.drop (HT.sIx xs.length 0 lo)).take (HT.sIx xs.length xs.length hi - HT.sIx xs.length 0 lo)
theorem AtDs.cut {K : PySem.W.Frag} {G : Hp} {vs : List V} {ds : List D} (h : AtDs K G vs ds) (lo hi : Option Int) : AtDs K G (cutV vs lo hi) (cutD ds lo hi) := by
  unfold cutV cutD
  rw [h.len]
  exact (h.drop _).take _
def slF : D → Option Int → Option Int → Option D
  | .str z, i, j => if z.length ≤ sizeLine then some (.str (cutS z i j)) else none
  | .tup ds, i, j => some (.tup (cutD ds i j))
  | .lst ds, i, j => some (.lst (cutD ds i j))
  | .sq ds, i, j => some (.lst (cutD ds i j))
  | _, _, _ => none
abbrev MO := List Sl → List Ce → RE (Option Int)
def oNo : MO := fun _ S => .ok none S
def oSome (a : ME) : MO := fun ρ S => (a ρ S).bind fun r S1 => match r with
  | .dat (.int n) => .ok (some n) S1
  | _ => .stuck
def mSl (a : ME) (lo hi : MO) : ME := fun ρ S => (a ρ S).bind fun x S1 => (lo ρ S1).bind fun i S2 => (hi ρ S2).bind fun j S3 => dat' ((vw x S3).bind fun d => slF d i j) S3
def WO (X : Cx) (o : Option Expr) : TO := fun σ H Q => ∃ t, PO X o t ∧ t σ H Q
omit CM in
theorem wo_po {X : Cx} {o : Option Expr} : PO X o (WO X o) := ⟨fun pins s σ H Q I ⟨t, h, q⟩ => h.run pins s σ H Q I q⟩
def RO : Hp → Hp → List Addr → Option Int → Option Int → Prop := fun _ _ _ v r => v = r
def DO (c : Cz) (o : Option Expr) (f : MO) : Prop := ∀ ρ S σ G ps H k, SOk c.X.K c.F G ps ρ S σ H → Sat c G ps ρ σ RO k (f ρ S) → WO c.X o σ H k
section
variable {c : Cz} {e : Expr} {f : ME} {lo hi : Option Expr} {fl fh : MO} {pos p2 : Pos}
theorem do_no : DO c none oNo := fun ρ S σ G ps H k o q => ⟨_, po_none, q.ok o rfl⟩
theorem do_some (ha : DE c e f) : DO c (some e) (oSome f) := fun ρ S σ G ps H k o q => ⟨_, po_some we_pe, ha _ _ _ _ _ _ _ o (Sat.bind q fun r S1 v1 G1 ps1 H1 o1 e1 p1 a1 q => by
  cases a1 with
  | own _ => exact q.elim
  | dat a1 => cases a1 with
    | int n => exact ⟨n, rfl, q.ok o1 rfl⟩
    | _ => exact q.elim)⟩
def rSlAll (K : PySem.W.Frag) : V → Option Int → Option Int → Hp → VK → Prop := fun x lo hi H Q => rSlS x lo hi H Q ∨ (rSlA K x lo hi H Q ∨ rSlL K x lo hi H Q)
omit CM in
theorem slAll {X : Cx} : SlR X (rSlAll X.K) := sl_str.or (sl_tupA.or sl_list)
theorem de_sl (ha : DE c e f) (hl : DO c lo fl) (hh : DO c hi fh) : DE c (.Subscript e (.Slice lo hi none p2) pos) (mSl f fl fh) := fun ρ S σ G ps H k o q =>
  ⟨_, pe_slice slAll we_pe wo_po wo_po, ha _ _ _ _ _ _ _ o (Sat.bind q fun x S1 v1 G1 ps1 H1 o1 e1 p1 a1 q => hl _ _ _ _ _ _ _ o1 (Sat.bind q fun i S2 v2 G2 ps2 H2 o2 e2 p2 a2 q => hh _ _ _ _ _ _ _ o2 (Sat.bind q fun j S3 v3 G3 ps3 H3 o3 e3 p3 a3 q => by
    cases a2; cases a3
    cases ev : vw x S3 with
    | none => rw [ev] at q; exact q.elim
    | some d =>
      rw [ev] at q
      have top := vw_ok o3 (AtA.mono (e2.trans e3) (p2.trans p3) a1) ev
      refine sat_dat q o3 fun d' ed kk => ?_
      replace ed : slF d i j = some d' := ed
      unfold slF at ed
      split at ed
      · split at ed
        · rename_i hz; cases ed
          rw [top.str_]
          exact .inl ⟨_, rfl, hz, kk _ G3 H3 (.refl _ _) (.str _)⟩
        · cases ed
      · rename_i ds
        cases ed
        obtain ⟨p, vs, rfl, h1, h0, h2⟩ := top.tup_ o3.sub
        refine .inr (.inl ⟨p, vs, rfl, h1, fun w => ?_, fun _ r hr => ?_⟩)
        · have hc : cutD ds i j = ds := by
            unfold cutD
            rw [h2.len] at w
            rw [w.1, w.2, List.drop_zero, Nat.sub_zero, List.take_length]
          rw [hc] at kk
          exact kk _ G3 H3 (.refl _ _) (.tup h0 h2)
        · exact kk _ _ _ (.one hr) (.tup (SqT.of upd_same) ((h2.cut i j).mono (Ex.new (o3.sub.back hr))))
      · cases ed
        obtain ⟨p, vs, rfl, h1, h2⟩ := top.lst_ o3.sub
        exact .inr (.inr ⟨p, vs, rfl, SqL.of h1, fun r hr => kk _ _ _ (.one hr) (.lst upd_same ((h2.cut i j).mono (Ex.new (o3.sub.back hr))))⟩)
      · cases ed
        obtain ⟨p, vs, rfl, h1, h2⟩ := top.sq_ o3.sub
        exact .inr (.inr ⟨p, vs, rfl, h1, fun r hr => kk _ _ _ (.one hr) (.lst upd_same ((h2.cut i j).mono (Ex.new (o3.sub.back hr))))⟩)
      · cases ed)))⟩
end
/-! ### f-strings -/
def fmtF : D → Option D
  | .str y => if y.length ≤ sizeLine then some (.str y) else none
  | .int i => if i.natAbs.log2 < 1920 then some (.str (toString i)) else none
  | _ => none
def mFmt (a : ME) : ME := fun ρ S => (a ρ S).bind fun x S1 => op1 fmtF x S1
def fsL : List ME → Str → List Sl → List Ce → RE Sl
  | [], acc, _, S => .ok (.dat (.str acc)) S
  | a :: r, acc, ρ, S => (a ρ S).bind fun x S1 => match x with
    | .dat (.str y) => if (acc ++ y).length ≤ sizeLine then fsL r (acc ++ y) ρ S1 else .stuck
    | _ => .stuck
def mFs (as : List ME) : ME := fun ρ S => fsL as Str.empty ρ S
inductive DJ (c : Cz) : List Expr → List ME → Prop
  | nil : DJ c [] []
  | cons {e : Expr} {f : ME} {es : List Expr} {fs : List ME} : DE c e f → DJ c es fs → DJ c (e :: es) (f :: fs)
section
variable {c : Cz} {e : Expr} {f : ME} {pos : Pos}
theorem de_fmt (ha : DE c e f) : DE c (.FormattedValue e (-1) none pos) (mFmt f) := fun ρ S σ G ps H k o q =>
  ⟨_, pe_fmt we_pe, ha _ _ _ _ _ _ _ o (Sat.bind q fun x S1 v1 G1 ps1 H1 o1 e1 p1 a1 q => by
    unfold op1 at q
    cases ev : vw x S1 with
    | none => rw [ev] at q; exact q.elim
    | some d =>
      rw [ev] at q
      have top := vw_ok o1 a1 ev
      refine sat_dat q o1 fun d' ed kk => ?_
      replace ed : fmtF d = some d' := ed
      unfold fmtF at ed
      split at ed
      · split at ed
        · rename_i h; cases ed; rw [top.str_]; exact .inl ⟨_, rfl, h, kk _ G1 H1 (.refl _ _) (.str _)⟩
        · cases ed
      · split at ed
        · rename_i h; cases ed; rw [top.int_]; exact .inr ⟨_, rfl, h, kk _ G1 H1 (.refl _ _) (.str _)⟩
        · cases ed
      · cases ed)⟩
omit CM in
theorem pj_all {X : Cx} : ∀ es : List Expr, PJ X es (es.map (WE X))
  | [] => .nil
  | e :: es => .cons we_pe (pj_all es)
theorem fs_run : ∀ {es : List Expr} {fs : List ME} {acc : Str} {ρ : List Sl} {S : List Ce} {σ : L2.St} {G : Hp} {ps : List Addr} {H : Hp} {k : VK}, DJ c es fs → SOk c.X.K c.F G ps ρ S σ H → Sat c G ps ρ σ (RA c) k (fsL fs acc ρ S) →
    tJs (es.map (WE c.X)) acc σ H fun out H1 => k (.str out) H1
  | _, _, acc, ρ, S, σ, G, ps, H, k, .nil, o, q => q.ok o (AtA.dat (.str acc))
  | _, _, acc, ρ, S, σ, G, ps, H, k, .cons ha r, o, q => ha _ _ _ _ _ _ _ o (Sat.bind q fun x S1 v1 G1 ps1 H1 o1 e1 p1 a1 q => by
      cases a1 with
      | own _ => exact q.elim
      | dat a1 => cases a1 with
        | str y =>
          dsimp only at q
          by_cases h : (acc ++ y).length ≤ sizeLine
          · rw [if_pos h] at q
            exact ⟨y, rfl, h, fs_run r o1 q⟩
          · rw [if_neg h] at q; exact q.elim
        | _ => exact q.elim)
theorem de_fs {v1 v2 : Expr} {rest : List Expr} {fs : List ME} (h : DJ c (v1 :: v2 :: rest) fs) : DE c (.JoinedStr (v1 :: v2 :: rest) pos) (mFs fs) := fun ρ S σ G ps H k o q =>
  ⟨_, pe_joined (pj_all (v1 :: v2 :: rest)), fs_run h o q⟩
theorem de_fs1 (ha : DE c e f) : DE c (.JoinedStr [e] pos) f := fun ρ S σ G ps H k o q => ⟨_, pe_joined1 we_pe, ha _ _ _ _ _ _ _ o q⟩
end
/-! ### targets -/
/-- what is stored where by a target -/
abbrev MTg := Sl → List Sl → Option (List Sl)
def tN (i : Nat) : MTg := fun r ρ => some (ρ.set i r)
def tAll : List MTg → List D → List Sl → Option (List Sl)
  | [], [], ρ => some ρ
  | t :: ts, d :: ds, ρ => (t (.dat d) ρ).bind (tAll ts ds)
  | _, _, _ => none
def tTup (ts : List MTg) : MTg := fun r ρ => match r with
  | .dat (.tup ds) => tAll ts ds ρ
  | _ => none
def gAsg (t : MTg) (a : ME) : MS := fun ρ S => (a ρ S).toS ρ fun r S1 => match t r ρ with
  | some ρ1 => .nx ρ1 S1
  | none => .stuck
/-- the slots js alone are changed -/
def Sto (js : List Nat) (σ σ' : L2.St) : Prop := ∀ ks : List Nat, (∀ j ∈ js, j ∈ ks) → wipe σ' ks = wipe σ ks
omit CM in
theorem wipe_set {σ : L2.St} {i : Nat} {v : Option V} : ∀ {ks : List Nat}, i ∈ ks → wipe (σ.set i v) ks = wipe σ ks
  | k :: ks, h => by
    unfold wipe
    by_cases hk : i ∈ ks
    · rw [wipe_set hk]
    · have e : i = k := by
        rcases List.mem_cons.mp h with e | e
        · exact e
        · exact (hk e).elim
      subst e
      have : ∀ ks : List Nat, i ∉ ks → (wipe (σ.set i v) ks).set i none = (wipe σ ks).set i none := by
        intro ks
        induction ks with
        | nil => intro _; unfold wipe; rw [List.set_set]
        | cons k r ih =>
          intro hn
          have n1 : i ≠ k := fun z => hn (z ▸ List.mem_cons_self ..)
          have n2 : i ∉ r := fun z => hn (List.mem_cons_of_mem _ z)
          unfold wipe
          rw [List.set_comm _ _ n1.symm, ih n2, List.set_comm _ _ n1]
      exact this ks hk
def WG (X : Cx) (tg : Expr) : TG := fun v σ H Q => ∃ t, PG X tg t ∧ t v σ H Q
omit CM in
theorem wg_pg {X : Cx} {tg : Expr} : PG X tg (WG X tg) := ⟨fun pins s σ H v u Q I r ⟨t, h, q⟩ => h.run pins s σ H v u Q I r q⟩
def WGs (X : Cx) (tgs : List Expr) : TGs := fun vs σ H Q => ∃ t, PGs X tgs t ∧ t vs σ H Q
omit CM in
theorem wgs_pgs {X : Cx} {tgs : List Expr} : PGs X tgs (WGs X tgs) := ⟨fun pins s σ H v u Q I r ⟨t, h, q⟩ => h.run pins s σ H v u Q I r q⟩
def DG (c : Cz) (tg : Expr) (js : List Nat) (t : MTg) : Prop := ∀ ρ S σ G ps H (Q : L2.St → Hp → Prop) v r ρ', SOk c.X.K c.F G ps ρ S σ H → AtA c.X.K G ps v r → t r ρ = some ρ' → (∀ σ', SOk c.X.K c.F G ps ρ' S σ' H → Sto js σ σ' → Q σ' H) → WG c.X tg v σ H Q
def DGs (c : Cz) (tgs : List Expr) (js : List Nat) (ts : List MTg) : Prop := ∀ ρ S σ G ps H (Q : L2.St → Hp → Prop) vs ds ρ', SOk c.X.K c.F G ps ρ S σ H → AtDs c.X.K G vs ds → tAll ts ds ρ = some ρ' → (∀ σ', SOk c.X.K c.F G ps ρ' S σ' H → Sto js σ σ' → Q σ' H) → WGs c.X tgs vs σ H Q
section
variable {c : Cz} {tg e : Expr} {tgs : List Expr} {js ks : List Nat} {t : MTg} {ts : List MTg} {f : ME} {pos : Pos}
theorem dg_name (i : Nat) {x : Str} (hN : c.X.N.Nodup) (hi : c.X.N[i]? = some x := by rfl) (hx : Loc c.X.env.scope x := by first | exact Or.inl rfl | exact Or.inr rfl)
    (hf : c.X.fn x = true ∨ c.X.env.scope.names.lookup x = some .local := by first | exact .inl rfl | exact .inr rfl) : DG c (.Name x pos) [i] (tN i) := fun ρ S σ G ps H Q v r ρ' o a e q => by
  cases e
  exact ⟨_, pg_name hN hi hx hf, q _ (o.setA i a) fun ks h => wipe_set (h i (List.mem_cons_self ..))⟩
theorem dgs_nil : DGs c [] [] [] := fun ρ S σ G ps H Q vs ds ρ' o a e q => by
  cases ds with
  | cons _ _ => cases e
  | nil => cases e; cases a; exact ⟨_, pgs_nil, rfl, q σ o fun ks h => rfl⟩
theorem dgs_cons (h1 : DG c tg js t) (h2 : DGs c tgs ks ts) (hs : (assignEach (tg :: tgs) c.X.env).map (·.2) = assign tg c.X.env :: (assignEach tgs c.X.env).map (·.2) := by rfl) : DGs c (tg :: tgs) (js ++ ks) (t :: ts) := fun ρ S σ G ps H Q vs ds ρ' o a e q => by
  cases ds with
  | nil => cases e
  | cons d ds =>
    cases a with
    | cons a as =>
      unfold tAll at e
      cases et : t (.dat d) ρ with
      | none => rw [et] at e; cases e
      | some ρ1 =>
        rw [et] at e
        refine ⟨_, pgs_cons wg_pg wgs_pgs hs, _, _, rfl, h1 _ _ _ _ _ _ _ _ _ _ o (.dat a) et fun σ1 o1 s1 => h2 _ _ _ _ _ _ _ _ _ _ o1 as e fun σ2 o2 s2 => q σ2 o2 fun l hl => ?_⟩
        rw [s2 l fun j hj => hl j (List.mem_append_right _ hj), s1 l fun j hj => hl j (List.mem_append_left _ hj)]
theorem dg_tup {k : Nat} (hc : c.X.calm = true) (h : DGs c tgs js ts) (hst : (assignEach tgs c.X.env).findIdx? (·.1) = none := by rfl) (hn : (assignEach tgs c.X.env).length = ts.length := by rfl) : DG c (.Tuple tgs k pos) js (tTup ts) := fun ρ S σ G ps H Q v r ρ' o a e q => by
  cases a with
  | own _ => cases e
  | dat a =>
    cases a with
    | @tup p vs ds hT hv =>
      have e : tAll ts ds ρ = some ρ' := e
      have hl : ∀ (ts : List MTg) (ds : List D) (ρ ρ' : List Sl), tAll ts ds ρ = some ρ' → ds.length = ts.length := by
        intro ts
        induction ts with
        | nil => intro ds ρ ρ' e; cases ds with
          | nil => rfl
          | cons _ _ => cases e
        | cons t r ih => intro ds ρ ρ' e; cases ds with
          | nil => cases e
          | cons d ds =>
            unfold tAll at e
            cases et : t (.dat d) ρ with
            | none => rw [et] at e; cases e
            | some ρ1 => rw [et] at e; rw [List.length_cons, List.length_cons, ih ds ρ1 ρ' e]
      exact ⟨_, pg_tup hc wgs_pgs rfl hst, p, vs, rfl, o.sub.st hT, by rw [hv.len, hl ts ds ρ ρ' e, ← hn], h _ _ _ _ _ _ _ _ _ _ o hv e q⟩
    | _ => cases e
/-- target = e, any target -/
theorem d1_asg (hg : DG c tg js t) (ha : DE c e f) (hs : swapsWithSole [tg] e pos.line c.X.env = pure false := by rfl) (hw : swappedStores [tg] e c.X.env = pure none := by rfl)
    (h1 : (assignEach [tg] c.X.env).map (·.2) = [assign tg c.X.env] := by rfl) : D1 c (.Assign [tg] e pos) (gAsg t f) := fun ρ S σ G ps H E o q =>
  ⟨_, ps_asg we_pe wg_pg hs hw h1, ha _ _ _ _ _ _ _ o (Sat.toS q fun r S1 v G1 ps1 H1 o1 e1 p1 a1 q => by
    cases et : t r ρ with
    | none => rw [et] at q; exact q.elim
    | some ρ1 => rw [et] at q; exact hg _ _ _ _ _ _ _ _ _ _ o1 a1 et fun σ2 o2 _ => q _ G1 ps1 H1 o2 (Ex.refl _) (List.prefix_refl _))⟩
end
end Mir
namespace Mir
open PySem PySem.Spec L2
variable [CM : ClsMap]
/-- x.append(e); x[b] = e -/
def gAppV (i : Nat) (f : ME) : MS := fun ρ S => match ρ[i]? with
  | some (.own j) => (match S[j]? with
    | some (.lst _) => gApp i f ρ S
    | _ => .stuck)
  | _ => .stuck
def gStoV (i : Nat) (g f : ME) : MS := fun ρ S => match ρ[i]? with
  | some (.own _) => gSto i g f ρ S
  | _ => .stuck
end Mir
namespace Mir
open PySem PySem.Spec L2
variable [CM : ClsMap]
/-! ### x op= e -/
def iaddF : D → D → Option D
  | .int i, .int j => some (.int (i + j))
  | .str a, .str b => if a.length + b.length ≤ sizeLine then some (.str (a ++ b)) else none
  | _, _ => none
def imulF : D → D → Option D
  | .int i, .int j => if okMul i j = true then some (.int (i * j)) else none
  | _, _ => none
section
variable {X : Cx}
theorem ripAdd : RIp X .Add iaddF := by
  refine ⟨fun x y H Q => (∃ i j, x = .int i ∧ y = .int j ∧ Q (.int (i + j)) H) ∨ ∃ a b, x = .str a ∧ y = .str b ∧ a.length + b.length ≤ sizeLine ∧ Q (.str (a ++ b)) H, ?_, ?_⟩
  · intro pins s σ H x y v u Q I r1 r2 h
    rcases h with ⟨i, j, e1, e2, q⟩ | ⟨a, b, e1, e2, hz, q⟩
    · subst e1 e2
      obtain ⟨t, rfl⟩ := r1
      obtain ⟨t', rfl⟩ := r2
      exact PyProof.Rows.iadd_int ⟨.int _, H, I.tok _, ⟨_, rfl⟩, q⟩
    · subst e1 e2
      obtain ⟨t, rfl⟩ := r1
      obtain ⟨t', rfl⟩ := r2
      exact PyProof.Rows.iadd_str (fun t' tk => ⟨.str _, H, I.tok _, ⟨_, rfl⟩, q⟩) hz
  · intro G H x y k d1 d2 d s a b e q
    unfold iaddF at e
    split at e
    · cases e; cases a; cases b; exact .inl ⟨_, _, rfl, rfl, q _ G H (.refl _ _) (.int _)⟩
    · split at e
      · rename_i h; cases e; cases a; cases b; exact .inr ⟨_, _, rfl, rfl, h, q _ G H (.refl _ _) (.str _)⟩
      · cases e
    · cases e
theorem ripSub : RIp X .Sub subF := by
  refine ⟨_, ip_sub, ?_⟩
  intro G H x y k d1 d2 d s a b e q
  unfold subF at e
  split at e
  · cases e; cases a; cases b; exact ⟨_, _, rfl, rfl, q _ G H (.refl _ _) (.int _)⟩
  · cases e
end
end Mir
namespace Mir
open PySem PySem.Spec L2
variable [CM : ClsMap]
section
variable {X : Cx}
theorem ripMul : RIp X .Mult imulF := by
  refine ⟨fun x y H Q => ∃ i j, x = .int i ∧ y = .int j ∧ CMulW i j ∧ Q (.int (i * j)) H, ?_, ?_⟩
  · intro pins s σ H x y v u Q I r1 r2 h
    obtain ⟨i, j, e1, e2, hc, q⟩ := h
    subst e1 e2
    obtain ⟨t, rfl⟩ := r1
    obtain ⟨t', rfl⟩ := r2
    exact PyProof.Rows.imul_int ⟨.int _, H, I.tok _, ⟨_, rfl⟩, q⟩ hc.ok
  · intro G H x y k d1 d2 d s a b e q
    unfold imulF at e
    split at e
    · split at e
      · rename_i h; cases e; cases a; cases b; exact ⟨_, _, rfl, rfl, (show _ < 1000000 from of_decide_eq_true (p := _ < 1000000) h), q _ G H (.refl _ _) (.int _)⟩
      · cases e
    · cases e
end
end Mir
namespace Mir
open PySem PySem.Spec L2
variable [CM : ClsMap]
theorem de_dict0 {c : Cz} {pos : Pos} : DE c (.Dict [] [] pos) (mK (.dct [])) := fun ρ S σ G ps H k o q =>
  ⟨_, pe_dnewK, fun p hp => q _ _ ps _ (o.put (.dK []) hp) (Ex.new (o.sub.back hp)) (List.prefix_refl _) (.dat (.dct upd_same .nil))⟩
end Mir

/-! The end of a law whose def keeps its promise with no guards about. -/
namespace Mir
open PySem PySem.Spec L2
section
variable {P : Program} {w : World} {K : PySem.W.Frag} {mg mb : Str → Option Value} {k : Nat} {fa a : Addr} {sp : Sp} {s1 : Shared} {vs : List Value} {ns : List Int}
/-- the script, and nothing else, is in sight -/
def onlyS (K : PySem.W.Frag) (a : Addr) (ob : Obj) (ns : List Int) : Hp := fun b => if b = a ∧ K.lookup a = none then some (.frz ob (.lst (ns.map V.int))) else none
theorem onlyS_at {ob : Obj} {b : Addr} {u : HO} (h : onlyS K a ob ns b = some u) : b = a ∧ K.lookup a = none ∧ u = .frz ob (.lst (ns.map V.int)) := by
  unfold onlyS at h
  by_cases z : b = a ∧ K.lookup a = none
  · rw [if_pos z] at h
    exact ⟨z.1, z.2, (Option.some.inj h).symm⟩
  · rw [if_neg z] at h
    cases h
theorem topG (inK : K.In s1.heap) (nsM : s1.heap.Ns mainGlobals mg) (nsB : s1.heap.Ns builtinsNs mb) (boot : ∀ x : Str, x ≠ "__name__" → mb x = bootBuiltins x) (nl : s1.heap.NoLimit) (gens : s1.gens = #[])
    (scr : s1.heap.get? a = some { cls := .type "list", data := .seq vs.toArray }) (hin : PyProof.Rows.IntsAre vs ns) (len : ns.length ≤ sizeLine) (hr : Room k callerA)
    (F : ∀ b : Heap, K.In b → b.Ns mainGlobals mg → RunG P w K mg b k fa sp)
    (hsp : ∀ H : Hp, SqL K H a (ns.map V.int) → sp [.ref a] H (fun v _ => v = .bl true) fun _ _ _ => False) :
    codeAny (model P w) callerA (.call (.ref fa) ⟨[.ref a], []⟩) (fun r s' => r = .ok (.ret (.bool true)) ∧ OldK s1.heap s'.heap ∧ s'.os = s1.os ∧ PyProof.Rows.AllBare s'.gens) s1 := by
  let ob : Obj := { cls := .type "list", data := .seq vs.toArray }
  let H : Hp := onlyS K a ob ns
  have rel := vals_ints hin
  have many := hin.length
  have seq : SqL K H a (ns.map V.int) := by
    cases z : K.lookup a with
    | none => exact .inl (.inr ⟨ob, if_pos ⟨rfl, z⟩⟩)
    | some o =>
      cases (inK _ _ z).symm.trans scr
      exact .inr ⟨_, vs.toArray, _, z, rfl, rfl, rfl, by rw [List.size_toArray, many]; exact len, rel⟩
  have ok : HOk P w H s1.heap := fun b u z => by
    obtain ⟨rfl, _, rfl⟩ := onlyS_at z
    exact ⟨scr, by rw [List.length_map]; exact len, vs, _, rel, scr⟩
  have clear : ∀ {b : Addr} {o : Obj} {es : Array DictEntry} {n : Nat}, s1.heap.get? b = some o → o.data = .dict es n → H b = none := fun {b o es n} e d => by
    cases z : H b with
    | none => rfl
    | some u =>
      obtain ⟨rfl, _, _⟩ := onlyS_at z
      cases e.symm.trans scr
      cases d
  have nsH : ∀ {b : Addr} {m : Str → Option Value}, s1.heap.Ns b m → (hidT s1.heap H).Ns b m := fun ⟨o, es, n, e, d, z⟩ => ⟨o, es, n, hidT_get e (clear e d), d, z⟩
  have inH : K.In (hidT s1.heap H) := fun b o e => hidT_get (inK b o e) (by
    cases z : H b with
    | none => rfl
    | some u =>
      obtain ⟨rfl, y, _⟩ := onlyS_at z
      cases e.symm.trans y)
  obtain ⟨mc, c1, c2⟩ := nl
  have e0 : Env0 P w K mg (hidT s1.heap H) callerA [] s1 H := ⟨rfl, ⟨inH, nsH nsM, ⟨mb, nsH nsB, boot⟩, mc, nsH c1, c2⟩, fun b o e => of_hidT e, Nat.le_of_eq (hidT_size _ _), trivial, fun b hb => (nomatch hb), ok, .of_eq gens⟩
  refine codeAny_mono (F _ inH (nsH nsM) callerA [] s1 H [.ref a] [.ref a] _ _ hr rfl e0 (.cons rfl .nil) (hsp H seq)) fun r s' z => ?_
  match r, z with
  | .error _, z =>
    obtain ⟨_, _, _, _, _, _, _, _, _, _, _, _, no⟩ := z
    exact no.elim
  | .ok (.ret u), ⟨v, H', os, bare, un, ok', ru, hv⟩ =>
    cases (show v = .bl true from hv)
    cases (show u = Value.bool true from ru)
    refine ⟨rfl, OldK.of_keep fun b o e => ?_, os, bare⟩
    cases z : H b with
    | none => exact un.keep b o e z (fun y => nomatch y) (fun y => nomatch y)
    | some u =>
      obtain ⟨rfl, _, rfl⟩ := onlyS_at z
      have new := (ok' _ _ (un.frzs _ _ _ z)).1
      have was := (ok _ _ z).1
      cases e.symm.trans was
      exact new
theorem walk_ofG {l : PySem.W.OpenLaw} {n k : Nat} {q : Program} {loose : List Str} {XP : (Str → Option Value) → Heap → Prop} {YP : World → Heap → Prop} {d : DefRec} {K : Params → PySem.W.Frag} {sp : World → Sp}
    (hn : l.most = some n) (hn2 : n ≤ sizeLine) (hdf : d.params.defaults = []) (hr : Room k callerA) (hY : ∀ (w : World) (h : Heap), YP w h → (K w.params).In h)
    (F : ∀ (w : World) (mg : Str → Option Value) (fa : Addr) (h : Heap), (K w.params).In h → h.Ns mainGlobals mg → mg d.name = some (.ref fa) → ∀ b : Heap, (K w.params).In b → b.Ns mainGlobals mg → RunG l.prog w (K w.params) mg b k fa (sp w))
    (hsp : ∀ (w : World) (H : Hp) (a : Addr) (ns : List Int), ns.length ≤ n → SqL (K w.params) H a (ns.map V.int) → sp w [.ref a] H (fun v _ => v = .bl true) fun _ _ _ => False) :
    PySem.W.WalkO q loose XP YP l.row.toRowW d [] (fun f vs => PySem.call f vs) :=
  Att.attach_call hn hdf fun w s₀ s₁ mg mb fa o pm cd doc a vs ns G Y ho hd hcd hmg hobj hints hlen hg =>
    topG (hY w _ Y) G.T.g G.T.b G.T.builtins G.T.nolimit hg hobj hints (Nat.le_trans hlen hn2) hr (F w mg fa _ (hY w _ Y) G.T.g hmg) fun H => hsp w H a ns hlen
end
end Mir

/-! Mirrors evaluated. -/
namespace Mir
open PySem PySem.Spec L2
@[simp] theorem vw_own (j : Nat) (S : List Ce) : vw (.own j) S = (S[j]?).bind ceD := rfl
@[simp] theorem ceD_lst (ds : List D) : ceD (.lst ds) = some (.lst ds) := rfl
@[simp] theorem ceD_dct (ds : List (Key × D)) : ceD (.dct ds) = some (.dct ds) := rfl
theorem op2_vw {f : D → D → Option D} {x y : Sl} {S : List Ce} : op2 f x y S = dat' ((vw x S).bind fun a => (vw y S).bind (f a)) S := rfl
theorem op1_vw {f : D → Option D} {x : Sl} {S : List Ce} : op1 f x S = dat' ((vw x S).bind f) S := rfl
theorem opN_vw {f : List D → Option D} {x : List Sl} {S : List Ce} : opN f x S = dat' ((vws x S).bind f) S := rfl
@[simp] theorem vws_nil (S : List Ce) : vws [] S = some [] := rfl
theorem vws_cons (x : Sl) (r : List Sl) (S : List Ce) : vws (x :: r) S = (vw x S).bind fun d => (vws r S).map (d :: ·) := rfl
theorem truS_vw (x : Sl) (S : List Ce) : truS x S = (vw x S).bind truD := rfl
theorem mk_ok (d : D) (ρ : List Sl) (S : List Ce) : mK d ρ S = .ok (.dat d) S := rfl
theorem mvar_dat {i : Nat} {ρ : List Sl} {S : List Ce} {d : D} (h : ρ[i]? = some (.dat d)) : mVar i ρ S = .ok (.dat d) S := by unfold mVar; rw [h]
theorem mvar_own {i : Nat} {ρ : List Sl} {S : List Ce} {j : Nat} (h : ρ[i]? = some (.own j)) : mVar i ρ S = .ok (.own j) S := by unfold mVar; rw [h]
theorem cond_dec {α : Type} {p : Prop} [Decidable p] (a b : α) : (bif decide p then a else b) = if p then a else b := by by_cases h : p <;> simp [h]
theorem atI_nat {α : Type} {l : List α} {i : Nat} (h : i < l.length) : atI l (i : Int) = l[i]? := by
  unfold atI ixN
  have : ¬ ((i : Int) < 0) := by omega
  simp [this, h]
theorem atI_0 {α : Type} (x : α) (r : List α) : atI (x :: r) 0 = some x := atI_nat (l := x :: r) (i := 0) (by simp)
theorem atI_1 {α : Type} (x y : α) (r : List α) : atI (x :: y :: r) 1 = some y := atI_nat (l := x :: y :: r) (i := 1) (by simp)
theorem atI_2 {α : Type} (x y z : α) (r : List α) : atI (x :: y :: z :: r) 2 = some z := atI_nat (l := x :: y :: z :: r) (i := 2) (by simp)
theorem ixN_nat {n i : Nat} (h : i < n) : ixN n (i : Int) = some i := by
  unfold ixN
  have : ¬ ((i : Int) < 0) := by omega
  simp [this, h]
theorem okMul_of {i j : Int} {a b : Nat} (h1 : i.natAbs < 2 ^ a) (h2 : j.natAbs < 2 ^ b) (h : a + b ≤ 1000000 := by decide) (ha : 0 < a := by decide) (hb : 0 < b := by decide) : okMul i j = true := by
  have := wide_mul h1 h2 ha hb h
  exact decide_eq_true this
theorem okDiv_of {j : Int} {b : Nat} (h1 : 0 < j) (h2 : j.natAbs < 2 ^ b) (h : b ≤ 9000 := by decide) (hb : 0 < b := by decide) : okDiv j = true := decide_eq_true (wide_div (i := 0) h1 h2 hb h)
theorem addF_i {i j : Int} : addF (.int i) (.int j) = some (.int (i + j)) := rfl
theorem subF_i {i j : Int} : subF (.int i) (.int j) = some (.int (i - j)) := rfl
theorem addF_s {a b : Str} : addF (.str a) (.str b) = if a.length + b.length ≤ sizeLine then some (.str (a ++ b)) else none := rfl
theorem addF_l {a b : List D} : addF (.lst a) (.lst b) = if a.length + b.length ≤ 100000 then some (.lst (a ++ b)) else none := rfl
theorem addF_t {a b : List D} : addF (.tup a) (.tup b) = if a.length + b.length ≤ 100000 then some (.tup (a ++ b)) else none := rfl
theorem iaddF_i {i j : Int} : iaddF (.int i) (.int j) = some (.int (i + j)) := rfl
theorem iaddF_s {a b : Str} : iaddF (.str a) (.str b) = if a.length + b.length ≤ sizeLine then some (.str (a ++ b)) else none := rfl
theorem imulF_i {i j : Int} : imulF (.int i) (.int j) = if okMul i j = true then some (.int (i * j)) else none := rfl
theorem mulF_i {i j : Int} : mulF (.int i) (.int j) = if okMul i j = true then some (.int (i * j)) else none := rfl
theorem mulF_s {s : Str} {n : Int} : mulF (.str s) (.int n) = if n < 1 ∧ -1000000 ≤ n then some (.str Str.empty) else if n = 1 then some (.str s) else if 2 ≤ n ∧ n ≤ 100000 ∧ 0 < s.length ∧ s.length ≤ 100 then some (.str (repS s n)) else none := rfl
theorem mulF_l {ds : List D} {n : Int} : mulF (.lst ds) (.int n) = if 0 ≤ n ∧ n ≤ 100000 ∧ ds.length ≤ 100 then some (.lst (List.replicate n.toNat ds).flatten) else none := rfl
theorem mulF_t {ds : List D} {n : Int} : mulF (.tup ds) (.int n) = if 2 ≤ n ∧ n ≤ 100000 ∧ ds ≠ [] ∧ ds.length ≤ 100 then some (.tup (List.replicate n.toNat ds).flatten) else none := rfl
theorem divF_i {i j : Int} : divF (.int i) (.int j) = if okDiv j = true then some (.int (i / j)) else none := rfl
theorem modF_i {i j : Int} : modF (.int i) (.int j) = if 0 < j then some (.int (i % j)) else none := rfl
theorem powF_i {i j : Int} : powF (.int i) (.int j) = if 0 ≤ j ∧ j ≤ 1000000 ∧ i.natAbs < 2 ^ 64 then some (.int (i ^ j.toNat)) else none := rfl
theorem negF_i {i : Int} : negF (.int i) = some (.int (-i)) := rfl
theorem ltF_i {i j : Int} : ltF (.int i) (.int j) = some (.bl (decide (i < j))) := rfl
theorem ltF_s {a b : Str} : ltF (.str a) (.str b) = some (.bl (decide (a.cps.toList < b.cps.toList))) := rfl
theorem leF_i {i j : Int} : leF (.int i) (.int j) = some (.bl (decide (i ≤ j))) := rfl
theorem leF_s {a b : Str} : leF (.str a) (.str b) = some (.bl (!decide (b.cps.toList < a.cps.toList))) := rfl
theorem gtF_i {i j : Int} : gtF (.int i) (.int j) = some (.bl (decide (j < i))) := rfl
theorem gtF_s {a b : Str} : gtF (.str a) (.str b) = some (.bl (decide (b.cps.toList < a.cps.toList))) := rfl
theorem geF_i {i j : Int} : geF (.int i) (.int j) = some (.bl (decide (j ≤ i))) := rfl
theorem geF_s {a b : Str} : geF (.str a) (.str b) = some (.bl (!decide (a.cps.toList < b.cps.toList))) := rfl
theorem isF_n {d : D} : isF d .non = some (.bl (isNonD d)) := by cases d <;> rfl
theorem isnF_n {d : D} : isnF d .non = some (.bl (!isNonD d)) := by cases d <;> rfl
theorem isF_b {a b : Bool} : isF (.bl a) (.bl b) = some (.bl (decide (a = b))) := rfl
theorem isnF_b {a b : Bool} : isnF (.bl a) (.bl b) = some (.bl (!decide (a = b))) := rfl
theorem inF_s {a b : Str} : inF (.str a) (.str b) = some (.bl (subS a b)) := rfl
theorem ninF_s {a b : Str} : ninF (.str a) (.str b) = some (.bl (!subS a b)) := rfl
theorem ixF_l {ds : List D} {n : Int} : ixF (.lst ds) (.int n) = atI ds n := rfl
theorem ixF_t {ds : List D} {n : Int} : ixF (.tup ds) (.int n) = atI ds n := rfl
theorem ixF_q {ds : List D} {n : Int} : ixF (.sq ds) (.int n) = atI ds n := rfl
theorem ixF_s {z : Str} {n : Int} : ixF (.str z) (.int n) = if z.length ≤ sizeLine then (atI z.cps.toList n).map fun x => .str ⟨#[x]⟩ else none := rfl
theorem lenF_s {s : Str} : lenF [.str s] = if s.length ≤ sizeLine then some (.int s.length) else none := rfl
theorem lenF_lst {ds : List D} : lenF [.lst ds] = some (.int ds.length) := rfl
theorem lenF_sq {ds : List D} : lenF [.sq ds] = some (.int ds.length) := rfl
theorem lenF_tup {ds : List D} : lenF [.tup ds] = some (.int ds.length) := rfl
theorem absF_i {i : Int} : absF [.int i] = some (.int (if i < 0 then -i else i)) := rfl
theorem max2F_i {i j : Int} : max2F [.int i, .int j] = some (.int (if j > i then j else i)) := rfl
theorem min2F_i {i j : Int} : min2F [.int i, .int j] = some (.int (if j < i then j else i)) := rfl
theorem intF_i {i : Int} : intF [.int i] = some (.int i) := rfl
theorem intF_b {b : Bool} : intF [.bl b] = some (.int (if b then 1 else 0)) := rfl
theorem intF_s {a : Str} {n : Int} (h : PySem.intText? a = some n) (hl : a.length ≤ 640) : intF [.str a] = some (.int n) := by simp only [intF, h, if_pos hl]
theorem strF_i {i : Int} : strF [.int i] = if i.natAbs.log2 < 1920 then some (.str (toString i)) else none := rfl
theorem strF_s {a : Str} : strF [.str a] = some (.str a) := rfl
theorem reprF_d {d : D} : reprF [d] = (reprV d).map .str := rfl
theorem listF_lst {ds : List D} : listF [.lst ds] = some (.lst ds) := rfl
theorem tupF_lst {ds : List D} : tupF [.lst ds] = some (.tup ds) := rfl
theorem itD_lst {ds : List D} : itD (.lst ds) = some ds := rfl
theorem listF_sq {ds : List D} : listF [.sq ds] = some (.lst ds) := rfl
theorem tupF_sq {ds : List D} : tupF [.sq ds] = some (.tup ds) := rfl
theorem itD_sq {ds : List D} : itD (.sq ds) = some ds := rfl
theorem listF_tup {ds : List D} : listF [.tup ds] = some (.lst ds) := rfl
theorem tupF_tup {ds : List D} : tupF [.tup ds] = some (.tup ds) := rfl
theorem itD_tup {ds : List D} : itD (.tup ds) = some ds := rfl
theorem itD_s {s : Str} : itD (.str s) = some (sgs s) := rfl
theorem divmodF_i {i j : Int} : divmodF [.int i, .int j] = if 0 < j ∧ j < 1073741824 then some (.tup [.int (i / j), .int (i % j)]) else none := rfl
theorem slF_s {z : Str} {i j : Option Int} : slF (.str z) i j = if z.length ≤ sizeLine then some (.str (cutS z i j)) else none := rfl
theorem slF_t {ds : List D} {i j : Option Int} : slF (.tup ds) i j = some (.tup (cutD ds i j)) := rfl
theorem slF_l {ds : List D} {i j : Option Int} : slF (.lst ds) i j = some (.lst (cutD ds i j)) := rfl
theorem fmtF_s {y : Str} : fmtF (.str y) = if y.length ≤ sizeLine then some (.str y) else none := rfl
theorem fmtF_i {i : Int} : fmtF (.int i) = if i.natAbs.log2 < 1920 then some (.str (toString i)) else none := rfl
theorem startswithF_s {z b : Str} : startswithF z [.str b] = some (.bl (Txt.startswith z b)) := rfl
theorem endswithF_s {z b : Str} : endswithF z [.str b] = some (.bl (Txt.endswith z b)) := rfl
theorem findF_s {z b : Str} : findF z [.str b] = some (.int (Txt.find z b)) := rfl
theorem countF_s {z b : Str} : countF z [.str b] = some (.int (Txt.count z b)) := rfl
theorem stripF_s {z b : Str} : stripF z [.str b] = if z.length ≤ sizeLine then some (.str (Txt.stripChars z b)) else none := rfl
theorem lstripF_s {z b : Str} : lstripF z [.str b] = if z.length ≤ sizeLine then some (.str (Txt.lstripChars z b)) else none := rfl
theorem rstripF_s {z b : Str} : rstripF z [.str b] = if z.length ≤ sizeLine then some (.str (Txt.rstripChars z b)) else none := rfl
theorem rmprefixF_s {z b : Str} : rmprefixF z [.str b] = if z.length ≤ sizeLine then some (.str (Txt.removeprefix z b)) else none := rfl
theorem rmsuffixF_s {z b : Str} : rmsuffixF z [.str b] = if z.length ≤ sizeLine then some (.str (Txt.removesuffix z b)) else none := rfl
theorem isalphaF_n {z : Str} : isalphaF z [] = some (.bl (Txt.isalpha z)) := rfl
theorem isdigitF_n {z : Str} : isdigitF z [] = some (.bl (Txt.isdigit z)) := rfl
theorem zfillF_i {z : Str} {i : Int} : zfillF z [.int i] = if PadOk i = true then some (.str (Txt.zfill z i)) else none := rfl
theorem splitF_s {z b : Str} : splitF z [.str b] = if (b.length == 0) = false ∧ z.length + 2 ≤ sizeLine then some (.lst ((Txt.split z b).map .str)) else none := rfl
theorem strsOf_map (ys : List Str) : strsOf (ys.map .str) = some ys := by induction ys with | nil => rfl | cons y r ih => simp only [List.map, strsOf, ih, Option.map]
theorem intsOf_map (ys : List Int) : intsOf (ys.map .int) = some ys := by induction ys with | nil => rfl | cons y r ih => simp only [List.map, intsOf, ih, Option.map]
theorem blsOf_map (ys : List Bool) : blsOf (ys.map .bl) = some ys := by induction ys with | nil => rfl | cons y r ih => simp only [List.map, blsOf, ih, Option.map]
theorem joinF_m {z : Str} {ys : List Str} : joinF z [.lst (ys.map .str)] = if (ys.map (·.length)).sum + ys.length * z.length ≤ 16777216 then some (.str (Txt.join z ys)) else none := by simp only [joinF, strsOf_map]
theorem allF_m {ys : List Bool} : allF [.lst (ys.map .bl)] = some (.bl (ys.all id)) := by simp only [allF, blsOf_map, Option.map]
theorem anyF_m {ys : List Bool} : anyF [.lst (ys.map .bl)] = some (.bl (ys.any id)) := by simp only [anyF, blsOf_map, Option.map]
theorem isi_non_int  : isiF [.non, .ty "int"] = some (.bl false) := by unfold isiF; show (kitB "NoneType" "int").map D.bl = _; rw [show kitB "NoneType" "int" = some false by decide +kernel] <;> rfl
theorem isi_non_bool  : isiF [.non, .ty "bool"] = some (.bl false) := by unfold isiF; show (kitB "NoneType" "bool").map D.bl = _; rw [show kitB "NoneType" "bool" = some false by decide +kernel] <;> rfl
theorem isi_non_str  : isiF [.non, .ty "str"] = some (.bl false) := by unfold isiF; show (kitB "NoneType" "str").map D.bl = _; rw [show kitB "NoneType" "str" = some false by decide +kernel] <;> rfl
theorem isi_non_list  : isiF [.non, .ty "list"] = some (.bl false) := by unfold isiF; show (kitB "NoneType" "list").map D.bl = _; rw [show kitB "NoneType" "list" = some false by decide +kernel] <;> rfl
theorem isi_non_tuple  : isiF [.non, .ty "tuple"] = some (.bl false) := by unfold isiF; show (kitB "NoneType" "tuple").map D.bl = _; rw [show kitB "NoneType" "tuple" = some false by decide +kernel] <;> rfl
theorem isi_non_dict  : isiF [.non, .ty "dict"] = some (.bl false) := by unfold isiF; show (kitB "NoneType" "dict").map D.bl = _; rw [show kitB "NoneType" "dict" = some false by decide +kernel] <;> rfl
theorem isi_bl_int {x : Bool} : isiF [(.bl x), .ty "int"] = some (.bl true) := by unfold isiF; show (kitB "bool" "int").map D.bl = _; rw [show kitB "bool" "int" = some true by decide +kernel] <;> rfl
theorem isi_bl_bool {x : Bool} : isiF [(.bl x), .ty "bool"] = some (.bl true) := by unfold isiF; show (kitB "bool" "bool").map D.bl = _; rw [show kitB "bool" "bool" = some true by decide +kernel] <;> rfl
theorem isi_bl_str {x : Bool} : isiF [(.bl x), .ty "str"] = some (.bl false) := by unfold isiF; show (kitB "bool" "str").map D.bl = _; rw [show kitB "bool" "str" = some false by decide +kernel] <;> rfl
theorem isi_bl_list {x : Bool} : isiF [(.bl x), .ty "list"] = some (.bl false) := by unfold isiF; show (kitB "bool" "list").map D.bl = _; rw [show kitB "bool" "list" = some false by decide +kernel] <;> rfl
theorem isi_bl_tuple {x : Bool} : isiF [(.bl x), .ty "tuple"] = some (.bl false) := by unfold isiF; show (kitB "bool" "tuple").map D.bl = _; rw [show kitB "bool" "tuple" = some false by decide +kernel] <;> rfl
theorem isi_bl_dict {x : Bool} : isiF [(.bl x), .ty "dict"] = some (.bl false) := by unfold isiF; show (kitB "bool" "dict").map D.bl = _; rw [show kitB "bool" "dict" = some false by decide +kernel] <;> rfl
theorem isi_int_int {x : Int} : isiF [(.int x), .ty "int"] = some (.bl true) := by unfold isiF; show (kitB "int" "int").map D.bl = _; rw [show kitB "int" "int" = some true by decide +kernel] <;> rfl
theorem isi_int_bool {x : Int} : isiF [(.int x), .ty "bool"] = some (.bl false) := by unfold isiF; show (kitB "int" "bool").map D.bl = _; rw [show kitB "int" "bool" = some false by decide +kernel] <;> rfl
theorem isi_int_str {x : Int} : isiF [(.int x), .ty "str"] = some (.bl false) := by unfold isiF; show (kitB "int" "str").map D.bl = _; rw [show kitB "int" "str" = some false by decide +kernel] <;> rfl
theorem isi_int_list {x : Int} : isiF [(.int x), .ty "list"] = some (.bl false) := by unfold isiF; show (kitB "int" "list").map D.bl = _; rw [show kitB "int" "list" = some false by decide +kernel] <;> rfl
theorem isi_int_tuple {x : Int} : isiF [(.int x), .ty "tuple"] = some (.bl false) := by unfold isiF; show (kitB "int" "tuple").map D.bl = _; rw [show kitB "int" "tuple" = some false by decide +kernel] <;> rfl
theorem isi_int_dict {x : Int} : isiF [(.int x), .ty "dict"] = some (.bl false) := by unfold isiF; show (kitB "int" "dict").map D.bl = _; rw [show kitB "int" "dict" = some false by decide +kernel] <;> rfl
theorem isi_str_int {x : Str} : isiF [(.str x), .ty "int"] = some (.bl false) := by unfold isiF; show (kitB "str" "int").map D.bl = _; rw [show kitB "str" "int" = some false by decide +kernel] <;> rfl
theorem isi_str_bool {x : Str} : isiF [(.str x), .ty "bool"] = some (.bl false) := by unfold isiF; show (kitB "str" "bool").map D.bl = _; rw [show kitB "str" "bool" = some false by decide +kernel] <;> rfl
theorem isi_str_str {x : Str} : isiF [(.str x), .ty "str"] = some (.bl true) := by unfold isiF; show (kitB "str" "str").map D.bl = _; rw [show kitB "str" "str" = some true by decide +kernel] <;> rfl
theorem isi_str_list {x : Str} : isiF [(.str x), .ty "list"] = some (.bl false) := by unfold isiF; show (kitB "str" "list").map D.bl = _; rw [show kitB "str" "list" = some false by decide +kernel] <;> rfl
theorem isi_str_tuple {x : Str} : isiF [(.str x), .ty "tuple"] = some (.bl false) := by unfold isiF; show (kitB "str" "tuple").map D.bl = _; rw [show kitB "str" "tuple" = some false by decide +kernel] <;> rfl
theorem isi_str_dict {x : Str} : isiF [(.str x), .ty "dict"] = some (.bl false) := by unfold isiF; show (kitB "str" "dict").map D.bl = _; rw [show kitB "str" "dict" = some false by decide +kernel] <;> rfl
theorem isi_lst_int {x : List D} : isiF [(.lst x), .ty "int"] = some (.bl false) := by unfold isiF; show (kitB "list" "int").map D.bl = _; rw [show kitB "list" "int" = some false by decide +kernel] <;> rfl
theorem isi_lst_bool {x : List D} : isiF [(.lst x), .ty "bool"] = some (.bl false) := by unfold isiF; show (kitB "list" "bool").map D.bl = _; rw [show kitB "list" "bool" = some false by decide +kernel] <;> rfl
theorem isi_lst_str {x : List D} : isiF [(.lst x), .ty "str"] = some (.bl false) := by unfold isiF; show (kitB "list" "str").map D.bl = _; rw [show kitB "list" "str" = some false by decide +kernel] <;> rfl
theorem isi_lst_list {x : List D} : isiF [(.lst x), .ty "list"] = some (.bl true) := by unfold isiF; show (kitB "list" "list").map D.bl = _; rw [show kitB "list" "list" = some true by decide +kernel] <;> rfl
theorem isi_lst_tuple {x : List D} : isiF [(.lst x), .ty "tuple"] = some (.bl false) := by unfold isiF; show (kitB "list" "tuple").map D.bl = _; rw [show kitB "list" "tuple" = some false by decide +kernel] <;> rfl
theorem isi_lst_dict {x : List D} : isiF [(.lst x), .ty "dict"] = some (.bl false) := by unfold isiF; show (kitB "list" "dict").map D.bl = _; rw [show kitB "list" "dict" = some false by decide +kernel] <;> rfl
theorem isi_tup_int {x : List D} : isiF [(.tup x), .ty "int"] = some (.bl false) := by unfold isiF; show (kitB "tuple" "int").map D.bl = _; rw [show kitB "tuple" "int" = some false by decide +kernel] <;> rfl
theorem isi_tup_bool {x : List D} : isiF [(.tup x), .ty "bool"] = some (.bl false) := by unfold isiF; show (kitB "tuple" "bool").map D.bl = _; rw [show kitB "tuple" "bool" = some false by decide +kernel] <;> rfl
theorem isi_tup_str {x : List D} : isiF [(.tup x), .ty "str"] = some (.bl false) := by unfold isiF; show (kitB "tuple" "str").map D.bl = _; rw [show kitB "tuple" "str" = some false by decide +kernel] <;> rfl
theorem isi_tup_list {x : List D} : isiF [(.tup x), .ty "list"] = some (.bl false) := by unfold isiF; show (kitB "tuple" "list").map D.bl = _; rw [show kitB "tuple" "list" = some false by decide +kernel] <;> rfl
theorem isi_tup_tuple {x : List D} : isiF [(.tup x), .ty "tuple"] = some (.bl true) := by unfold isiF; show (kitB "tuple" "tuple").map D.bl = _; rw [show kitB "tuple" "tuple" = some true by decide +kernel] <;> rfl
theorem isi_tup_dict {x : List D} : isiF [(.tup x), .ty "dict"] = some (.bl false) := by unfold isiF; show (kitB "tuple" "dict").map D.bl = _; rw [show kitB "tuple" "dict" = some false by decide +kernel] <;> rfl
theorem isi_dct_int {x : List (Key × D)} : isiF [(.dct x), .ty "int"] = some (.bl false) := by unfold isiF; show (kitB "dict" "int").map D.bl = _; rw [show kitB "dict" "int" = some false by decide +kernel] <;> rfl
theorem isi_dct_bool {x : List (Key × D)} : isiF [(.dct x), .ty "bool"] = some (.bl false) := by unfold isiF; show (kitB "dict" "bool").map D.bl = _; rw [show kitB "dict" "bool" = some false by decide +kernel] <;> rfl
theorem isi_dct_str {x : List (Key × D)} : isiF [(.dct x), .ty "str"] = some (.bl false) := by unfold isiF; show (kitB "dict" "str").map D.bl = _; rw [show kitB "dict" "str" = some false by decide +kernel] <;> rfl
theorem isi_dct_list {x : List (Key × D)} : isiF [(.dct x), .ty "list"] = some (.bl false) := by unfold isiF; show (kitB "dict" "list").map D.bl = _; rw [show kitB "dict" "list" = some false by decide +kernel] <;> rfl
theorem isi_dct_tuple {x : List (Key × D)} : isiF [(.dct x), .ty "tuple"] = some (.bl false) := by unfold isiF; show (kitB "dict" "tuple").map D.bl = _; rw [show kitB "dict" "tuple" = some false by decide +kernel] <;> rfl
theorem isi_dct_dict {x : List (Key × D)} : isiF [(.dct x), .ty "dict"] = some (.bl true) := by unfold isiF; show (kitB "dict" "dict").map D.bl = _; rw [show kitB "dict" "dict" = some true by decide +kernel] <;> rfl
theorem outF_nx (n : Nat) (ρ : List Sl) (S : List Ce) : outF n (.nx ρ S) = cut n (.dat .non) S := rfl
theorem outF_rt (n : Nat) (r : Sl) (S : List Ce) : outF n (.rt r S) = cut n r S := rfl
theorem outF_exc (n i : Nat) (pl : Option (Str × D)) (ρ : List Sl) (S : List Ce) : outF n (.exc i pl ρ S) = cutX n i pl S := rfl
theorem cut_same {n : Nat} {d : D} {S : List Ce} (h : S.length = n) : cut n (.dat d) S = .ok (.dat d) S := by
  unfold cut
  by_cases k : okTake n S = true
  · rw [if_pos k, ← h, List.take_length]
  · rw [if_neg k]
theorem cutX_same {n i : Nat} {pl : Option (Str × D)} {S : List Ce} (h : S.length = n) : cutX n i pl S = .exc i pl S := by
  unfold cutX
  by_cases k : okTake n S = true
  · rw [if_pos k, ← h, List.take_length]
  · rw [if_neg k]
/-- no objects among the cells -/
def plain (S : List Ce) : Bool := S.all fun c => match c with | .ins _ _ => false | _ => true
theorem plain_ok {S : List Ce} (h : plain S = true) (n : Nat) : okTake n S = true := by
  unfold okTake plain at *
  rw [List.all_eq_true] at h ⊢
  intro c hc
  have := h c (List.mem_of_mem_take hc)
  cases c with
  | ins _ _ => cases this
  | _ => rfl
theorem cut_new {S T : List Ce} {d : D} (h : plain S = true) : cut S.length (.dat d) (S ++ T) = .ok (.dat d) S := by
  have k : okTake S.length (S ++ T) = true := by
    have := plain_ok h S.length
    unfold okTake at this ⊢
    rw [List.take_left]
    rwa [List.take_length] at this
  unfold cut
  rw [if_pos k]
  show RE.ok (Sl.dat d) _ = _
  rw [List.take_left]
theorem ixN_0 {n : Nat} (h : 0 < n) : ixN n 0 = some 0 := ixN_nat (i := 0) h
theorem ixN_1 {n : Nat} (h : 1 < n) : ixN n 1 = some 1 := ixN_nat (i := 1) h
theorem ixN_2 {n : Nat} (h : 2 < n) : ixN n 2 = some 2 := ixN_nat (i := 2) h
end Mir

/-! The dice of the laws, once for all. -/
namespace Mir
open PySem PySem.Spec L2
local macro_rules | `(tactic| walk_at "ev") => `(tactic| simp (disch := omega) only [*, if_pos, if_neg, gNil, gSeq, gIf, gRet, gRetN, gSet, gStoV, gSto, gAppV, gApp, gEx, gPar, gAug, gFor, gRaise, gRaise1, gAsg, mVar, mk_ok, mOp, mUn, mIf, mAnd, mOr, mNot, mTup, mLst, mLstO, mBlt, mCall, mMs, mSl, oNo, oSome, mFmt, mChain, mFs, fsL, aCons, aNil, tOf, tTru, tAnd, tOr, tNot, tYes', mIt, mRng1, mRng2, datas, truS_vw, truD, op1_vw, op2_vw, opN_vw, vws_nil, vws_cons,
  vw_dat, vw_own, ceD_lst, ceD_dct, asB_ok, ofO_some, ofO_none, dat'_some, dat'_none, RE.ok_bind, RE.exc_bind, RE.stuck_bind, RE.ok_toS, RE.exc_toS, RE.stuck_toS, RE.noX_ok, RS.nx_bind, RS.rt_bind, RS.bk_bind, RS.ct_bind, RS.exc_bind, RS.stuck_bind, Option.bind_some, Option.map_some, Option.bind_none, Option.map_none, cond_dec, cond_true, cond_false, List.getElem?_cons_zero, List.getElem?_cons_succ, List.set_cons_zero, List.set_cons_succ, List.replicate, List.cons_append, List.nil_append,
  atI_0, atI_1, atI_2, isNonD, if_true, if_false, ite_true, ite_false, outF_nx, outF_rt, outF_exc, ixN_0, ixN_1, ixN_2, List.length_cons, List.length_nil, List.length_set, addF_i, subF_i, addF_s, addF_l, addF_t, iaddF_i, iaddF_s, imulF_i, mulF_i, mulF_s, mulF_l, mulF_t, divF_i, modF_i, powF_i, negF_i, ltF_i, ltF_s, leF_i, leF_s, gtF_i, gtF_s, geF_i, geF_s, isF_n, isnF_n, isF_b, isnF_b, inF_s, ninF_s, ixF_l, ixF_t, ixF_q, ixF_s, lenF_s, lenF_lst, lenF_sq, lenF_tup, absF_i, max2F_i, min2F_i, intF_i, intF_b, strF_i, strF_s, reprF_d, listF_lst, tupF_lst, itD_lst, listF_sq, tupF_sq, itD_sq, listF_tup, tupF_tup, itD_tup, itD_s, divmodF_i, slF_s, slF_t, slF_l, fmtF_s, fmtF_i, startswithF_s, endswithF_s, findF_s, countF_s, stripF_s, lstripF_s, rstripF_s, rmprefixF_s, rmsuffixF_s, isalphaF_n, isdigitF_n, zfillF_i, splitF_s, strsOf_map, intsOf_map, blsOf_map, joinF_m, allF_m, anyF_m, isi_non_int, isi_non_bool, isi_non_str, isi_non_list, isi_non_tuple, isi_non_dict, isi_bl_int, isi_bl_bool, isi_bl_str, isi_bl_list, isi_bl_tuple, isi_bl_dict, isi_int_int, isi_int_bool, isi_int_str, isi_int_list, isi_int_tuple, isi_int_dict, isi_str_int, isi_str_bool, isi_str_str, isi_str_list, isi_str_tuple, isi_str_dict, isi_lst_int, isi_lst_bool, isi_lst_str, isi_lst_list, isi_lst_tuple, isi_lst_dict, isi_tup_int, isi_tup_bool, isi_tup_str, isi_tup_list, isi_tup_tuple, isi_tup_dict, isi_dct_int, isi_dct_bool, isi_dct_str, isi_dct_list, isi_dct_tuple, isi_dct_dict])
def m__law_roll (n0 : Nat) : MS :=
  (gSeq (gIf (tOf (mOp gtF (mOp ixF (mVar 0) (mK (.int 0))) (mK (.int 0))))
  (gSeq (gSet 2 (mOp modF (mBlt intF (aCons (mOp ixF (mVar 0) (mK (.int 0))) aNil)) (mVar 1)))
  (gSeq (gStoV 0 (mK (.int 0)) (mOp divF (mOp ixF (mVar 0) (mK (.int 0))) (mVar 1)))
  (gRet (mVar 2))))
  gNil)
  (gSeq (gStoV 0 (mK (.int 2)) (mOp addF (mOp ixF (mVar 0) (mK (.int 2))) (mK (.int 1))))
  (gSeq (gSet 3 (mOp modF (mBlt intF (aCons (mOp addF (mOp ixF (mVar 0) (mK (.int 1))) (mOp mulF (mK (.int 49979737)) (mOp ixF (mVar 0) (mK (.int 2))))) aNil)) (mK (.int 2305843009213693577))))
  (gSeq (gSet 4 (mOp addF (mOp mulF (mOp modF (mBlt intF (aCons (mOp addF (mOp mulF (mVar 3) (mVar 3)) (mOp mulF (mK (.int 97)) (mOp ixF (mVar 0) (mK (.int 2))))) aNil)) (mK (.int 2305843009213693921))) (mK (.int 7368803))) (mVar 3)))
  (gRet (mOp modF (mBlt intF (aCons (mOp divF (mVar 4) (mK (.int 65536))) aNil)) (mVar 1)))))))
def f__law_roll : MF := mkF 3 m__law_roll

/-- dice that were rolled at most N times -/
def Dice (cs : List D) (N : Nat) : Prop := ∃ a b n : Int, cs = [.int a, .int b, .int n] ∧ 0 ≤ n ∧ n ≤ N ∧ 0 ≤ b
theorem Dice.mono {cs : List D} {N M : Nat} (h : Dice cs N) (l : N ≤ M) : Dice cs M := by
  obtain ⟨a, b, n, rfl, h1, h2, h3⟩ := h
  exact ⟨a, b, n, rfl, h1, by omega, h3⟩
theorem roll_eq {S : List Ce} {j N : Nat} {cs : List D} {t : Int} (hS : S[j]? = some (.lst cs)) (hd : Dice cs N) (hN : N < 10 ^ 9) (h0 : 0 < t) (ht : t < 2 ^ 64) :
    ∃ r cs', f__law_roll [.own j, .dat (.int t)] S = .ok (.dat (.int r)) (S.set j (.lst cs')) ∧ 0 ≤ r ∧ r < t ∧ Dice cs' (N + 1) := by
  obtain ⟨a, b, n, rfl, n0, n1, hb⟩ := hd
  have hj := (List.getElem?_eq_some_iff.mp hS).1
  have g1 : ∀ c : Ce, (S.set j c)[j]? = some c := fun c => List.getElem?_set_self hj
  by_cases ha : 0 < a
  · refine ⟨a % t, [.int (a / t), .int b, .int n], ?_, Int.emod_nonneg _ (by omega), Int.emod_lt_of_pos _ h0, ⟨_, _, _, rfl, n0, by omega, hb⟩⟩
    have od : okDiv t = true := okDiv_of (b := 64) h0 (by omega)
    unfold f__law_roll mkF m__law_roll
    walk_at "ev"
    rw [cut_same (by simp)]
  · have m1 : 0 ≤ (b + 49979737 * (n + 1)) % 2305843009213693577 := Int.emod_nonneg _ (by decide)
    have m2 : (b + 49979737 * (n + 1)) % 2305843009213693577 < 2305843009213693577 := Int.emod_lt_of_pos _ (by decide)
    generalize ho : (b + 49979737 * (n + 1)) % 2305843009213693577 = o at m1 m2
    have m3 : 0 ≤ (o * o + 97 * (n + 1)) % 2305843009213693921 := Int.emod_nonneg _ (by decide)
    have m4 : (o * o + 97 * (n + 1)) % 2305843009213693921 < 2305843009213693921 := Int.emod_lt_of_pos _ (by decide)
    have k1 : okMul 49979737 (n + 1) = true := okMul_of (a := 64) (b := 64) (by decide) (by omega)
    have k2 : okMul o o = true := okMul_of (a := 64) (b := 64) (by omega) (by omega)
    have k3 : okMul 97 (n + 1) = true := okMul_of (a := 64) (b := 64) (by decide) (by omega)
    have k4 : okMul ((o * o + 97 * (n + 1)) % 2305843009213693921) 7368803 = true := okMul_of (a := 64) (b := 64) (by omega) (by decide)
    have k5 : okDiv 65536 = true := by decide +kernel
    refine ⟨((o * o + 97 * (n + 1)) % 2305843009213693921 * 7368803 + o) / 65536 % t, [.int a, .int b, .int (n + 1)], ?_, Int.emod_nonneg _ (by omega), Int.emod_lt_of_pos _ h0, ⟨_, _, _, rfl, by omega, by omega, hb⟩⟩
    unfold f__law_roll mkF m__law_roll
    walk_at "ev"
    rw [cut_same (by simp)]
def m__law_dice (n0 : Nat) : MS :=
  (gSeq (gSet 2 (mIf (tOf (mOp ltF (mVar 1) (mBlt lenF (aCons (mVar 0) aNil)))) (mBlt intF (aCons (mOp ixF (mVar 0) (mVar 1)) aNil)) (mOp addF (mOp mulF (mK (.int 59)) (mVar 1)) (mK (.int 23)))))
  (gSeq (gSet 3 (mOp modF (mBlt max2F (aCons (mK (.int 0)) (aCons (mOp subF (mBlt absF (aCons (mVar 2) aNil)) (mOp powF (mK (.int 10)) (mK (.int 16)))) aNil))) (mOp mulF (mOp powF (mK (.int 10)) (mK (.int 60))) (mOp powF (mK (.int 10)) (mK (.int 60))))))
  (gRet (mLstO (aCons (mVar 3) (aCons (mOp addF (mOp addF (mOp addF (mOp mulF (mOp modF (mBlt absF (aCons (mVar 2) aNil)) (mK (.int 1152921504606846733))) (mK (.int 53))) (mOp mulF (mK (.int 809)) (mVar 1))) (mOp mulF (mK (.int 29)) (mBlt intF (aCons (mOp ltF (mVar 2) (mK (.int 0))) aNil)))) (mK (.int 3))) (aCons (mK (.int 0)) aNil)))))))
def f__law_dice : MF := mkF 2 m__law_dice
def m__law_pick (n0 : Nat) : MS :=
  (gRet (mOp ixF (mVar 1) (mCall f__law_roll (aCons (mVar 0) (aCons (mBlt lenF (aCons (mVar 1) aNil)) aNil)))))
def f__law_pick : MF := mkF 0 m__law_pick
theorem cut_own {S : List Ce} {cl : Ce} (h : plain S = true) (hc : ceLt S.length cl = true) : cut S.length (.own S.length) (S ++ [cl]) = .ok (.own S.length) (S ++ [cl]) := by
  have k : okTake S.length (S ++ [cl]) = true := by
    have := plain_ok h S.length
    unfold okTake at this ⊢
    rw [List.take_left]
    rwa [List.take_length] at this
  unfold cut
  rw [if_pos k]
  show (if S.length < S.length then _ else match (S ++ [cl])[S.length]? with | some cl => _ | none => _) = _
  rw [if_neg (by omega)]
  have : (S ++ [cl])[S.length]? = some cl := by simp
  rw [this]
  show (if ceLt S.length cl = true then _ else _) = _
  rw [if_pos hc, List.take_left]
theorem plain_set {S : List Ce} {j : Nat} {cs : List D} (h : plain S = true) : plain (S.set j (.lst cs)) = true := by
  unfold plain at *
  rw [List.all_eq_true] at h ⊢
  intro c hc
  rcases List.mem_or_eq_of_mem_set hc with h1 | rfl
  · exact h c h1
  · rfl
theorem plain_app {S T : List Ce} (h : plain S = true) (h' : plain T = true) : plain (S ++ T) = true := by
  unfold plain at *
  rw [List.all_append, h, h'] <;> rfl
theorem dice_eq {S : List Ce} {ns : List Int} {i : Nat} (hS : plain S = true) (hn : ns.length ≤ 63) (hi : i ≤ 63) :
    ∃ cs, f__law_dice [.dat (.sq (ns.map .int)), .dat (.int i)] S = .ok (.own S.length) (S ++ [.lst cs]) ∧ Dice cs 0 := by
  have k1 : okMul 59 (i : Int) = true := okMul_of (a := 64) (b := 64) (by decide) (by omega)
  have k2 : okMul ((10 : Int) ^ (60 : Int).toNat) ((10 : Int) ^ (60 : Int).toNat) = true := by decide +kernel
  have k4 : okMul 809 (i : Int) = true := okMul_of (a := 64) (b := 64) (by decide) (by omega)
  have k5 : ∀ b : Bool, okMul 29 (if b = true then 1 else 0) = true := by decide +kernel
  have k6 : (0 : Int) < (10 : Int) ^ (60 : Int).toNat * (10 : Int) ^ (60 : Int).toNat := by decide +kernel
  have main : ∀ c : Int, (if (i : Int) < ns.length then ns[i]? else some (59 * (i : Int) + 23)) = some c → ∃ cs, f__law_dice [.dat (.sq (ns.map .int)), .dat (.int i)] S = .ok (.own S.length) (S ++ [.lst cs]) ∧ Dice cs 0 := by
    intro c hc
    have m1 : 0 ≤ (if c < 0 then -c else c) % 1152921504606846733 := Int.emod_nonneg _ (by decide)
    have m2 : (if c < 0 then -c else c) % 1152921504606846733 < 1152921504606846733 := Int.emod_lt_of_pos _ (by decide)
    generalize ho : (if c < 0 then -c else c) % 1152921504606846733 = o at m1 m2
    have k3 : okMul o 53 = true := okMul_of (a := 64) (b := 64) (by omega) (by decide)
    have hcell : (mIf (tOf (mOp ltF (mVar 1) (mBlt lenF (aCons (mVar 0) aNil)))) (mBlt intF (aCons (mOp ixF (mVar 0) (mVar 1)) aNil)) (mOp addF (mOp mulF (mK (.int 59)) (mVar 1)) (mK (.int 23)))) [.dat (.sq (ns.map .int)), .dat (.int i), .no, .no] S = .ok (.dat (.int c)) S := by
      by_cases h : (i : Int) < ns.length
      · rw [if_pos h] at hc
        have hl : (i : Int) < (ns.map D.int).length := by rw [List.length_map]; exact h
        have e : atI (ns.map D.int) (i : Int) = some (.int c) := by
          rw [atI_nat (by rw [List.length_map]; omega), List.getElem?_map, hc] <;> rfl
        walk_at "ev"
      · rw [if_neg h] at hc
        cases hc
        have hl : ¬ (i : Int) < (ns.map D.int).length := by rw [List.length_map]; exact h
        walk_at "ev"
    clear hc
    refine ⟨[.int ((if (if c < 0 then -c else c) - 10 ^ Int.toNat 16 > 0 then (if c < 0 then -c else c) - 10 ^ Int.toNat 16 else 0) % (10 ^ Int.toNat 60 * 10 ^ Int.toNat 60)), .int (o * 53 + 809 * (i : Int) + 29 * (if decide (c < 0) = true then 1 else 0) + 3), .int 0], ?_, ⟨_, _, _, rfl, Int.le_refl _, Int.le_refl _, ?_⟩⟩
    · unfold f__law_dice mkF m__law_dice
      generalize (mIf (tOf (mOp ltF (mVar 1) (mBlt lenF (aCons (mVar 0) aNil)))) (mBlt intF (aCons (mOp ixF (mVar 0) (mVar 1)) aNil)) (mOp addF (mOp mulF (mK (.int 59)) (mVar 1)) (mK (.int 23)))) = X at hcell ⊢
      walk_at "ev"
      rw [cut_own hS (by rfl)]
    · have : (0 : Int) ≤ 29 * (if (decide (c < 0)) = true then 1 else 0) := by split <;> decide
      omega
  by_cases h : (i : Int) < ns.length
  · refine main (ns[i]'(by omega)) ?_
    rw [if_pos h]
    exact List.getElem?_eq_getElem _
  · exact main (59 * (i : Int) + 23) (by rw [if_neg h])
/-- one of the signs of a text, of the items of a list -/
theorem pick_str {S : List Ce} {j N : Nat} {cs : List D} {z : Str} (hS : S[j]? = some (.lst cs)) (hd : Dice cs N) (hN : N < 10 ^ 9) (h0 : 0 < z.cps.toList.length) (ht : z.cps.toList.length < 10000) :
    ∃ c cs', c ∈ z.cps.toList ∧ f__law_pick [.own j, .dat (.str z)] S = .ok (.dat (.str ⟨#[c]⟩)) (S.set j (.lst cs')) ∧ Dice cs' (N + 1) := by
  have el : z.length = z.cps.toList.length := (Array.length_toList ..).symm
  have hz : z.length ≤ sizeLine := by rw [el, sizeLine_eq]; omega
  obtain ⟨r, cs', e, r0, r1, hd'⟩ := roll_eq (t := z.length) hS hd hN (by omega) (by omega)
  rw [el] at e hz
  obtain ⟨k, rfl⟩ := Int.eq_ofNat_of_zero_le r0
  have hk : k < z.cps.toList.length := by omega
  have ea : atI z.cps.toList (k : Int) = some (z.cps.toList[k]) := by rw [atI_nat hk, List.getElem?_eq_getElem hk]
  refine ⟨z.cps.toList[k], cs', List.getElem_mem hk, ?_, hd'⟩
  unfold f__law_pick mkF m__law_pick
  walk_at "ev"
  rw [cut_same (by simp)]
theorem pick_lst {S : List Ce} {j N : Nat} {cs ds : List D} (hS : S[j]? = some (.lst cs)) (hd : Dice cs N) (hN : N < 10 ^ 9) (h0 : 0 < ds.length) (ht : ds.length < 10000) :
    ∃ d cs', d ∈ ds ∧ f__law_pick [.own j, .dat (.lst ds)] S = .ok (.dat d) (S.set j (.lst cs')) ∧ Dice cs' (N + 1) := by
  obtain ⟨r, cs', e, r0, r1, hd'⟩ := roll_eq (t := ds.length) hS hd hN (by omega) (by omega)
  obtain ⟨k, rfl⟩ := Int.eq_ofNat_of_zero_le r0
  have hk : k < ds.length := by omega
  have ea : atI ds (k : Int) = some ds[k] := by rw [atI_nat hk, List.getElem?_eq_getElem hk]
  refine ⟨ds[k], cs', List.getElem_mem hk, ?_, hd'⟩
  unfold f__law_pick mkF m__law_pick
  walk_at "ev"
  rw [cut_same (by simp)]
end Mir

/-! Texts as lists of signs. -/
namespace Mir
open PySem PySem.Spec L2 PySem.Builtin PySem.Builtin.Str
def cl (z : Str) : List Nat := z.cps.toList
def mk (l : List Nat) : Str := ⟨l.toArray⟩
theorem cl_len (z : Str) : z.length = (cl z).length := (Array.length_toList ..).symm
theorem cl_mk (l : List Nat) : cl (mk l) = l := List.toList_toArray ..
theorem mk_cl (z : Str) : mk (cl z) = z := by
  unfold mk cl
  rw [Array.toArray_toList]
theorem mk_eq {l : List Nat} {z : Str} : mk l = z ↔ l = cl z := ⟨fun e => by rw [← e, cl_mk], fun e => by rw [e, mk_cl]⟩
theorem cut_at (z : Str) (i j : Nat) (h1 : i ≤ j) (h2 : j ≤ (cl z).length) : cutS z (some (i : Int)) (some (j : Int)) = mk (((cl z).drop i).take (j - i)) := by
  unfold cutS mk cl at *
  rw [HT.sIx_nat, HT.sIx_nat]
  have e : z.length = z.cps.toList.length := cl_len z
  rw [Nat.min_eq_left (by omega), Nat.min_eq_left (by omega)]
theorem cut_one (z : Str) (i : Nat) : cutS z (some (i : Int)) (some ((i : Int) + 1)) = mk (((cl z).drop i).take 1) := by
  have e : z.length = z.cps.toList.length := cl_len z
  have h1 : ((i : Int) + 1) = ((i + 1 : Nat) : Int) := rfl
  unfold cutS mk cl
  rw [h1, HT.sIx_nat, HT.sIx_nat]
  by_cases h : i + 1 ≤ z.length
  · rw [Nat.min_eq_left h, Nat.min_eq_left (by omega), Nat.add_sub_cancel_left]
  · rw [Nat.min_eq_right (by omega), Nat.min_eq_right (by omega), Nat.sub_self, List.take_zero, List.drop_eq_nil_of_le (by omega), List.take_nil]
theorem take1 {l : List Nat} {i c : Nat} : (l.drop i).take 1 = [c] ↔ l[i]? = some c := by
  cases h : l.drop i with
  | nil =>
    have : l.length ≤ i := List.drop_eq_nil_iff.mp h
    rw [List.getElem?_eq_none this]
    simp
  | cons x r =>
    have : l[i]? = some x := by
      have e := List.getElem?_drop (xs := l) (i := i) (j := 0)
      rw [h] at e
      simpa using e.symm
    rw [this]
    simp
def dg (c : Nat) : Bool := decide (48 ≤ c) && decide (c ≤ 57)
theorem one_lt {a b : Nat} : (decide ([a] < [b])) = decide (a < b) := decide_eq_decide.mpr (by
  rw [List.cons_lt_cons_iff]
  simp)
theorem of_tw {p : Nat → Bool} : ∀ {l : List Nat} {x : Nat}, x ∈ l.takeWhile p → p x = true
  | [], x, h => by cases h
  | y :: l, x, h => by
    cases hy : p y with
    | false => rw [List.takeWhile_cons_of_neg (by rw [hy]; decide)] at h; cases h
    | true =>
      rw [List.takeWhile_cons_of_pos hy] at h
      rcases List.mem_cons.mp h with rfl | h
      · exact hy
      · exact of_tw h
theorem drop_tw (p : Nat → Bool) (l : List Nat) : l.drop (l.takeWhile p).length = l.dropWhile p := by
  have e : l.takeWhile p ++ l.dropWhile p = l := List.takeWhile_append_dropWhile
  conv => lhs; rw [← e]
  have : ((l.takeWhile p ++ l.dropWhile p).takeWhile p).length = (l.takeWhile p).length := by rw [e]
  rw [this, List.drop_left]
theorem sub_list (z : Str) (i j : Nat) : (strSub z i j).cps.toList = (z.cps.toList.drop i).take (j - i) := by
  unfold strSub
  simp
theorem lstrip_list (z y : Str) : (Txt.lstripChars z y).cps.toList = z.cps.toList.dropWhile y.cps.contains := by
  unfold Txt.lstripChars
  rw [PyProof.Rows.stripBy_eq, sub_list]
  unfold stripLo stripHi
  rw [if_pos rfl, if_neg (by decide), drop_tw]
  apply List.take_of_length_le
  have h := congrArg List.length (List.takeWhile_append_dropWhile (p := y.cps.contains) (l := z.cps.toList))
  rw [List.length_append] at h
  have e : z.length = z.cps.toList.length := (Array.length_toList ..).symm
  omega
theorem strip_empty (z y : Str) : (Txt.stripChars z y).cps.toList = [] ↔ ∀ c ∈ z.cps.toList, y.cps.contains c = true := by
  unfold Txt.stripChars
  rw [PyProof.Rows.stripBy_eq, sub_list]
  unfold stripLo stripHi
  rw [if_pos rfl, if_pos rfl, drop_tw]
  have e : z.length = z.cps.toList.length := (Array.length_toList ..).symm
  rw [e]
  generalize z.cps.toList = l
  generalize y.cps.contains = p
  have h := List.takeWhile_append_dropWhile (p := p) (l := l)
  have hl := congrArg List.length h
  rw [List.length_append] at hl
  have hr : ((l.dropWhile p).reverse.takeWhile p).length ≤ (l.dropWhile p).length := by
    have := (List.takeWhile_prefix (p := p) (l := (l.dropWhile p).reverse)).length_le
    rwa [List.length_reverse] at this
  constructor
  · intro hn
    have hz := congrArg List.length hn
    rw [List.length_take, List.length_nil] at hz
    have full : ((l.dropWhile p).reverse.takeWhile p).length = (l.dropWhile p).length := by omega
    have hall : (l.dropWhile p).reverse.takeWhile p = (l.dropWhile p).reverse := (List.takeWhile_prefix (p := p) (l := (l.dropWhile p).reverse)).eq_of_length (by rw [full, List.length_reverse])
    have hd : l.dropWhile p = [] := by
      cases hh : l.dropWhile p with
      | nil => rfl
      | cons x r =>
        exfalso
        have hx : p x = true := by
          have m : x ∈ (l.dropWhile p).reverse.takeWhile p := by rw [hall, hh]; simp
          exact of_tw m
        have nx := List.head?_dropWhile_not p l
        rw [hh] at nx
        simp at nx
        rw [hx] at nx
        cases nx
    intro c hc
    rw [← h, hd, List.append_nil] at hc
    exact of_tw hc
  · intro hall
    have ht : l.takeWhile p = l := by
      have : ∀ l : List Nat, (∀ c ∈ l, p c = true) → l.takeWhile p = l := by
        intro l
        induction l with
        | nil => intro _; rfl
        | cons x r ih =>
          intro hh
          rw [List.takeWhile_cons_of_pos (hh x (List.mem_cons_self ..)), ih fun c hc => hh c (List.mem_cons_of_mem _ hc)]
      exact this l hall
    have hd : l.dropWhile p = [] := by
      rw [ht] at h
      have := congrArg List.length h
      rw [List.length_append] at this
      exact List.eq_nil_of_length_eq_zero (by omega)
    rw [hd, List.take_nil]
theorem mem_tw {p : Nat → Bool} : ∀ {l : List Nat}, ∀ x ∈ l.takeWhile p, p x = true
  | [], x, h => by cases h
  | y :: l, x, h => by
    cases hy : p y with
    | false => rw [List.takeWhile_cons_of_neg (by rw [hy]; decide)] at h; cases h
    | true =>
      rw [List.takeWhile_cons_of_pos hy] at h
      rcases List.mem_cons.mp h with rfl | h
      · exact hy
      · exact mem_tw x h
theorem dv_lt : ∀ (l : List Nat) (a : Nat), NumText.AllDigits l → l.foldl (fun acc c => acc * 10 + (c - 48)) a < (a + 1) * 10 ^ l.length
  | [], a, _ => by simp
  | c :: r, a, h => by
    have hc := h c (List.mem_cons_self ..)
    have ih := dv_lt r (a * 10 + (c - 48)) h.tail
    rw [List.foldl_cons, List.length_cons, Nat.pow_succ]
    refine Nat.lt_of_lt_of_le ih ?_
    have : a * 10 + (c - 48) + 1 ≤ (a + 1) * 10 := by omega
    calc (a * 10 + (c - 48) + 1) * 10 ^ r.length ≤ (a + 1) * 10 * 10 ^ r.length := Nat.mul_le_mul_right _ this
      _ = (a + 1) * (10 ^ r.length * 10) := by rw [Nat.mul_assoc, Nat.mul_comm 10]
theorem val_lt {l : List Nat} {n : Nat} (h : NumText.AllDigits l) (hn : l.length ≤ n) : NumText.digitsVal l < 10 ^ n := by
  have z := dv_lt l 0 h
  rw [Nat.zero_add, Nat.one_mul] at z
  exact Nat.lt_of_lt_of_le z (Nat.pow_le_pow_right (by decide) hn)
def valL (l : List Nat) : Int := (NumText.digitsVal l : Nat)
theorem int_of {l : List Nat} (h : NumText.AllDigits l) (h1 : l ≠ []) (h2 : l.length ≤ 640) : PySem.intText? (mk l) = some (valL l) := by
  have e : (mk l).cps.toList = l := cl_mk l
  have z := intText_digits (x := mk l) (by rw [e]; exact h) (by rw [e]; exact h1) (by rw [cl_len, cl_mk]; omega)
  rw [e] at z
  exact z
theorem mk_app {a b : List Nat} : mk a ++ mk b = mk (a ++ b) := by
  show (⟨a.toArray ++ b.toArray⟩ : Str) = ⟨(a ++ b).toArray⟩
  simp
theorem starts_minus (z : Str) : Txt.startswith z "-" = decide ((cl z)[0]? = some 45) := by
  have d45 : (("-" : Str).cps.toList) = [45] := by decide +kernel
  have dl : ("-" : Str).length = 1 := by decide +kernel
  have e : z.length = (cl z).length := cl_len z
  unfold Txt.startswith
  rw [PySem.StrLaws.subAt_eq, d45, dl, e, List.drop_zero]
  show (decide (0 + 1 ≤ (cl z).length) && ((cl z).take 1 == [45])) = _
  cases cl z with
  | nil => rfl
  | cons x r =>
    rw [Bool.eq_iff_iff, Bool.and_eq_true, decide_eq_true_eq, decide_eq_true_eq, beq_iff_eq]
    simp
def ten : Str := "0123456789"
theorem ten_dg : ten.cps.contains = dg := by
  funext c
  have e : ten.cps = #[48, 49, 50, 51, 52, 53, 54, 55, 56, 57] := by decide +kernel
  rw [e]
  unfold dg
  rw [Bool.eq_iff_iff, Bool.and_eq_true, decide_eq_true_eq, decide_eq_true_eq]
  simp
  omega
theorem cut_to (z : Str) (j : Nat) : cutS z none (some (j : Int)) = mk ((cl z).take j) := by
  have e : z.length = z.cps.toList.length := cl_len z
  unfold cutS mk cl
  rw [HT.sIx_none, HT.sIx_nat, List.drop_zero, Nat.sub_zero]
  by_cases h : j ≤ z.length
  · rw [Nat.min_eq_left h]
  · rw [Nat.min_eq_right (by omega), List.take_of_length_le (by omega), List.take_of_length_le (by omega)]
theorem cut_from (z : Str) (i : Nat) : cutS z (some (i : Int)) none = mk ((cl z).drop i) := by
  have e : z.length = z.cps.toList.length := cl_len z
  unfold cutS mk cl
  rw [HT.sIx_none, HT.sIx_nat]
  by_cases h : i ≤ z.length
  · rw [Nat.min_eq_left h, List.take_of_length_le (by rw [List.length_drop]; omega)]
  · rw [Nat.min_eq_right (by omega), Nat.sub_self, List.take_zero, List.drop_eq_nil_of_le (by omega)]
theorem cut_fromN (z : Str) (k : Nat) (hk : 0 < k) : cutS z (some (-(k : Int))) none = mk ((cl z).drop ((cl z).length - k)) := by
  have e : z.length = z.cps.toList.length := cl_len z
  have h : HT.sIx z.length 0 (some (-(k : Int))) = z.length - k := by
    unfold HT.sIx
    show (if -(k : Int) < 0 then (-(k : Int) + (z.length : Int)).toNat else min (-(k : Int)).toNat z.length) = _
    rw [if_pos (by omega)]
    omega
  unfold cutS mk cl
  rw [HT.sIx_none, h, ← e, List.take_of_length_le (by rw [List.length_drop]; omega)]
theorem cut_toN (z : Str) (k : Nat) (hk : 0 < k) : cutS z none (some (-(k : Int))) = mk ((cl z).take ((cl z).length - k)) := by
  have e : z.length = z.cps.toList.length := cl_len z
  have h : HT.sIx z.length z.length (some (-(k : Int))) = z.length - k := by
    unfold HT.sIx
    show (if -(k : Int) < 0 then (-(k : Int) + (z.length : Int)).toNat else min (-(k : Int)).toNat z.length) = _
    rw [if_pos (by omega)]
    omega
  unfold cutS mk cl
  rw [HT.sIx_none, h, List.drop_zero, Nat.sub_zero, ← e]
theorem cl_app (a b : Str) : cl (a ++ b) = cl a ++ cl b := by
  show (a ++ b).cps.toList = _
  rw [Str.cps_append, Array.toList_append]
  rfl
theorem len_app (a b : Str) : (cl (a ++ b)).length = (cl a).length + (cl b).length := by rw [cl_app, List.length_append]
theorem joinL_len : ∀ ps : List (List Nat), (TL.joinL [] ps).length = (ps.map List.length).sum
  | [] => rfl
  | [p] => by simp [TL.joinL]
  | p :: q :: r => by
    have ih := joinL_len (q :: r)
    show (p ++ ([] ++ TL.joinL [] (q :: r))).length = _
    rw [List.nil_append, List.length_append, ih]
    simp
theorem join_len (ys : List Str) : (cl (Txt.join "" ys)).length = (ys.map fun y => (cl y).length).sum := by
  have e : TL.tl (Txt.join "" ys) = TL.joinL (TL.tl "") (ys.map TL.tl) := by rw [TL.join_eq, TL.tl_join]
  have e0 : TL.tl "" = [] := by decide +kernel
  show (TL.tl (Txt.join "" ys)).length = _
  rw [e, e0, joinL_len, List.map_map]
  rfl
theorem spl46 : ∀ (l acc : List Nat), TL.spl [46] 0 acc l = match l.dropWhile (· != 46) with
    | [] => [acc ++ l]
    | _ :: b => (acc ++ l.takeWhile (· != 46)) :: TL.spl [46] 0 [] b
  | [], acc => by simp [TL.spl]
  | c :: r, acc => by
    have ih := spl46 r (acc ++ [c])
    by_cases hc : c = 46
    · subst hc
      show (if TL.pre [46] (46 :: r) = true then acc :: TL.spl [46] ([46].length - 1) [] r else TL.spl [46] 0 (acc ++ [46]) r) = _
      rw [if_pos (by simp [TL.pre])]
      simp
    · show (if TL.pre [46] (c :: r) = true then acc :: TL.spl [46] ([46].length - 1) [] r else TL.spl [46] 0 (acc ++ [c]) r) = _
      rw [if_neg (by simp [TL.pre, hc]), ih]
      have hb : (c != 46) = true := by simp [hc]
      rw [List.dropWhile_cons_of_pos (p := fun x => x != 46) hb, List.takeWhile_cons_of_pos (p := fun x => x != 46) hb]
      cases r.dropWhile (· != 46) <;> simp
theorem no46 : ∀ {b : List Nat}, 46 ∉ b → TL.spl [46] 0 [] b = [b] := fun {b} h => by
  rw [spl46]
  have : b.dropWhile (· != 46) = [] := by
    have : ∀ l : List Nat, 46 ∉ l → l.dropWhile (· != 46) = [] := by
      intro l
      induction l with
      | nil => intro _; rfl
      | cons x r ih =>
        intro hn
        have hx : (x != 46) = true := by
          simp only [List.mem_cons, not_or] at hn
          simpa using fun e => hn.1 e.symm
        rw [List.dropWhile_cons_of_pos (p := fun x => x != 46) hx]
        exact ih fun z => hn (List.mem_cons_of_mem _ z)
    exact this b h
  rw [this]
  simp
theorem has46 : ∀ {b : List Nat}, 46 ∈ b → ∃ r, b.dropWhile (· != 46) = 46 :: r
  | x :: b, h => by
    by_cases hx : x = 46
    · subst hx
      exact ⟨b, by simp⟩
    · have hb : (x != 46) = true := by simp [hx]
      obtain ⟨r, e⟩ := has46 (b := b) (by
        rcases List.mem_cons.mp h with h | h
        · exact absurd h.symm hx
        · exact h)
      exact ⟨r, by rw [List.dropWhile_cons_of_pos (p := fun x => x != 46) hb]; exact e⟩
theorem parts46 (p : List Nat) : (46 ∉ p ∧ TL.spl [46] 0 [] p = [p]) ∨
    (46 ∈ p ∧ 46 ∉ (p.dropWhile (· != 46)).drop 1 ∧ TL.spl [46] 0 [] p = [p.takeWhile (· != 46), (p.dropWhile (· != 46)).drop 1]) ∨
    (46 ∈ p ∧ 46 ∈ (p.dropWhile (· != 46)).drop 1 ∧ ∃ x y z r, TL.spl [46] 0 [] p = x :: y :: z :: r) := by
  by_cases h : 46 ∈ p
  · obtain ⟨r, e⟩ := has46 h
    have es := spl46 p []
    rw [e] at es
    dsimp only at es
    rw [List.nil_append] at es
    rw [e, List.drop_succ_cons, List.drop_zero]
    by_cases h2 : 46 ∈ r
    · obtain ⟨r2, e2⟩ := has46 h2
      have es2 := spl46 r []
      rw [e2] at es2
      dsimp only at es2
      refine .inr (.inr ⟨h, h2, ?_⟩)
      rw [es, es2]
      have nz := spl46 r2 []
      cases hd : r2.dropWhile (· != 46) with
      | nil => rw [hd] at nz; exact ⟨_, _, _, _, by rw [nz]⟩
      | cons y b => rw [hd] at nz; exact ⟨_, _, _, _, by rw [nz]⟩
    · exact .inr (.inl ⟨h, h2, by rw [es, no46 h2]⟩)
  · exact .inl ⟨h, no46 h⟩
theorem dw46 : ∀ {l : List Nat}, 46 ∉ l → l.dropWhile (· != 46) = []
  | [], _ => rfl
  | x :: r, h => by
    have hx : (x != 46) = true := by
      simp only [List.mem_cons, not_or] at h
      simpa using fun e => h.1 e.symm
    rw [List.dropWhile_cons_of_pos (p := fun x => x != 46) hx]
    exact dw46 fun z => h (List.mem_cons_of_mem _ z)
theorem tw46 {l : List Nat} (h : 46 ∉ l) : l.takeWhile (· != 46) = l := by
  have e := List.takeWhile_append_dropWhile (p := fun x => x != 46) (l := l)
  rw [dw46 h, List.append_nil] at e
  exact e
theorem cl_inj {a b : Str} (h : cl a = cl b) : a = b := by rw [← mk_cl a, ← mk_cl b, h]
def eleven : Str := "0123456789."
theorem eleven_dg (c : Nat) : eleven.cps.contains c = true ↔ (dg c = true ∨ c = 46) := by
  have e : eleven.cps = #[48, 49, 50, 51, 52, 53, 54, 55, 56, 57, 46] := by decide +kernel
  rw [e]
  unfold dg
  rw [Bool.and_eq_true, decide_eq_true_eq, decide_eq_true_eq]
  simp
  omega
end Mir

/-! Loops of mirrors, flat values compared. -/
namespace Mir
open PySem PySem.Spec L2
theorem eqF_i {i j : Int} : eqF (.int i) (.int j) = some (.bl (decide (i = j))) := by
  show (if scal (V.int i) (V.int j) = true then some (D.bl (decide (V.int i = V.int j))) else if okP 60 (D.int i) = true ∧ okP 60 (D.int j) = true then some (D.bl (eqB (D.int i) (D.int j))) else none) = _
  rw [if_pos (show scal (V.int i) (V.int j) = true from rfl)]
  exact congrArg (fun b => some (D.bl b)) (decide_eq_decide.mpr ⟨fun h => V.int.inj h, fun h => congrArg _ h⟩)
theorem eqF_s {i j : Str} : eqF (.str i) (.str j) = some (.bl (decide (i = j))) := by
  show (if scal (V.str i) (V.str j) = true then some (D.bl (decide (V.str i = V.str j))) else if okP 60 (D.str i) = true ∧ okP 60 (D.str j) = true then some (D.bl (eqB (D.str i) (D.str j))) else none) = _
  rw [if_pos (show scal (V.str i) (V.str j) = true from rfl)]
  exact congrArg (fun b => some (D.bl b)) (decide_eq_decide.mpr ⟨fun h => V.str.inj h, fun h => congrArg _ h⟩)
theorem neF_i {i j : Int} : neF (.int i) (.int j) = some (.bl (!decide (i = j))) := by unfold neF; rw [eqF_i]
theorem neF_s {i j : Str} : neF (.str i) (.str j) = some (.bl (!decide (i = j))) := by unfold neF; rw [eqF_s]
theorem dec_T (h : Decidable True) : @decide True h = true := decide_eq_true trivial
theorem dec_F (h : Decidable False) : @decide False h = false := decide_eq_false id
theorem cond_nd {α : Type} {p : Prop} [Decidable p] (a b : α) : (bif !decide p then a else b) = if p then b else a := by by_cases h : p <;> simp [h]
/-- x <= v <= y, both ends constants -/
def chainW (x y : D) (v : Sl) (S : List Ce) : RE Sl := (op2 leF (.dat x) v S).bind fun z S3 => match z with
    | .dat (.bl true) => op2 leF v (.dat y) S3
    | .dat (.bl false) => .ok (.dat (.bl false)) S3
    | _ => .stuck
theorem chain_le (x y : D) (b : ME) (ρ : List Sl) (S : List Ce) : mChain leF leF (mK x) b (mK y) ρ S = (b ρ S).bind (chainW x y) := by
  show (b ρ S).bind _ = (b ρ S).bind _
  cases b ρ S with
  | ok v S2 =>
    show RE.bind _ _ = RE.bind _ _
    cases op2 leF (.dat x) v S2 with
    | ok w S3 => cases w with
      | dat d => cases d with
        | bl t => cases t <;> rfl
        | _ => rfl
      | _ => rfl
    | _ => rfl
  | _ => rfl
theorem chainW_i (a b m : Int) (S : List Ce) : chainW (.int a) (.int b) (.dat (.int m)) S = .ok (.dat (.bl (decide (a ≤ m) && decide (m ≤ b)))) S := by
  unfold chainW
  rw [show op2 leF (.dat (.int a)) (.dat (.int m)) S = .ok (.dat (.bl (decide (a ≤ m)))) S from rfl]
  by_cases h : a ≤ m
  · rw [decide_eq_true h]; rfl
  · rw [decide_eq_false h]; rfl
theorem reprV_i {i : Int} : reprV (.int i) = if i.natAbs.log2 < 1920 then some (Str.ofString (toString i)) else none := rfl
theorem reprV_s {s : Str} : reprV (.str s) = if (PySem.reprText s).length ≤ sizeLine then some (PySem.reprText s) else none := rfl
theorem reprV_n : reprV .non = some (Str.ofString "None") := rfl
theorem reprV_b {b : Bool} : reprV (.bl b) = some (if b = true then Str.ofString "True" else Str.ofString "False") := rfl
theorem rgs_0 : rgs 0 0 = [] := rfl
theorem rgs_1 : rgs 0 1 = [.int 0] := rfl
theorem rgs_2 : rgs 0 2 = [.int 0, .int 1] := rfl
theorem forL_nil (j : Nat) (g : MS) (ρ : List Sl) (S : List Ce) : forL j g [] ρ S = .nx ρ S := rfl
def forK (j : Nat) (g : MS) (ds : List D) : RS → RS
  | .nx ρ1 S1 => forL j g ds ρ1 S1
  | .ct ρ1 S1 => forL j g ds ρ1 S1
  | .bk ρ1 S1 => .nx ρ1 S1
  | r => r
theorem forL_cons (j : Nat) (g : MS) (d : D) (ds : List D) (ρ : List Sl) (S : List Ce) : forL j g (d :: ds) ρ S = forK j g ds (g (ρ.set j (.dat d)) S) := by
  show (match g (ρ.set j (.dat d)) S with | .nx ρ1 S1 => _ | .ct ρ1 S1 => _ | .bk ρ1 S1 => _ | r => r) = _
  cases g (ρ.set j (.dat d)) S <;> rfl
theorem forK_nx (j : Nat) (g : MS) (ds : List D) (ρ : List Sl) (S : List Ce) : forK j g ds (.nx ρ S) = forL j g ds ρ S := rfl
theorem forK_ct (j : Nat) (g : MS) (ds : List D) (ρ : List Sl) (S : List Ce) : forK j g ds (.ct ρ S) = forL j g ds ρ S := rfl
theorem forK_bk (j : Nat) (g : MS) (ds : List D) (ρ : List Sl) (S : List Ce) : forK j g ds (.bk ρ S) = .nx ρ S := rfl
theorem forK_rt (j : Nat) (g : MS) (ds : List D) (r : Sl) (S : List Ce) : forK j g ds (.rt r S) = .rt r S := rfl
theorem forK_exc (j : Nat) (g : MS) (ds : List D) (i : Nat) (pl : Option (Str × D)) (ρ : List Sl) (S : List Ce) : forK j g ds (.exc i pl ρ S) = .exc i pl ρ S := rfl
/-- a loop all of whose turns change nothing -/
theorem forL_pass {j : Nat} {g : MS} {ρ : List Sl} {S : List Ce} : ∀ (ds : List D) (v : Sl), (∀ d ∈ ds, g (ρ.set j (.dat d)) S = .nx (ρ.set j (.dat d)) S) → ∃ w, forL j g ds (ρ.set j v) S = .nx (ρ.set j w) S
  | [], v, _ => ⟨v, rfl⟩
  | d :: ds, v, h => by
    obtain ⟨w, e⟩ := forL_pass ds (.dat d) fun x hx => h x (List.mem_cons_of_mem _ hx)
    refine ⟨w, ?_⟩
    rw [forL_cons, List.set_set, h d (List.mem_cons_self ..)]
    exact e
/-- a loop one of whose turns answers -/
theorem forL_stop {j : Nat} {g : MS} {ρ : List Sl} {S : List Ce} {d : D} {ds2 : List D} {r : Sl} {S' : List Ce} (hr : g (ρ.set j (.dat d)) S = .rt r S') : ∀ (ds : List D) (v : Sl), (∀ d ∈ ds, g (ρ.set j (.dat d)) S = .nx (ρ.set j (.dat d)) S) → forL j g (ds ++ d :: ds2) (ρ.set j v) S = .rt r S'
  | [], v, _ => by
    rw [List.nil_append, forL_cons, List.set_set, hr]
    rfl
  | x :: ds, v, h => by
    rw [List.cons_append, forL_cons, List.set_set, h x (List.mem_cons_self ..)]
    exact forL_stop hr ds (.dat x) fun y hy => h y (List.mem_cons_of_mem _ hy)
/-- a loop whose turns keep an invariant of the frame and the cells -/
theorem forL_inv {j : Nat} {g : MS} (I : Nat → List Sl → List Ce → Prop) : ∀ (ds : List D) (n : Nat) (ρ : List Sl) (S : List Ce), I n ρ S → (∀ i d, ds[i]? = some d → ∀ ρ S, I (n + i) ρ S → ∃ ρ' S', g (ρ.set j (.dat d)) S = .nx ρ' S' ∧ I (n + i + 1) ρ' S') → ∃ ρ' S', forL j g ds ρ S = .nx ρ' S' ∧ I (n + ds.length) ρ' S'
  | [], n, ρ, S, h, _ => ⟨ρ, S, rfl, h⟩
  | d :: ds, n, ρ, S, h, k => by
    obtain ⟨ρ1, S1, e, h1⟩ := k 0 d rfl ρ S h
    obtain ⟨ρ2, S2, e2, h2⟩ := forL_inv I ds (n + 1) ρ1 S1 h1 fun i d hd ρ S hI => by
      have := k (i + 1) d (by simpa using hd) ρ S (by rwa [show n + (i + 1) = n + 1 + i by omega])
      rwa [show n + (i + 1) + 1 = n + 1 + i + 1 by omega] at this
    refine ⟨ρ2, S2, ?_, ?_⟩
    · rw [forL_cons, e]; exact e2
    · rw [List.length_cons, show n + (ds.length + 1) = n + 1 + ds.length by omega]; exact h2
def whileK (t : MT) (g : MS) (n : Nat) : RS → RS
  | .nx ρ1 S1 => whileL t g n ρ1 S1
  | .ct ρ1 S1 => whileL t g n ρ1 S1
  | .bk ρ1 S1 => .nx ρ1 S1
  | r => r
/-- a loop that counts up to N -/
theorem whileL_count {t : MT} {g : MS} {f : Nat → List Sl} {S : List Ce} {N : Nat} (ht : ∀ j, j ≤ N → t (f j) S = .ok (decide (j < N)) S) (hg : ∀ j, j < N → g (f j) S = .nx (f (j + 1)) S) : ∀ k j n, j + k = N → k < n → whileL t g n (f j) S = .nx (f N) S
  | 0, j, n + 1, h, _ => by
    have : j = N := by omega
    subst this
    unfold whileL
    rw [ht j (by omega)]
    simp [RE.toS]
  | k + 1, j, n + 1, h, hk => by
    unfold whileL
    rw [ht j (by omega)]
    have : j < N := by omega
    simp only [RE.toS, this, decide_true, cond_true]
    rw [hg j this]
    exact whileL_count ht hg k (j + 1) n (by omega) (by omega)
theorem tw_take {p : Nat → Bool} : ∀ (r : List Nat) (m : Nat), ((r.take m).takeWhile p).length = min m (r.takeWhile p).length
  | [], m => by simp
  | x :: r, 0 => by simp
  | x :: r, m + 1 => by
    rw [List.take_succ_cons]
    cases h : p x with
    | true => rw [List.takeWhile_cons_of_pos h, List.takeWhile_cons_of_pos h, List.length_cons, List.length_cons, tw_take r m]; omega
    | false => rw [List.takeWhile_cons_of_neg (by simp [h]), List.takeWhile_cons_of_neg (by simp [h])]; simp
theorem tw_at {p : Nat → Bool} : ∀ {r : List Nat} {j : Nat}, j ≤ (r.takeWhile p).length → (j < (r.takeWhile p).length ↔ ∃ x, r[j]? = some x ∧ p x = true)
  | [], k, h => by simp
  | y :: L, k, h => by
    cases hy : p y with
    | false =>
      rw [List.takeWhile_cons_of_neg (by rw [hy]; decide)] at h ⊢
      have : k = 0 := by simpa using h
      subst this
      simp [hy]
    | true =>
      rw [List.takeWhile_cons_of_pos hy] at h ⊢
      cases k with
      | zero => simp [hy]
      | succ k =>
        rw [List.length_cons] at h ⊢
        have ih := tw_at (p := p) (r := L) (j := k) (by omega)
        rw [List.getElem?_cons_succ, ← ih]
        omega
end Mir
namespace Mir
open PySem PySem.Spec L2
theorem rgs_mem {n : Nat} {d : D} (h : d ∈ rgs 0 n) : ∃ i : Nat, i < n ∧ d = .int i := by
  unfold rgs at h
  obtain ⟨i, hi, rfl⟩ := List.mem_map.mp h
  exact ⟨i, List.mem_range.mp hi, by rw [Int.zero_add]⟩
theorem rgs_split {n k : Nat} (h : k < n) : rgs 0 n = rgs 0 k ++ .int k :: (rgs 0 n).drop (k + 1) := by
  have e1 : (rgs 0 n).take k = rgs 0 k := by
    unfold rgs
    rw [← List.map_take, List.take_range, Nat.min_eq_left (Nat.le_of_lt h)]
  have hl : k < (rgs 0 n).length := by rw [rgs_len]; exact h
  have e2 : (rgs 0 n)[k] = .int k := by
    have := rgs_get (lo := 0) h
    rw [List.getElem?_eq_getElem hl, Int.zero_add] at this
    exact Option.some.inj this
  conv => lhs; rw [← List.take_append_drop k (rgs 0 n), List.drop_eq_getElem_cons hl, e1, e2]
theorem forL_rgs_pass {j n : Nat} {g : MS} {ρ : List Sl} {S : List Ce} (v : Sl) (h : ∀ i : Nat, i < n → g (ρ.set j (.dat (.int i))) S = .nx (ρ.set j (.dat (.int i))) S) : ∃ w, forL j g (rgs 0 n) (ρ.set j v) S = .nx (ρ.set j w) S :=
  forL_pass _ v fun d hd => by
    obtain ⟨i, hi, rfl⟩ := rgs_mem hd
    exact h i hi
theorem forL_rgs_stop {j n k : Nat} {g : MS} {ρ : List Sl} {S S' : List Ce} {r : Sl} (v : Sl) (hk : k < n) (h : ∀ i : Nat, i < k → g (ρ.set j (.dat (.int i))) S = .nx (ρ.set j (.dat (.int i))) S) (hr : g (ρ.set j (.dat (.int k))) S = .rt r S') : forL j g (rgs 0 n) (ρ.set j v) S = .rt r S' := by
  rw [rgs_split hk]
  exact forL_stop hr _ v fun d hd => by
    obtain ⟨i, hi, rfl⟩ := rgs_mem hd
    exact h i hi
end Mir

/-! Draws in comprehensions. -/
namespace Mir
open PySem PySem.Spec L2
theorem lcL_nil (n j : Nat) (t : MT) (elt : ME) (ρ : List Sl) (S : List Ce) : lcL n j t elt [] ρ S = .ok () S := rfl
def lcK (n j : Nat) (t : MT) (elt : ME) (ds : List D) (ρ : List Sl) (r : Sl) (S2 : List Ce) : RE Unit := match r, S2[n]? with
      | .dat y, some (.lst acc) => if acc.length < 1000000 then lcL n j t elt ds ρ (S2.set n (.lst (acc ++ [y]))) else .stuck
      | _, _ => .stuck
theorem lcL_cons (n j : Nat) (elt : ME) (d : D) (ds : List D) (ρ : List Sl) (S : List Ce) : lcL n j tYes' elt (d :: ds) ρ S = (elt (ρ.set j (.dat d)) S).noX.bind (lcK n j tYes' elt ds ρ) := rfl
/-- a list drawn, turn by turn -/
theorem lc_draw {n j jd q : Nat} {elt : ME} {ρ : List Sl} {P : D → Prop} {M : Nat} (he : ∀ (S : List Ce) (cs : List D) (N : Nat) (d : D), S[jd]? = some (.lst cs) → Dice cs N → N < M → ∃ y cs', P y ∧ elt (ρ.set j (.dat d)) S = .ok (.dat y) (S.set jd (.lst cs')) ∧ Dice cs' (N + q)) :
    ∀ (ds : List D) (S0 : List Ce) (cs acc : List D) (N : Nat), S0.length = n → S0[jd]? = some (.lst cs) → Dice cs N → N + q * ds.length < M → acc.length + ds.length ≤ 1000 →
      ∃ ys cs', lcL n j tYes' elt ds ρ (S0 ++ [.lst acc]) = .ok () (S0.set jd (.lst cs') ++ [.lst (acc ++ ys)]) ∧ ys.length = ds.length ∧ (∀ y ∈ ys, P y) ∧ Dice cs' (N + q * ds.length)
  | [], S0, cs, acc, N, hn, hS, hd, _, _ => ⟨[], cs, by
      rw [lcL_nil, List.append_nil]
      have : S0.set jd (.lst cs) = S0 := by
        have h := (List.getElem?_eq_some_iff.mp hS)
        obtain ⟨h1, h2⟩ := h
        rw [← h2]
        exact List.set_getElem_self h1
      rw [this], rfl, (fun y hy => nomatch hy), hd⟩
  | d :: ds, S0, cs, acc, N, hn, hS, hd, hM, hl => by
    have hj := (List.getElem?_eq_some_iff.mp hS).1
    rw [List.length_cons, Nat.mul_succ] at hM
    rw [List.length_cons] at hl
    obtain ⟨y, cs1, hy, ey, hd1⟩ := he (S0 ++ [.lst acc]) cs N d (by rw [List.getElem?_append_left hj]; exact hS) hd (by omega)
    rw [List.set_append_left _ _ hj] at ey
    obtain ⟨ys, cs2, e2, hl2, hp2, hd2⟩ := lc_draw (n := n) he ds (S0.set jd (.lst cs1)) cs1 (acc ++ [y]) (N + q) (by rw [List.length_set]; exact hn) (List.getElem?_set_self hj) hd1 (by omega) (by rw [List.length_append, List.length_cons, List.length_nil]; omega)
    refine ⟨y :: ys, cs2, ?_, by rw [List.length_cons, List.length_cons, hl2], fun x hx => ?_, ?_⟩
    · rw [lcL_cons, ey]
      show lcK n j tYes' elt ds ρ (.dat y) _ = _
      unfold lcK
      have hg : (S0.set jd (Ce.lst cs1) ++ [Ce.lst acc])[n]? = some (Ce.lst acc) := by
        rw [List.getElem?_append_right (by rw [List.length_set]; omega), List.length_set, hn, Nat.sub_self] <;> rfl
      rw [hg]
      show (if acc.length < 1000000 then _ else _) = _
      rw [if_pos (by omega)]
      have hs : (S0.set jd (Ce.lst cs1) ++ [Ce.lst acc]).set n (Ce.lst (acc ++ [y])) = S0.set jd (Ce.lst cs1) ++ [Ce.lst (acc ++ [y])] := by
        rw [List.set_append_right _ _ (by rw [List.length_set]; omega), List.length_set, hn, Nat.sub_self] <;> rfl
      rw [hs, e2, List.set_set, List.append_assoc] <;> rfl
    · rcases List.mem_cons.mp hx with rfl | hx
      · exact hy
      · exact hp2 x hx
    · rw [List.length_cons, Nat.mul_succ, Nat.add_comm (q * ds.length) q, ← Nat.add_assoc]
      exact hd2
theorem frzL_new {S : List Ce} {ds : List D} (h : plain S = true) : frzL S.length (.ok (.own S.length) (S ++ [.lst ds])) = .ok (.dat (.lst ds)) S := by
  have k : okTake S.length (S ++ [.lst ds]) = true := by
    have := plain_ok h S.length
    unfold okTake at this ⊢
    rw [List.take_left]
    rwa [List.take_length] at this
  unfold frzL
  show (if S.length ≤ S.length ∧ S.length + 1 = (S ++ [Ce.lst ds]).length ∧ okTake S.length (S ++ [.lst ds]) = true then _ else _) = _
  rw [if_pos ⟨Nat.le_refl _, by simp, k⟩]
  have e : (S ++ [Ce.lst ds])[S.length]? = some (.lst ds) := by simp
  rw [e]
  show RE.ok (Sl.dat (.lst ds)) _ = _
  rw [List.take_left]
theorem plain_upd {S : List Ce} {j : Nat} {cs : List D} (h : plain S = true) : plain (S.set j (.lst cs)) = true := plain_set h
/-- [ draw for .. in .. ] -/
theorem mLc_draw {j jd q M : Nat} {it : MI} {elt : ME} {ρ : List Sl} {P : D → Prop} {S : List Ce} {cs ds : List D} {N : Nat} (hit : it ρ S = .ok ds S) (hp : plain S = true) (hS : S[jd]? = some (.lst cs)) (hd : Dice cs N) (hM : N + q * ds.length < M) (hl : ds.length ≤ 1000)
    (he : ∀ (S : List Ce) (cs : List D) (N : Nat) (d : D), S[jd]? = some (.lst cs) → Dice cs N → N < M → ∃ y cs', P y ∧ elt (ρ.set j (.dat d)) S = .ok (.dat y) (S.set jd (.lst cs')) ∧ Dice cs' (N + q)) :
    ∃ ys cs', mLc j it tYes' elt ρ S = .ok (.dat (.lst ys)) (S.set jd (.lst cs')) ∧ ys.length = ds.length ∧ (∀ y ∈ ys, P y) ∧ Dice cs' (N + q * ds.length) := by
  obtain ⟨ys, cs', e, h1, h2, h3⟩ := lc_draw he ds S cs [] N rfl hS hd hM (by simpa using hl)
  refine ⟨ys, cs', ?_, h1, h2, h3⟩
  unfold mLc mLcO
  rw [hit, RE.ok_bind, e, RE.ok_bind, List.nil_append]
  have := frzL_new (S := S.set jd (.lst cs')) (ds := ys) (plain_set hp)
  rw [List.length_set] at this
  exact this
end Mir

/-! The least and the greatest of a list of data. -/
namespace Mir
open PySem PySem.Spec L2
mutual
/-- ints, texts and tuples of such -/
def simpD : D → Bool
  | .int _ => true
  | .str _ => true
  | .tup ds => simpDs ds
  | _ => false
def simpDs : List D → Bool
  | [] => true
  | d :: r => simpD d && simpDs r
end
theorem simpDs_mem : ∀ {ds : List D} {d : D}, simpDs ds = true → d ∈ ds → simpD d = true
  | x :: r, d, h, m => by
    simp only [simpDs, Bool.and_eq_true] at h
    rcases List.mem_cons.mp m with rfl | m
    · exact h.1
    · exact simpDs_mem h.2 m
mutual
theorem toPy_inj : ∀ {d e : D} {p : PyData}, simpD d = true → simpD e = true → toPy d = some p → toPy e = some p → d = e
  | .int i, e, p, _, he, h1, h2 => by
    simp only [toPy] at h1
    cases h1
    cases e with
    | int j => simp only [toPy] at h2; cases h2; rfl
    | str s => simp only [toPy] at h2; cases h2
    | tup ds => simp only [toPy] at h2; cases q : toPys ds <;> rw [q] at h2 <;> cases h2
    | _ => simp only [simpD] at he; cases he
  | .str s, e, p, _, he, h1, h2 => by
    simp only [toPy] at h1
    cases h1
    cases e with
    | int j => simp only [toPy] at h2; cases h2
    | str s => simp only [toPy] at h2; cases h2; rfl
    | tup ds => simp only [toPy] at h2; cases q : toPys ds <;> rw [q] at h2 <;> cases h2
    | _ => simp only [simpD] at he; cases he
  | .tup ds, e, p, hd, he, h1, h2 => by
    simp only [toPy] at h1
    cases q : toPys ds with
    | none => rw [q] at h1; cases h1
    | some l =>
      rw [q] at h1
      cases h1
      cases e with
      | int j => simp only [toPy] at h2; cases h2
      | str s => simp only [toPy] at h2; cases h2
      | tup es =>
        simp only [toPy] at h2
        cases q2 : toPys es with
        | none => rw [q2] at h2; cases h2
        | some l2 =>
          rw [q2] at h2
          cases h2
          simp only [simpD] at hd he
          exact congrArg D.tup (toPys_inj hd he q q2)
      | _ => simp only [simpD] at he; cases he
theorem toPys_inj : ∀ {ds es : List D} {l : List PyData}, simpDs ds = true → simpDs es = true → toPys ds = some l → toPys es = some l → ds = es
  | [], [], _, _, _, _, _ => rfl
  | [], e :: es, l, _, _, h1, h2 => by
    simp only [toPys] at h1 h2
    cases h1
    cases q : toPy e <;> rw [q] at h2
    · cases h2
    · cases q2 : toPys es <;> rw [q2] at h2 <;> cases h2
  | d :: ds, [], l, _, _, h1, h2 => by
    simp only [toPys] at h1 h2
    cases h2
    cases q : toPy d <;> rw [q] at h1
    · cases h1
    · cases q2 : toPys ds <;> rw [q2] at h1 <;> cases h1
  | d :: ds, e :: es, l, hd, he, h1, h2 => by
    simp only [simpDs, Bool.and_eq_true] at hd he
    simp only [toPys] at h1 h2
    cases q1 : toPy d with
    | none => rw [q1] at h1; cases h1
    | some x =>
      cases q2 : toPys ds with
      | none => rw [q1, q2] at h1; cases h1
      | some xs =>
        rw [q1, q2] at h1
        cases h1
        cases q3 : toPy e with
        | none => rw [q3] at h2; cases h2
        | some y =>
          cases q4 : toPys es with
          | none => rw [q3, q4] at h2; cases h2
          | some ys =>
            rw [q3, q4] at h2
            cases h2
            rw [toPy_inj hd.1 he.1 q1 q3, toPys_inj hd.2 he.2 q2 q4]
end
/-- the least, the first of equal ones -/
def minS (d : D) (ds : List D) : D := ds.foldl (fun a y => if PySem.W.dataLt (pyOf y) (pyOf a) = true then y else a) d
theorem minS_mem : ∀ (ds : List D) (d : D), minS d ds ∈ d :: ds
  | [], d => List.mem_cons_self ..
  | y :: r, d => by
    show minS (if PySem.W.dataLt (pyOf y) (pyOf d) = true then y else d) r ∈ _
    rcases List.mem_cons.mp (minS_mem r (if PySem.W.dataLt (pyOf y) (pyOf d) = true then y else d)) with h | h
    · rw [h]
      split
      · exact List.mem_cons_of_mem _ (List.mem_cons_self ..)
      · exact List.mem_cons_self ..
    · exact List.mem_cons_of_mem _ (List.mem_cons_of_mem _ h)
theorem minS_py : ∀ (ds : List D) (d : D), PySem.W.minD (pyOf d) (ds.map pyOf) = pyOf (minS d ds)
  | [], d => rfl
  | y :: r, d => by
    show PySem.W.minD (if PySem.W.dataLt (pyOf y) (pyOf d) = true then pyOf y else pyOf d) (r.map pyOf) = pyOf (minS (if PySem.W.dataLt (pyOf y) (pyOf d) = true then y else d) r)
    rw [← minS_py r]
    split <;> rfl
def alikeB (l : List PyData) : Bool := l.all fun x => l.all (PySem.W.alike x)
/-- min(xs) of data -/
def minDF : List D → Option D
  | [.lst (d :: ds)] => if (d :: ds).all (okP 60) = true ∧ simpDs (d :: ds) = true ∧ alikeB ((d :: ds).map pyOf) = true then some (minS d ds) else none
  | _ => none
theorem mem_mapPy {ds : List D} {p : PyData} (h : p ∈ ds.map pyOf) : ∃ d ∈ ds, pyOf d = p := List.mem_map.mp h
theorem depth_all {n : Nat} : ∀ {ds : List D}, ds.all (okP n) = true → PyData.depthAll (ds.map pyOf) ≤ n
  | [], _ => by simp only [List.map, PyData.depthAll]; omega
  | d :: r, h => by
    rw [List.all_cons, Bool.and_eq_true] at h
    have h1 := (okP_py n d h.1).2.2
    have h2 := depth_all h.2
    simp only [List.map, PyData.depthAll]
    omega
theorem simp_no {d : D} (h : simpD d = true) (k : okP 60 d = true) : pyOf d ≠ .none := by
  cases d with
  | int i => intro e; cases e
  | str i => intro e; cases e
  | tup ds =>
    intro e
    have := (okP_py 60 _ k).1
    rw [e] at this
    simp only [toPy] at this
    cases q : toPys ds <;> rw [q] at this <;> cases this
  | _ => simp only [simpD] at h; cases h
section
variable {X : Cx}
def rMinDt (K : PySem.W.Frag) : List V → Hp → VK → Prop := fun vs H Q => ∃ (p : Addr) (ys : List V) (x : PyData) (xs : List PyData), vs = [.ref p] ∧ SqL K H p ys ∧ DpAll K H ys (x :: xs) ∧ PySem.W.AlikeAll (x :: xs) ∧ PyData.depthAll (x :: xs) ≤ 60 ∧ PySem.W.minD x xs ∈ x :: xs ∧
  ∀ (i : Nat) y, ys[i]? = some y → (x :: xs)[i]? = some (PySem.W.minD x xs) → Q y H
theorem vals_at : ∀ {ys : List V} {us : List Value} {i : Nat} {u : Value}, Vals ys us → us[i]? = some u → ∃ y, ys[i]? = some y ∧ RelV y u
  | [], _, i, u, h, e => by cases h; simp at e
  | y :: ys, _, 0, u, h, e => by
    cases h with
    | cons h1 h2 => simp at e; exact ⟨y, rfl, e ▸ h1⟩
  | y :: ys, _, i + 1, u, h, e => by
    cases h with
    | cons h1 h2 =>
      obtain ⟨z, hz, hr⟩ := vals_at (i := i) (u := u) h2 (by simpa using e)
      exact ⟨z, by simpa using hz, hr⟩
theorem cr_minDt (hc : X.calm = true) (hu : X.A.units + 64 < cLine) : CallR X (.builtin "min") (rMinDt X.K) := by
  intro pins s σ H vs us Q I r h
  obtain ⟨p, ys, x, xs, rfl, hs, hd, ha, hdep, hmem, q⟩ := h
  obtain ⟨its, rv, hl, _⟩ := I.list hs
  rw [Vals.ref1 r]
  obtain ⟨as, hr⟩ := Dp.readsAll I _ _ _ hd rv
  refine PySem.W.min_list_data (x := x) (xs := xs) (as := as) (I.ok.hd hc) hl.isList (by simpa using hr) ha (by omega) fun i v h' tk bs hv rd hk => ?_
  have hv' : its[i]? = some v := by simpa using hv
  obtain ⟨y, hy, hrel⟩ := vals_at rv hv'
  obtain ⟨bs2, r2, hi, hm, _⟩ := PySem.W.readsAll_at hr i v hv'
  have e := PySem.W.alike_unique _ _ v _ _ (ha.1 _ hm _ hmem) (PySem.W.reads_keeps hk r2) rd
  refine ⟨y, H, I.kept hk, hrel, q i y hy ?_⟩
  rw [← e, List.getD_eq_getElem?_getD, List.getElem?_eq_getElem hi] <;> rfl
end
variable [CM : ClsMap]
variable {K : PySem.W.Frag}
theorem atDs_at {G : Hp} : ∀ {ys : List V} {ds : List D} {i : Nat} {y : V}, AtDs K G ys ds → ys[i]? = some y → ∃ d, ds[i]? = some d ∧ AtD K G y d
  | _, _, i, y, .nil, e => by simp at e
  | y0 :: ys, d0 :: ds, 0, y, .cons h1 h2, e => by simp at e; exact ⟨d0, rfl, e ▸ h1⟩
  | y0 :: ys, d0 :: ds, i + 1, y, .cons h1 h2, e => by
    obtain ⟨z, hz, hr⟩ := atDs_at (i := i) (y := y) h2 (by simpa using e)
    exact ⟨z, by simpa using hz, hr⟩
theorem rdMinDt : RDN K (rMinDt K) minDF := fun G H xs k ds d s a e q => by
  unfold minDF at e
  split at e
  · rename_i d0 r
    split at e
    · rename_i hh
      obtain ⟨ok, sm, al⟩ := hh
      cases e
      obtain ⟨v, rfl, hv⟩ := a.one
      obtain ⟨p, vs, rfl, h1, hs⟩ := hv.lst_ s
      have py := pyOfs ok
      have mem := minS_mem r d0
      refine ⟨p, vs, pyOf d0, r.map pyOf, rfl, SqL.of h1, ?_, ⟨fun x hx y hy => ?_, fun x hx => ?_⟩, ?_, ?_, fun i y hy hi => ?_⟩
      · exact toPys_ok (hs.mono s) py
      · have := List.all_eq_true.mp (List.all_eq_true.mp al x hx) y hy
        exact this
      · obtain ⟨d, hd, rfl⟩ := mem_mapPy (ds := d0 :: r) hx
        exact simp_no (simpDs_mem sm hd) (List.all_eq_true.mp ok d hd)
      · exact depth_all (ds := d0 :: r) ok
      · rw [minS_py]
        exact List.mem_map_of_mem (f := pyOf) mem
      · obtain ⟨dd, hdd, hat⟩ := atDs_at hs hy
        have e2 : pyOf dd = pyOf (minS d0 r) := by
          rw [← minS_py]
          have e3 : ((d0 :: r).map pyOf)[i]? = some (pyOf dd) := by rw [List.getElem?_map, hdd] <;> rfl
          exact Option.some.inj (e3.symm.trans hi)
        have hm1 := List.mem_of_getElem? hdd
        have o1 := (okP_py 60 dd (List.all_eq_true.mp ok dd hm1)).1
        have o2 := (okP_py 60 _ (List.all_eq_true.mp ok _ mem)).1
        have := toPy_inj (simpDs_mem sm hm1) (simpDs_mem sm mem) o1 (by rw [e2]; exact o2)
        rw [this] at hat
        exact q _ G H (.refl _ _) hat
    · cases e
  · cases e
end Mir

/-! Objects: made, their fields, properties and methods; calls with keywords. -/
namespace Mir
open PySem PySem.Spec L2
variable [CM : ClsMap]
/-! ### keywords -/
omit CM in
def WK (X : Cx) (kws : List Keyword) : TA := fun σ H Q => ∃ t, PK X kws t ∧ t σ H Q
omit CM in
theorem wk_pk {X : Cx} {kws : List Keyword} : PK X kws (WK X kws) := ⟨fun pos pins s σ H Q I ⟨t, h, q⟩ => h.run pos pins s σ H Q I q⟩
def DK (c : Cz) (kws : List Keyword) (f : MA') : Prop := ∀ ρ S σ G ps H k, SOk c.X.K c.F G ps ρ S σ H → Sat c G ps ρ σ (RAs c) k (f ρ S) → WK c.X kws σ H k
section
variable {c : Cz} {e : Expr} {kws : List Keyword} {f : ME} {g : MA'} {nm : Option Str} {kpos : Pos}
theorem dk_nil : DK c [] aNil := fun ρ S σ G ps H k o q => ⟨_, pk_nil, q.ok o .nil⟩
theorem dk_cons (ha : DE c e f) (hr : DK c kws g) : DK c (⟨nm, e, kpos⟩ :: kws) (aCons f g) := fun ρ S σ G ps H k o q =>
  ⟨_, pk_cons we_pe wk_pk, ha _ _ _ _ _ _ _ o (Sat.bind q fun x S1 v1 G1 ps1 H1 o1 e1 p1 a1 q =>
    hr _ _ _ _ _ _ _ o1 (Sat.bind q fun xs S2 vs G2 ps2 H2 o2 e2 p2 a2 q => q _ G2 ps2 H2 o2 (Ex.refl _) (List.prefix_refl _) (.cons (a1.mono e2 p2) a2)))⟩
end
/-! ### the arguments of a call -/
def ArgsOk (c : Cz) (es : List Expr) (fa : MA') : Prop := (es = [] ∧ fa = aNil) ∨ (DA c es fa ∧ ∃ e rest, es = e :: rest ∧ starEach (e :: rest) c.X.env = (false, eval e c.X.env) :: starEach rest c.X.env)
theorem args0 {c : Cz} : ArgsOk c [] aNil := .inl ⟨rfl, rfl⟩
theorem args1 {c : Cz} {e : Expr} {es : List Expr} {fa : MA'} (ha : DA c (e :: es) fa) (he : starEach (e :: es) c.X.env = (false, eval e c.X.env) :: starEach es c.X.env := by rfl) : ArgsOk c (e :: es) fa := .inr ⟨ha, e, es, rfl, he⟩
section
variable {c : Cz} {es : List Expr} {kws : List Keyword} {fa fb : MA'} {n m : Nat} {pos : Pos} {ks : List Str} {pins : List (Addr × Obj)} {σ : L2.St} {H G : Hp} {s : Shared} {ps : List Addr} {ρ : List Sl} {S : List Ce} {k : VK} {rest : List Sl → List Sl → List Ce → RE Sl}
theorem cw_run {f : Value} {first : List Value} (hk : PySem.W.keepIn c.X.K f = true) (hA : ArgsOk c es fa) (hK : DK c kws fb) [lA : LenA fa n] [lB : LenA fb m]
    (hall : (backToKw pos (keywordEach kws c.X.env)).all (·.1.isSome) = true) (hks : (backToKw pos (keywordEach kws c.X.env)).filterMap (·.1) = ks)
    (hpl : ((backTo pos (starEach es c.X.env)).any (·.1) || (backToKw pos (keywordEach kws c.X.env)).any (·.1.isNone)) = false)
    (I : Inv c.X pins σ H s) (o : SOk c.X.K c.F G ps ρ S σ H) (q : Sat c G ps ρ σ (RA c) k ((fa ρ S).bind fun xs S1 => (fb ρ S1).bind fun ys S2 => rest xs ys S2))
    (st : ∀ us ws s2 vs zs xs ys S2 G2 ps2 H2, Inv c.X pins σ H2 s2 → Vals vs us → Vals zs ws → SOk c.X.K c.F G2 ps2 ρ S2 σ H2 → Ex G G2 → ps <+: ps2 → AtAs c.X.K G2 ps2 vs xs → AtAs c.X.K G2 ps2 zs ys → xs.length = n → ys.length = m →
      Sat c G2 ps2 ρ σ (RA c) k (rest xs ys S2) → wpAny (model c.X.prog c.X.w) c.X.A (call f (first ++ us) (ks.zip ws)) (EP c.X pins σ k) c.X.xe s2) :
    wpAny (model c.X.prog c.X.w) c.X.A (callWith pos f first (backTo pos (starEach es c.X.env)) (backToKw pos (keywordEach kws c.X.env))) (EP c.X pins σ k) c.X.xe s := by
  subst hks
  have kw : ∀ (us : List Value) (vs : List V) (xs : List Sl) (S1 : List Ce) (G1 : Hp) (ps1 : List Addr) (H1 : Hp) (s1 : Shared), Inv c.X pins σ H1 s1 → Vals vs us → SOk c.X.K c.F G1 ps1 ρ S1 σ H1 → Ex G G1 → ps <+: ps1 → AtAs c.X.K G1 ps1 vs xs → xs.length = n →
      Sat c G1 ps1 ρ σ (RA c) k ((fb ρ S1).bind fun ys S2 => rest xs ys S2) →
      wpAny (model c.X.prog c.X.w) c.X.A (evalAll ((backToKw pos (keywordEach kws c.X.env)).map (·.2))) (fun ws s2 => c.X.K.In s2.heap ∧ wpAny (model c.X.prog c.X.w) c.X.A (call f (first ++ us) (((backToKw pos (keywordEach kws c.X.env)).filterMap (·.1)).zip ws)) (EP c.X pins σ k) c.X.xe s2) c.X.xe s1 := by
    intro us vs xs S1 G1 ps1 H1 s1 I1 r1 o1 e1 p1 a1 hl q1
    have hm := lB.ln ρ S1
    refine thn (wk_pk.run pos pins s1 σ H1 (fun zs H2 => ∃ S2 G2 ps2 ys, SOk c.X.K c.F G2 ps2 ρ S2 σ H2 ∧ Ex G1 G2 ∧ ps1 <+: ps2 ∧ AtAs c.X.K G2 ps2 zs ys ∧ ys.length = m ∧ Sat c G2 ps2 ρ σ (RA c) k (rest xs ys S2)) I1 (hK ρ S1 σ G1 ps1 H1 _ o1 ?_)) ?_
    · cases ef : fb ρ S1 with
      | stuck => rw [ef] at q1; exact q1
      | exc i pl S2 => rw [ef] at q1; exact q1
      | ok ys S2 =>
        rw [ef] at q1 hm
        exact fun zs G2 ps2 H2 o2 e2 p2 a2 => ⟨S2, G2, ps2, ys, o2, e2, p2, a2, hm, Sat.mono q1 e2 p2⟩
    · rintro ws s2 ⟨zs, H2, I2, r2, S2, G2, ps2, ys, o2, e2, p2, a2, hm2, q2⟩
      refine ⟨I2.kIn, st us ws s2 vs zs xs ys S2 G2 ps2 H2 I2 r1 r2 o2 (e1.trans e2) (p1.trans p2) ?_ a2 hl hm2 q2⟩
      exact AtAs.mono e2 p2 a1
  rcases hA with ⟨rfl, rfl⟩ | ⟨hA, e, rest', rfl, he⟩
  · have hn := lA.ln ρ S
    refine PySem.W.callWith_KW0 (h₀ := c.X.base) I.ok.mod.kin hk hall ?_ hpl
    exact kw [] [] [] S G ps H s I .nil o (Ex.refl _) (List.prefix_refl _) .nil hn q
  · have hn := lA.ln ρ S
    refine PySem.W.callWith_KW (h₀ := c.X.base) I.ok.mod.kin hk hall (thn (wa_pa.run pos pins s σ H (fun vs H1 => ∃ S1 G1 ps1 xs, SOk c.X.K c.F G1 ps1 ρ S1 σ H1 ∧ Ex G G1 ∧ ps <+: ps1 ∧ AtAs c.X.K G1 ps1 vs xs ∧ xs.length = n ∧ Sat c G1 ps1 ρ σ (RA c) k ((fb ρ S1).bind fun ys S2 => rest xs ys S2)) I (hA ρ S σ G ps H _ o ?_)) ?_) hpl he
    · cases ef : fa ρ S with
      | stuck => rw [ef] at q; exact q
      | exc i pl S2 => rw [ef] at q; exact q
      | ok xs S1 =>
        rw [ef] at q hn
        exact fun vs G1 ps1 H1 o1 e1 p1 a1 => ⟨S1, G1, ps1, xs, o1, e1, p1, a1, hn, Sat.mono q e1 p1⟩
    · rintro us s1 ⟨vs, H1, I1, r1, S1, G1, ps1, xs, o1, e1, p1, a1, hl, q1⟩
      exact kw us vs xs S1 G1 ps1 H1 s1 I1 r1 o1 e1 p1 a1 hl q1
end
/-! ### what a def at an address does -/
/-- called with n values and keywords ks it does what F does of gD of both -/
def RunK (P : Program) (w : World) (K : PySem.W.Frag) (mg : Str → Option Value) (base : Heap) (k : Nat) (f : Addr) (n : Nat) (ks : List Str) (gD : List Sl → List Sl → List Sl) (F : MF) : Prop :=
  ∀ (A : Around) (outer : List Env) (s : Shared) (H : Hp) (us ws : List Value) (vs zs : List V) (Q : VK) (E : XK) (G : Hp) (ps : List Addr) (S : List Ce) (as bs : List Sl),
    Room k A → Env0 P w K mg base A outer s H → Vals vs us → Vals zs ws → as.length = n → bs.length = ks.length → SOk K ⟨ps, H, G, 0, 0⟩ G ps [] S [] H → AtAs K G ps vs as → AtAs K G ps zs bs → Ret K ps H G Q E (F (gD as bs) S) →
    codeAny (model P w) A (.call (.ref f) ⟨us, ks.zip ws⟩) (CR (L2.CX P w) outer P w H s Q E) s
/-- how a call's arguments come to the parameters -/
structure BindK (K : PySem.W.Frag) (fd : FuncData) (pn : List Str) (n : Nat) (ks : List Str) (m : Nat) (gD : List Sl → List Sl → List Sl) : Prop where
  ex : ∃ g gV, KBn K fd pn n ks g gV ∧ ∀ (G : Hp) (ps : List Addr) (vs zs : List V) (as bs : List Sl), as.length = n → bs.length = ks.length → AtAs K G ps vs as → AtAs K G ps zs bs → AtAs K G ps (gV vs zs) (gD as bs)
  len : ∀ as bs : List Sl, as.length = n → bs.length = ks.length → (gD as bs).length = m
section
variable {P : Program} {w : World} {K : PySem.W.Frag} {mg : Str → Option Value} {base : Heap} {k n m : Nat} {f : Addr} {fd : FuncData} {pn ks : List Str} {gD : List Sl → List Sl → List Sl} {F : MF}
theorem RunK.of (h : FnOk P w K mg base (L2.CX P w) k f fd pn (spM K m F)) (hb : BindK K fd pn n ks m gD) : RunK P w K mg base k f n ks gD F := fun A outer s H us ws vs zs Q E G ps S as bs hr e0 r1 r2 l1 l2 o a1 a2 q => by
  obtain ⟨g, gV, kb, hg⟩ := hb.ex
  refine h.run A outer s H ⟨us, ks.zip ws⟩ (g us ws) (gV vs zs) Q E hr e0 (kb.to s us ws (PySem.W.Frag.In.keeps e0.mod.kin fun b o e => (e0.bs b o e).1) ?_ ?_) (kb.rel r1 r2) ⟨G, ps, S, gD as bs, hb.len as bs l1 l2, o, hg G ps vs zs as bs l1 l2 a1 a2, q⟩
  · rw [← r1.length, a1.len, l1]
  · rw [← r2.length, a2.len, l2]
/-- every parameter is given -/
theorem BindK.pos (hb : Binds K fd pn []) (hn : pn.length = n) : BindK K fd pn n [] n (fun as _ => as) := ⟨⟨fun us _ => us, fun vs _ => vs, ⟨fun s us ws X l1 l2 => by
    have z := hb s us X (by rw [List.append_nil, l1, hn])
    rw [List.append_nil] at z
    exact z, fun r _ => r⟩, fun G ps vs zs as bs _ _ a _ => a⟩, fun as bs l _ => l⟩
/-- the last ones by default -/
theorem BindK.dfl {dvs : List V} {ds : List Value} {dd : List D} (hb : Binds K fd pn ds) (hd : Vals dvs ds) (hD : ∀ G, AtDs K G dvs dd) (hn : pn.length = n + dd.length) : BindK K fd pn n [] (n + dd.length) (fun as _ => as ++ dd.map .dat) := by
  refine ⟨⟨fun us _ => us ++ ds, fun vs _ => vs ++ dvs, ⟨fun s us ws X l1 l2 => ?_, fun r _ => r.append hd⟩, fun G ps vs zs as bs _ _ a _ => ?_⟩, fun as bs l _ => by rw [List.length_append, List.length_map, l]⟩
  · refine hb s us X ?_
    rw [List.length_append, l1, hn, ← hd.length, (hD (fun _ => none)).len]
  · have z : ∀ {vs : List V} {dd : List D}, AtDs K G vs dd → AtAs K G ps vs (dd.map Sl.dat) := fun {vs dd} h => by
      induction dd generalizing vs with
      | nil => cases h; exact .nil
      | cons d dd ih => cases h with | cons a b => exact .cons (.dat a) (ih b)
    have app : ∀ {v1 v2 : List V} {a1 a2 : List Sl}, AtAs K G ps v1 a1 → AtAs K G ps v2 a2 → AtAs K G ps (v1 ++ v2) (a1 ++ a2) := fun {v1 v2 a1 a2} h g => by
      induction a1 generalizing v1 with
      | nil => cases h; exact g
      | cons d dd ih => cases h with | cons a b => exact .cons a (ih b)
    exact app a (z (hD G))
end
section
variable {c : Cz} {k n m : Nat} {f : Addr} {ks : List Str} {gD : List Sl → List Sl → List Sl} {F : MF} {pins : List (Addr × Obj)} {σ : L2.St} {H G : Hp} {s : Shared} {ps : List Addr} {ρ : List Sl} {S : List Ce} {kk : VK} {us ws : List Value} {vs zs : List V} {xs ys : List Sl}
/-- the callee runs -/
theorem run_K {A : Around} (R : RunK c.X.prog c.X.w c.X.K c.X.mg c.X.base k f n ks gD F) (hr : Room k A) (e0 : Env0 c.X.prog c.X.w c.X.K c.X.mg c.X.base A c.X.stack s H) {E' : Value → Shared → Prop} (hx : ∀ e s', L2.CX c.X.prog c.X.w c.X.stack H s (fun cls d H => c.W cls d σ H) e s' → E' e s') (I : Inv c.X pins σ H s) (r1 : Vals vs us) (r2 : Vals zs ws) (l1 : xs.length = n) (l2 : ys.length = ks.length)
    (o : SOk c.X.K c.F G ps ρ S σ H) (a1 : AtAs c.X.K G ps vs xs) (a2 : AtAs c.X.K G ps zs ys) (q : Sat c G ps ρ σ (RA c) kk (F (gD xs ys) S)) :
    codeAny (model c.X.prog c.X.w) A (.call (.ref f) ⟨us, ks.zip ws⟩) (fun r s' => match r with | .ok (.ret v) => EP c.X pins σ kk v s' | .ok _ => False | .error e => E' e s') s := by
  refine codeAny_mono (R A c.X.stack s H us ws vs zs kk (fun cls d H => c.W cls d σ H) G ps S xs ys hr e0 r1 r2 l1 l2 o.ent' a1 a2 (ret_of o q)) fun r s' hq => ?_
  cases r with
  | error e => exact hx e s' hq
  | ok fl =>
    cases fl with
    | ret u => exact I.after hq
    | next => exact False.elim hq
    | brk => exact False.elim hq
    | cont => exact False.elim hq
end
def mCallK (gD : List Sl → List Sl → List Sl) (F : MF) (a b : MA') : ME := fun ρ S => (a ρ S).bind fun xs S1 => (b ρ S1).bind fun ys S2 => F (gD xs ys) S2
section
variable {c : Cz} {k n m : Nat} {x : Str} {f : Addr} {es : List Expr} {kws : List Keyword} {ks : List Str} {gD : List Sl → List Sl → List Sl} {F : MF} {fa fb : MA'} {p1 pos : Pos}
/-- a def of the module by its name, for one form of calls -/
def CalK (P : Program) (w : World) (K : PySem.W.Frag) (mg : Str → Option Value) (base : Heap) (k : Nat) (x : Str) (n : Nat) (ks : List Str) (gD : List Sl → List Sl → List Sl) (F : MF) : Prop :=
  ∃ f : Addr, RunK P w K mg base k f n ks gD F ∧ mg x = some (.ref f) ∧ PySem.W.keepIn K (.ref f) = true
/-- f(e, .., k = v, ..) -/
theorem de_callK (C : CalK c.X.prog c.X.w c.X.K c.X.mg c.X.base k x n ks gD F) (hr : Room k c.X.A) (hA : ArgsOk c es fa) (hK : DK c kws fb) [LenA fa n] [LenA fb ks.length] (hg : Gl c.X x := by rfl) (hdb : (x == ("__debug__" : Str)) = false := by decide)
    (hall : (backToKw pos (keywordEach kws c.X.env)).all (·.1.isSome) = true := by rfl) (hks : (backToKw pos (keywordEach kws c.X.env)).filterMap (·.1) = ks := by rfl)
    (hpl : ((backTo pos (starEach es c.X.env)).any (·.1) || (backToKw pos (keywordEach kws c.X.env)).any (·.1.isNone)) = false := by rfl) : DE c (.Call (.Name x p1) es kws pos) (mCallK gD F fa fb) := fun ρ S σ G ps H kk o q => by
  obtain ⟨f, R, hm, hk⟩ := C
  refine ⟨fun σ' H' Q => σ' = σ ∧ H' = H ∧ Q = kk, ⟨fun pins s σ' H' Q I ⟨e1, e2, e3⟩ => ?_⟩, rfl, rfl, rfl⟩
  subst e1; subst e2; subst e3
  refine wpAny_Call_Name_kw (ld_glob I hg hm (cw_run (first := []) hk hA hK hall hks hpl I o q ?_) hdb)
  intro us ws s2 vs zs xs ys S2 G2 ps2 H2 I2 r1 r2 o2 e2 p2 a1 a2 l1 l2 q2
  exact wpAny_call (run_K R hr I2.env0 (fun e s' z => passAt c.tk _ pins _ _ e s' I2 z) I2 r1 r2 l1 l2 o2 a1 a2 q2)
end
/-! ### fields -/
/-- what a class must have so that the attribute f is the object's own -/
def FldC (K : PySem.W.Frag) (f : Str) (C : Nat) : Prop := Cls K (CM.A C) ∧ NoAttr K (CM.A C) f
/-- an object's class and its attributes -/
def insS (x : Sl) (S : List Ce) : Option (Nat × List (Str × Sl)) := match x with
  | .dat (.ins C fs) => some (C, fs.map fun p => (p.1, Sl.dat p.2))
  | .own j => match S[j]? with
    | some (.ins C fs) => some (C, fs)
    | _ => none
  | _ => none
def slO (o : Option Sl) (S : List Ce) : RE Sl := match o with
  | some (.dat d) => .ok (.dat d) S
  | some (.own j) => .ok (.own j) S
  | _ => .stuck
omit CM in
@[simp] theorem slO_dat (d : D) (S : List Ce) : slO (some (.dat d)) S = .ok (.dat d) S := rfl
def mFld (cs : List Nat) (f : Str) (a : ME) : ME := fun ρ S => (a ρ S).bind fun x S1 => match insS x S1 with
  | some (C, fs) => bif cs.contains C then slO (fs.lookup f) S1 else .stuck
  | none => .stuck
theorem AtFs.toSs {K : PySem.W.Frag} {G : Hp} {ps : List Addr} : ∀ {vs : List (Str × V)} {fs : List (Str × D)}, AtFs K G vs fs → AtSs K G ps vs (fs.map fun p => (p.1, Sl.dat p.2))
  | _, _, .nil => .nil
  | _, _, .cons a b => .cons (.dat a) (AtFs.toSs b)
theorem insS_ok {K : PySem.W.Frag} {F : Fx} {G H : Hp} {ps : List Addr} {ρ : List Sl} {S : List Ce} {σ : L2.St} (o : SOk K F G ps ρ S σ H) {v : V} {x : Sl} {C : Nat} {fs : List (Str × Sl)} (a : AtA K G ps v x) (e : insS x S = some (C, fs)) :
    ∃ p dx vs, v = .ref p ∧ H p = some (.ins (CM.A C) dx vs) ∧ AtSs K G ps vs fs := by
  cases a with
  | dat a =>
    cases a with
    | ins h hs => cases e; exact ⟨_, _, _, rfl, o.sub _ _ h, hs.toSs⟩
    | _ => cases e
  | @own p j hp =>
    unfold insS at e
    dsimp only at e
    cases es : S[j]? with
    | none => rw [es] at e; cases e
    | some cl =>
      rw [es] at e
      cases cl with
      | ins C' fs' =>
        cases e
        obtain ⟨_, dx, vs, h1, h2⟩ := o.cell j p _ hp es
        exact ⟨p, dx, vs, rfl, h1, h2⟩
      | _ => cases e
section
variable {c : Cz} {e v : Expr} {f : Str} {a b : ME} {pos pos' : Pos} {cs : List Nat}
theorem de_fld (hc : ∀ C, C ∈ cs → FldC c.X.K f C) (ha : DE c e a) (hb : attributeBase e f c.X.env (eval e c.X.env) = eval e c.X.env := by rfl) : DE c (.Attribute e f pos) (mFld cs f a) := fun ρ S σ G ps H k o q =>
  ⟨_, pe_fld we_pe hb, ha _ _ _ _ _ _ _ o (Sat.bind q fun x S1 v1 G1 ps1 H1 o1 e1 p1 a1 q => by
    cases ei : insS x S1 with
    | none => rw [ei] at q; exact q.elim
    | some r =>
      obtain ⟨C, fs⟩ := r
      rw [ei] at q
      dsimp only at q
      cases hm : cs.contains C with
      | false => rw [hm] at q; exact q.elim
      | true =>
        rw [hm] at q
        obtain ⟨p, dx, vs, rfl, h1, h2⟩ := insS_ok o1 a1 ei
        obtain ⟨cl, na⟩ := hc C (by simpa using hm)
        dsimp only [cond] at q
        cases el : fs.lookup f with
        | none => rw [el] at q; exact q.elim
        | some sl =>
          rw [el] at q
          obtain ⟨u, h3, h4⟩ := h2.look el
          refine ⟨p, _, dx, vs, u, rfl, h1, cl, na, h3, ?_⟩
          cases sl with
          | dat d => exact q.ok o1 h4
          | own j => exact q.ok o1 h4
          | no => exact q.elim
          | err _ _ => exact q.elim)⟩
/-- o.f = e -/
def putS (f : Str) (v : Sl) : List (Str × Sl) → List (Str × Sl)
  | [] => [(f, v)]
  | (g, x) :: r => if g = f then (g, v) :: r else (g, x) :: putS f v r
def gFld (cs : List Nat) (f : Str) (a b : ME) : MS := fun ρ S => (b ρ S).toS ρ fun y S1 => (a ρ S1).toS ρ fun x S2 => match x with
  | .own j => match S2[j]? with
    | some (.ins C fs) => bif cs.contains C && fs.length.blt 1000 then .nx ρ (S2.set j (.ins C (putS f y fs))) else .stuck
    | _ => .stuck
  | _ => .stuck
theorem AtSs.len {K : PySem.W.Frag} {G : Hp} {ps : List Addr} : ∀ {vs : List (Str × V)} {fs : List (Str × Sl)}, AtSs K G ps vs fs → vs.length = fs.length
  | _, _, .nil => rfl
  | _, _, .cons a b => by rw [List.length_cons, List.length_cons, AtSs.len b]
theorem AtSs.put {K : PySem.W.Frag} {G : Hp} {ps : List Addr} {f : Str} {u : V} {y : Sl} (a : AtA K G ps u y) {vs : List (Str × V)} {fs : List (Str × Sl)} (h : AtSs K G ps vs fs) : AtSs K G ps (putF f u vs) (putS f y fs) := by
  induction h with
  | nil => exact .cons a .nil
  | @cons g v vs z as h t ih =>
    show AtSs K G ps (if g = f then (g, u) :: vs else (g, v) :: putF f u vs) (if g = f then (g, y) :: as else (g, z) :: putS f y as)
    by_cases e : g = f
    · rw [if_pos e, if_pos e]; exact .cons a t
    · rw [if_neg e, if_neg e]; exact .cons h ih
theorem d1_fld (hc : ∀ C, C ∈ cs → FldC c.X.K f C) (ha : DE c e a) (hb : DE c v b) (hs : swapsWith v (some (.Attribute e f pos')) pos.line c.X.env = pure false := by rfl) : D1 c (.Assign [.Attribute e f pos'] v pos) (gFld cs f a b) := fun ρ S σ G ps H E o q =>
  ⟨_, ps_fld we_pe we_pe hs, hb _ _ _ _ _ _ _ o (Sat.toS q fun y S1 v1 G1 ps1 H1 o1 e1 p1 a1 q => ha _ _ _ _ _ _ _ o1 (Sat.toS q fun x S2 v2 G2 ps2 H2 o2 e2 p2 a2 q => by
    cases a2 with
    | dat a => exact q.elim
    | @own p j hp =>
      dsimp only at q
      cases es : S2[j]? with
      | none => rw [es] at q; exact q.elim
      | some cl =>
        rw [es] at q
        cases cl with
        | gone => exact q.elim
        | lst _ => exact q.elim
        | dct _ => exact q.elim
        | ins C fs =>
          dsimp only at q
          cases hm : cs.contains C && fs.length.blt 1000 with
          | false => rw [hm] at q; exact q.elim
          | true =>
            rw [hm] at q
            rw [Bool.and_eq_true] at hm
            obtain ⟨cl, na⟩ := hc C (by simpa using hm.1)
            obtain ⟨g0, dx, vs, h1, h2⟩ := o2.cell j p _ hp es
            refine ⟨p, _, dx, vs, rfl, h1, cl, na, ?_, ?_⟩
            · rw [h2.len]; exact Nat.blt_eq.mp hm.2
            · refine q _ G2 ps2 _ (o2.wr hp es g0 ⟨g0, dx, _, upd_same, AtSs.put (a1.mono e2 p2) h2⟩) (Ex.refl _) (List.prefix_refl _)))⟩
end
/-! ### making -/
/-- C(e, .., k = v, ..): a new object, then __init__ -/
def mMake (C : Nat) (gD : List Sl → List Sl → List Sl) (F : MF) (a b : MA') : ME := fun ρ S => (a ρ S).bind fun xs S1 => (b ρ S1).bind fun ys S2 => (F (gD (.own S2.length :: xs) ys) (S2 ++ [.ins C []])).bind fun r S3 => match r with
  | .dat .non => .ok (.own S2.length) S3
  | _ => .stuck
/-- the class x and its __init__, for one form of calls -/
def MkC (P : Program) (w : World) (K : PySem.W.Frag) (mg : Str → Option Value) (base : Heap) (k : Nat) (x : Str) (C : Nat) (n : Nat) (ks : List Str) (gD : List Sl → List Sl → List Sl) (F : MF) : Prop :=
  ∃ f : Addr, RunK P w K mg base k f (n + 1) ks gD F ∧ Mk K (CM.A C) f ∧ mg x = some (.ref (CM.A C))
section
variable {c : Cz} {k n m C : Nat} {x : Str} {f : Addr} {es : List Expr} {kws : List Keyword} {ks : List Str} {gD : List Sl → List Sl → List Sl} {F : MF} {fa fb : MA'} {p1 pos : Pos}
theorem de_make (M : MkC c.X.prog c.X.w c.X.K c.X.mg c.X.base k x C n ks gD F) (hr : Room (k + 1) c.X.A) (hA : ArgsOk c es fa) (hK : DK c kws fb) [LenA fa n] [LenA fb ks.length] (hg : Gl c.X x := by rfl) (hdb : (x == ("__debug__" : Str)) = false := by decide)
    (hall : (backToKw pos (keywordEach kws c.X.env)).all (·.1.isSome) = true := by rfl) (hks : (backToKw pos (keywordEach kws c.X.env)).filterMap (·.1) = ks := by rfl)
    (hpl : ((backTo pos (starEach es c.X.env)).any (·.1) || (backToKw pos (keywordEach kws c.X.env)).any (·.1.isNone)) = false := by rfl) : DE c (.Call (.Name x p1) es kws pos) (mMake C gD F fa fb) := fun ρ S σ G ps H kk o q => by
  obtain ⟨f, R, M, hm⟩ := M
  refine ⟨fun σ' H' Q => σ' = σ ∧ H' = H ∧ Q = kk, ⟨fun pins s σ' H' Q I ⟨e1, e2, e3⟩ => ?_⟩, rfl, rfl, rfl⟩
  subst e1; subst e2; subst e3
  refine wpAny_Call_Name_kw (ld_glob I hg hm (cw_run (first := []) (rest := fun xs ys S2 => (F (gD (.own S2.length :: xs) ys) (S2 ++ [.ins C []])).bind fun r S3 => match r with
    | .dat .non => .ok (.own S2.length) S3
    | _ => .stuck) M.kp hA hK hall hks hpl I o q ?_) hdb)
  intro us ws s2 vs zs xs ys S2 G2 ps2 H2 I2 r1 r2 o2 e2 p2 a1 a2 l1 l2 q2
  have f1 : H2 s2.heap.objs.size = none := I2.hok.fresh (Nat.le_refl _)
  have f2 : H2 (s2.heap.objs.size + 1) = none := I2.hok.fresh (Nat.le_succ _)
  have ne : s2.heap.objs.size ≠ s2.heap.objs.size + 1 := Nat.ne_of_lt (Nat.lt_succ_self _)
  have I3 := Inv.made (C := CM.A C) I2
  have f3 : upd H2 s2.heap.objs.size (.own (s2.heap.objs.size + 1)) (s2.heap.objs.size + 1) = none := by rw [upd_ne (Ne.symm ne)]; exact f2
  have o3 := (o2.more (u := .own (s2.heap.objs.size + 1)) f1).push (u := .ins (CM.A C) s2.heap.objs.size []) (cl := .ins C []) f3 ⟨o2.sub.back f2, _, _, upd_same, .nil⟩
  have pp : ps2 <+: ps2 ++ [s2.heap.objs.size + 1] := List.prefix_append _ _
  have at_ : (ps2 ++ [s2.heap.objs.size + 1])[S2.length]? = some (s2.heap.objs.size + 1) := by rw [← o2.plen]; simp
  have aN : AtAs c.X.K G2 (ps2 ++ [s2.heap.objs.size + 1]) (.ref (s2.heap.objs.size + 1) :: vs) (.own S2.length :: xs) := .cons (.own at_) (AtAs.mono (Ex.refl _) pp a1)
  refine wpAny_call (make_map (f := f) I2.kIn M.makes M.init (beq_iff_eq.mp M.fn) (codeAny_mono (R _ c.X.stack _ _ (.ref (s2.heap.objs.size + 1) :: us) ws (.ref (s2.heap.objs.size + 1) :: vs) zs (fun v H3 => v = .non ∧ Q (.ref (s2.heap.objs.size + 1)) H3) (fun cls d H => c.W cls d σ' H)
    G2 _ _ (.own S2.length :: xs) ys (hr.make (CM.A C) us (ks.zip ws)) (I3.env0.make (CM.A C) us (ks.zip ws)) (.cons rfl r1) r2 (by rw [List.length_cons, l1]) l2 o3.ent' aN (AtAs.mono (Ex.refl _) pp a2) ?_) fun r s' hq => ?_))
  · -- the promise
    have q3 := Sat.mono q2 (Ex.refl G2) pp
    cases ef : F (gD (.own S2.length :: xs) ys) (S2 ++ [.ins C []]) with
    | stuck => rw [ef] at q3; exact q3
    | exc i pl S3 => rw [ef] at q3; exact fun dd G' ps' H' o' a => q3 dd G' ps' H' (o3.ret o') o'.base o'.pre a
    | ok r S3 =>
      rw [ef] at q3
      intro v G' ps' H' o' a
      cases a with
      | own _ => exact q3.elim
      | @dat _ d a =>
        cases d with
        | non =>
          cases a
          exact ⟨rfl, q3 _ G' ps' H' (o3.ret o') o'.base o'.pre (.own (pre_get o'.pre at_))⟩
        | _ => exact q3.elim
  · cases r with
    | error e => exact passAt c.tk _ pins _ _ e s' I3 hq
    | ok fl =>
      cases fl with
      | ret u =>
        obtain ⟨v, H', I4, rv, ev, q4⟩ := I3.after hq
        subst ev
        exact ⟨rv, ⟨V.ref (s2.heap.objs.size + 1), H', I4, rfl, q4⟩⟩
      | next => exact False.elim hq
      | brk => exact False.elim hq
      | cont => exact False.elim hq
end
/-! ### methods and properties -/
/-- a class's method, for one form of calls -/
def MtC (P : Program) (w : World) (K : PySem.W.Frag) (mg : Str → Option Value) (base : Heap) (k : Nat) (C : Nat) (m : Str) (n : Nat) (ks : List Str) (gD : List Sl → List Sl → List Sl) (F : MF) : Prop :=
  ∃ f : Addr, RunK P w K mg base k f (n + 1) ks gD F ∧ Meth K (CM.A C) m f ∧ Cls K (CM.A C)
def hasF (f : Str) (fs : List (Str × Sl)) : Bool := (fs.lookup f).isSome
/-- o.m(e, .., k = v, ..), by o's class -/
def mMeth (m : Str) (tbl : List (Nat × ((List Sl → List Sl → List Sl) × MF))) (t : ME) (a b : MA') : ME := fun ρ S => (t ρ S).bind fun x S0 => match insS x S0 with
  | some (C, fs) => bif hasF m fs then .stuck else match tbl.lookup C with
    | some gF => (a ρ S0).bind fun xs S1 => (b ρ S1).bind fun ys S2 => gF.2 (gF.1 (x :: xs) ys) S2
    | none => .stuck
  | none => .stuck
section
variable {c : Cz} {k n : Nat} {m : Str} {t : Expr} {es : List Expr} {kws : List Keyword} {ks : List Str} {tbl : List (Nat × ((List Sl → List Sl → List Sl) × MF))} {ft : ME} {fa fb : MA'} {pos apos : Pos}
theorem lookup_mem {α : Type} {l : List (Nat × α)} {i : Nat} {x : α} (h : l.lookup i = some x) : (i, x) ∈ l := by
  induction l with
  | nil => cases h
  | cons y l ih =>
    obtain ⟨j, y⟩ := y
    simp only [List.lookup] at h
    cases e : i == j with
    | true => rw [e] at h; cases h; rw [beq_iff_eq.mp e]; exact List.mem_cons_self
    | false => rw [e] at h; exact List.mem_cons_of_mem _ (ih h)
theorem de_meth {pl : Sem Bool} (ht : DE c t ft) (hT : ∀ C gF, (C, gF) ∈ tbl → MtC c.X.prog c.X.w c.X.K c.X.mg c.X.base k C m n ks gF.1 gF.2) (hr : Room k c.X.A) (hA : ArgsOk c es fa) (hK : DK c kws fb) [LenA fa n] [LenA fb ks.length]
    (hall : (backToKw pos (keywordEach kws c.X.env)).all (·.1.isSome) = true := by rfl) (hks : (backToKw pos (keywordEach kws c.X.env)).filterMap (·.1) = ks := by rfl)
    (hpl : ((backTo pos (starEach es c.X.env)).any (·.1) || (backToKw pos (keywordEach kws c.X.env)).any (·.1.isNone)) = false := by rfl)
    (he : eval (.Call (.Attribute t m apos) es kws pos) c.X.env = (do
      let ov ← eval t c.X.env
      standAt apos.atName
      let (f, first) ← holding [ov] (getMethod ov m pl)
      callWith pos f first (backTo pos (starEach es c.X.env)) (backToKw pos (keywordEach kws c.X.env))) := by rfl) : DE c (.Call (.Attribute t m apos) es kws pos) (mMeth m tbl ft fa fb) := fun ρ S σ G ps H kk o q => by
  refine ⟨fun σ' H' Q => σ' = σ ∧ H' = H ∧ Q = kk, ⟨fun pins s σ' H' Q I ⟨e1, e2, e3⟩ => ?_⟩, rfl, rfl, rfl⟩
  subst e1; subst e2; subst e3
  have w0 := ht ρ S _ G ps _ (fun v H1 => ∃ x S0 G1 ps1, SOk c.X.K c.F G1 ps1 ρ S0 _ H1 ∧ Ex G G1 ∧ ps <+: ps1 ∧ AtA c.X.K G1 ps1 v x ∧ Sat c G1 ps1 ρ _ (RA c) _ (match insS x S0 with
    | some (C, fs) => bif hasF m fs then RE.stuck else match tbl.lookup C with
      | some gF => (fa ρ S0).bind fun xs S1 => (fb ρ S1).bind fun ys S2 => gF.2 (gF.1 (x :: xs) ys) S2
      | none => .stuck
    | none => .stuck)) o (Sat.bind q fun x S0 v G1 ps1 H1 o1 e1 p1 a1 q => ⟨x, S0, G1, ps1, o1, e1, p1, a1, q⟩)
  refine PySem.W.methodCall_KW (pl := pl) (thn (we_pe.run pins s _ _ _ I w0) fun u s1 ⟨v, H1, I1, rx, x, S0, G1, ps1, o1, e1, p1, a1, q1⟩ => ?_) he
  cases ei : insS x S0 with
  | none => rw [ei] at q1; exact q1.elim
  | some r =>
    obtain ⟨C, fs⟩ := r
    rw [ei] at q1
    dsimp only at q1
    obtain ⟨p, dx, vs, rfl, h1, h2⟩ := insS_ok o1 a1 ei
    obtain rfl : u = Value.ref p := rx
    cases hf : hasF m fs with
    | true => rw [hf] at q1; exact q1.elim
    | false =>
      rw [hf] at q1
      dsimp only [cond] at q1
      cases el : tbl.lookup C with
      | none => rw [el] at q1; exact q1.elim
      | some gF =>
        rw [el] at q1
        obtain ⟨f, R, M, cl⟩ := hT C gF (lookup_mem el)
        have ln : vs.lookup m = none := h2.none_of (by simpa [hasF] using hf)
        refine getmeth_ok I1 h1 cl M ln ?_
        refine cw_run (first := [.ref p]) (rest := fun xs ys S2 => gF.2 (gF.1 (x :: xs) ys) S2) M.kp hA hK hall hks hpl I1 o1 q1 ?_
        intro us ws s2 vs zs xs ys S2 G2 ps2 H2 I2 r1 r2 o2 e2 p2 b1 b2 l1 l2 q2
        exact wpAny_call (run_K R hr I2.env0 (fun e s' z => passAt c.tk _ pins _ _ e s' I2 z) I2 (us := .ref p :: us) (vs := .ref p :: vs) (.cons rfl r1) r2 (xs := x :: xs) (by rw [List.length_cons, l1]) l2 o2 (.cons (a1.mono e2 p2) b1) b2 q2)
omit CM in
theorem xe_false {X : Cx} {u : Value} {s' : Shared} (x : XE X (fun _ _ _ _ => False) u s') : False := by
  obtain ⟨_, _, _, _, _, _, _, _, _, _, _, _, _, _, _, _, z⟩ := x
  exact z.elim
/-- a class's property -/
def PrC (P : Program) (w : World) (K : PySem.W.Frag) (mg : Str → Option Value) (base : Heap) (k : Nat) (C : Nat) (f : Str) (F : MF) : Prop :=
  ∃ p g : Addr, RunK P w K mg base k g 1 [] (fun as _ => as) F ∧ PropOf K (CM.A C) f p g ∧ Cls K (CM.A C)
/-- o.f, a property, by o's class -/
def mProp (tbl : List (Nat × MF)) (t : ME) : ME := fun ρ S => (t ρ S).bind fun x S0 => match insS x S0 with
  | some (C, _) => match tbl.lookup C with
    | some F => (F [x] S0).noX
    | none => .stuck
  | none => .stuck
theorem de_prop {f : Str} {tbl : List (Nat × MF)} (ht : DE c t ft) (hT : ∀ C F, (C, F) ∈ tbl → PrC c.X.prog c.X.w c.X.K c.X.mg c.X.base k C f F) (hr : Room (k + 1) c.X.A) (hb : attributeBase t f c.X.env (eval t c.X.env) = eval t c.X.env := by rfl) : DE c (.Attribute t f pos) (mProp tbl ft) := fun ρ S σ G ps H kk o q => by
  refine ⟨fun σ' H' Q => σ' = σ ∧ H' = H ∧ Q = kk, ⟨fun pins s σ' H' Q I ⟨e1, e2, e3⟩ => ?_⟩, rfl, rfl, rfl⟩
  subst e1; subst e2; subst e3
  have w0 := ht ρ S _ G ps _ (fun v H1 => ∃ x S0 G1 ps1, SOk c.X.K c.F G1 ps1 ρ S0 _ H1 ∧ AtA c.X.K G1 ps1 v x ∧ Sat c G1 ps1 ρ _ (RA c) _ (match insS x S0 with
    | some (C, _) => match tbl.lookup C with
      | some F => (F [x] S0).noX
      | none => .stuck
    | none => .stuck)) o (Sat.bind q fun x S0 v G1 ps1 H1 o1 e1 p1 a1 q => ⟨x, S0, G1, ps1, o1, a1, q⟩)
  refine attr_of hb (thn (we_pe.run pins s _ _ _ I w0) fun u s1 ⟨v, H1, I1, rx, x, S0, G1, ps1, o1, a1, q1⟩ => ?_)
  cases ei : insS x S0 with
  | none => rw [ei] at q1; exact q1.elim
  | some r =>
    obtain ⟨C, fs⟩ := r
    rw [ei] at q1
    dsimp only at q1
    obtain ⟨a, dx, vs, rfl, h1, h2⟩ := insS_ok o1 a1 ei
    obtain rfl : u = Value.ref a := rx
    cases el : tbl.lookup C with
    | none => rw [el] at q1; exact q1.elim
    | some F =>
      rw [el] at q1
      dsimp only at q1
      obtain ⟨p, g, R, hp, cl⟩ := hT C F (lookup_mem el)
      obtain ⟨mA, O, _, _, _, _⟩ := ins_get I1.hok h1
      obtain ⟨od, J, _⟩ := O.look
      obtain ⟨rest, hrec⟩ := hp.rec_
      have I2 := I1.tok (s1.toks + 1)
      have hc : (PySem.W.clsIn c.X.K (CM.A C)).isSome = true := by
        obtain ⟨cd, hc, _⟩ := PySem.W.any_some cl.hd
        rw [hc]
        rfl
      refine PySem.W.get_bind I1.kIn J (PySem.W.plainGet_of (cl.get f)).1 (PySem.W.findObj_data hc hp.at_ hp.get hp.tak) (PySem.W.plainGet_of (cl.get f)).2 (wpAny_call (PySem.W.prop_get (s := { s1 with toks := s1.toks + 1 }) I1.kIn hrec ?_))
      have q2 : Ret c.X.K ps1 H1 G1 Q (fun _ _ _ => False) (F [x] S0) := by
        cases ef : F [x] S0 with
        | stuck => rw [ef] at q1; exact q1
        | exc i pl S3 => rw [ef] at q1; exact q1.elim
        | ok r S3 => rw [ef] at q1; exact fun v G' ps' H' o' a => q1 v G' ps' H' (o1.ret o') o'.base o'.pre a
      refine codeAny_mono (R c.X.A.in1 c.X.stack { s1 with toks := s1.toks + 1 } H1 [.ref a] [] [.ref a] [] Q (fun _ _ _ => False) G1 ps1 S0 [x] [] hr.in1 I2.env0.in1 (.cons rfl .nil) .nil rfl rfl o1.ent' (.cons a1 .nil) .nil q2) fun r s' hq => ?_
      cases r with
      | error er => exact (xe_false (XE.of_call (W := fun _ _ _ _ => False) I2 (fun _ _ _ h => h) hq)).elim
      | ok fl =>
        cases fl with
        | ret u =>
          obtain ⟨v, H', I3, rv, q3⟩ := I2.after hq
          show wpAny _ _ (handedOut u) _ _ _
          rw [PySem.W.handedOut_of (handed_of rv)]
          exact wpAny_pure ⟨v, H', I3, rv, q3⟩
        | next => exact False.elim hq
        | brk => exact False.elim hq
        | cont => exact False.elim hq
end
end Mir

/-! Operators of classes of one's own. -/
namespace PySem.W
open PySem PySem.Calls PyProof.Rows
theorem ne_K {prog : Program} {w : World} {A : Around} {E : Value → Shared → Prop} {s : Shared} {K : Frag} {x C L f : Addr} {h₀ : Heap} {m : Str → Option Value} {ox : Obj} {od : Option Obj} {b tb : Value} {Q : Value → Shared → Prop}
    (hu : A.units + 1 < cLine) (F : Fr h₀ L s.heap m) (X₀ : K.In h₀) (I : InstAt s.heap x ox C od) (hb : Looks (model prog w) s.heap (typeOf b) tb) (hn : notFirst K C tb = true)
    (hne : findIn K (.ref C) "__ne__" = some (some (.builtin "object.__ne__"))) (hob : subIn K (.ref C) (.type "object") = some true) (hs : findIn K (.ref C) "__eq__" = some (some (.ref f))) (hf : isFn K (.ref f) = true)
    (h : wpAny (model prog w) A.in1 (call (.ref f) [.ref x, b]) (fun v s' => ∃ r, v = .bool r ∧ Q (.bool (!r)) s') E s) : wpAny (model prog w) A (richCompare .NotEq (.ref x) b) Q E s := by
  have X := X₀.keeps F.keep
  have hsub : Looks (model prog w) s.heap (isSubtype (.ref C) (.type "object")) true := looks_subIn X hob
  have entry : wpAny (model prog w) A.in1 (Builtin.«object.__ne__» ⟨[.ref x, b], []⟩) (fun fin s' => ∃ r, fin = .done (.ret (.bool (!r))) ∧ Q (.bool (!r)) s') E s := by
    unfold Builtin.«object.__ne__»
    refine wpAny_bind (wpAny_pure (wpAny_bind (wpAny_cRoomFor (show A.in1.units < cLine from hu) (wpAny_bind (ifBound_K X I hs hf (wpAny_mono h (fun v s' hv => ?_) fun _ _ e => e))))))
    obtain ⟨r, rfl, q⟩ := hv
    exact wpAny_bind (wpAny_truthy_bool (wpAny_pure ⟨r, rfl, q⟩))
  have one : wpAny (model prog w) A (tryCompare (.ref x) "__ne__" b) (fun r s' => ∃ v, r = some v ∧ Q v s') E s := by
    unfold tryCompare
    refine wpAny_bind ?_
    simp only [callSpecialIfBound?, bindSpecialIfBound?]
    refine wpAny_holding (wpAny_bind (wpAny_bind (wpAny_bind (I.type.here ((looks_findIn X hne).here ?_)))))
    refine wpAny_bind (wpAny_askSetting (wpAny_ite ?_))
    have fin : wpAny (model prog w) A (call (.builtin "object.__ne__") ([.ref x] ++ [b]) >>= fun v => pure (some v)) (fun r s' => wpAny (model prog w) A (match r with
        | some Value.notImplemented => pure none
        | none => pure none
        | some v => pure (some v)) (fun r s' => ∃ v, r = some v ∧ Q v s') E s') E s := by
      refine wpAny_bind (wpAny_call (codeAny_call_builtin PySem.F.cmp_object.ne.plain PySem.F.cmpEntry_ne ?_))
      simp only [checkBuiltinCall, PySem.F.cmpKind_ne, PySem.F.cmpSplit_ne]
      refine wpAny_bind ?_
      unfold isInstance
      refine wpAny_bind (I.type.here (hsub.here ?_))
      rw [if_neg (by decide)]
      have fin2 : wpAny (model prog w) A.in1 (Builtin.«object.__ne__» ⟨[.ref x, b], []⟩) (fun fin s' => match fin with
          | .done f => (match (Except.ok f : Result) with
            | .ok (.ret v) => (fun v s' => wpAny (model prog w) A (pure (some v)) (fun r s' => wpAny (model prog w) A (match r with
                | some Value.notImplemented => pure none
                | none => pure none
                | some v => pure (some v)) (fun r s' => ∃ v, r = some v ∧ Q v s') E s') E s') v s'
            | .ok _ => False
            | .error e => E e s')
          | .again c' => c'.quiet = true ∧ codeAny (model prog w) A c' (fun r s' => match r with
            | .ok (.ret v) => (fun v s' => wpAny (model prog w) A (pure (some v)) (fun r s' => wpAny (model prog w) A (match r with
                | some Value.notImplemented => pure none
                | none => pure none
                | some v => pure (some v)) (fun r s' => ∃ v, r = some v ∧ Q v s') E s') E s') v s'
            | .ok _ => False
            | .error e => E e s') s') E s := by
        refine wpAny_mono entry (fun fin s' hq => ?_) fun _ _ e => e
        obtain ⟨r, rfl, q⟩ := hq
        exact wpAny_pure (wpAny_pure ⟨_, rfl, q⟩)
      have hsig := PySem.F.cmpArgs_ne (.ref x) b
      cases hsg : Manifest.signature? "object.__ne__" with
      | none => exact wpAny_pure fin2
      | some sig =>
        simp only [argsOk, hsg] at hsig
        have h2 : Bind.checkArgs "object.__ne__" sig ⟨[Value.ref x] ++ [b], []⟩ = pure () := hsig
        show wpAny _ _ (Bind.checkArgs "object.__ne__" sig ⟨[Value.ref x] ++ [b], []⟩) _ _ _
        rw [h2]; exact wpAny_pure fin2
    split
    · exact wpAny_bind (wpAny_of_eq (PySem.F.cmp_object.ne.bind (.ref x)) (wpAny_pure (by exact fin)))
    · exact wpAny_tryCatch (wpAny_bind (wpAny_of_eq (PySem.F.cmp_object.ne.bind (.ref x)) (wpAny_pure (by exact fin))))
  unfold richCompare
  simp only [oneThing_ref]
  refine wpAny_holding (wpAny_bind (wpAny_cRoomFor (Nat.lt_of_succ_lt hu) ?_))
  refine wpAny_bind (I.type.here (wpAny_bind (hb.here ?_)))
  split
  · rename_i q
    have e : subIn K tb (.ref C) = some false := by
      rcases Bool.or_eq_true_iff.mp hn with e | e
      · rw [beq_iff_eq.mp e] at q; simp at q
      · exact beq_iff_eq.mp e
    refine wpAny_bind ((looks_subIn X e).here ?_)
    simp only [Bool.false_eq_true, if_false]
    refine wpAny_bind (wpAny_mono one (fun r s' z => ?_) fun _ _ e => e)
    obtain ⟨v, rfl, hq⟩ := z
    exact wpAny_pure hq
  · refine wpAny_bind (wpAny_pure ?_)
    simp only [Bool.false_eq_true, if_false]
    refine wpAny_bind (wpAny_mono one (fun r s' z => ?_) fun _ _ e => e)
    obtain ⟨v, rfl, hq⟩ := z
    exact wpAny_pure hq
end PySem.W
namespace Mir
open PySem PySem.Spec L2
variable [CM : ClsMap]
/-! ### the type of a value -/
def tyV : Nat → Value
  | 0 => .type "NoneType" | 1 => .type "bool" | 2 => .type "int" | 3 => .type "str" | 4 => .type "list" | 5 => .type "tuple" | 6 => .type "dict"
  | n + 7 => .ref (CM.A n)
omit CM in
def tagD : D → Option Nat
  | .non => some 0 | .bl _ => some 1 | .int _ => some 2 | .str _ => some 3 | .lst _ => some 4 | .sq _ => some 4 | .tup _ => some 5 | .dct _ => some 6 | .ins C _ => some (C + 7) | _ => none
omit CM in
def tagS (x : Sl) (S : List Ce) : Option Nat := match x with
  | .dat d => tagD d
  | .own j => match S[j]? with
    | some (.lst _) => some 4
    | some (.dct _) => some 6
    | some (.ins C _) => some (C + 7)
    | _ => none
  | _ => none
section
variable {X : Cx} {pins : List (Addr × Obj)} {σ : L2.St} {H : Hp} {s : Shared}
omit CM in
theorem looks_cls {M : Model} {h : Heap} {a : Addr} {o : Obj} {c : Value} (e : h.get? a = some o) (hc : o.cls = c) : PySem.W.Looks M h (typeOf (.ref a)) c := fun A Q E s k q => wpAny_typeOf_ref (k _ _ e) (by rw [hc]; exact q)
omit CM in
theorem looks_ho {M : Model} (I : Inv X pins σ H s) {a : Addr} {u : HO} {c : Value} (e : H a = some u ∨ ∃ o, H a = some (.frz o u)) (h : (∃ xs, u = .lst xs ∧ c = .type "list") ∨ (∃ xs, u = .tup xs ∧ c = .type "tuple") ∨ (∃ xs, u = .dK xs ∧ c = .type "dict" ∧ H a = some u)) : PySem.W.Looks M s.heap (typeOf (.ref a)) c := by
  rcases h with ⟨xs, rfl, rfl⟩ | ⟨xs, rfl, rfl⟩ | ⟨xs, rfl, rfl, ea⟩
  · rcases e with ea | ⟨o, ea⟩
    · obtain ⟨_, _, n, _, h1⟩ := (show ObjOk X.prog X.w H s.heap a (.lst xs) from I.hok a _ ea)
      exact looks_cls h1 rfl
    · obtain ⟨_, _, _, n, _, h1⟩ := (show ObjOk X.prog X.w H s.heap a (.frz o (.lst xs)) from I.hok a _ ea)
      exact looks_cls h1 rfl
  · rcases e with ea | ⟨o, ea⟩
    · obtain ⟨_, _, _, p⟩ := (show ObjOk X.prog X.w H s.heap a (.tup xs) from I.hok a _ ea)
      obtain ⟨o, h1, h2, _⟩ := p
      exact looks_cls h1 h2
    · have z := (show ObjOk X.prog X.w H s.heap a (.frz o (.tup xs)) from I.hok a _ ea)
      obtain ⟨e1, z⟩ := z
      obtain ⟨_, _, _, p⟩ := z
      obtain ⟨o, h1, h2, _⟩ := p
      exact looks_cls h1 h2
  · obtain ⟨_, _, vs, _, p⟩ := (show ObjOk X.prog X.w H s.heap a (.dK xs) from I.hok a _ ea)
    obtain ⟨o, es, ep, h1, h2, _⟩ := p
    exact looks_cls h1 h2.1
theorem tag_looks {M : Model} {F : Fx} {G : Hp} {ps : List Addr} {ρ : List Sl} {S : List Ce} (I : Inv X pins σ H s) (o : SOk X.K F G ps ρ S σ H) {v : V} {x : Sl} {u : Value} {t : Nat} (a : AtA X.K G ps v x) (r : RelV v u) (e : tagS x S = some t) : PySem.W.Looks M s.heap (typeOf u) (tyV t) := by
  cases a with
  | dat a =>
    cases a with
    | non => cases e; cases r; exact PySem.W.Looks.of_pure rfl
    | bl b => cases e; cases r; exact PySem.W.Looks.of_pure rfl
    | int i => cases e; obtain ⟨t, rfl⟩ := (show ∃ t, u = Value.int i t from r); exact PySem.W.Looks.of_pure rfl
    | str i => cases e; obtain ⟨t, rfl⟩ := (show ∃ t, u = Value.str i t from r); exact PySem.W.Looks.of_pure rfl
    | ty n => cases e
    | obj k => cases e
    | @lst a xs ds h hs => cases e; cases (show u = Value.ref a from r); exact looks_ho I (.inl (o.sub _ _ h)) (.inl ⟨_, rfl, rfl⟩)
    | @dct a xs ds h hs => cases e; cases (show u = Value.ref a from r); exact looks_ho I (.inl (o.sub _ _ h)) (.inr (.inr ⟨_, rfl, rfl, o.sub _ _ h⟩))
    | @sq a xs ds h hs =>
      cases e; cases (show u = Value.ref a from r)
      rcases h with h | ⟨b, its, n, hl, h1, h2, _⟩
      · rcases h with h | ⟨b, h⟩
        · exact looks_ho I (.inl (o.sub _ _ h)) (.inl ⟨_, rfl, rfl⟩)
        · exact looks_ho I (.inr ⟨b, o.sub _ _ h⟩) (.inl ⟨_, rfl, rfl⟩)
      · exact looks_cls (I.kIn _ _ hl) h1
    | @tup a xs ds h hs =>
      cases e; cases (show u = Value.ref a from r)
      rcases h with h | ⟨b, its, n, hl, h1, h2, _⟩
      · rcases h with h | ⟨b, h⟩
        · exact looks_ho I (.inl (o.sub _ _ h)) (.inr (.inl ⟨_, rfl, rfl⟩))
        · exact looks_ho I (.inr ⟨b, o.sub _ _ h⟩) (.inr (.inl ⟨_, rfl, rfl⟩))
      · exact looks_cls (I.kIn _ _ hl) h1
    | @ins a dx C fs ds h hs =>
      cases e; cases (show u = Value.ref a from r)
      obtain ⟨mA, O, _⟩ := ins_get I.hok (o.sub _ _ h)
      obtain ⟨od, J, _⟩ := O.look
      exact J.type
  | @own p j hp =>
    cases (show u = Value.ref p from r)
    unfold tagS at e
    dsimp only at e
    cases es : S[j]? with
    | none => rw [es] at e; cases e
    | some cl =>
      rw [es] at e
      have z := o.cell j p _ hp es
      cases cl with
      | gone => cases e
      | lst ds => cases e; obtain ⟨_, vs, h1, _⟩ := z; exact looks_ho I (.inl h1) (.inl ⟨_, rfl, rfl⟩)
      | dct ds => cases e; obtain ⟨_, vs, h1, _⟩ := z; exact looks_ho I (.inl h1) (.inr (.inr ⟨_, rfl, rfl, h1⟩))
      | ins C fs =>
        cases e
        obtain ⟨_, dx, vs, h1, _⟩ := z
        obtain ⟨mA, O, _⟩ := ins_get I.hok h1
        obtain ⟨od, J, _⟩ := O.look
        exact J.type
end
omit CM in
theorem tagS_ty {x : Sl} {S : List Ce} {t : Nat} (e : tagS x S = some t) : True := trivial
/-- a value whose type is a built-in one that is no object's -/
theorem ty_pure {K : PySem.W.Frag} {G : Hp} {ps : List Addr} {S : List Ce} {v : V} {x : Sl} {u : Value} {t : Nat} {T : String} (r : RelV v u) (a : AtA K G ps v x) (e : tagS x S = some t) (et : tyV t = .type T) (ht : t ≤ 3) : typeOf u = pure (.type T) := by
  cases a with
  | dat a =>
    cases a with
    | non => cases e; cases r; cases et; rfl
    | bl b => cases e; cases r; cases et; rfl
    | int i => cases e; obtain ⟨t, rfl⟩ := (show ∃ t, u = Value.int i t from r); cases et; rfl
    | str i => cases e; obtain ⟨t, rfl⟩ := (show ∃ t, u = Value.str i t from r); cases et; rfl
    | ty n => cases e
    | obj k => cases e
    | lst => cases e; omega
    | dct => cases e; omega
    | sq => cases e; omega
    | tup => cases e; omega
    | ins => cases e; omega
  | @own p j hp =>
    exfalso
    unfold tagS at e
    dsimp only at e
    cases es : S[j]? with
    | none => rw [es] at e; cases e
    | some cl =>
      rw [es] at e
      cases cl <;> cases e <;> omega
theorem bl_of {K : PySem.W.Frag} {G : Hp} {ps : List Addr} {v : V} {b : Bool} (a : AtA K G ps v (.dat (.bl b))) : v = .bl b := by
  cases a with | dat a => cases a; rfl
/-! ### own operators -/
/-- a class's own def for an operator -/
structure OpC (P : Program) (w : World) (K : PySem.W.Frag) (mg : Str → Option Value) (base : Heap) (k : Nat) (C : Nat) (nm : Str) (F : MF) (f : Addr) : Prop where
  run : RunK P w K mg base k f 2 [] (fun as _ => as) F
  at_ : PySem.W.findIn K (.ref (CM.A C)) nm = some (some (.ref f))
  fn : PySem.W.isFn K (.ref f) = true
/-- == and != of objects: their classes' own, and what types may stand on the right -/
def mEqO (neg : Bool) (tbl : List (Nat × (List Nat × MF))) (u : D → D → Option D) (a b : ME) : ME := fun ρ S => (a ρ S).bind fun x S1 => (b ρ S1).bind fun y S2 => match insS x S2 with
  | some (C, _) => match tbl.lookup C, tagS y S2 with
    | some (ts, F), some t => bif ts.contains t then (F [x, y] S2).bind fun r S3 => match r with
      | .dat (.bl r) => .ok (.dat (.bl (bif neg then !r else r))) S3
      | _ => .stuck else .stuck
    | _, _ => .stuck
  | none => op2 u x y S2
structure EqC (P : Program) (w : World) (K : PySem.W.Frag) (mg : Str → Option Value) (base : Heap) (k : Nat) (C : Nat) (ts : List Nat) (F : MF) : Prop where
  op : ∃ f, OpC P w K mg base k C "__eq__" F f
  ne : PySem.W.findIn K (.ref (CM.A C)) "__ne__" = some (some (.builtin "object.__ne__"))
  ob : PySem.W.subIn K (.ref (CM.A C)) (.type "object") = some true
  nf : ∀ t, t ∈ ts → PySem.W.notFirst K (CM.A C) (tyV t) = true
section
variable {c : Cz} {k : Nat} {a b : Expr} {f g : ME} {pos : Pos} {r : R2} {u : D → D → Option D} {tbl : List (Nat × (List Nat × MF))}
theorem eqo_core {op : CmpOp} {neg : Bool} (hop : (neg = false ∧ op = .Eq) ∨ (neg = true ∧ op = .NotEq)) (ho : OpR c.X (compareOp op) r) (hr : RD2 c.X.K r u) (hT : ∀ C ts F, (C, (ts, F)) ∈ tbl → EqC c.X.prog c.X.w c.X.K c.X.mg c.X.base k C ts F) (hR : Room (k + 1) c.X.A)
    {x y : Sl} {pins : List (Addr × Obj)} {s2 : Shared} {σ : L2.St} {H2 G2 : Hp} {ps2 : List Addr} {ρ : List Sl} {S2 : List Ce} {v w : V} {vv ww : Value} {kk : VK} (I2 : Inv c.X pins σ H2 s2) (rx : RelV v vv) (ry : RelV w ww) (o2 : SOk c.X.K c.F G2 ps2 ρ S2 σ H2) (a1 : AtA c.X.K G2 ps2 v x) (a2 : AtA c.X.K G2 ps2 w y)
    (q : Sat c G2 ps2 ρ σ (RA c) kk (match insS x S2 with
      | some (C, _) => match tbl.lookup C, tagS y S2 with
        | some (ts, F), some t => bif ts.contains t then (F [x, y] S2).bind fun r S3 => match r with
          | .dat (.bl r) => .ok (.dat (.bl (bif neg then !r else r))) S3
          | _ => .stuck else .stuck
        | _, _ => .stuck
      | none => op2 u x y S2)) : wpAny (model c.X.prog c.X.w) c.X.A (compareOp op vv ww) (EP c.X pins σ kk) c.X.xe s2 := by
  cases ei : insS x S2 with
  | none => rw [ei] at q; exact ho pins s2 σ H2 v w vv ww kk I2 rx ry (sat_op2 hr q o2 a1 a2)
  | some rr =>
    obtain ⟨C, fs⟩ := rr
    rw [ei] at q
    dsimp only at q
    obtain ⟨p, dx, vs, rfl, h1, h2⟩ := insS_ok o2 a1 ei
    obtain rfl : vv = Value.ref p := rx
    cases el : tbl.lookup C with
    | none => rw [el] at q; exact q.elim
    | some tf =>
      obtain ⟨ts, F⟩ := tf
      rw [el] at q
      cases et : tagS y S2 with
      | none => rw [et] at q; exact q.elim
      | some t =>
        rw [et] at q
        dsimp only at q
        cases hm : ts.contains t with
        | false => rw [hm] at q; exact q.elim
        | true =>
          rw [hm] at q
          dsimp only [cond] at q
          obtain ⟨⟨f, R⟩, ne, ob, nf⟩ := hT C ts F (lookup_mem el)
          obtain ⟨mA, O, _⟩ := ins_get I2.hok h1
          obtain ⟨od, J, _⟩ := O.look
          obtain ⟨m, hF⟩ := I2.fr
          have hnf := nf t (by simpa using hm)
          have lk : PySem.W.Looks (model c.X.prog c.X.w) s2.heap (typeOf ww) (tyV t) := tag_looks I2 o2 a2 ry et
          rcases hop with ⟨rfl, rfl⟩ | ⟨rfl, rfl⟩
          · refine PySem.W.cmp_K (op := .Eq) hR.units0 hF I2.ok.mod.kin J lk hnf R.at_ R.fn ?_
            refine wpAny_mono (wpAny_call (run_K R.run (hR.mono (by omega)) I2.env0 (fun e s' z => passAt c.tk _ pins _ _ e s' I2 z) I2 (us := [.ref p, ww]) (ws := []) (vs := [.ref p, w]) (zs := []) (xs := [x, y]) (ys := []) (kk := kk) (.cons rfl (.cons ry .nil)) .nil rfl rfl o2 (.cons a1 (.cons a2 .nil)) .nil ?_)) (fun w' s' z => ?_) fun _ _ e => e
            · cases ef : F [x, y] S2 with
              | stuck => rw [ef] at q; exact q
              | exc i pl S3 => rw [ef] at q; exact q
              | ok r S3 =>
                rw [ef] at q
                cases r with
                | dat d => cases d with
                  | bl b => exact q
                  | _ => exact q.elim
                | _ => exact q.elim
            · obtain ⟨z', H', I', rz, qz⟩ := z
              exact SlX.cmpback rz ⟨z', H', I', rz, qz⟩
          · refine PySem.W.ne_K (by have := hR.units; omega) hF I2.ok.mod.kin J lk hnf ne ob R.at_ R.fn ?_
            refine wpAny_mono (wpAny_call (run_K R.run hR.in1 I2.env0.in1 (fun e s' z => passAt c.tk _ pins _ _ e s' I2 z) I2 (us := [.ref p, ww]) (ws := []) (vs := [.ref p, w]) (zs := []) (xs := [x, y]) (ys := []) (kk := fun v H' => ∃ r, v = .bl r ∧ kk (.bl (!r)) H') (.cons rfl (.cons ry .nil)) .nil rfl rfl o2 (.cons a1 (.cons a2 .nil)) .nil ?_)) (fun w' s' z => ?_) fun _ _ e => e
            · cases ef : F [x, y] S2 with
              | stuck => rw [ef] at q; exact q
              | exc i pl S3 => rw [ef] at q; exact q
              | ok r S3 =>
                rw [ef] at q
                cases r with
                | dat d => cases d with
                  | bl b => exact fun v G' ps' H' o' e' p' a' => ⟨b, bl_of a', q _ G' ps' H' o' e' p' (.dat (.bl _))⟩
                  | _ => exact q.elim
                | _ => exact q.elim
            · obtain ⟨z', H', I', rz, r, rfl, qz⟩ := z
              cases (show w' = Value.bool r from rz)
              exact ⟨r, rfl, .bl (!r), H', I', rfl, qz⟩
/-- two operands, one behind the other -/
theorem pe_two {ρ : List Sl} {S : List Ce} {σ : L2.St} {G H : Hp} {ps : List Addr} {kk : VK} {rest : Sl → Sl → List Ce → RE Sl} (ha : DE c a f) (hb : DE c b g) (o : SOk c.X.K c.F G ps ρ S σ H) (q : Sat c G ps ρ σ (RA c) kk ((f ρ S).bind fun x S1 => (g ρ S1).bind fun y S2 => rest x y S2)) :
    WE c.X a σ H fun v H1 => WE c.X b σ H1 fun w H2 => ∃ x y S2 G2 ps2, SOk c.X.K c.F G2 ps2 ρ S2 σ H2 ∧ AtA c.X.K G2 ps2 v x ∧ AtA c.X.K G2 ps2 w y ∧ Sat c G2 ps2 ρ σ (RA c) kk (rest x y S2) :=
  ha _ _ _ _ _ _ _ o (Sat.bind q fun x S1 v1 G1 ps1 H1 o1 e1 p1 a1 q => hb _ _ _ _ _ _ _ o1 (Sat.bind q fun y S2 v2 G2 ps2 H2 o2 e2 p2 a2 q => ⟨x, y, S2, G2, ps2, o2, a1.mono e2 p2, a2, q⟩))
theorem de_eqo {op : CmpOp} (neg : Bool) (hop : (neg = false ∧ op = .Eq) ∨ (neg = true ∧ op = .NotEq)) (ho : OpR c.X (compareOp op) r) (hr : RD2 c.X.K r u) (hT : ∀ C ts F, (C, (ts, F)) ∈ tbl → EqC c.X.prog c.X.w c.X.K c.X.mg c.X.base k C ts F) (hR : Room (k + 1) c.X.A)
    (ha : DE c a f) (hb : DE c b g) (hm : behindInMarks op b = false := by first | exact nomark _ | rfl) : DE c (.Compare a [op] [b] pos) (mEqO neg tbl u f g) := fun ρ S σ G ps H kk o q => by
  refine ⟨fun σ' H' Q => σ' = σ ∧ H' = H ∧ Q = kk, ⟨fun pins s σ' H' Q I ⟨e1, e2, e3⟩ => ?_⟩, rfl, rfl, rfl⟩
  subst e1; subst e2; subst e3
  have pa := pe_two (c := c) (ρ := ρ) (kk := Q) ha hb (rest := fun x y S2 => match insS x S2 with
    | some (C, _) => match tbl.lookup C, tagS y S2 with
      | some (ts, F), some t => bif ts.contains t then (F [x, y] S2).bind fun r S3 => match r with
        | .dat (.bl r) => .ok (.dat (.bl (bif neg then !r else r))) S3
        | _ => .stuck else .stuck
      | _, _ => .stuck
    | none => op2 u x y S2) o q
  refine wpAny_Compare1 (binT we_pe we_pe I pa fun vv ww s2 v w H2 I2 rx ry ⟨x, y, S2, G2, ps2, o2, a1, a2, q2⟩ => ?_) hm
  exact eqo_core hop ho hr hT hR I2 rx ry o2 a1 a2 q2
theorem dt_eqo {op : CmpOp} (neg : Bool) (hop : (neg = false ∧ op = .Eq) ∨ (neg = true ∧ op = .NotEq)) (ho : OpR c.X (compareOp op) r) (hr : RD2 c.X.K r u) (hT : ∀ C ts F, (C, (ts, F)) ∈ tbl → EqC c.X.prog c.X.w c.X.K c.X.mg c.X.base k C ts F) (hR : Room (k + 1) c.X.A)
    (ha : DE c a f) (hb : DE c b g) (hm : behindInMarks op b = false := by first | exact nomark _ | rfl) : DT c (.Compare a [op] [b] pos) (tOf (mEqO neg tbl u f g)) := fun ρ S σ G ps H kk o q => by
  refine ⟨fun σ' H' Q => σ' = σ ∧ H' = H ∧ Q = kk, ⟨fun pins s σ' H' Q I ⟨e1, e2, e3⟩ => ?_⟩, rfl, rfl, rfl⟩
  subst e1; subst e2; subst e3
  have q1 : Sat c G ps ρ σ' (RA c) (fun v H => ∃ b, v = .bl b ∧ Q b H) (mEqO neg tbl u f g ρ S) := by
    unfold tOf at q
    cases ef : mEqO neg tbl u f g ρ S with
    | stuck => rw [ef] at q; exact q
    | exc i pl S3 => rw [ef] at q; exact q
    | ok r S3 =>
      rw [ef] at q
      cases r with
      | dat d => cases d with
        | bl b => exact fun v G' ps' H' o' e' p' a' => ⟨b, bl_of a', q b G' ps' H' o' e' p' rfl⟩
        | _ => exact q.elim
      | _ => exact q.elim
  have pa := pe_two (c := c) (ρ := ρ) (kk := fun v H => ∃ b, v = .bl b ∧ Q b H) ha hb (rest := fun x y S2 => match insS x S2 with
    | some (C, _) => match tbl.lookup C, tagS y S2 with
      | some (ts, F), some t => bif ts.contains t then (F [x, y] S2).bind fun r S3 => match r with
        | .dat (.bl r) => .ok (.dat (.bl (bif neg then !r else r))) S3
        | _ => .stuck else .stuck
      | _, _ => .stuck
    | none => op2 u x y S2) o q1
  refine wpAny_isTrue_Compare1 (binT we_pe we_pe I pa fun vv ww s2 v w H2 I2 rx ry ⟨x, y, S2, G2, ps2, o2, a1, a2, q2⟩ => thn (eqo_core hop ho hr hT hR I2 rx ry o2 a1 a2 q2) fun cc s3 ⟨z, H3, I3, r3, b, e, q3⟩ => ?_) hm
  subst e
  cases r3
  exact wpAny_truthy_bool ⟨H3, I3, q3⟩
/-- a + b, a * b of objects: the left one's class's own; what types may stand on the right -/
def mOpO (tbl : List (Nat × (List Nat × MF))) (u : D → D → Option D) (a b : ME) : ME := fun ρ S => (a ρ S).bind fun x S1 => (b ρ S1).bind fun y S2 => match insS x S2 with
  | some (C, _) => match tbl.lookup C, tagS y S2 with
    | some (ts, F), some t => bif ts.contains t then F [x, y] S2 else .stuck
    | _, _ => .stuck
  | none => op2 u x y S2
/-- what binaryOp asks of the right one's type: the same class, or a built-in one -/
def BinT (K : PySem.W.Frag) (op : Operator) (C : Addr) (t : Nat) : Prop := tyV t = .ref C ∨ ∃ T fo ro rc, (t ≤ 3 ∧ tyV t = .type T) ∧ PySem.W.findIn K (.ref C) (dunderR op.info.2) = some rc ∧ (rc = none ∨ ∃ g : Addr, rc = some (.ref g)) ∧
  PySem.W.findIn K (.type T) (PySem.dunder op.info.2) = some fo ∧ PySem.W.findIn K (.type T) (dunderR op.info.2) = some ro ∧ PySem.W.subIn K (.type T) (.ref C) = some false
structure BinC (P : Program) (w : World) (K : PySem.W.Frag) (mg : Str → Option Value) (base : Heap) (k : Nat) (op : Operator) (C : Nat) (ts : List Nat) (F : MF) : Prop where
  own : ∃ f, OpC P w K mg base k C (PySem.dunder op.info.2) F f
  sf : PySem.W.selfFirst K (CM.A C) = true
  ty : ∀ t, t ∈ ts → BinT K op (CM.A C) t
theorem de_opo {op : Operator} (ho : OpR c.X (binaryOp op) r) (hr : RD2 c.X.K r u) (hT : ∀ C ts F, (C, (ts, F)) ∈ tbl → BinC c.X.prog c.X.w c.X.K c.X.mg c.X.base k op C ts F) (hR : Room k c.X.A)
    (ha : DE c a f) (hb : DE c b g) : DE c (.BinOp a op b pos) (mOpO tbl u f g) := fun ρ S σ G ps H kk o q => by
  refine ⟨fun σ' H' Q => σ' = σ ∧ H' = H ∧ Q = kk, ⟨fun pins s σ' H' Q I ⟨e1, e2, e3⟩ => ?_⟩, rfl, rfl, rfl⟩
  subst e1; subst e2; subst e3
  have pa := pe_two (c := c) (ρ := ρ) (kk := Q) ha hb (rest := fun x y S2 => match insS x S2 with
    | some (C, _) => match tbl.lookup C, tagS y S2 with
      | some (ts, F), some t => bif ts.contains t then F [x, y] S2 else .stuck
      | _, _ => .stuck
    | none => op2 u x y S2) o q
  refine wpAny_BinOp (binT we_pe we_pe I pa fun vv ww s2 v w H2 I2 rx ry ⟨x, y, S2, G2, ps2, o2, a1, a2, q2⟩ => ?_)
  cases ei : insS x S2 with
  | none => rw [ei] at q2; exact ho pins s2 _ H2 v w vv ww _ I2 rx ry (sat_op2 hr q2 o2 a1 a2)
  | some rr =>
    obtain ⟨C, fs⟩ := rr
    rw [ei] at q2
    dsimp only at q2
    obtain ⟨p, dx, vs, rfl, h1, h2⟩ := insS_ok o2 a1 ei
    obtain rfl : vv = Value.ref p := rx
    cases el : tbl.lookup C with
    | none => rw [el] at q2; exact q2.elim
    | some tf =>
      obtain ⟨ts, F⟩ := tf
      rw [el] at q2
      cases et : tagS y S2 with
      | none => rw [et] at q2; exact q2.elim
      | some t =>
        rw [et] at q2
        dsimp only at q2
        cases hm : ts.contains t with
        | false => rw [hm] at q2; exact q2.elim
        | true =>
          rw [hm] at q2
          dsimp only [cond] at q2
          obtain ⟨⟨f, R⟩, sf, ty⟩ := hT C ts F (lookup_mem el)
          obtain ⟨mA, O, _⟩ := ins_get I2.hok h1
          obtain ⟨od, J, _⟩ := O.look
          obtain ⟨m, hF⟩ := I2.fr
          have lk : ∀ M, PySem.W.Looks M s2.heap (typeOf ww) (tyV t) := fun M => tag_looks I2 o2 a2 ry et
          have run := wpAny_mono (wpAny_call (run_K R.run hR I2.env0 (fun e s' z => passAt c.tk _ pins _ _ e s' I2 z) I2 (us := [.ref p, ww]) (ws := []) (vs := [.ref p, w]) (zs := []) (xs := [x, y]) (ys := []) (.cons rfl (.cons ry .nil)) .nil rfl rfl o2 (.cons a1 (.cons a2 .nil)) .nil q2)) (fun w' s' (z : EP c.X pins _ Q w' s') => (by
            obtain ⟨z', H', I', rz, qz⟩ := z
            exact SlX.cmpback rz ⟨z', H', I', rz, qz⟩ : PySem.W.CmpBack (EP c.X pins _ Q) w' s')) fun _ _ e => e
          rcases ty t (by simpa using hm) with e | ⟨T, fo, ro, rc, ⟨e3, e⟩, t1, t2, t3, t4, t5⟩
          · exact PySem.W.binop_K hF I2.ok.mod.kin J (by have z := lk (model c.X.prog c.X.w); rw [e] at z; exact z) sf R.at_ R.fn run
          · exact PySem.W.ksp_binT hF I2.ok.mod.kin J (ty_pure ry a2 et e e3) sf R.at_ R.fn t1 t2 t3 t4 t5 run
end
end Mir

/-! More rules: isinstance of own classes, extend, lists unpacked, in of data of any depth, defs with defaults. -/
namespace Mir
open PySem PySem.Spec L2
variable [CM : ClsMap]
/-- never reached -/
def mNo : ME := fun _ _ => .stuck
theorem de_no {c : Cz} {e : Expr} : DE c e mNo := fun ρ S σ G ps H k o q => q.elim
def gNo : MS := fun _ _ => .stuck
theorem d1_no {c : Cz} {st : Stmt} : D1 c st gNo := fun ρ S σ G ps H E o q => q.elim
/-! ### isinstance of an own class -/
/-- what isinstance asks of an own class -/
structure IsiC (K : PySem.W.Frag) (C : Addr) : Prop where
  cl : Cls K C
  ha : PySem.W.findIn K (.ref C) "__class__" = some (some (.builtin "object.__class__"))
  hn : PySem.W.specialIn K (.builtin "object.__class__") "__get__" = some (some (.builtin "getset_descriptor.__get__"))
  ht : PySem.W.takesIn K (.builtin "object.__class__") = some true
  hm : PySem.W.mroIn K C (.type "object") = some true
/-- whether values of the type t are instances of the class at C: tbl tells -/
def IsiT (K : PySem.W.Frag) (C : Nat) (tbl : List (Nat × Bool)) : Prop := ∀ t b, (t, b) ∈ tbl → PySem.W.kitOne K (tyV t) (.ref (CM.A C)) = some b ∧ ∀ n, t = n + 7 → IsiC K (CM.A n)
def mIsiO (tbl : List (Nat × Bool)) (a : ME) : ME := fun ρ S => (a ρ S).bind fun x S1 => match tagS x S1 with
  | some t => match tbl.lookup t with
    | some b => .ok (.dat (.bl b)) S1
    | none => .stuck
  | none => .stuck
theorem tag_ty {K : PySem.W.Frag} {F : Fx} {G H : Hp} {ps : List Addr} {ρ : List Sl} {S : List Ce} {σ : L2.St} (o : SOk K F G ps ρ S σ H) {v : V} {x : Sl} {t : Nat} (a : AtA K G ps v x) (e : tagS x S = some t) (hC : ∀ n, t = n + 7 → IsiC K (CM.A n)) : TyX K H v (tyV t) := by
  cases a with
  | dat a =>
    cases a with
    | non => cases e; exact .base .non
    | bl b => cases e; exact .base (.bl b)
    | int i => cases e; exact .base (.int i)
    | str i => cases e; exact .base (.str i)
    | ty n => cases e
    | obj k => cases e
    | lst h hs => cases e; exact .base (.lst (o.sub _ _ h))
    | dct h hs => cases e; exact .base (.dK (o.sub _ _ h))
    | sq h hs =>
      cases e
      rcases h with (h | ⟨b, h⟩) | ⟨b, its, n, hl, h1, h2, _⟩
      · exact .base (.lst (o.sub _ _ h))
      · exact .base (.frz (o.sub _ _ h))
      · exact .kList hl h1
    | tup h hs =>
      cases e
      rcases h with (h | ⟨b, h⟩) | ⟨b, its, n, hl, h1, h2, _⟩
      · exact .base (.tup (o.sub _ _ h))
      · exact .fTuple (o.sub _ _ h)
      · exact .kTuple hl h1
    | @ins a dx C fs ds h hs =>
      cases e
      obtain ⟨cl, ha, hn, ht, hm⟩ := hC C rfl
      exact .base (.ins (o.sub _ _ h) cl ha hn ht hm)
  | @own p j hp =>
    unfold tagS at e
    dsimp only at e
    cases es : S[j]? with
    | none => rw [es] at e; cases e
    | some cl =>
      rw [es] at e
      have z := o.cell j p _ hp es
      cases cl with
      | gone => cases e
      | lst ds => cases e; obtain ⟨_, vs, h1, _⟩ := z; exact .base (.lst h1)
      | dct ds => cases e; obtain ⟨_, vs, h1, _⟩ := z; exact .base (.dK h1)
      | ins C fs =>
        cases e
        obtain ⟨_, dx, vs, h1, _⟩ := z
        obtain ⟨cl, ha, hn, ht, hm⟩ := hC C rfl
        exact .base (.ins h1 cl ha hn ht hm)
section
variable {c : Cz} {e : Expr} {f : ME} {p1 p2 pos : Pos} {C : Nat} {y : Str} {tbl : List (Nat × Bool)}
theorem de_isiO (hm : c.X.mg "isinstance" = none) (hy : c.X.mg y = some (.ref (CM.A C))) (hT : IsiT c.X.K C tbl) (ha : DE c e f) (hg : Gl c.X "isinstance" := by rfl) (hgy : Gl c.X y := by rfl) (hd : (y == ("__debug__" : Str)) = false := by decide)
    (he : starEach [e, .Name y p2] c.X.env = (false, eval e c.X.env) :: starEach [.Name y p2] c.X.env := by rfl) (he2 : starEach [.Name y p2] c.X.env = (false, eval (.Name y p2) c.X.env) :: starEach [] c.X.env := by rfl)
    (hpl : (backTo pos (starEach [.Name y p2] c.X.env)).any (·.1) = false := by rfl) : DE c (.Call (.Name "isinstance" p1) [e, .Name y p2] [] pos) (mIsiO tbl f) := fun ρ S σ G ps H k o q =>
  ⟨_, pe_callB call_isi hg hm (by decide +kernel) (pa_cons we_pe (pa_cons (pe_glob (v := .ref (CM.A C)) hgy hy rfl hd) pa_nil he2) he) (he := he) (hpl := hpl), ha _ _ _ _ _ _ _ o (Sat.bind q fun x S1 v1 G1 ps1 H1 o1 e1 p1 a1 q => by
    cases et : tagS x S1 with
    | none => rw [et] at q; exact q.elim
    | some t =>
      rw [et] at q
      dsimp only at q
      cases el : tbl.lookup t with
      | none => rw [el] at q; exact q.elim
      | some b =>
        rw [el] at q
        obtain ⟨h1, h2⟩ := hT t b (lookup_mem el)
        exact ⟨v1, .ref (CM.A C), tyV t, .ref (CM.A C), b, rfl, .own _, tag_ty o1 a1 et h2, h1, q.ok o1 (.dat (.bl b))⟩)⟩
end
/-! ### a list unpacked into names -/
def tLst (ts : List MTg) : MTg := fun r ρ => match r with
  | .dat (.lst ds) => tAll ts ds ρ
  | _ => none
omit CM in
theorem tAll_len : ∀ (ts : List MTg) (ds : List D) (ρ ρ' : List Sl), tAll ts ds ρ = some ρ' → ds.length = ts.length := by
  intro ts
  induction ts with
  | nil => intro ds ρ ρ' e; cases ds with
    | nil => rfl
    | cons _ _ => cases e
  | cons t r ih => intro ds ρ ρ' e; cases ds with
    | nil => cases e
    | cons d ds =>
      unfold tAll at e
      cases et : t (.dat d) ρ with
      | none => rw [et] at e; cases e
      | some ρ1 => rw [et] at e; rw [List.length_cons, List.length_cons, ih ds ρ1 ρ' e]
theorem dg_lst {c : Cz} {tgs : List Expr} {js : List Nat} {ts : List MTg} {pos : Pos} {k : Nat} (hc : c.X.calm = true) (h : DGs c tgs js ts) (hst : (assignEach tgs c.X.env).findIdx? (·.1) = none := by rfl) (hn : (assignEach tgs c.X.env).length = ts.length := by rfl) : DG c (.Tuple tgs k pos) js (tLst ts) := fun ρ S σ G ps H Q v r ρ' o a e q => by
  cases a with
  | own _ => cases e
  | dat a =>
    cases a with
    | @lst p vs ds hT hv =>
      have e : tAll ts ds ρ = some ρ' := e
      exact ⟨_, pg_unl hc wgs_pgs rfl hst, p, vs, rfl, SqL.of (o.sub _ _ hT), by rw [hv.len, tAll_len ts ds ρ ρ' e, ← hn], h _ _ _ _ _ _ _ _ _ _ o hv e q⟩
    | _ => cases e
/-! ### x.extend(e) -/
def gExt (i : Nat) (a : ME) : MS := fun ρ S => match ρ[i]? with
  | some (.own j) => match S[j]? with
    | some (.lst _) => (a ρ S).toS ρ fun r S1 => match r, S1[j]? with
      | .dat (.lst ds), some (.lst cs) => if cs.length + ds.length < 100000 then .nx ρ (S1.set j (.lst (cs ++ ds))) else .stuck
      | _, _ => .stuck
    | _ => .stuck
  | _ => .stuck
section
variable {c : Cz} {e : Expr} {f : ME} {p1 p2 p3 pos : Pos}
theorem d1_ext (i : Nat) {x : Str} (ha : DE c e f) (hN : c.X.N[i]? = some x := by rfl)
    (hv : Vis c.X.env.scope x := by first | exact Or.inl rfl | exact Or.inr (Or.inl rfl) | exact Or.inr (Or.inr rfl)) (h1 : (x == ("__debug__" : Str)) = false := by decide) (h2 : (x == ("__classdict__" : Str)) = false := by decide)
    (he : starEach [e] c.X.env = (false, eval e c.X.env) :: starEach [] c.X.env := by rfl) (hpl : (backTo p3 (starEach [] c.X.env)).any (·.1) = false := by rfl)
    (hfew : ((backTo p3 (starEach [e] c.X.env)).all (fun x => !x.1) && (backToKw p3 (keywordEach [] c.X.env)).all (fun x => x.1.isSome)
      && decide (([e] : List Expr).length + ([] : List Keyword).length + (if ([] : List Keyword).isEmpty then 0 else 1) < 30)) = true := by rfl)
    (hline : (p2.endLine == p3.line) = true := by rfl)
    (hba : attributeBase (.Name x p1) "extend" c.X.env (eval (.Name x p1) c.X.env) = eval (.Name x p1) c.X.env := by rfl) (hs : swapsWith (.Call (.Attribute (.Name x p1) "extend" p2) [e] [] p3) none pos.line c.X.env = pure false := by rfl) :
    D1 c (.Expr (.Call (.Attribute (.Name x p1) "extend" p2) [e] [] p3) pos) (gExt i f) := fun ρ S σ G ps H E o q => by
  unfold gExt at q
  cases er : ρ[i]? with
  | none => rw [er] at q; exact q.elim
  | some r => cases r with
    | own j =>
      obtain ⟨v0, hsx, hv0⟩ := o.slot i _ er (fun z => nomatch z)
      rw [er] at q
      dsimp only at q
      cases hv0 with | val hv0 => cases hv0 with | @own p _ hp =>
      cases eS : S[j]? with
      | none => rw [eS] at q; exact q.elim
      | some cl => cases cl with
        | lst cs0 =>
          rw [eS] at q
          dsimp only at q
          obtain ⟨z1, vs, z2, z3⟩ := (o.cell j p _ hp eS : CeAt c.X.K G ps H p (.lst cs0))
          refine ⟨_, ps_expr (pe_bm PySem.F.plainAttrs_list PySem.F.slot_list_extend PySem.F.type_list_extend mt_extend (pe_var hN hv h1 h2) (pa_cons we_pe pa_nil he) (hfew := hfew) (hline := hline) (hs := he) (hplain := hpl) (hbase := hba)) hs, .ref p, hsx, .inl ⟨rfl, vs, SqL.of z2⟩, ?_⟩
          refine ha _ _ _ _ _ _ _ o (Sat.toS q fun r S1 v G1 ps1 H1 o1 e1 p1 a1 q => ?_)
          cases a1 with
          | own _ => exact q.elim
          | dat a1 =>
            cases a1 with
            | @lst b ws ds hb hw =>
              cases eS1 : S1[j]? with
              | none => rw [eS1] at q; exact q.elim
              | some cl => cases cl with
                | lst cs =>
                  rw [eS1] at q
                  dsimp only at q
                  by_cases hl : cs.length + ds.length < 100000
                  · rw [if_pos hl] at q
                    have hp1 := pre_get p1 hp
                    obtain ⟨y1, us, y2, y3⟩ := (o1.cell j p _ hp1 eS1 : CeAt c.X.K G1 ps1 H1 p (.lst cs))
                    exact ⟨p, b, us, ws, rfl, rfl, y2, o1.sub _ _ hb, by rw [y3.len, hw.len]; exact Nat.le_trans (Nat.le_of_lt hl) (by decide), q σ G1 ps1 _ (o1.wr hp1 eS1 y1 ⟨y1, _, upd_same, y3.append hw⟩) (Ex.refl _) (List.prefix_refl _)⟩
                  · rw [if_neg hl] at q; exact q.elim
                | _ => rw [eS1] at q; exact q.elim
            | _ => exact q.elim
        | _ => rw [eS] at q; exact q.elim
    | _ => rw [er] at q; exact q.elim
end
/-! ### in, of data of any depth -/
def inDF (a b : D) : Option D := match b with
  | .lst ds => if okP 60 a = true ∧ okP 60 b = true then some (.bl (ds.any fun z => eqB z a)) else none
  | _ => none
def ninDF (a b : D) : Option D := match b with
  | .lst ds => if okP 60 a = true ∧ okP 60 b = true then some (.bl (!ds.any fun z => eqB z a)) else none
  | _ => none
omit CM in
theorem opInDp {X : Cx} (hu : X.A.units + 65 < cLine) : OpR X (compareOp .In) (rInD X.K) := op_inD hu
theorem pyOf_lst {n : Nat} {ds : List D} (h : okP n (.lst ds) = true) : pyOf (.lst ds) = .list (ds.map pyOf) ∧ ∀ d ∈ ds, okP (n - 1) d = true := by
  cases n with
  | zero => simp only [okP] at h; cases h
  | succ n =>
    have ha : ds.all (okP n) = true := by simpa only [okP] using h
    have hd : ∀ d ∈ ds, okP n d = true := fun d hd => List.all_eq_true.mp ha d hd
    refine ⟨?_, hd⟩
    have : ∀ ds : List D, (∀ d ∈ ds, okP n d = true) → toPys ds = some (ds.map pyOf) := by
      intro ds
      induction ds with
      | nil => intro _; rfl
      | cons d ds ih =>
        intro h
        simp only [toPys, (okP_py n d (h d (List.mem_cons_self ..))).1, ih fun e he => h e (List.mem_cons_of_mem _ he), List.map]
    simp only [pyOf, toPy, this ds hd, Option.map, Option.getD]
theorem any_eqv {ds : List D} {a : D} (h : ∀ d ∈ ds, okP 59 d = true) (ha : okP 60 a = true) (hm : ∀ d ∈ ds, okP 60 d = true) : ((ds.map pyOf).any fun z => PyData.eqv z (pyOf a)) = ds.any fun z => eqB z a := by
  induction ds with
  | nil => rfl
  | cons d ds ih =>
    rw [List.map_cons, List.any_cons, List.any_cons, eqv_eqB 60 _ _ (hm d (List.mem_cons_self ..)) ha, ih (fun e he => h e (List.mem_cons_of_mem _ he)) (fun e he => hm e (List.mem_cons_of_mem _ he))]
theorem okP_mono : ∀ (n : Nat) (d : D), okP n d = true → okP (n + 1) d = true := by
  intro n
  induction n with
  | zero => intro d h; simp only [okP] at h; cases h
  | succ n ih =>
    intro d h
    cases d <;> simp only [okP] at h ⊢ <;> first | exact h | (rw [List.all_eq_true] at h ⊢; exact fun x hx => ih x (h x hx)) | cases h
theorem rdInD {K : PySem.W.Frag} : RD2 K (rInD K) inDF := fun G H x y k d1 d2 d s a b e q => by
  cases d2 with
  | lst ds =>
    simp only [inDF] at e
    by_cases h : okP 60 d1 = true ∧ okP 60 (.lst ds) = true
    · rw [if_pos h] at e
      cases e
      obtain ⟨hp, hm⟩ := pyOf_lst h.2
      refine ⟨pyOf d1, ds.map pyOf, toPy_ok (a.atH s) (okP_py _ _ h.1).1, ?_, shaped_of h.1 (by decide), ?_, ?_⟩
      · have z := toPy_ok (b.atH s) (okP_py _ _ h.2).1
        rw [hp] at z; exact z
      · have z := shaped_of h.2 (by decide)
        rw [hp] at z; exact z
      · rw [any_eqv hm h.1 fun d hd => okP_mono _ _ (hm d hd)]
        exact q _ G H (.refl _ _) (.bl _)
    · rw [if_neg h] at e; cases e
  | _ => cases e
theorem rdNinD {K : PySem.W.Frag} : RD2 K (rNotInD K) ninDF := fun G H x y k d1 d2 d s a b e q => by
  cases d2 with
  | lst ds =>
    simp only [ninDF] at e
    by_cases h : okP 60 d1 = true ∧ okP 60 (.lst ds) = true
    · rw [if_pos h] at e
      cases e
      obtain ⟨hp, hm⟩ := pyOf_lst h.2
      refine ⟨pyOf d1, ds.map pyOf, toPy_ok (a.atH s) (okP_py _ _ h.1).1, ?_, shaped_of h.1 (by decide), ?_, ?_⟩
      · have z := toPy_ok (b.atH s) (okP_py _ _ h.2).1
        rw [hp] at z; exact z
      · have z := shaped_of h.2 (by decide)
        rw [hp] at z; exact z
      · rw [any_eqv hm h.1 fun d hd => okP_mono _ _ (hm d hd)]
        exact q _ G H (.refl _ _) (.bl _)
    · rw [if_neg h] at e; cases e
  | _ => cases e
/-! ### defs with defaults, methods -/
section
variable {P : Program} {w : World} {K : PySem.W.Frag} {mg : Str → Option Value} {base : Heap}
theorem fnMF {x qual : Str} {st : Stmt} {f : Addr} {fd : FuncData} {N ps : List Str} {k n m : Nat} {g : Nat → MS} (F : Fun K x qual st f fd) (S : FnScope N ps (defScope st))
    (body : ∀ (cdv : Value) (A : Around) (outer : List Env) (s : Shared) (H : Hp) (E : XK) (F : Fx) (n0 : Nat), Room k (A.deeper (PyProof.Rows.envOfC qual (defScope st) s.heap.objs.size f cdv)) → F.P0.length = n0 →
      DS (czOf P w K mg base N qual (defScope st) f cdv A outer s H E F) (defBody st) (g n0)) (hn : ps.length = n := by rfl) (hN : n + m = N.length := by rfl) : FnOk P w K mg base (L2.CX P w) (k + 1) f fd ps (spM K n (mkF m g)) := by
  refine F.okX S (fun vs H Q E h => ?_) (fun cdv A outer s H vs Q E hr h => ?_)
  · obtain ⟨G, ps', S', as, hl, _, a, _⟩ := h
    rw [a.len, hl, hn]
  · obtain ⟨G, ps', S', as, hl, o, a, q⟩ := h
    exact ⟨_, wss_pss, body cdv A outer s H E ⟨ps', H, G, 0, 0⟩ S'.length hr o.plen _ S' _ G ps' H _ (o.begin a hl hN) (body_ends rfl rfl (fun _ _ _ _ z => z) o.plen q)⟩
theorem fnMD {x qual : Str} {st : Stmt} {f : Addr} {fd : FuncData} {N ps : List Str} {k n m : Nat} {g : Nat → MS} {dvs : List V} {kws : List (Str × V)} (F : FunD K x qual (defArgs st) (defBody st) (defScope st) dvs kws f fd) (S : FnScope N ps (defScope st))
    (body : ∀ (cdv : Value) (A : Around) (outer : List Env) (s : Shared) (H : Hp) (E : XK) (F : Fx) (n0 : Nat), Room k (A.deeper (PyProof.Rows.envOfC qual (defScope st) s.heap.objs.size f cdv)) → F.P0.length = n0 →
      DS (czOf P w K mg base N qual (defScope st) f cdv A outer s H E F) (defBody st) (g n0)) (hn : ps.length = n := by rfl) (hN : n + m = N.length := by rfl) : FnOk P w K mg base (L2.CX P w) (k + 1) f fd ps (spM K n (mkF m g)) := by
  refine F.ok S (fun vs H Q E h => ?_) (fun cdv A outer s H vs Q E hr h => ?_)
  · obtain ⟨G, ps', S', as, hl, _, a, _⟩ := h
    rw [a.len, hl, hn]
  · obtain ⟨G, ps', S', as, hl, o, a, q⟩ := h
    exact ⟨_, wss_pss, body cdv A outer s H E ⟨ps', H, G, 0, 0⟩ S'.length hr o.plen _ S' _ G ps' H _ (o.begin a hl hN) (body_ends rfl rfl (fun _ _ _ _ z => z) o.plen q)⟩
end
end Mir
namespace Mir
open PySem PySem.Spec L2
variable [CM : ClsMap]
/-! ### tables of classes; levels -/
omit CM in
theorem tb_nil {α : Type} {p : Nat → α → Prop} : ∀ C x, (C, x) ∈ ([] : List (Nat × α)) → p C x := fun _ _ h => by simp at h
omit CM in
theorem tb_cons {α : Type} {p : Nat → α → Prop} {c : Nat} {y : α} {l : List (Nat × α)} (h : p c y) (t : ∀ C x, (C, x) ∈ l → p C x) : ∀ C x, (C, x) ∈ (c, y) :: l → p C x := fun C x hx => by
  rcases List.mem_cons.mp hx with e | e
  · cases e; exact h
  · exact t C x e
omit CM in
theorem tb2_nil {α : Type} {p : Nat → List Nat → α → Prop} : ∀ C ts x, (C, (ts, x)) ∈ ([] : List (Nat × (List Nat × α))) → p C ts x := fun _ _ _ h => by simp at h
omit CM in
theorem tb2_cons {α : Type} {p : Nat → List Nat → α → Prop} {c : Nat} {t0 : List Nat} {y : α} {l : List (Nat × (List Nat × α))} (h : p c t0 y) (t : ∀ C ts x, (C, (ts, x)) ∈ l → p C ts x) : ∀ C ts x, (C, (ts, x)) ∈ (c, (t0, y)) :: l → p C ts x := fun C ts x hx => by
  rcases List.mem_cons.mp hx with e | e
  · cases e; exact h
  · exact t C ts x e
omit CM in
theorem cs_nil {p : Nat → Prop} : ∀ C, C ∈ ([] : List Nat) → p C := fun _ h => by simp at h
omit CM in
theorem cs_cons {p : Nat → Prop} {c : Nat} {l : List Nat} (h : p c) (t : ∀ C, C ∈ l → p C) : ∀ C, C ∈ c :: l → p C := fun C hx => by
  rcases List.mem_cons.mp hx with e | e
  · cases e; exact h
  · exact t C e
section
variable {P : Program} {w : World} {K : PySem.W.Frag} {mg : Str → Option Value} {base : Heap} {j k n C : Nat} {f : Addr} {ks ts : List Str} {gD : List Sl → List Sl → List Sl} {F : MF} {x m : Str} {op : Operator} {tg : List Nat}
theorem RunK.mono (R : RunK P w K mg base j f n ks gD F) (h : j ≤ k) : RunK P w K mg base k f n ks gD F := fun A outer s H us ws vs zs Q E G ps S as bs hr => R A outer s H us ws vs zs Q E G ps S as bs (hr.mono h)
theorem CalK.mono (R : CalK P w K mg base j x n ks gD F) (h : j ≤ k) : CalK P w K mg base k x n ks gD F := let ⟨f, r, z⟩ := R; ⟨f, r.mono h, z⟩
theorem MkC.mono (R : MkC P w K mg base j x C n ks gD F) (h : j ≤ k) : MkC P w K mg base k x C n ks gD F := let ⟨f, r, z⟩ := R; ⟨f, r.mono h, z⟩
theorem MtC.mono (R : MtC P w K mg base j C m n ks gD F) (h : j ≤ k) : MtC P w K mg base k C m n ks gD F := let ⟨f, r, z⟩ := R; ⟨f, r.mono h, z⟩
theorem PrC.mono (R : PrC P w K mg base j C m F) (h : j ≤ k) : PrC P w K mg base k C m F := let ⟨p, g, r, z⟩ := R; ⟨p, g, r.mono h, z⟩
theorem EqC.mono (R : EqC P w K mg base j C tg F) (h : j ≤ k) : EqC P w K mg base k C tg F := let ⟨⟨f, r, a, b⟩, c, d, e⟩ := R; ⟨⟨f, r.mono h, a, b⟩, c, d, e⟩
theorem BinC.mono (R : BinC P w K mg base j op C tg F) (h : j ≤ k) : BinC P w K mg base k op C tg F := let ⟨⟨f, r, a, b⟩, c, d⟩ := R; ⟨⟨f, r.mono h, a, b⟩, c, d⟩
end
/-! ### in, both ways -/
def inF2 (a b : D) : Option D := match inF a b with
  | some d => some d
  | none => inDF a b
def ninF2 (a b : D) : Option D := match ninF a b with
  | some d => some d
  | none => ninDF a b
def rIn2 (K : PySem.W.Frag) : R2 := fun x y H Q => rInA K x y H Q ∨ rInD K x y H Q
def rNin2 (K : PySem.W.Frag) : R2 := fun x y H Q => rNinA K x y H Q ∨ rNotInD K x y H Q
theorem opIn2 {X : Cx} (hu : X.A.units + 65 < cLine) : OpR X (compareOp .In) (rIn2 X.K) := OpR.or opIn (op_inD hu)
theorem opNin2 {X : Cx} (hu : X.A.units + 65 < cLine) : OpR X (compareOp .NotIn) (rNin2 X.K) := OpR.or opNin (op_notInD hu)
theorem rdIn2 {K : PySem.W.Frag} : RD2 K (rIn2 K) inF2 := RD2.or rdIn rdInD fun a b d e => by
  unfold inF2 at e
  cases h : inF a b with
  | none => rw [h] at e; exact .inr e
  | some z => rw [h] at e; exact .inl e
theorem rdNin2 {K : PySem.W.Frag} : RD2 K (rNin2 K) ninF2 := RD2.or rdNin rdNinD fun a b d e => by
  unfold ninF2 at e
  cases h : ninF a b with
  | none => rw [h] at e; exact .inr e
  | some z => rw [h] at e; exact .inl e
omit CM in
theorem hu65 {k : Nat} {A : Around} (h : Room k A) : A.units + 65 < cLine := by have := h.un; omega
end Mir
namespace Mir
open PySem PySem.Spec L2
variable [CM : ClsMap]
/-! ### new lists that are one's own: a + b, list(e) -/
def mCatO (a b : ME) : ME := fun ρ S => (a ρ S).bind fun x S1 => (b ρ S1).bind fun y S2 => match vw x S2, vw y S2 with
  | some (.lst xs), some (.lst ys) => if xs.length + ys.length ≤ 100000 then .ok (.own S2.length) (S2 ++ [.lst (xs ++ ys)]) else .stuck
  | _, _ => .stuck
section
variable {c : Cz} {a b e : Expr} {f g : ME} {pos p1 : Pos}
theorem de_catO (ha : DE c a f) (hb : DE c b g) : DE c (.BinOp a .Add b pos) (mCatO f g) := fun ρ S σ G ps H k o q =>
  ⟨_, pe_op op_cat we_pe we_pe, ha _ _ _ _ _ _ _ o (Sat.bind q fun x S1 v1 G1 ps1 H1 o1 e1 p1 a1 q => hb _ _ _ _ _ _ _ o1 (Sat.bind q fun y S2 v2 G2 ps2 H2 o2 e2 p2 a2 q => by
    cases h1 : vw x S2 with
    | none => rw [h1] at q; exact q.elim
    | some d1 =>
      cases h2 : vw y S2 with
      | none => rw [h1, h2] at q; cases d1 <;> exact q.elim
      | some d2 =>
        rw [h1, h2] at q
        cases d1 <;> first | exact q.elim | skip
        cases d2 <;> first | exact q.elim | skip
        rename_i xs ys
        dsimp only at q
        by_cases hl : xs.length + ys.length ≤ 100000
        · rw [if_pos hl] at q
          obtain ⟨q1, w1, rfl, z1, s1⟩ := (vw_ok o2 (a1.mono e2 p2) h1).lst_ o2.sub
          obtain ⟨q2, w2, rfl, z2, s2⟩ := (vw_ok o2 a2 h2).lst_ o2.sub
          refine ⟨q1, q2, w1, w2, rfl, rfl, z1, z2, by rw [s1.len, s2.len]; exact Nat.le_trans hl (by decide), fun p hp => ?_⟩
          exact q (.ref p) G2 (ps2 ++ [p]) _ (o2.pushL hp (s1.append s2)) (Ex.refl _) (List.prefix_append _ _) (.own (by rw [← o2.plen]; simp))
        · rw [if_neg hl] at q; exact q.elim))⟩
/-- list(e), one's own -/
def mListO (a : ME) : ME := fun ρ S => (a ρ S).bind fun x S1 => match vw x S1 with
  | some (.lst ds) => .ok (.own S1.length) (S1 ++ [.lst ds])
  | some (.tup ds) => .ok (.own S1.length) (S1 ++ [.lst ds])
  | some (.sq ds) => .ok (.own S1.length) (S1 ++ [.lst ds])
  | _ => .stuck
theorem de_listO (hm : c.X.mg "list" = none) (ha : DE c e f) (hg : Gl c.X "list" := by rfl) (hpl : (backTo pos (starEach [] c.X.env)).any (·.1) = false := by rfl) (he : starEach [e] c.X.env = (false, eval e c.X.env) :: starEach [] c.X.env := by rfl) : DE c (.Call (.Name "list" p1) [e] [] pos) (mListO f) := fun ρ S σ G ps H k o q =>
  ⟨_, pe_callTy call_list_of hg hm (by decide +kernel) (pa_cons we_pe pa_nil he) (he := he) (hpl := hpl), ha _ _ _ _ _ _ _ o (Sat.bind q fun x S1 v1 G1 ps1 H1 o1 e1 p1 a1 q => by
    cases h1 : vw x S1 with
    | none => rw [h1] at q; exact q.elim
    | some d1 =>
      rw [h1] at q
      have top := vw_ok o1 a1 h1
      cases d1 with
      | lst ds =>
        obtain ⟨q1, w1, rfl, z1, s1⟩ := top.lst_ o1.sub
        exact ⟨q1, w1, rfl, .inl (SqL.of z1), fun p hp => q (.ref p) G1 (ps1 ++ [p]) _ (o1.pushL hp s1) (Ex.refl _) (List.prefix_append _ _) (.own (by rw [← o1.plen]; simp))⟩
      | tup ds =>
        obtain ⟨q1, w1, rfl, z1, _, s1⟩ := top.tup_ o1.sub
        exact ⟨q1, w1, rfl, .inr z1, fun p hp => q (.ref p) G1 (ps1 ++ [p]) _ (o1.pushL hp s1) (Ex.refl _) (List.prefix_append _ _) (.own (by rw [← o1.plen]; simp))⟩
      | sq ds =>
        obtain ⟨q1, w1, rfl, z1, s1⟩ := top.sq_ o1.sub
        exact ⟨q1, w1, rfl, .inl z1, fun p hp => q (.ref p) G1 (ps1 ++ [p]) _ (o1.pushL hp s1) (Ex.refl _) (List.prefix_append _ _) (.own (by rw [← o1.plen]; simp))⟩
      | _ => exact q.elim)⟩
end
end Mir

/-! Objects evaluated. -/
namespace Mir
open PySem PySem.Spec L2
def fldS (cs : List Nat) (f : Str) (x : Sl) (S1 : List Ce) : RE Sl := match insS x S1 with
  | some (C, fs) => bif cs.contains C then slO (fs.lookup f) S1 else .stuck
  | none => .stuck
theorem mFld_eq (cs : List Nat) (f : Str) (a : ME) (ρ : List Sl) (S : List Ce) : mFld cs f a ρ S = (a ρ S).bind (fldS cs f) := rfl
def prpS (tbl : List (Nat × MF)) (x : Sl) (S0 : List Ce) : RE Sl := match insS x S0 with
  | some (C, _) => match tbl.lookup C with
    | some F => (F [x] S0).noX
    | none => .stuck
  | none => .stuck
theorem mProp_eq (tbl : List (Nat × MF)) (a : ME) (ρ : List Sl) (S : List Ce) : mProp tbl a ρ S = (a ρ S).bind (prpS tbl) := rfl
theorem prpS_1 {C : Nat} {F : MF} {fs : List (Str × D)} {S : List Ce} : prpS [(C, F)] (.dat (.ins C fs)) S = (F [.dat (.ins C fs)] S).noX := by
  show (match ([(C, F)] : List (Nat × MF)).lookup C with | some F => (F [.dat (.ins C fs)] S).noX | none => .stuck) = _
  have : ([(C, F)] : List (Nat × MF)).lookup C = some F := by simp [List.lookup]
  rw [this]
def metS (m : Str) (tbl : List (Nat × ((List Sl → List Sl → List Sl) × MF))) (x : Sl) (S0 : List Ce) (k : ((List Sl → List Sl → List Sl) × MF) → RE Sl) : RE Sl := match insS x S0 with
  | some (C, fs) => bif hasF m fs then .stuck else match tbl.lookup C with
    | some gF => k gF
    | none => .stuck
  | none => .stuck
theorem mMeth_eq (m : Str) (tbl : List (Nat × ((List Sl → List Sl → List Sl) × MF))) (t : ME) (a b : MA') (ρ : List Sl) (S : List Ce) : mMeth m tbl t a b ρ S = (t ρ S).bind fun x S0 => metS m tbl x S0 fun gF => (a ρ S0).bind fun xs S1 => (b ρ S1).bind fun ys S2 => gF.2 (gF.1 (x :: xs) ys) S2 := rfl
theorem metS_1 {m : Str} {C : Nat} {gF : (List Sl → List Sl → List Sl) × MF} {fs : List (Str × D)} {S : List Ce} {k : ((List Sl → List Sl → List Sl) × MF) → RE Sl} (h : fs.lookup m = none) : metS m [(C, gF)] (.dat (.ins C fs)) S k = k gF := by
  have hn : hasF m (fs.map fun p => (p.1, Sl.dat p.2)) = false := by
    unfold hasF
    have : ∀ l : List (Str × D), l.lookup m = none → (l.map fun p => (p.1, Sl.dat p.2)).lookup m = none := by
      intro l
      induction l with
      | nil => intro _; rfl
      | cons y l ih =>
        obtain ⟨a, d⟩ := y
        intro h
        simp only [List.lookup, List.map] at h ⊢
        cases e : m == a with
        | true => rw [e] at h; cases h
        | false => rw [e] at h; exact ih h
    rw [this fs h]; rfl
  show (bif hasF m (fs.map fun p => (p.1, Sl.dat p.2)) then RE.stuck else match ([(C, gF)] : List (Nat × ((List Sl → List Sl → List Sl) × MF))).lookup C with | some gF => k gF | none => .stuck) = _
  have : ([(C, gF)] : List (Nat × ((List Sl → List Sl → List Sl) × MF))).lookup C = some gF := by simp [List.lookup]
  rw [hn, this]
  rfl
def isiS (tbl : List (Nat × Bool)) (x : Sl) (S1 : List Ce) : RE Sl := match tagS x S1 with
  | some t => match tbl.lookup t with
    | some b => .ok (.dat (.bl b)) S1
    | none => .stuck
  | none => .stuck
theorem mIsiO_eq (tbl : List (Nat × Bool)) (a : ME) (ρ : List Sl) (S : List Ce) : mIsiO tbl a ρ S = (a ρ S).bind (isiS tbl) := rfl
theorem isiS_d {tbl : List (Nat × Bool)} {d : D} {S : List Ce} {t : Nat} {b : Bool} (h : tagD d = some t) (e : tbl.lookup t = some b) : isiS tbl (.dat d) S = .ok (.dat (.bl b)) S := by
  unfold isiS tagS
  dsimp only
  rw [h]
  dsimp only
  rw [e]
def eqoS (neg : Bool) (tbl : List (Nat × (List Nat × MF))) (u : D → D → Option D) (x y : Sl) (S2 : List Ce) : RE Sl := match insS x S2 with
  | some (C, _) => match tbl.lookup C, tagS y S2 with
    | some (ts, F), some t => bif ts.contains t then (F [x, y] S2).bind fun r S3 => match r with
      | .dat (.bl r) => .ok (.dat (.bl (bif neg then !r else r))) S3
      | _ => .stuck else .stuck
    | _, _ => .stuck
  | none => op2 u x y S2
theorem mEqO_eq (neg : Bool) (tbl : List (Nat × (List Nat × MF))) (u : D → D → Option D) (a b : ME) (ρ : List Sl) (S : List Ce) : mEqO neg tbl u a b ρ S = (a ρ S).bind fun x S1 => (b ρ S1).bind fun y S2 => eqoS neg tbl u x y S2 := rfl
theorem eqoS_1 {neg r : Bool} {C t : Nat} {ts : List Nat} {F : MF} {u : D → D → Option D} {fs : List (Str × D)} {d : D} {S : List Ce} (ht : tagD d = some t) (hm : ts.contains t = true) (hF : F [.dat (.ins C fs), .dat d] S = .ok (.dat (.bl r)) S) :
    eqoS neg [(C, (ts, F))] u (.dat (.ins C fs)) (.dat d) S = .ok (.dat (.bl (bif neg then !r else r))) S := by
  have this : ([(C, (ts, F))] : List (Nat × (List Nat × MF))).lookup C = some (ts, F) := by simp [List.lookup]
  unfold eqoS
  rw [show insS (.dat (.ins C fs)) S = some (C, fs.map fun p => (p.1, Sl.dat p.2)) from rfl]
  dsimp only
  rw [this, show tagS (.dat d) S = some t from ht]
  dsimp only
  rw [hm, hF]
  rfl
theorem eqoS_d {neg : Bool} {tbl : List (Nat × (List Nat × MF))} {u : D → D → Option D} {d e : D} {S : List Ce} (h : insS (.dat d) S = none) : eqoS neg tbl u (.dat d) (.dat e) S = dat' (u d e) S := by
  unfold eqoS
  rw [h]
  rfl
def opoS (tbl : List (Nat × (List Nat × MF))) (u : D → D → Option D) (x y : Sl) (S2 : List Ce) : RE Sl := match insS x S2 with
  | some (C, _) => match tbl.lookup C, tagS y S2 with
    | some (ts, F), some t => bif ts.contains t then F [x, y] S2 else .stuck
    | _, _ => .stuck
  | none => op2 u x y S2
theorem mOpO_eq (tbl : List (Nat × (List Nat × MF))) (u : D → D → Option D) (a b : ME) (ρ : List Sl) (S : List Ce) : mOpO tbl u a b ρ S = (a ρ S).bind fun x S1 => (b ρ S1).bind fun y S2 => opoS tbl u x y S2 := rfl
theorem opoS_1 {C t : Nat} {ts : List Nat} {F : MF} {u : D → D → Option D} {fs : List (Str × D)} {d : D} {S : List Ce} (ht : tagD d = some t) (hm : ts.contains t = true) : opoS [(C, (ts, F))] u (.dat (.ins C fs)) (.dat d) S = F [.dat (.ins C fs), .dat d] S := by
  have this : ([(C, (ts, F))] : List (Nat × (List Nat × MF))).lookup C = some (ts, F) := by simp [List.lookup]
  unfold opoS
  rw [show insS (.dat (.ins C fs)) S = some (C, fs.map fun p => (p.1, Sl.dat p.2)) from rfl]
  dsimp only
  rw [this, show tagS (.dat d) S = some t from ht]
  dsimp only
  rw [hm]
  rfl
/-- what __init__ left -/
def madeS (n : Nat) (r : Sl) (S3 : List Ce) : RE Sl := match r with
  | .dat .non => .ok (.own n) S3
  | _ => .stuck
theorem mMake_eq (C : Nat) (gD : List Sl → List Sl → List Sl) (F : MF) (a b : MA') (ρ : List Sl) (S : List Ce) : mMake C gD F a b ρ S = (a ρ S).bind fun xs S1 => (b ρ S1).bind fun ys S2 => (F (gD (.own S2.length :: xs) ys) (S2 ++ [.ins C []])).bind (madeS S2.length) := rfl
theorem madeS_n {n : Nat} {S : List Ce} : madeS n (.dat .non) S = .ok (.own n) S := rfl
/-- a store into the last cell, an object -/
theorem gFld_last {cs : List Nat} {f : Str} {i C : Nat} {b : ME} {ρ : List Sl} {S : List Ce} {fs : List (Str × Sl)} {y : Sl} (hi : ρ[i]? = some (.own S.length)) (hb : b ρ (S ++ [.ins C fs]) = .ok y (S ++ [.ins C fs])) (hc : cs.contains C = true) (hl : fs.length.blt 1000 = true) :
    gFld cs f (mVar i) b ρ (S ++ [.ins C fs]) = .nx ρ (S ++ [.ins C (putS f y fs)]) := by
  have ha : mVar i ρ (S ++ [.ins C fs]) = .ok (.own S.length) (S ++ [.ins C fs]) := mvar_own hi
  show (b ρ (S ++ [.ins C fs])).toS ρ _ = _
  rw [hb]
  show (mVar i ρ (S ++ [.ins C fs])).toS ρ _ = _
  rw [ha]
  dsimp only [RE.toS]
  have e : (S ++ [Ce.ins C fs])[S.length]? = some (.ins C fs) := by simp
  rw [e]
  dsimp only
  rw [hc, hl]
  simp
/-- the new object as data -/
theorem frzL_ins {S : List Ce} {C : Nat} {fs : List (Str × Sl)} {ds : List (Str × D)} (h : plain S = true) (hd : datFs fs = some ds) : frzL S.length (.ok (.own S.length) (S ++ [.ins C fs])) = .ok (.dat (.ins C ds)) S := by
  unfold frzL
  have e : (S ++ [Ce.ins C fs])[S.length]? = some (.ins C fs) := by simp
  have ok : okTake S.length (S ++ [Ce.ins C fs]) = true := by
    unfold okTake
    rw [List.take_append_of_le_length (Nat.le_refl _), List.take_length]
    unfold plain at h
    rw [List.all_eq_true] at h ⊢
    intro x hx
    have z := h x hx
    cases x with
    | ins C fs => simp_all
    | _ => rfl
  simp only [List.length_append, List.length_cons, List.length_nil, Nat.le_refl, true_and, ok]
  rw [if_pos (by simp), e]
  simp only [Option.bind_some, ceD, hd, Option.map_some]
  rw [List.take_append_of_le_length (Nat.le_refl _), List.take_length]
theorem frzL_id {n : Nat} {d : D} {S : List Ce} : frzL n (.ok (.dat d) S) = .ok (.dat d) S := rfl
theorem frzL_exc {n i : Nat} {pl : Option (Str × D)} {S : List Ce} : frzL n (.exc i pl S) = .exc i pl S := rfl
theorem cutX_take {n i : Nat} {pl : Option (Str × D)} {S : List Ce} (h : okTake n S = true) : cutX n i pl S = .exc i pl (S.take n) := by unfold cutX; rw [if_pos h]
theorem cut_take {n : Nat} {d : D} {S : List Ce} (h : okTake n S = true) : cut n (.dat d) S = .ok (.dat d) (S.take n) := by unfold cut; rw [if_pos h]
theorem atI_3 {α : Type} (x y z u : α) (r : List α) : atI (x :: y :: z :: u :: r) 3 = some u := atI_nat (l := x :: y :: z :: u :: r) (i := 3) (by simp)
theorem atI_4 {α : Type} (x y z u v : α) (r : List α) : atI (x :: y :: z :: u :: v :: r) 4 = some v := atI_nat (l := x :: y :: z :: u :: v :: r) (i := 4) (by simp)
theorem okTake_app {S T : List Ce} (h : plain S = true) : okTake S.length (S ++ T) = true := by
  unfold okTake
  rw [List.take_left]
  have z := plain_ok h S.length
  unfold okTake at z
  rwa [List.take_length] at z
theorem isNonD_non : isNonD .non = true := rfl
theorem isNonD_int {i : Int} : isNonD (.int i) = false := rfl
theorem isNonD_bl {i : Bool} : isNonD (.bl i) = false := rfl
theorem isNonD_str {i : Str} : isNonD (.str i) = false := rfl
theorem isNonD_lst {i : List D} : isNonD (.lst i) = false := rfl
theorem isNonD_tup {i : List D} : isNonD (.tup i) = false := rfl
theorem isNonD_dct {i : List (Key × D)} : isNonD (.dct i) = false := rfl
theorem isNonD_ins {C : Nat} {i : List (Str × D)} : isNonD (.ins C i) = false := rfl
theorem tTup_t {ts : List MTg} {ds : List D} {ρ : List Sl} : tTup ts (.dat (.tup ds)) ρ = tAll ts ds ρ := rfl
theorem tLst_l {ts : List MTg} {ds : List D} {ρ : List Sl} : tLst ts (.dat (.lst ds)) ρ = tAll ts ds ρ := rfl
theorem tAll_nil {ρ : List Sl} : tAll [] [] ρ = some ρ := rfl
theorem tAll_cons {t : MTg} {ts : List MTg} {d : D} {ds : List D} {ρ : List Sl} : tAll (t :: ts) (d :: ds) ρ = (t (.dat d) ρ).bind (tAll ts ds) := rfl
theorem tN_d {i : Nat} {r : Sl} {ρ : List Sl} : tN i r ρ = some (ρ.set i r) := rfl
end Mir

/-! Comprehensions that draw nothing; loops; small facts. -/
namespace Mir
open PySem PySem.Spec L2
theorem lc_fm {n j : Nat} {t : MT} {elt : ME} {ρ : List Sl} {p : D → Bool} {f : D → D} : ∀ (ds acc : List D) (S0 : List Ce), S0.length = n → (∀ d ∈ ds, ∀ S, t (ρ.set j (.dat d)) S = .ok (p d) S) → (∀ d ∈ ds, p d = true → ∀ S, elt (ρ.set j (.dat d)) S = .ok (.dat (f d)) S) → acc.length + ds.length ≤ 100000 →
    lcL n j t elt ds ρ (S0 ++ [.lst acc]) = .ok () (S0 ++ [.lst (acc ++ (ds.filter p).map f)])
  | [], acc, S0, hn, _, _, _ => by rw [List.filter_nil, List.map_nil, List.append_nil]; rfl
  | d :: ds, acc, S0, hn, ht, he, hl => by
    rw [List.length_cons] at hl
    show ((t (ρ.set j (.dat d)) (S0 ++ [.lst acc])).noX.bind fun b S1 => bif b then (elt (ρ.set j (.dat d)) S1).noX.bind (lcK n j t elt ds ρ) else lcL n j t elt ds ρ S1) = _
    rw [ht d (List.mem_cons_self ..), RE.noX_ok, RE.ok_bind]
    cases hp : p d with
    | false =>
      rw [cond_false, lc_fm ds acc S0 hn (fun x hx => ht x (List.mem_cons_of_mem _ hx)) (fun x hx => he x (List.mem_cons_of_mem _ hx)) (by omega), List.filter_cons_of_neg (by rw [hp]; decide)]
    | true =>
      rw [cond_true, he d (List.mem_cons_self ..) hp, RE.noX_ok, RE.ok_bind]
      unfold lcK
      have hg : (S0 ++ [Ce.lst acc])[n]? = some (Ce.lst acc) := by
        rw [List.getElem?_append_right (by omega), hn, Nat.sub_self] <;> rfl
      rw [hg]
      show (if acc.length < 1000000 then _ else _) = _
      rw [if_pos (by omega)]
      have hs : (S0 ++ [Ce.lst acc]).set n (Ce.lst (acc ++ [f d])) = S0 ++ [Ce.lst (acc ++ [f d])] := by
        rw [List.set_append_right _ _ (by omega), hn, Nat.sub_self] <;> rfl
      rw [hs, lc_fm ds (acc ++ [f d]) S0 hn (fun x hx => ht x (List.mem_cons_of_mem _ hx)) (fun x hx => he x (List.mem_cons_of_mem _ hx)) (by rw [List.length_append, List.length_cons, List.length_nil]; omega), List.filter_cons_of_pos hp, List.map_cons, List.append_assoc] <;> rfl
/-- [elt for x in it if t], all pure -/
theorem mLc_fm {j : Nat} {it : MI} {t : MT} {elt : ME} {ρ : List Sl} (p : D → Bool) (f : D → D) {S : List Ce} {ds : List D} (hit : it ρ S = .ok ds S) (hp : plain S = true) (hl : ds.length ≤ 100000) (ht : ∀ d ∈ ds, ∀ S, t (ρ.set j (.dat d)) S = .ok (p d) S) (he : ∀ d ∈ ds, p d = true → ∀ S, elt (ρ.set j (.dat d)) S = .ok (.dat (f d)) S) :
    mLc j it t elt ρ S = .ok (.dat (.lst ((ds.filter p).map f))) S := by
  unfold mLc mLcO
  rw [hit, RE.ok_bind, lc_fm ds [] S rfl ht he (by simpa using hl), RE.ok_bind, List.nil_append]
  exact frzL_new hp
theorem mLc_map {j : Nat} {it : MI} {elt : ME} {ρ : List Sl} (f : D → D) {S : List Ce} {ds : List D} (hit : it ρ S = .ok ds S) (hp : plain S = true) (hl : ds.length ≤ 100000) (he : ∀ d ∈ ds, ∀ S, elt (ρ.set j (.dat d)) S = .ok (.dat (f d)) S) :
    mLc j it tYes' elt ρ S = .ok (.dat (.lst (ds.map f))) S := by
  have z := mLc_fm (t := tYes') (fun _ => true) f hit hp hl (fun _ _ _ => rfl) (fun d hd _ => he d hd)
  rw [z, List.filter_eq_self.mpr fun _ _ => rfl]
theorem neF_nil {xs : List D} (h : okP 60 (.lst xs) = true) : neF (.lst xs) (.lst []) = some (.bl (!xs.isEmpty)) := by
  unfold neF
  rw [show eqF (.lst xs) (.lst []) = if okP 60 (.lst xs) = true ∧ okP 60 (.lst []) = true then some (D.bl (eqB (.lst xs) (.lst []))) else none from rfl, if_pos ⟨h, rfl⟩]
  cases xs <;> rfl
theorem eqF_nil {xs : List D} (h : okP 60 (.lst xs) = true) : eqF (.lst xs) (.lst []) = some (.bl xs.isEmpty) := by
  rw [show eqF (.lst xs) (.lst []) = if okP 60 (.lst xs) = true ∧ okP 60 (.lst []) = true then some (D.bl (eqB (.lst xs) (.lst []))) else none from rfl, if_pos ⟨h, rfl⟩]
  cases xs <;> rfl
theorem eqF_L {xs ys : List D} (h1 : okP 60 (.lst xs) = true) (h2 : okP 60 (.lst ys) = true) : eqF (.lst xs) (.lst ys) = some (.bl (eqB (.lst xs) (.lst ys))) := by
  show (if okP 60 (.lst xs) = true ∧ okP 60 (.lst ys) = true then some (D.bl (eqB (.lst xs) (.lst ys))) else none) = _
  rw [if_pos ⟨h1, h2⟩]
theorem neF_L {xs ys : List D} (h1 : okP 60 (.lst xs) = true) (h2 : okP 60 (.lst ys) = true) : neF (.lst xs) (.lst ys) = some (.bl (!eqB (.lst xs) (.lst ys))) := by
  unfold neF; rw [eqF_L h1 h2]
theorem eqF_T {xs ys : List D} (h1 : okP 60 (.tup xs) = true) (h2 : okP 60 (.tup ys) = true) : eqF (.tup xs) (.tup ys) = some (.bl (eqB (.tup xs) (.tup ys))) := by
  show (if okP 60 (.tup xs) = true ∧ okP 60 (.tup ys) = true then some (D.bl (eqB (.tup xs) (.tup ys))) else none) = _
  rw [if_pos ⟨h1, h2⟩]
theorem neF_T {xs ys : List D} (h1 : okP 60 (.tup xs) = true) (h2 : okP 60 (.tup ys) = true) : neF (.tup xs) (.tup ys) = some (.bl (!eqB (.tup xs) (.tup ys))) := by
  unfold neF; rw [eqF_T h1 h2]
mutual
theorem eqB_refl : ∀ (d : D) (n : Nat), okP n d = true → eqB d d = true
  | d, 0, h => by simp only [okP] at h; cases h
  | .non, n + 1, _ => rfl
  | .bl b, n + 1, _ => by simp [eqB]
  | .int i, n + 1, _ => by simp [eqB]
  | .str s, n + 1, _ => by simp [eqB]
  | .lst ds, n + 1, h => by simp only [okP] at h; simp only [eqB]; exact eqBs_refl ds n h
  | .tup ds, n + 1, h => by simp only [okP] at h; simp only [eqB]; exact eqBs_refl ds n h
  | .dct _, n + 1, h => by simp only [okP] at h; cases h
  | .ins _ _, n + 1, h => by simp only [okP] at h; cases h
  | .sq _, n + 1, h => by simp only [okP] at h; cases h
  | .ty _, n + 1, h => by simp only [okP] at h; cases h
  | .obj _, n + 1, h => by simp only [okP] at h; cases h
theorem eqBs_refl : ∀ (ds : List D) (n : Nat), ds.all (okP n) = true → eqBs ds ds = true
  | [], _, _ => rfl
  | d :: ds, n, h => by
    rw [List.all_cons, Bool.and_eq_true] at h
    simp only [eqBs, eqB_refl d n h.1, eqBs_refl ds n h.2, Bool.and_self]
end
theorem eqF_same {xs : List D} (h : okP 60 (.lst xs) = true) : eqF (.lst xs) (.lst xs) = some (.bl true) := by rw [eqF_L h h, eqB_refl _ _ h]
theorem neF_same {xs : List D} (h : okP 60 (.lst xs) = true) : neF (.lst xs) (.lst xs) = some (.bl false) := by rw [neF_L h h, eqB_refl _ _ h]; rfl
theorem cut_ex (n : Nat) (d : D) (S : List Ce) : ∃ S', cut n (.dat d) S = .ok (.dat d) S' := by
  unfold cut
  split
  · exact ⟨_, rfl⟩
  · exact ⟨_, rfl⟩
inductive Fa2 {α β : Type} (R : α → β → Prop) : List α → List β → Prop
  | nil : Fa2 R [] []
  | cons {a : α} {b : β} {l : List α} {m : List β} : R a b → Fa2 R l m → Fa2 R (a :: l) (b :: m)
theorem lc_rel {n j : Nat} {elt : ME} {ρ : List Sl} {ds ys : List D} (h : Fa2 (fun d y => ∀ S, plain S = true → elt (ρ.set j (.dat d)) S = .ok (.dat y) S) ds ys) : ∀ (acc : List D) (S0 : List Ce), S0.length = n → plain S0 = true → acc.length + ds.length ≤ 100000 →
    lcL n j tYes' elt ds ρ (S0 ++ [.lst acc]) = .ok () (S0 ++ [.lst (acc ++ ys)]) := by
  induction h with
  | nil => intro acc S0 hn hp hl; rw [lcL_nil, List.append_nil]
  | @cons d y ds ys hd _ ih =>
    intro acc S0 hn hp hl
    rw [List.length_cons] at hl
    have hpl : plain (S0 ++ [Ce.lst acc]) = true := by unfold plain at *; rw [List.all_append, hp]; rfl
    rw [lcL_cons, hd _ hpl, RE.noX_ok, RE.ok_bind]
    unfold lcK
    have hg : (S0 ++ [Ce.lst acc])[n]? = some (Ce.lst acc) := by
      rw [List.getElem?_append_right (by omega), hn, Nat.sub_self] <;> rfl
    rw [hg]
    show (if acc.length < 1000000 then _ else _) = _
    rw [if_pos (by omega)]
    have hs : (S0 ++ [Ce.lst acc]).set n (Ce.lst (acc ++ [y])) = S0 ++ [Ce.lst (acc ++ [y])] := by
      rw [List.set_append_right _ _ (by omega), hn, Nat.sub_self] <;> rfl
    rw [hs, ih (acc ++ [y]) S0 hn hp (by rw [List.length_append, List.length_cons, List.length_nil]; omega), List.append_assoc] <;> rfl
theorem mLc_rel {j : Nat} {it : MI} {elt : ME} {ρ : List Sl} {S : List Ce} {ds ys : List D} (hit : it ρ S = .ok ds S) (hp : plain S = true) (hl : ds.length ≤ 100000) (h : Fa2 (fun d y => ∀ S, plain S = true → elt (ρ.set j (.dat d)) S = .ok (.dat y) S) ds ys) :
    mLc j it tYes' elt ρ S = .ok (.dat (.lst ys)) S := by
  unfold mLc mLcO
  rw [hit, RE.ok_bind, lc_rel h [] S rfl hp (by simpa using hl), RE.ok_bind, List.nil_append]
  exact frzL_new hp
theorem lc_drawP {n j jd q : Nat} {elt : ME} {ρ : List Sl} {P : D → Prop} {M : Nat} (he : ∀ (S : List Ce) (cs : List D) (N : Nat) (d : D), plain S = true → S[jd]? = some (.lst cs) → Dice cs N → N < M → ∃ y cs', P y ∧ elt (ρ.set j (.dat d)) S = .ok (.dat y) (S.set jd (.lst cs')) ∧ Dice cs' (N + q)) :
    ∀ (ds : List D) (S0 : List Ce) (cs acc : List D) (N : Nat), plain S0 = true → S0.length = n → S0[jd]? = some (.lst cs) → Dice cs N → N + q * ds.length < M → acc.length + ds.length ≤ 1000 →
      ∃ ys cs', lcL n j tYes' elt ds ρ (S0 ++ [.lst acc]) = .ok () (S0.set jd (.lst cs') ++ [.lst (acc ++ ys)]) ∧ ys.length = ds.length ∧ (∀ y ∈ ys, P y) ∧ Dice cs' (N + q * ds.length)
  | [], S0, cs, acc, N, hp, hn, hS, hd, _, _ => ⟨[], cs, by
      rw [lcL_nil, List.append_nil]
      have : S0.set jd (.lst cs) = S0 := by
        have h := (List.getElem?_eq_some_iff.mp hS)
        obtain ⟨h1, h2⟩ := h
        rw [← h2]
        exact List.set_getElem_self h1
      rw [this], rfl, (fun y hy => nomatch hy), hd⟩
  | d :: ds, S0, cs, acc, N, hp, hn, hS, hd, hM, hl => by
    have hj := (List.getElem?_eq_some_iff.mp hS).1
    rw [List.length_cons, Nat.mul_succ] at hM
    rw [List.length_cons] at hl
    obtain ⟨y, cs1, hy, ey, hd1⟩ := he (S0 ++ [.lst acc]) cs N d (by unfold plain at *; rw [List.all_append, hp]; rfl) (by rw [List.getElem?_append_left hj]; exact hS) hd (by omega)
    rw [List.set_append_left _ _ hj] at ey
    obtain ⟨ys, cs2, e2, hl2, hp2, hd2⟩ := lc_drawP (n := n) he ds (S0.set jd (.lst cs1)) cs1 (acc ++ [y]) (N + q) (plain_set hp) (by rw [List.length_set]; exact hn) (List.getElem?_set_self hj) hd1 (by omega) (by rw [List.length_append, List.length_cons, List.length_nil]; omega)
    refine ⟨y :: ys, cs2, ?_, by rw [List.length_cons, List.length_cons, hl2], fun x hx => ?_, ?_⟩
    · rw [lcL_cons, ey]
      show lcK n j tYes' elt ds ρ (.dat y) _ = _
      unfold lcK
      have hg : (S0.set jd (Ce.lst cs1) ++ [Ce.lst acc])[n]? = some (Ce.lst acc) := by
        rw [List.getElem?_append_right (by rw [List.length_set]; omega), List.length_set, hn, Nat.sub_self] <;> rfl
      rw [hg]
      show (if acc.length < 1000000 then _ else _) = _
      rw [if_pos (by omega)]
      have hs : (S0.set jd (Ce.lst cs1) ++ [Ce.lst acc]).set n (Ce.lst (acc ++ [y])) = S0.set jd (Ce.lst cs1) ++ [Ce.lst (acc ++ [y])] := by
        rw [List.set_append_right _ _ (by rw [List.length_set]; omega), List.length_set, hn, Nat.sub_self] <;> rfl
      rw [hs, e2, List.set_set, List.append_assoc] <;> rfl
    · rcases List.mem_cons.mp hx with rfl | hx
      · exact hy
      · exact hp2 x hx
    · rw [List.length_cons, Nat.mul_succ, Nat.add_comm (q * ds.length) q, ← Nat.add_assoc]
      exact hd2
theorem mLc_drawP {j jd q M : Nat} {it : MI} {elt : ME} {ρ : List Sl} {P : D → Prop} {S : List Ce} {cs ds : List D} {N : Nat} (hit : it ρ S = .ok ds S) (hp : plain S = true) (hS : S[jd]? = some (.lst cs)) (hd : Dice cs N) (hM : N + q * ds.length < M) (hl : ds.length ≤ 1000)
    (he : ∀ (S : List Ce) (cs : List D) (N : Nat) (d : D), plain S = true → S[jd]? = some (.lst cs) → Dice cs N → N < M → ∃ y cs', P y ∧ elt (ρ.set j (.dat d)) S = .ok (.dat y) (S.set jd (.lst cs')) ∧ Dice cs' (N + q)) :
    ∃ ys cs', mLc j it tYes' elt ρ S = .ok (.dat (.lst ys)) (S.set jd (.lst cs')) ∧ ys.length = ds.length ∧ (∀ y ∈ ys, P y) ∧ Dice cs' (N + q * ds.length) := by
  obtain ⟨ys, cs', e, h1, h2, h3⟩ := lc_drawP he ds S cs [] N hp rfl hS hd hM (by simpa using hl)
  refine ⟨ys, cs', ?_, h1, h2, h3⟩
  unfold mLc mLcO
  rw [hit, RE.ok_bind, e, RE.ok_bind, List.nil_append]
  have := frzL_new (S := S.set jd (.lst cs')) (ds := ys) (plain_set hp)
  rw [List.length_set] at this
  exact this

end Mir
namespace Mir
open PySem PySem.Spec L2
/-! ### for the ends -/
theorem Vals.at {xs : List V} {us : List Value} (r : Vals xs us) (i : Nat) : Vals (xs[i]?).toList (us[i]?).toList := by
  induction r generalizing i with
  | nil => simp; exact .nil
  | cons h t ih =>
    cases i with
    | zero => simp; exact .cons h .nil
    | succ i => simpa using ih i
section
variable [CM : ClsMap] {K : PySem.W.Frag} {C t : Nat} {b : Bool} {l : List (Nat × Bool)}
theorem it_nil : IsiT K C [] := fun _ _ h => by simp at h
theorem it_cons (h1 : PySem.W.kitOne K (tyV t) (.ref (CM.A C)) = some b) (h2 : ∀ n, t = n + 7 → IsiC K (CM.A n)) (r : IsiT K C l) : IsiT K C ((t, b) :: l) := fun t' b' h => by
  rcases List.mem_cons.mp h with e | e
  · cases e; exact ⟨h1, h2⟩
  · exact r t' b' e
theorem it_low (h : t < 7) : ∀ n, t = n + 7 → IsiC K (CM.A n) := fun n e => absurd e (by omega)
theorem it_own {m : Nat} (h : IsiC K (CM.A m)) : ∀ n, m + 7 = n + 7 → IsiC K (CM.A n) := fun n e => by
  have : m = n := by omega
  subst this; exact h
end
end Mir

set_option maxHeartbeats 4000000
namespace Mir
open PySem PySem.Spec L2
def topS (i : Nat) : Stmt := PySem.Challenge.pw_pagewright_k03_whole_sums_of_glue.main.body.getD i (.Pass ⟨0, 0, 0, 0⟩)
abbrev s_is_int : Stmt := topS 7
theorem sc_is_int : FnScope ["value"] ["value"] (defScope s_is_int) := ⟨rfl, rfl, rfl, by decide +kernel, rfl, by decide +kernel, by decide +kernel⟩
abbrev s_is_length : Stmt := topS 12
theorem sc_is_length : FnScope ["value"] ["value"] (defScope s_is_length) := ⟨rfl, rfl, rfl, by decide +kernel, rfl, by decide +kernel, by decide +kernel⟩
abbrev s_is_order : Stmt := topS 19
theorem sc_is_order : FnScope ["value"] ["value"] (defScope s_is_order) := ⟨rfl, rfl, rfl, by decide +kernel, rfl, by decide +kernel, by decide +kernel⟩
abbrev s_is_amount : Stmt := topS 20
theorem sc_is_amount : FnScope ["amount", "order"] ["amount", "order"] (defScope s_is_amount) := ⟨rfl, rfl, rfl, by decide +kernel, rfl, by decide +kernel, by decide +kernel⟩
abbrev s_order_for : Stmt := topS 21
theorem sc_order_for : FnScope ["amount", "order"] ["amount", "order"] (defScope s_order_for) := ⟨rfl, rfl, rfl, by decide +kernel, rfl, by decide +kernel, by decide +kernel⟩
abbrev s_joined : Stmt := topS 22
theorem sc_joined : FnScope ["one", "other"] ["one", "other"] (defScope s_joined) := ⟨rfl, rfl, rfl, by decide +kernel, rfl, by decide +kernel, by decide +kernel⟩
abbrev s__law_dice : Stmt := topS 26
theorem sc__law_dice : FnScope ["_law_script", "_law_spot", "_law_cell", "_law_left"] ["_law_script", "_law_spot"] (defScope s__law_dice) := ⟨rfl, rfl, rfl, by decide +kernel, rfl, by decide +kernel, by decide +kernel⟩
abbrev s__law_roll : Stmt := topS 27
theorem sc__law_roll : FnScope ["_law_dice_here", "_law_total", "_law_found", "_law_one", "_law_two"] ["_law_dice_here", "_law_total"] (defScope s__law_roll) := ⟨rfl, rfl, rfl, by decide +kernel, rfl, by decide +kernel, by decide +kernel⟩
abbrev s__law_pick : Stmt := topS 28
theorem sc__law_pick : FnScope ["_law_dice_here", "_law_items"] ["_law_dice_here", "_law_items"] (defScope s__law_pick) := ⟨rfl, rfl, rfl, by decide +kernel, rfl, by decide +kernel, by decide +kernel⟩
abbrev s__law_drawn_length : Stmt := topS 29
theorem sc__law_drawn_length : FnScope ["_law_dice_here", "_law_way", "_law_found"] ["_law_dice_here"] (defScope s__law_drawn_length) := ⟨rfl, rfl, rfl, by decide +kernel, rfl, by decide +kernel, by decide +kernel⟩
abbrev s__law_drawn_glue : Stmt := topS 30
theorem sc__law_drawn_glue : FnScope ["_law_dice_here", "_law_found", "_law_turn", "_law_amount"] ["_law_dice_here"] (defScope s__law_drawn_glue) := ⟨rfl, rfl, rfl, by decide +kernel, rfl, by decide +kernel, by decide +kernel⟩
abbrev s__law_made : Stmt := topS 31
theorem sc__law_made : FnScope ["_law_plain"] ["_law_plain"] (defScope s__law_made) := ⟨rfl, rfl, rfl, by decide +kernel, rfl, by decide +kernel, by decide +kernel⟩
abbrev s__law_parts : Stmt := topS 32
theorem sc__law_parts : FnScope ["_law_glue"] ["_law_glue"] (defScope s__law_parts) := ⟨rfl, rfl, rfl, by decide +kernel, rfl, by decide +kernel, by decide +kernel⟩
abbrev s__law_fair : Stmt := topS 33
theorem sc__law_fair : FnScope ["_law_plain", "_law_great", "_law_one"] ["_law_plain"] (defScope s__law_fair) := ⟨rfl, rfl, rfl, by decide +kernel, rfl, by decide +kernel, by decide +kernel⟩
abbrev s__law_both : Stmt := topS 34
theorem sc__law_both : FnScope ["_law_one", "_law_other"] ["_law_one", "_law_other"] (defScope s__law_both) := ⟨rfl, rfl, rfl, by decide +kernel, rfl, by decide +kernel, by decide +kernel⟩
abbrev s__law_sum : Stmt := topS 35
theorem sc__law_sum : FnScope ["_law_one", "_law_other"] ["_law_one", "_law_other"] (defScope s__law_sum) := ⟨rfl, rfl, rfl, by decide +kernel, rfl, by decide +kernel, by decide +kernel⟩
abbrev s__law_product : Stmt := topS 36
theorem sc__law_product : FnScope ["_law_plain", "_law_many", "_law_found"] ["_law_plain", "_law_many"] (defScope s__law_product) := ⟨rfl, rfl, rfl, by decide +kernel, rfl, by decide +kernel, by decide +kernel⟩
abbrev s__law_added : Stmt := topS 37
theorem sc__law_added : FnScope ["_law_one", "_law_other"] ["_law_one", "_law_other"] (defScope s__law_added) := ⟨rfl, rfl, rfl, by decide +kernel, rfl, by decide +kernel, by decide +kernel⟩
abbrev s__law_times : Stmt := topS 38
theorem sc__law_times : FnScope ["_law_glue", "_law_many"] ["_law_glue", "_law_many"] (defScope s__law_times) := ⟨rfl, rfl, rfl, by decide +kernel, rfl, by decide +kernel, by decide +kernel⟩
abbrev s__law_right : Stmt := topS 39
theorem sc__law_right : FnScope ["_law_dice_here", "_law_plains", "_law_glues", "_law_a", "_law_b", "_law_c", "_law_sums", "_law_dues", "_law_many", "_law_turn", "_law_plain", "_law_glue"] ["_law_dice_here"] (defScope s__law_right) := ⟨rfl, rfl, rfl, by decide +kernel, rfl, by decide +kernel, by decide +kernel⟩
abbrev s_law : Stmt := topS 40
theorem sc_law : FnScope ["_law_script", "_law_spot", "_law_dice_here", "_law_turn", "_law_one", "_law_told"] ["_law_script"] (defScope s_law) := ⟨rfl, rfl, rfl, by decide +kernel, rfl, by decide +kernel, by decide +kernel⟩
abbrev s_Glue_DinitD : Stmt := inClass (topS 24) 0
theorem sc_Glue_DinitD : FnScope ["self", "natural", "stretch", "stretch_order", "shrink", "shrink_order"] ["self", "natural", "stretch", "stretch_order", "shrink", "shrink_order"] (defScope s_Glue_DinitD) := ⟨rfl, rfl, rfl, by decide +kernel, rfl, by decide +kernel, by decide +kernel⟩
abbrev s_Glue_natural : Stmt := inClass (topS 24) 2
theorem sc_Glue_natural : FnScope ["self"] ["self"] (defScope s_Glue_natural) := ⟨rfl, rfl, rfl, by decide +kernel, rfl, by decide +kernel, by decide +kernel⟩
abbrev s_Glue_stretch : Stmt := inClass (topS 24) 3
theorem sc_Glue_stretch : FnScope ["self"] ["self"] (defScope s_Glue_stretch) := ⟨rfl, rfl, rfl, by decide +kernel, rfl, by decide +kernel, by decide +kernel⟩
abbrev s_Glue_stretch_order : Stmt := inClass (topS 24) 4
theorem sc_Glue_stretch_order : FnScope ["self"] ["self"] (defScope s_Glue_stretch_order) := ⟨rfl, rfl, rfl, by decide +kernel, rfl, by decide +kernel, by decide +kernel⟩
abbrev s_Glue_shrink : Stmt := inClass (topS 24) 5
theorem sc_Glue_shrink : FnScope ["self"] ["self"] (defScope s_Glue_shrink) := ⟨rfl, rfl, rfl, by decide +kernel, rfl, by decide +kernel, by decide +kernel⟩
abbrev s_Glue_shrink_order : Stmt := inClass (topS 24) 6
theorem sc_Glue_shrink_order : FnScope ["self"] ["self"] (defScope s_Glue_shrink_order) := ⟨rfl, rfl, rfl, by decide +kernel, rfl, by decide +kernel, by decide +kernel⟩
abbrev s_Glue_DaddD : Stmt := inClass (topS 24) 8
theorem sc_Glue_DaddD : FnScope ["self", "other", "stretch", "stretch_order", "shrink", "shrink_order"] ["self", "other"] (defScope s_Glue_DaddD) := ⟨rfl, rfl, rfl, by decide +kernel, rfl, by decide +kernel, by decide +kernel⟩
abbrev s_Glue_DmulD : Stmt := inClass (topS 24) 9
theorem sc_Glue_DmulD : FnScope ["self", "other"] ["self", "other"] (defScope s_Glue_DmulD) := ⟨rfl, rfl, rfl, by decide +kernel, rfl, by decide +kernel, by decide +kernel⟩
abbrev s_Glue_DeqD : Stmt := inClass (topS 24) 10
theorem sc_Glue_DeqD : FnScope ["self", "other"] ["self", "other"] (defScope s_Glue_DeqD) := ⟨rfl, rfl, rfl, by decide +kernel, rfl, by decide +kernel, by decide +kernel⟩
abbrev s_Glue__parts : Stmt := inClass (topS 24) 11
theorem sc_Glue__parts : FnScope ["self"] ["self"] (defScope s_Glue__parts) := ⟨rfl, rfl, rfl, by decide +kernel, rfl, by decide +kernel, by decide +kernel⟩
/-! error classes: 0 PressError, 1 InvalidLength, 2 InvalidGlue; classes: 100 Glue -/
def nk : Nat := 3
def subT : Nat → Nat → Bool := fun i j => ([(0, 0), (1, 0), (1, 1), (2, 0), (2, 2)] : List (Nat × Nat)).contains (i, j)
def k_INTEGER_END : D := .int 1000000000000000000000000000000000000000000000000000000000000
def k_MAX_LENGTH : D := .int 1073741823
def k_ORDERS : D := .tup [.str "pt", .str "fil", .str "fill", .str "filll"]
def it_Glue : List (Nat × Bool) := [(0, false), (1, false), (2, false), (3, false), (4, false), (5, false), (6, false), (107, true)]
def g_Glue_DinitD_2_stretch_shrink : List Sl → List Sl → List Sl := fun as bs => match as, bs with
  | [a0, a1], [b0, b1] => [a0, a1, b0, .dat (.int 0), b1, .dat (.int 0)]
  | _, _ => []
def g_Glue_DinitD_2_stretch_stretch_order_shrink : List Sl → List Sl → List Sl := fun as bs => match as, bs with
  | [a0, a1], [b0, b1, b2] => [a0, a1, b0, b1, b2, .dat (.int 0)]
  | _, _ => []
def g_Glue_DinitD_2_stretch_stretch_order_shrink_shrink_order : List Sl → List Sl → List Sl := fun as bs => match as, bs with
  | [a0, a1], [b0, b1, b2, b3] => [a0, a1, b0, b1, b2, b3]
  | _, _ => []
def g_Glue_DinitD_2_stretch_order : List Sl → List Sl → List Sl := fun as bs => match as, bs with
  | [a0, a1], [b0] => [a0, a1, .dat (.int 0), b0, .dat (.int 0), .dat (.int 0)]
  | _, _ => []
def g_Glue__parts_1 : List Sl → List Sl → List Sl := fun as _ => as
variable [CM : ClsMap]
structure Tx (P : Program) (w : World) (K : PySem.W.Frag) (mg : Str → Option Value) : Prop where
  b_abs : mg "abs" = none
  b_bool : mg "bool" = none
  b_int : mg "int" = none
  b_isinstance : mg "isinstance" = none
  b_len : mg "len" = none
  b_list : mg "list" = none
  b_max : mg "max" = none
  b_min : mg "min" = none
  b_range : mg "range" = none
  b_repr : mg "repr" = none
  e_InvalidGlue : OwnE K mg "InvalidGlue" (CM.A 2)
  fd_Glue__natural : FldC K "_natural" 100
  fd_Glue__shrink : FldC K "_shrink" 100
  fd_Glue__shrink_order : FldC K "_shrink_order" 100
  fd_Glue__stretch : FldC K "_stretch" 100
  fd_Glue__stretch_order : FldC K "_stretch_order" 100
  g_INTEGER_END : KonD K mg "INTEGER_END" k_INTEGER_END
  g_MAX_LENGTH : KonD K mg "MAX_LENGTH" k_MAX_LENGTH
  g_ORDERS : KonD K mg "ORDERS" k_ORDERS
  it_Glue : IsiT K 100 it_Glue
  n_Glue : mg "Glue" = some (.ref (CM.A 100))
  n_InvalidGlue : mg "InvalidGlue" = some (.ref (CM.A 2))
  sb : Subs K nk subT
variable {P : Program} {w : World} {K : PySem.W.Frag} {mg : Str → Option Value} {base : Heap}
def m_is_int (n0 : Nat) : MS :=
  (gRet (mAnd (mBlt isiF (aCons (mVar 0) (aCons (mK (.ty "int")) aNil))) (mAnd (mNot (mBlt isiF (aCons (mVar 0) (aCons (mK (.ty "bool")) aNil)))) (mOp ltF (mBlt absF (aCons (mVar 0) aNil)) (mK k_INTEGER_END)))))
def f_is_int : MF := mkF 0 m_is_int
theorem cal_is_int {fn : Addr} {fd : FuncData} (T : Tx P w K mg)   (F : Fun K "is_int" "is_int" s_is_int fn fd) (hm : mg "is_int" = some (.ref fn)) (hb : Binds K fd ["value"] []) : Cal P w K mg base 1 "is_int" (spM K 1 f_is_int) :=
  fnM F sc_is_int hm hb (fun cdv A outer s H E Fx n0 hr h0 =>
  (ds_one (d1_ret (de_and (de_callB cr_isi rdIsi T.b_isinstance (by decide +kernel) (da_cons (de_var 0) (da_cons (de_ty (n := "int") T.b_int (by decide +kernel)) da_nil))) (de_and (de_not (de_callB cr_isi rdIsi T.b_isinstance (by decide +kernel) (da_cons (de_var 0) (da_cons (de_ty (n := "bool") T.b_bool (by decide +kernel)) da_nil)))) (de_one (de_cmp opLt rdLt (de_callB cr_abs rdAbs T.b_abs (by decide +kernel) (da_cons (de_var 0) da_nil)) (de_glob T.g_INTEGER_END))))))))
def m_order_for (n0 : Nat) : MS :=
  (gSeq (gIf (tOf (mOp eqF (mVar 0) (mK (.int 0))))
  (gRet (mK (.int 0)))
  gNil)
  (gRet (mVar 1)))
def f_order_for : MF := mkF 0 m_order_for
theorem cal_order_for {fn : Addr} {fd : FuncData} (T : Tx P w K mg)   (F : Fun K "order_for" "order_for" s_order_for fn fd) (hm : mg "order_for" = some (.ref fn)) (hb : Binds K fd ["amount", "order"] []) : Cal P w K mg base 1 "order_for" (spM K 2 f_order_for) :=
  fnM F sc_order_for hm hb (fun cdv A outer s H E Fx n0 hr h0 =>
  (ds_cons (d1_if (dt_cmp (opEq hr.units) rdEq (de_var 0) de_int)
  (ds_one (d1_ret de_int))
  ds_nil)
  (ds_one (d1_ret (de_var 1)))))
def m_joined (n0 : Nat) : MS :=
  (gSeq (gIf (tOf (mOp gtF (mOp ixF (mVar 0) (mK (.int 1))) (mOp ixF (mVar 1) (mK (.int 1)))))
  (gRet (mVar 0))
  gNil)
  (gSeq (gIf (tOf (mOp ltF (mOp ixF (mVar 0) (mK (.int 1))) (mOp ixF (mVar 1) (mK (.int 1)))))
  (gRet (mVar 1))
  gNil)
  (gRet (mTup (aCons (mOp addF (mOp ixF (mVar 0) (mK (.int 0))) (mOp ixF (mVar 1) (mK (.int 0)))) (aCons (mOp ixF (mVar 0) (mK (.int 1))) aNil))))))
def f_joined : MF := mkF 0 m_joined
theorem cal_joined {fn : Addr} {fd : FuncData} (T : Tx P w K mg)   (F : Fun K "joined" "joined" s_joined fn fd) (hm : mg "joined" = some (.ref fn)) (hb : Binds K fd ["one", "other"] []) : Cal P w K mg base 1 "joined" (spM K 2 f_joined) :=
  fnM F sc_joined hm hb (fun cdv A outer s H E Fx n0 hr h0 =>
  (ds_cons (d1_if (dt_cmp opGt rdGt (de_ix ixSeq rdIx (de_var 0) de_int) (de_ix ixSeq rdIx (de_var 1) de_int))
  (ds_one (d1_ret (de_var 0)))
  ds_nil)
  (ds_cons (d1_if (dt_cmp opLt rdLt (de_ix ixSeq rdIx (de_var 0) de_int) (de_ix ixSeq rdIx (de_var 1) de_int))
  (ds_one (d1_ret (de_var 1)))
  ds_nil)
  (ds_one (d1_ret (de_tup (da_cons (de_op opAdd rdAdd (de_ix ixSeq rdIx (de_var 0) de_int) (de_ix ixSeq rdIx (de_var 1) de_int)) (da_cons (de_ix ixSeq rdIx (de_var 0) de_int) da_nil))))))))
theorem cal__law_dice {fn : Addr} {fd : FuncData} (T : Tx P w K mg)   (F : Fun K "_law_dice" "_law_dice" s__law_dice fn fd) (hm : mg "_law_dice" = some (.ref fn)) (hb : Binds K fd ["_law_script", "_law_spot"] []) : Cal P w K mg base 1 "_law_dice" (spM K 2 f__law_dice) :=
  fnM F sc__law_dice hm hb (fun cdv A outer s H E Fx n0 hr h0 =>
  (ds_cons (d1_set 2 sc__law_dice.nd (de_if (dt_cmp opLt rdLt (de_var 1) (de_callB cr_len rdLen T.b_len (by decide +kernel) (da_cons (de_var 0) da_nil))) (de_callTy cr_int rdInt T.b_int (by decide +kernel) (da_cons (de_ix ixSeq rdIx (de_var 0) (de_var 1)) da_nil)) (de_op opAdd rdAdd (de_op opMul rdMul de_int (de_var 1)) de_int)))
  (ds_cons (d1_set 3 sc__law_dice.nd (de_op opMod rdMod (de_callB (cr_max2 rfl) rdMax2 T.b_max (by decide +kernel) (da_cons de_int (da_cons (de_op opSub rdSub (de_callB cr_abs rdAbs T.b_abs (by decide +kernel) (da_cons (de_var 2) da_nil)) (de_op opPow rdPow de_int de_int)) da_nil))) (de_op opMul rdMul (de_op opPow rdPow de_int de_int) (de_op opPow rdPow de_int de_int))))
  (ds_one (d1_ret (de_lstO (da_cons (de_var 3) (da_cons (de_op opAdd rdAdd (de_op opAdd rdAdd (de_op opAdd rdAdd (de_op opMul rdMul (de_op opMod rdMod (de_callB cr_abs rdAbs T.b_abs (by decide +kernel) (da_cons (de_var 2) da_nil)) de_int) de_int) (de_op opMul rdMul de_int (de_var 1))) (de_op opMul rdMul de_int (de_callTy cr_int rdInt T.b_int (by decide +kernel) (da_cons (de_cmp opLt rdLt (de_var 2) de_int) da_nil)))) de_int) (da_cons de_int da_nil)))))))))
theorem cal__law_roll {fn : Addr} {fd : FuncData} (T : Tx P w K mg)   (F : Fun K "_law_roll" "_law_roll" s__law_roll fn fd) (hm : mg "_law_roll" = some (.ref fn)) (hb : Binds K fd ["_law_dice_here", "_law_total"] []) : Cal P w K mg base 1 "_law_roll" (spM K 2 f__law_roll) :=
  fnM F sc__law_roll hm hb (fun cdv A outer s H E Fx n0 hr h0 =>
  (ds_cons (d1_if (dt_cmp opGt rdGt (de_ix ixSeq rdIx (de_var 0) de_int) de_int)
  (ds_cons (d1_set 2 sc__law_roll.nd (de_op opMod rdMod (de_callTy cr_int rdInt T.b_int (by decide +kernel) (da_cons (de_ix ixSeq rdIx (de_var 0) de_int) da_nil)) (de_var 1)))
  (ds_cons (d1_sto 0 (de_op opDiv rdDiv (de_ix ixSeq rdIx (de_var 0) de_int) (de_var 1)) de_int)
  (ds_one (d1_ret (de_var 2)))))
  ds_nil)
  (ds_cons (d1_sto 0 (de_op opAdd rdAdd (de_ix ixSeq rdIx (de_var 0) de_int) de_int) de_int)
  (ds_cons (d1_set 3 sc__law_roll.nd (de_op opMod rdMod (de_callTy cr_int rdInt T.b_int (by decide +kernel) (da_cons (de_op opAdd rdAdd (de_ix ixSeq rdIx (de_var 0) de_int) (de_op opMul rdMul de_int (de_ix ixSeq rdIx (de_var 0) de_int))) da_nil)) de_int))
  (ds_cons (d1_set 4 sc__law_roll.nd (de_op opAdd rdAdd (de_op opMul rdMul (de_op opMod rdMod (de_callTy cr_int rdInt T.b_int (by decide +kernel) (da_cons (de_op opAdd rdAdd (de_op opMul rdMul (de_var 3) (de_var 3)) (de_op opMul rdMul de_int (de_ix ixSeq rdIx (de_var 0) de_int))) da_nil)) de_int) de_int) (de_var 3)))
  (ds_one (d1_ret (de_op opMod rdMod (de_callTy cr_int rdInt T.b_int (by decide +kernel) (da_cons (de_op opDiv rdDiv (de_var 4) de_int) da_nil)) (de_var 1)))))))))
def m__law_fair (n0 : Nat) : MS :=
  (gSeq (gSet 1 (mLc 2 (mIt (mTup (aCons (mOp ixF (mVar 0) (mK (.int 0))) (aCons (mOp ixF (mVar 0) (mK (.int 1))) (aCons (mOp ixF (mVar 0) (mK (.int 3))) aNil))))) (tOf (mOp geF (mBlt absF (aCons (mVar 2) aNil)) (mOp powF (mK (.int 2)) (mK (.int 30))))) (mVar 2)))
  (gRet (mIf (tOf (mOp eqF (mVar 1) (mLst aNil))) (mVar 0) (mK (.non)))))
def f__law_fair : MF := mkF 2 m__law_fair
theorem cal__law_fair {fn : Addr} {fd : FuncData} (T : Tx P w K mg)   (F : Fun K "_law_fair" "_law_fair" s__law_fair fn fd) (hm : mg "_law_fair" = some (.ref fn)) (hb : Binds K fd ["_law_plain"] []) : Cal P w K mg base 1 "_law_fair" (spM K 1 f__law_fair) :=
  fnM F sc__law_fair hm hb (fun cdv A outer s H E Fx n0 hr h0 =>
  (ds_cons (d1_setLc (own := [("_law_one", 2)]) 1 2 rfl sc__law_fair.nd (blkOk_by (N := ["_law_plain", "_law_great", "_law_one"]) (sc := defScope s__law_fair) (by decide +kernel)) rfl (fun _ _ _ _ _ => pg_name (i := 2) sc__law_fair.nd rfl (Or.inl rfl)) (sw_true rfl rfl rfl (by decide +kernel)) (di_it (de_tup (da_cons (de_ix ixSeq rdIx (de_var 0) de_int) (da_cons (de_ix ixSeq rdIx (de_var 0) de_int) (da_cons (de_ix ixSeq rdIx (de_var 0) de_int) da_nil))))) (.one (fun s H C cl fp => (dt_cmp opGe rdGe (de_callB cr_abs rdAbs T.b_abs (by decide +kernel) (da_cons (de_var 2) da_nil)) (de_op opPow rdPow de_int de_int)))) (fun s H C cl fp => (de_var 2)))
  (ds_one (d1_ret (de_if (dt_cmp (opEq hr.units) rdEq (de_var 1) (de_lst da_nil)) (de_var 0) de_non)))))
def m__law_both (n0 : Nat) : MS :=
  (gSeq (gIf (tOf (mOp eqF (mOp ixF (mVar 0) (mK (.int 1))) (mOp ixF (mVar 1) (mK (.int 1)))))
  (gRet (mLst (aCons (mOp addF (mOp ixF (mVar 0) (mK (.int 0))) (mOp ixF (mVar 1) (mK (.int 0)))) (aCons (mOp ixF (mVar 0) (mK (.int 1))) aNil))))
  gNil)
  (gRet (mBlt listF (aCons (mIf (tOf (mOp gtF (mOp ixF (mVar 0) (mK (.int 1))) (mOp ixF (mVar 1) (mK (.int 1))))) (mVar 0) (mVar 1)) aNil))))
def f__law_both : MF := mkF 0 m__law_both
theorem cal__law_both {fn : Addr} {fd : FuncData} (T : Tx P w K mg)   (F : Fun K "_law_both" "_law_both" s__law_both fn fd) (hm : mg "_law_both" = some (.ref fn)) (hb : Binds K fd ["_law_one", "_law_other"] []) : Cal P w K mg base 1 "_law_both" (spM K 2 f__law_both) :=
  fnM F sc__law_both hm hb (fun cdv A outer s H E Fx n0 hr h0 =>
  (ds_cons (d1_if (dt_cmp (opEq hr.units) rdEq (de_ix ixSeq rdIx (de_var 0) de_int) (de_ix ixSeq rdIx (de_var 1) de_int))
  (ds_one (d1_ret (de_lst (da_cons (de_op opAdd rdAdd (de_ix ixSeq rdIx (de_var 0) de_int) (de_ix ixSeq rdIx (de_var 1) de_int)) (da_cons (de_ix ixSeq rdIx (de_var 0) de_int) da_nil)))))
  ds_nil)
  (ds_one (d1_ret (de_callTy cr_list rdList T.b_list (by decide +kernel) (da_cons (de_if (dt_cmp opGt rdGt (de_ix ixSeq rdIx (de_var 0) de_int) (de_ix ixSeq rdIx (de_var 1) de_int)) (de_var 0) (de_var 1)) da_nil))))))
def m_Glue_natural (n0 : Nat) : MS :=
  (gRet (mFld [100] "_natural" (mVar 0)))
def f_Glue_natural : MF := mkF 0 m_Glue_natural
theorem ok_Glue_natural {fn : Addr} {fd : FuncData} (T : Tx P w K mg)   (F : Fun K "natural" "Glue.natural" s_Glue_natural fn fd) : FnOk P w K mg base (L2.CX P w) 1 fn fd ["self"] (spM K 1 f_Glue_natural) :=
  fnMF F sc_Glue_natural (fun cdv A outer s H E Fx n0 hr h0 =>
  (ds_one (d1_ret (de_fld (cs_cons T.fd_Glue__natural cs_nil) (de_var 0)))))
def m_Glue_stretch (n0 : Nat) : MS :=
  (gRet (mFld [100] "_stretch" (mVar 0)))
def f_Glue_stretch : MF := mkF 0 m_Glue_stretch
theorem ok_Glue_stretch {fn : Addr} {fd : FuncData} (T : Tx P w K mg)   (F : Fun K "stretch" "Glue.stretch" s_Glue_stretch fn fd) : FnOk P w K mg base (L2.CX P w) 1 fn fd ["self"] (spM K 1 f_Glue_stretch) :=
  fnMF F sc_Glue_stretch (fun cdv A outer s H E Fx n0 hr h0 =>
  (ds_one (d1_ret (de_fld (cs_cons T.fd_Glue__stretch cs_nil) (de_var 0)))))
def m_Glue_stretch_order (n0 : Nat) : MS :=
  (gRet (mFld [100] "_stretch_order" (mVar 0)))
def f_Glue_stretch_order : MF := mkF 0 m_Glue_stretch_order
theorem ok_Glue_stretch_order {fn : Addr} {fd : FuncData} (T : Tx P w K mg)   (F : Fun K "stretch_order" "Glue.stretch_order" s_Glue_stretch_order fn fd) : FnOk P w K mg base (L2.CX P w) 1 fn fd ["self"] (spM K 1 f_Glue_stretch_order) :=
  fnMF F sc_Glue_stretch_order (fun cdv A outer s H E Fx n0 hr h0 =>
  (ds_one (d1_ret (de_fld (cs_cons T.fd_Glue__stretch_order cs_nil) (de_var 0)))))
def m_Glue_shrink (n0 : Nat) : MS :=
  (gRet (mFld [100] "_shrink" (mVar 0)))
def f_Glue_shrink : MF := mkF 0 m_Glue_shrink
theorem ok_Glue_shrink {fn : Addr} {fd : FuncData} (T : Tx P w K mg)   (F : Fun K "shrink" "Glue.shrink" s_Glue_shrink fn fd) : FnOk P w K mg base (L2.CX P w) 1 fn fd ["self"] (spM K 1 f_Glue_shrink) :=
  fnMF F sc_Glue_shrink (fun cdv A outer s H E Fx n0 hr h0 =>
  (ds_one (d1_ret (de_fld (cs_cons T.fd_Glue__shrink cs_nil) (de_var 0)))))
def m_Glue_shrink_order (n0 : Nat) : MS :=
  (gRet (mFld [100] "_shrink_order" (mVar 0)))
def f_Glue_shrink_order : MF := mkF 0 m_Glue_shrink_order
theorem ok_Glue_shrink_order {fn : Addr} {fd : FuncData} (T : Tx P w K mg)   (F : Fun K "shrink_order" "Glue.shrink_order" s_Glue_shrink_order fn fd) : FnOk P w K mg base (L2.CX P w) 1 fn fd ["self"] (spM K 1 f_Glue_shrink_order) :=
  fnMF F sc_Glue_shrink_order (fun cdv A outer s H E Fx n0 hr h0 =>
  (ds_one (d1_ret (de_fld (cs_cons T.fd_Glue__shrink_order cs_nil) (de_var 0)))))
def m_Glue__parts (n0 : Nat) : MS :=
  (gRet (mTup (aCons (mFld [100] "_natural" (mVar 0)) (aCons (mFld [100] "_stretch" (mVar 0)) (aCons (mFld [100] "_stretch_order" (mVar 0)) (aCons (mFld [100] "_shrink" (mVar 0)) (aCons (mFld [100] "_shrink_order" (mVar 0)) aNil)))))))
def f_Glue__parts : MF := mkF 0 m_Glue__parts
theorem ok_Glue__parts {fn : Addr} {fd : FuncData} (T : Tx P w K mg)   (F : Fun K "_parts" "Glue._parts" s_Glue__parts fn fd) : FnOk P w K mg base (L2.CX P w) 1 fn fd ["self"] (spM K 1 f_Glue__parts) :=
  fnMF F sc_Glue__parts (fun cdv A outer s H E Fx n0 hr h0 =>
  (ds_one (d1_ret (de_tup (da_cons (de_fld (cs_cons T.fd_Glue__natural cs_nil) (de_var 0)) (da_cons (de_fld (cs_cons T.fd_Glue__stretch cs_nil) (de_var 0)) (da_cons (de_fld (cs_cons T.fd_Glue__stretch_order cs_nil) (de_var 0)) (da_cons (de_fld (cs_cons T.fd_Glue__shrink cs_nil) (de_var 0)) (da_cons (de_fld (cs_cons T.fd_Glue__shrink_order cs_nil) (de_var 0)) da_nil)))))))))
def m_is_length (n0 : Nat) : MS :=
  (gRet (mAnd (mCall f_is_int (aCons (mVar 0) aNil)) (mChain leF leF (mUn negF (mK k_MAX_LENGTH)) (mVar 0) (mK k_MAX_LENGTH))))
def f_is_length : MF := mkF 0 m_is_length
theorem cal_is_length {fn : Addr} {fd : FuncData} (T : Tx P w K mg) (C_is_int : Cal P w K mg base 1 "is_int" (spM K 1 f_is_int))  (F : Fun K "is_length" "is_length" s_is_length fn fd) (hm : mg "is_length" = some (.ref fn)) (hb : Binds K fd ["value"] []) : Cal P w K mg base 2 "is_length" (spM K 1 f_is_length) :=
  fnM F sc_is_length hm hb (fun cdv A outer s H E Fx n0 hr h0 =>
  (ds_one (d1_ret (de_and (de_call C_is_int (hr.mono (by decide)) (da_cons (de_var 0) da_nil)) (de_one (de_chain opLe rdLe opLe rdLe (de_un un_neg rdNeg (de_glob T.g_MAX_LENGTH)) (de_var 0) (de_glob T.g_MAX_LENGTH)))))))
def m_is_order (n0 : Nat) : MS :=
  (gRet (mAnd (mCall f_is_int (aCons (mVar 0) aNil)) (mChain leF ltF (mK (.int 0)) (mVar 0) (mBlt lenF (aCons (mK k_ORDERS) aNil)))))
def f_is_order : MF := mkF 0 m_is_order
theorem cal_is_order {fn : Addr} {fd : FuncData} (T : Tx P w K mg) (C_is_int : Cal P w K mg base 1 "is_int" (spM K 1 f_is_int))  (F : Fun K "is_order" "is_order" s_is_order fn fd) (hm : mg "is_order" = some (.ref fn)) (hb : Binds K fd ["value"] []) : Cal P w K mg base 2 "is_order" (spM K 1 f_is_order) :=
  fnM F sc_is_order hm hb (fun cdv A outer s H E Fx n0 hr h0 =>
  (ds_one (d1_ret (de_and (de_call C_is_int (hr.mono (by decide)) (da_cons (de_var 0) da_nil)) (de_one (de_chain opLe rdLe opLt rdLt de_int (de_var 0) (de_callB cr_len rdLen T.b_len (by decide +kernel) (da_cons (de_glob T.g_ORDERS) da_nil))))))))
theorem cal__law_pick {fn : Addr} {fd : FuncData} (T : Tx P w K mg) (C__law_roll : Cal P w K mg base 1 "_law_roll" (spM K 2 f__law_roll))  (F : Fun K "_law_pick" "_law_pick" s__law_pick fn fd) (hm : mg "_law_pick" = some (.ref fn)) (hb : Binds K fd ["_law_dice_here", "_law_items"] []) : Cal P w K mg base 2 "_law_pick" (spM K 2 f__law_pick) :=
  fnM F sc__law_pick hm hb (fun cdv A outer s H E Fx n0 hr h0 =>
  (ds_one (d1_ret (de_ix ixSeq rdIx (de_var 1) (de_call C__law_roll (hr.mono (by decide)) (da_cons (de_var 0) (da_cons (de_callB cr_len rdLen T.b_len (by decide +kernel) (da_cons (de_var 1) da_nil)) da_nil)))))))
def m__law_drawn_length (n0 : Nat) : MS :=
  (gSeq (gSet 1 (mCall f__law_roll (aCons (mVar 0) (aCons (mK (.int 6)) aNil))))
  (gSeq (gIf (tOf (mOp eqF (mVar 1) (mK (.int 0))))
  (gSet 2 (mCall f__law_roll (aCons (mVar 0) (aCons (mK (.int 20)) aNil))))
  (gIf (tOf (mOp eqF (mVar 1) (mK (.int 1))))
  (gSet 2 (mOp mulF (mCall f__law_roll (aCons (mVar 0) (aCons (mK (.int 400)) aNil))) (mK (.int 3277))))
  (gIf (tOf (mOp eqF (mVar 1) (mK (.int 2))))
  (gSet 2 (mOp subF (mOp subF (mOp powF (mK (.int 2)) (mK (.int 30))) (mK (.int 1))) (mCall f__law_roll (aCons (mVar 0) (aCons (mK (.int 3)) aNil)))))
  (gSet 2 (mCall f__law_roll (aCons (mVar 0) (aCons (mOp mulF (mK (.int 65536)) (mK (.int 40))) aNil)))))))
  (gRet (mIf (tOf (mOp gtF (mCall f__law_roll (aCons (mVar 0) (aCons (mK (.int 3)) aNil))) (mK (.int 0)))) (mVar 2) (mOp subF (mK (.int 0)) (mVar 2))))))
def f__law_drawn_length : MF := mkF 2 m__law_drawn_length
theorem cal__law_drawn_length {fn : Addr} {fd : FuncData} (T : Tx P w K mg) (C__law_roll : Cal P w K mg base 1 "_law_roll" (spM K 2 f__law_roll))  (F : Fun K "_law_drawn_length" "_law_drawn_length" s__law_drawn_length fn fd) (hm : mg "_law_drawn_length" = some (.ref fn)) (hb : Binds K fd ["_law_dice_here"] []) : Cal P w K mg base 2 "_law_drawn_length" (spM K 1 f__law_drawn_length) :=
  fnM F sc__law_drawn_length hm hb (fun cdv A outer s H E Fx n0 hr h0 =>
  (ds_cons (d1_set 1 sc__law_drawn_length.nd (de_call C__law_roll (hr.mono (by decide)) (da_cons (de_var 0) (da_cons de_int da_nil))))
  (ds_cons (d1_if (dt_cmp (opEq hr.units) rdEq (de_var 1) de_int)
  (ds_one (d1_set 2 sc__law_drawn_length.nd (de_call C__law_roll (hr.mono (by decide)) (da_cons (de_var 0) (da_cons de_int da_nil)))))
  (ds_one (d1_if (dt_cmp (opEq hr.units) rdEq (de_var 1) de_int)
  (ds_one (d1_set 2 sc__law_drawn_length.nd (de_op opMul rdMul (de_call C__law_roll (hr.mono (by decide)) (da_cons (de_var 0) (da_cons de_int da_nil))) de_int)))
  (ds_one (d1_if (dt_cmp (opEq hr.units) rdEq (de_var 1) de_int)
  (ds_one (d1_set 2 sc__law_drawn_length.nd (de_op opSub rdSub (de_op opSub rdSub (de_op opPow rdPow de_int de_int) de_int) (de_call C__law_roll (hr.mono (by decide)) (da_cons (de_var 0) (da_cons de_int da_nil))))))
  (ds_one (d1_set 2 sc__law_drawn_length.nd (de_call C__law_roll (hr.mono (by decide)) (da_cons (de_var 0) (da_cons (de_op opMul rdMul de_int de_int) da_nil))))))))))
  (ds_one (d1_ret (de_if (dt_cmp opGt rdGt (de_call C__law_roll (hr.mono (by decide)) (da_cons (de_var 0) (da_cons de_int da_nil))) de_int) (de_var 2) (de_op opSub rdSub de_int (de_var 2))))))))
def m__law_sum (n0 : Nat) : MS :=
  (gSeq (gIf (tOr (tOf (mOp isF (mVar 0) (mK (.non)))) (tOf (mOp isF (mVar 1) (mK (.non)))))
  (gRet (mK (.non)))
  gNil)
  (gRet (mCall f__law_fair (aCons (mOp addF (mOp addF (mLst (aCons (mOp addF (mOp ixF (mVar 0) (mK (.int 0))) (mOp ixF (mVar 1) (mK (.int 0)))) aNil)) (mCall f__law_both (aCons (mSl (mVar 0) (oSome (mK (.int 1))) (oSome (mK (.int 3)))) (aCons (mSl (mVar 1) (oSome (mK (.int 1))) (oSome (mK (.int 3)))) aNil)))) (mCall f__law_both (aCons (mSl (mVar 0) (oSome (mK (.int 3))) (oSome (mK (.int 5)))) (aCons (mSl (mVar 1) (oSome (mK (.int 3))) (oSome (mK (.int 5)))) aNil)))) aNil))))
def f__law_sum : MF := mkF 0 m__law_sum
theorem cal__law_sum {fn : Addr} {fd : FuncData} (T : Tx P w K mg) (C__law_fair : Cal P w K mg base 1 "_law_fair" (spM K 1 f__law_fair)) (C__law_both : Cal P w K mg base 1 "_law_both" (spM K 2 f__law_both))  (F : Fun K "_law_sum" "_law_sum" s__law_sum fn fd) (hm : mg "_law_sum" = some (.ref fn)) (hb : Binds K fd ["_law_one", "_law_other"] []) : Cal P w K mg base 2 "_law_sum" (spM K 2 f__law_sum) :=
  fnM F sc__law_sum hm hb (fun cdv A outer s H E Fx n0 hr h0 =>
  (ds_cons (d1_if (dt_w (dw_or (dt_cmp opIs rdIs (de_var 0) de_non) (dw_or1 (dt_cmp opIs rdIs (de_var 1) de_non))))
  (ds_one (d1_ret de_non))
  ds_nil)
  (ds_one (d1_ret (de_call C__law_fair (hr.mono (by decide)) (da_cons (de_op opAdd rdAdd (de_op opAdd rdAdd (de_lst (da_cons (de_op opAdd rdAdd (de_ix ixSeq rdIx (de_var 0) de_int) (de_ix ixSeq rdIx (de_var 1) de_int)) da_nil)) (de_call C__law_both (hr.mono (by decide)) (da_cons (de_sl (de_var 0) (do_some de_int) (do_some de_int)) (da_cons (de_sl (de_var 1) (do_some de_int) (do_some de_int)) da_nil)))) (de_call C__law_both (hr.mono (by decide)) (da_cons (de_sl (de_var 0) (do_some de_int) (do_some de_int)) (da_cons (de_sl (de_var 1) (do_some de_int) (do_some de_int)) da_nil)))) da_nil))))))
def m__law_product (n0 : Nat) : MS :=
  (gSeq (gSet 2 (mLst (aCons (mOp mulF (mOp ixF (mVar 0) (mK (.int 0))) (mVar 1)) (aCons (mOp mulF (mOp ixF (mVar 0) (mK (.int 1))) (mVar 1)) (aCons (mIf (tOf (mOp neF (mVar 1) (mK (.int 0)))) (mOp ixF (mVar 0) (mK (.int 2))) (mK (.int 0))) aNil)))))
  (gSeq (gSet 2 (mOp addF (mVar 2) (mLst (aCons (mOp mulF (mOp ixF (mVar 0) (mK (.int 3))) (mVar 1)) (aCons (mIf (tOf (mOp neF (mVar 1) (mK (.int 0)))) (mOp ixF (mVar 0) (mK (.int 4))) (mK (.int 0))) aNil)))))
  (gRet (mIf (tOr (tOf (mOp ltF (mOp ixF (mVar 2) (mK (.int 1))) (mK (.int 0)))) (tOf (mOp ltF (mOp ixF (mVar 2) (mK (.int 3))) (mK (.int 0))))) (mK (.non)) (mCall f__law_fair (aCons (mVar 2) aNil))))))
def f__law_product : MF := mkF 1 m__law_product
theorem cal__law_product {fn : Addr} {fd : FuncData} (T : Tx P w K mg) (C__law_fair : Cal P w K mg base 1 "_law_fair" (spM K 1 f__law_fair))  (F : Fun K "_law_product" "_law_product" s__law_product fn fd) (hm : mg "_law_product" = some (.ref fn)) (hb : Binds K fd ["_law_plain", "_law_many"] []) : Cal P w K mg base 2 "_law_product" (spM K 2 f__law_product) :=
  fnM F sc__law_product hm hb (fun cdv A outer s H E Fx n0 hr h0 =>
  (ds_cons (d1_set 2 sc__law_product.nd (de_lst (da_cons (de_op opMul rdMul (de_ix ixSeq rdIx (de_var 0) de_int) (de_var 1)) (da_cons (de_op opMul rdMul (de_ix ixSeq rdIx (de_var 0) de_int) (de_var 1)) (da_cons (de_if (dt_cmp (opNe hr.units) rdNe (de_var 1) de_int) (de_ix ixSeq rdIx (de_var 0) de_int) de_int) da_nil)))))
  (ds_cons (d1_set 2 sc__law_product.nd (de_op opAdd rdAdd (de_var 2) (de_lst (da_cons (de_op opMul rdMul (de_ix ixSeq rdIx (de_var 0) de_int) (de_var 1)) (da_cons (de_if (dt_cmp (opNe hr.units) rdNe (de_var 1) de_int) (de_ix ixSeq rdIx (de_var 0) de_int) de_int) da_nil)))))
  (ds_one (d1_ret (de_if (dt_w (dw_or (dt_cmp opLt rdLt (de_ix ixSeq rdIx (de_var 2) de_int) de_int) (dw_or1 (dt_cmp opLt rdLt (de_ix ixSeq rdIx (de_var 2) de_int) de_int)))) de_non (de_call C__law_fair (hr.mono (by decide)) (da_cons (de_var 2) da_nil))))))))
def m_Glue_DeqD (n0 : Nat) : MS :=
  (gSeq (gIf (tNot (tTru (mIsiO it_Glue (mVar 1))))
  (gRet (mK (.bl false)))
  gNil)
  (gRet (mOp eqF (mMeth "_parts" [(100, (g_Glue__parts_1, f_Glue__parts))] (mVar 0) aNil aNil) (mMeth "_parts" [(100, (g_Glue__parts_1, f_Glue__parts))] (mVar 1) aNil aNil))))
def f_Glue_DeqD : MF := mkF 0 m_Glue_DeqD
theorem ok_Glue_DeqD {fn : Addr} {fd : FuncData} (T : Tx P w K mg)  (T_g_Glue__parts_1 : MtC P w K mg base 1 100 "_parts" 0 [] g_Glue__parts_1 f_Glue__parts) (F : Fun K "__eq__" "Glue.__eq__" s_Glue_DeqD fn fd) : FnOk P w K mg base (L2.CX P w) 2 fn fd ["self", "other"] (spM K 2 f_Glue_DeqD) :=
  fnMF F sc_Glue_DeqD (fun cdv A outer s H E Fx n0 hr h0 =>
  (ds_cons (d1_if (dt_not (dt_tru (de_isiO T.b_isinstance T.n_Glue T.it_Glue (de_var 1))))
  (ds_one (d1_ret de_bl))
  ds_nil)
  (ds_one (d1_ret (de_cmp (opEq hr.units) rdEq (de_meth (k := 1) (ks := []) (de_var 0) (tb_cons (T_g_Glue__parts_1.mono (by decide)) tb_nil) (hr.mono (by decide)) args0 dk_nil) (de_meth (k := 1) (ks := []) (de_var 1) (tb_cons (T_g_Glue__parts_1.mono (by decide)) tb_nil) (hr.mono (by decide)) args0 dk_nil))))))
def m_is_amount (n0 : Nat) : MS :=
  (gRet (mAnd (mCall f_is_length (aCons (mVar 0) aNil)) (mAnd (mOp geF (mVar 0) (mK (.int 0))) (mCall f_is_order (aCons (mVar 1) aNil)))))
def f_is_amount : MF := mkF 0 m_is_amount
theorem cal_is_amount {fn : Addr} {fd : FuncData} (T : Tx P w K mg) (C_is_length : Cal P w K mg base 2 "is_length" (spM K 1 f_is_length)) (C_is_order : Cal P w K mg base 2 "is_order" (spM K 1 f_is_order))  (F : Fun K "is_amount" "is_amount" s_is_amount fn fd) (hm : mg "is_amount" = some (.ref fn)) (hb : Binds K fd ["amount", "order"] []) : Cal P w K mg base 3 "is_amount" (spM K 2 f_is_amount) :=
  fnM F sc_is_amount hm hb (fun cdv A outer s H E Fx n0 hr h0 =>
  (ds_one (d1_ret (de_and (de_call C_is_length (hr.mono (by decide)) (da_cons (de_var 0) da_nil)) (de_and (de_cmp opGe rdGe (de_var 0) de_int) (de_one (de_call C_is_order (hr.mono (by decide)) (da_cons (de_var 1) da_nil))))))))
def m__law_drawn_glue (n0 : Nat) : MS :=
  (gSeq (gSet 1 (mLstO (aCons (mCall f__law_drawn_length (aCons (mVar 0) aNil)) aNil)))
  (gSeq (gFor 2 (mRng1 (mK (.int 2)))
  (gSeq (gSet 3 (mIf (tOf (mOp gtF (mCall f__law_roll (aCons (mVar 0) (aCons (mK (.int 3)) aNil))) (mK (.int 0)))) (mBlt absF (aCons (mCall f__law_drawn_length (aCons (mVar 0) aNil)) aNil)) (mK (.int 0))))
  (gExt 1 (mLst (aCons (mVar 3) (aCons (mIf (tOf (mOp gtF (mVar 3) (mK (.int 0)))) (mCall f__law_roll (aCons (mVar 0) (aCons (mK (.int 4)) aNil))) (mK (.int 0))) aNil))))))
  (gRet (mVar 1))))
def f__law_drawn_glue : MF := mkF 3 m__law_drawn_glue
theorem cal__law_drawn_glue {fn : Addr} {fd : FuncData} (T : Tx P w K mg) (C__law_roll : Cal P w K mg base 1 "_law_roll" (spM K 2 f__law_roll)) (C__law_drawn_length : Cal P w K mg base 2 "_law_drawn_length" (spM K 1 f__law_drawn_length))  (F : Fun K "_law_drawn_glue" "_law_drawn_glue" s__law_drawn_glue fn fd) (hm : mg "_law_drawn_glue" = some (.ref fn)) (hb : Binds K fd ["_law_dice_here"] []) : Cal P w K mg base 3 "_law_drawn_glue" (spM K 1 f__law_drawn_glue) :=
  fnM F sc__law_drawn_glue hm hb (fun cdv A outer s H E Fx n0 hr h0 =>
  (ds_cons (d1_set 1 sc__law_drawn_glue.nd (de_lstO (da_cons (de_call C__law_drawn_length (hr.mono (by decide)) (da_cons (de_var 0) da_nil)) da_nil)))
  (ds_cons (d1_for 2 (passes_of rfl) rfl sc__law_drawn_glue.nd (di_rng1 T.b_range de_int)
  (ds_cons (d1_set 3 sc__law_drawn_glue.nd (de_if (dt_cmp opGt rdGt (de_call C__law_roll (hr.mono (by decide)) (da_cons (de_var 0) (da_cons de_int da_nil))) de_int) (de_callB cr_abs rdAbs T.b_abs (by decide +kernel) (da_cons (de_call C__law_drawn_length (hr.mono (by decide)) (da_cons (de_var 0) da_nil)) da_nil)) de_int))
  (ds_one (d1_ext 1 (de_lst (da_cons (de_var 3) (da_cons (de_if (dt_cmp opGt rdGt (de_var 3) de_int) (de_call C__law_roll (hr.mono (by decide)) (da_cons (de_var 0) (da_cons de_int da_nil))) de_int) da_nil)))))))
  (ds_one (d1_ret (de_var 1))))))
def m__law_parts (n0 : Nat) : MS :=
  (gSeq (gIf (tOf (mOp isF (mVar 0) (mK (.non))))
  (gRet (mK (.non)))
  gNil)
  (gRet (mLst (aCons (mProp [(100, f_Glue_natural)] (mVar 0)) (aCons (mProp [(100, f_Glue_stretch)] (mVar 0)) (aCons (mProp [(100, f_Glue_stretch_order)] (mVar 0)) (aCons (mProp [(100, f_Glue_shrink)] (mVar 0)) (aCons (mProp [(100, f_Glue_shrink_order)] (mVar 0)) aNil))))))))
def f__law_parts : MF := mkF 0 m__law_parts
theorem cal__law_parts {fn : Addr} {fd : FuncData} (T : Tx P w K mg)  (P_Glue_natural : PrC P w K mg base 1 100 "natural" f_Glue_natural) (P_Glue_shrink : PrC P w K mg base 1 100 "shrink" f_Glue_shrink) (P_Glue_shrink_order : PrC P w K mg base 1 100 "shrink_order" f_Glue_shrink_order) (P_Glue_stretch : PrC P w K mg base 1 100 "stretch" f_Glue_stretch) (P_Glue_stretch_order : PrC P w K mg base 1 100 "stretch_order" f_Glue_stretch_order) (F : Fun K "_law_parts" "_law_parts" s__law_parts fn fd) (hm : mg "_law_parts" = some (.ref fn)) (hb : Binds K fd ["_law_glue"] []) : Cal P w K mg base 3 "_law_parts" (spM K 1 f__law_parts) :=
  fnM F sc__law_parts hm hb (fun cdv A outer s H E Fx n0 hr h0 =>
  (ds_cons (d1_if (dt_cmp opIs rdIs (de_var 0) de_non)
  (ds_one (d1_ret de_non))
  ds_nil)
  (ds_one (d1_ret (de_lst (da_cons (de_prop (k := 1) (de_var 0) (tb_cons (P_Glue_natural.mono (by decide)) tb_nil) (hr.mono (by decide))) (da_cons (de_prop (k := 1) (de_var 0) (tb_cons (P_Glue_stretch.mono (by decide)) tb_nil) (hr.mono (by decide))) (da_cons (de_prop (k := 1) (de_var 0) (tb_cons (P_Glue_stretch_order.mono (by decide)) tb_nil) (hr.mono (by decide))) (da_cons (de_prop (k := 1) (de_var 0) (tb_cons (P_Glue_shrink.mono (by decide)) tb_nil) (hr.mono (by decide))) (da_cons (de_prop (k := 1) (de_var 0) (tb_cons (P_Glue_shrink_order.mono (by decide)) tb_nil) (hr.mono (by decide))) da_nil))))))))))
def m_Glue_DinitD (n0 : Nat) : MS :=
  (gSeq (gIf (tOr (tNot (tTru (mCall f_is_length (aCons (mVar 1) aNil)))) (tOr (tNot (tTru (mCall f_is_amount (aCons (mVar 2) (aCons (mVar 3) aNil))))) (tNot (tTru (mCall f_is_amount (aCons (mVar 4) (aCons (mVar 5) aNil)))))))
  (gRaise 2)
  gNil)
  (gSeq (gFld [100] "_natural" (mVar 0) (mVar 1))
  (gSeq (gFld [100] "_stretch" (mVar 0) (mVar 2))
  (gSeq (gFld [100] "_stretch_order" (mVar 0) (mCall f_order_for (aCons (mVar 2) (aCons (mVar 3) aNil))))
  (gSeq (gFld [100] "_shrink" (mVar 0) (mVar 4))
  (gFld [100] "_shrink_order" (mVar 0) (mCall f_order_for (aCons (mVar 4) (aCons (mVar 5) aNil)))))))))
def f_Glue_DinitD : MF := mkF 0 m_Glue_DinitD
theorem ok_Glue_DinitD {fn : Addr} {fd : FuncData} (T : Tx P w K mg) (C_is_length : Cal P w K mg base 2 "is_length" (spM K 1 f_is_length)) (C_is_amount : Cal P w K mg base 3 "is_amount" (spM K 2 f_is_amount)) (C_order_for : Cal P w K mg base 1 "order_for" (spM K 2 f_order_for))  (F : Fun K "__init__" "Glue.__init__" s_Glue_DinitD fn fd) : FnOk P w K mg base (L2.CX P w) 4 fn fd ["self", "natural", "stretch", "stretch_order", "shrink", "shrink_order"] (spM K 6 f_Glue_DinitD) :=
  fnMF F sc_Glue_DinitD (fun cdv A outer s H E Fx n0 hr h0 =>
  (ds_cons (d1_if (dt_w (dw_or (dt_not (dt_tru (de_call C_is_length (hr.mono (by decide)) (da_cons (de_var 1) da_nil)))) (dw_or (dt_not (dt_tru (de_call C_is_amount (hr.mono (by decide)) (da_cons (de_var 2) (da_cons (de_var 3) da_nil))))) (dw_or1 (dt_not (dt_tru (de_call C_is_amount (hr.mono (by decide)) (da_cons (de_var 4) (da_cons (de_var 5) da_nil)))))))))
  (ds_one (d1_raise0 2 rfl T.e_InvalidGlue))
  ds_nil)
  (ds_cons (d1_fld (cs_cons T.fd_Glue__natural cs_nil) (de_var 0) (de_var 1))
  (ds_cons (d1_fld (cs_cons T.fd_Glue__stretch cs_nil) (de_var 0) (de_var 2))
  (ds_cons (d1_fld (cs_cons T.fd_Glue__stretch_order cs_nil) (de_var 0) (de_call C_order_for (hr.mono (by decide)) (da_cons (de_var 2) (da_cons (de_var 3) da_nil))))
  (ds_cons (d1_fld (cs_cons T.fd_Glue__shrink cs_nil) (de_var 0) (de_var 4))
  (ds_one (d1_fld (cs_cons T.fd_Glue__shrink_order cs_nil) (de_var 0) (de_call C_order_for (hr.mono (by decide)) (da_cons (de_var 4) (da_cons (de_var 5) da_nil)))))))))))
def m__law_made (n0 : Nat) : MS :=
  (gTry nk subT (gRet (fun ρ S => frzL S.length ((mMake 100 g_Glue_DinitD_2_stretch_stretch_order_shrink_shrink_order f_Glue_DinitD (aCons (mOp ixF (mVar 0) (mK (.int 0))) aNil) (aCons (mOp ixF (mVar 0) (mK (.int 1))) (aCons (mOp ixF (mVar 0) (mK (.int 2))) (aCons (mOp ixF (mVar 0) (mK (.int 3))) (aCons (mOp ixF (mVar 0) (mK (.int 4))) aNil))))) ρ S)))
  [.bare 2 (gRet (mK (.non)))])
def f__law_made : MF := mkF 0 m__law_made
theorem cal__law_made {fn : Addr} {fd : FuncData} (T : Tx P w K mg)  (M_g_Glue_DinitD_2_stretch_stretch_order_shrink_shrink_order : MkC P w K mg base 4 "Glue" 100 1 ["stretch", "stretch_order", "shrink", "shrink_order"] g_Glue_DinitD_2_stretch_stretch_order_shrink_shrink_order f_Glue_DinitD) (F : Fun K "_law_made" "_law_made" s__law_made fn fd) (hm : mg "_law_made" = some (.ref fn)) (hb : Binds K fd ["_law_plain"] []) : Cal P w K mg base 6 "_law_made" (spM K 1 f__law_made) :=
  fnM F sc__law_made hm hb (fun cdv A outer s H E Fx n0 hr h0 =>
  (ds_one (d1_try T.sb sc__law_made.nd (fun W pn xe tk hp => (ds_one (d1_ret (de_frz (de_make (k := 4) M_g_Glue_DinitD_2_stretch_stretch_order_shrink_shrink_order (hr.mono (by decide)) (args1 (da_cons (de_ix ixSeq rdIx (de_var 0) de_int) da_nil)) (dk_cons (de_ix ixSeq rdIx (de_var 0) de_int) (dk_cons (de_ix ixSeq rdIx (de_var 0) de_int) (dk_cons (de_ix ixSeq rdIx (de_var 0) de_int) (dk_cons (de_ix ixSeq rdIx (de_var 0) de_int) dk_nil)))))))))
  (.bare (k := 2) ⟨rfl, rfl, .inl T.n_InvalidGlue⟩ (fun a oe pn => (ds_one (d1_ret de_non))) .nil))))
def m_Glue_DaddD (n0 : Nat) : MS :=
  (gSeq (gIf (tNot (tTru (mIsiO it_Glue (mVar 1))))
  (gRet mNo)
  gNil)
  (gSeq (gAsg (tTup [(tN 2), (tN 3)]) (mCall f_joined (aCons (mTup (aCons (mFld [100] "_stretch" (mVar 0)) (aCons (mFld [100] "_stretch_order" (mVar 0)) aNil))) (aCons (mTup (aCons (mFld [100] "_stretch" (mVar 1)) (aCons (mFld [100] "_stretch_order" (mVar 1)) aNil))) aNil))))
  (gSeq (gAsg (tTup [(tN 4), (tN 5)]) (mCall f_joined (aCons (mTup (aCons (mFld [100] "_shrink" (mVar 0)) (aCons (mFld [100] "_shrink_order" (mVar 0)) aNil))) (aCons (mTup (aCons (mFld [100] "_shrink" (mVar 1)) (aCons (mFld [100] "_shrink_order" (mVar 1)) aNil))) aNil))))
  (gRet (fun ρ S => frzL S.length ((mMake 100 g_Glue_DinitD_2_stretch_stretch_order_shrink_shrink_order f_Glue_DinitD (aCons (mOp addF (mFld [100] "_natural" (mVar 0)) (mFld [100] "_natural" (mVar 1))) aNil) (aCons (mVar 2) (aCons (mVar 3) (aCons (mVar 4) (aCons (mVar 5) aNil))))) ρ S))))))
def f_Glue_DaddD : MF := mkF 4 m_Glue_DaddD
theorem ok_Glue_DaddD {fn : Addr} {fd : FuncData} (T : Tx P w K mg) (C_joined : Cal P w K mg base 1 "joined" (spM K 2 f_joined)) (M_g_Glue_DinitD_2_stretch_stretch_order_shrink_shrink_order : MkC P w K mg base 4 "Glue" 100 1 ["stretch", "stretch_order", "shrink", "shrink_order"] g_Glue_DinitD_2_stretch_stretch_order_shrink_shrink_order f_Glue_DinitD) (F : Fun K "__add__" "Glue.__add__" s_Glue_DaddD fn fd) : FnOk P w K mg base (L2.CX P w) 6 fn fd ["self", "other"] (spM K 2 f_Glue_DaddD) :=
  fnMF F sc_Glue_DaddD (fun cdv A outer s H E Fx n0 hr h0 =>
  (ds_cons (d1_if (dt_not (dt_tru (de_isiO T.b_isinstance T.n_Glue T.it_Glue (de_var 1))))
  (ds_one (d1_ret de_no))
  ds_nil)
  (ds_cons (d1_asg (dg_tup rfl (dgs_cons (dg_name 2 sc_Glue_DaddD.nd) (dgs_cons (dg_name 3 sc_Glue_DaddD.nd) dgs_nil))) (de_call C_joined (hr.mono (by decide)) (da_cons (de_tup (da_cons (de_fld (cs_cons T.fd_Glue__stretch cs_nil) (de_var 0)) (da_cons (de_fld (cs_cons T.fd_Glue__stretch_order cs_nil) (de_var 0)) da_nil))) (da_cons (de_tup (da_cons (de_fld (cs_cons T.fd_Glue__stretch cs_nil) (de_var 1)) (da_cons (de_fld (cs_cons T.fd_Glue__stretch_order cs_nil) (de_var 1)) da_nil))) da_nil))))
  (ds_cons (d1_asg (dg_tup rfl (dgs_cons (dg_name 4 sc_Glue_DaddD.nd) (dgs_cons (dg_name 5 sc_Glue_DaddD.nd) dgs_nil))) (de_call C_joined (hr.mono (by decide)) (da_cons (de_tup (da_cons (de_fld (cs_cons T.fd_Glue__shrink cs_nil) (de_var 0)) (da_cons (de_fld (cs_cons T.fd_Glue__shrink_order cs_nil) (de_var 0)) da_nil))) (da_cons (de_tup (da_cons (de_fld (cs_cons T.fd_Glue__shrink cs_nil) (de_var 1)) (da_cons (de_fld (cs_cons T.fd_Glue__shrink_order cs_nil) (de_var 1)) da_nil))) da_nil))))
  (ds_one (d1_ret (de_frz (de_make (k := 4) M_g_Glue_DinitD_2_stretch_stretch_order_shrink_shrink_order (hr.mono (by decide)) (args1 (da_cons (de_op opAdd rdAdd (de_fld (cs_cons T.fd_Glue__natural cs_nil) (de_var 0)) (de_fld (cs_cons T.fd_Glue__natural cs_nil) (de_var 1))) da_nil)) (dk_cons (de_var 2) (dk_cons (de_var 3) (dk_cons (de_var 4) (dk_cons (de_var 5) dk_nil))))))))))))
def m_Glue_DmulD (n0 : Nat) : MS :=
  (gSeq (gIf (tOr (tNot (tTru (mBlt isiF (aCons (mVar 1) (aCons (mK (.ty "int")) aNil))))) (tTru (mBlt isiF (aCons (mVar 1) (aCons (mK (.ty "bool")) aNil)))))
  (gRet mNo)
  gNil)
  (gSeq (gIf (tNot (tTru (mCall f_is_int (aCons (mVar 1) aNil))))
  (gRaise 2)
  gNil)
  (gRet (fun ρ S => frzL S.length ((mMake 100 g_Glue_DinitD_2_stretch_stretch_order_shrink_shrink_order f_Glue_DinitD (aCons (mOp mulF (mFld [100] "_natural" (mVar 0)) (mVar 1)) aNil) (aCons (mOp mulF (mFld [100] "_stretch" (mVar 0)) (mVar 1)) (aCons (mFld [100] "_stretch_order" (mVar 0)) (aCons (mOp mulF (mFld [100] "_shrink" (mVar 0)) (mVar 1)) (aCons (mFld [100] "_shrink_order" (mVar 0)) aNil))))) ρ S)))))
def f_Glue_DmulD : MF := mkF 0 m_Glue_DmulD
theorem ok_Glue_DmulD {fn : Addr} {fd : FuncData} (T : Tx P w K mg) (C_is_int : Cal P w K mg base 1 "is_int" (spM K 1 f_is_int)) (M_g_Glue_DinitD_2_stretch_stretch_order_shrink_shrink_order : MkC P w K mg base 4 "Glue" 100 1 ["stretch", "stretch_order", "shrink", "shrink_order"] g_Glue_DinitD_2_stretch_stretch_order_shrink_shrink_order f_Glue_DinitD) (F : Fun K "__mul__" "Glue.__mul__" s_Glue_DmulD fn fd) : FnOk P w K mg base (L2.CX P w) 6 fn fd ["self", "other"] (spM K 2 f_Glue_DmulD) :=
  fnMF F sc_Glue_DmulD (fun cdv A outer s H E Fx n0 hr h0 =>
  (ds_cons (d1_if (dt_w (dw_or (dt_not (dt_tru (de_callB cr_isi rdIsi T.b_isinstance (by decide +kernel) (da_cons (de_var 1) (da_cons (de_ty (n := "int") T.b_int (by decide +kernel)) da_nil))))) (dw_or1 (dt_tru (de_callB cr_isi rdIsi T.b_isinstance (by decide +kernel) (da_cons (de_var 1) (da_cons (de_ty (n := "bool") T.b_bool (by decide +kernel)) da_nil)))))))
  (ds_one (d1_ret de_no))
  ds_nil)
  (ds_cons (d1_if (dt_not (dt_tru (de_call C_is_int (hr.mono (by decide)) (da_cons (de_var 1) da_nil))))
  (ds_one (d1_raise0 2 rfl T.e_InvalidGlue))
  ds_nil)
  (ds_one (d1_ret (de_frz (de_make (k := 4) M_g_Glue_DinitD_2_stretch_stretch_order_shrink_shrink_order (hr.mono (by decide)) (args1 (da_cons (de_op opMul rdMul (de_fld (cs_cons T.fd_Glue__natural cs_nil) (de_var 0)) (de_var 1)) da_nil)) (dk_cons (de_op opMul rdMul (de_fld (cs_cons T.fd_Glue__stretch cs_nil) (de_var 0)) (de_var 1)) (dk_cons (de_fld (cs_cons T.fd_Glue__stretch_order cs_nil) (de_var 0)) (dk_cons (de_op opMul rdMul (de_fld (cs_cons T.fd_Glue__shrink cs_nil) (de_var 0)) (de_var 1)) (dk_cons (de_fld (cs_cons T.fd_Glue__shrink_order cs_nil) (de_var 0)) dk_nil)))))))))))
def m__law_added (n0 : Nat) : MS :=
  (gSeq (gIf (tOr (tOf (mOp isF (mVar 0) (mK (.non)))) (tOf (mOp isF (mVar 1) (mK (.non)))))
  (gRet (mK (.non)))
  gNil)
  (gTry nk subT (gRet (mOpO [(100, ([2, 107], f_Glue_DaddD))] addF (mVar 0) (mVar 1)))
  [.bare 2 (gRet (mK (.non)))]))
def f__law_added : MF := mkF 0 m__law_added
theorem cal__law_added {fn : Addr} {fd : FuncData} (T : Tx P w K mg)  (B_Glue_DaddD : BinC P w K mg base 6 .Add 100 [2, 107] f_Glue_DaddD) (F : Fun K "_law_added" "_law_added" s__law_added fn fd) (hm : mg "_law_added" = some (.ref fn)) (hb : Binds K fd ["_law_one", "_law_other"] []) : Cal P w K mg base 7 "_law_added" (spM K 2 f__law_added) :=
  fnM F sc__law_added hm hb (fun cdv A outer s H E Fx n0 hr h0 =>
  (ds_cons (d1_if (dt_w (dw_or (dt_cmp opIs rdIs (de_var 0) de_non) (dw_or1 (dt_cmp opIs rdIs (de_var 1) de_non))))
  (ds_one (d1_ret de_non))
  ds_nil)
  (ds_one (d1_try T.sb sc__law_added.nd (fun W pn xe tk hp => (ds_one (d1_ret (de_opo (k := 6) opAdd rdAdd (tb2_cons (B_Glue_DaddD.mono (by decide)) tb2_nil) (hr.mono (by decide)) (de_var 0) (de_var 1)))))
  (.bare (k := 2) ⟨rfl, rfl, .inl T.n_InvalidGlue⟩ (fun a oe pn => (ds_one (d1_ret de_non))) .nil)))))
def m__law_times (n0 : Nat) : MS :=
  (gTry nk subT (gRet (mOpO [(100, ([2, 107], f_Glue_DmulD))] mulF (mVar 0) (mVar 1)))
  [.bare 2 (gRet (mK (.non)))])
def f__law_times : MF := mkF 0 m__law_times
theorem cal__law_times {fn : Addr} {fd : FuncData} (T : Tx P w K mg)  (B_Glue_DmulD : BinC P w K mg base 6 .Mult 100 [2, 107] f_Glue_DmulD) (F : Fun K "_law_times" "_law_times" s__law_times fn fd) (hm : mg "_law_times" = some (.ref fn)) (hb : Binds K fd ["_law_glue", "_law_many"] []) : Cal P w K mg base 7 "_law_times" (spM K 2 f__law_times) :=
  fnM F sc__law_times hm hb (fun cdv A outer s H E Fx n0 hr h0 =>
  (ds_one (d1_try T.sb sc__law_times.nd (fun W pn xe tk hp => (ds_one (d1_ret (de_opo (k := 6) opMul rdMul (tb2_cons (B_Glue_DmulD.mono (by decide)) tb2_nil) (hr.mono (by decide)) (de_var 0) (de_var 1)))))
  (.bare (k := 2) ⟨rfl, rfl, .inl T.n_InvalidGlue⟩ (fun a oe pn => (ds_one (d1_ret de_non))) .nil))))
def m__law_right (n0 : Nat) : MS :=
  (gSeq (gSet 1 (mLc 9 (mRng1 (mK (.int 3))) tYes' (fun ρ S => frzL S.length ((mCall f__law_drawn_glue (aCons (mVar 0) aNil)) ρ S))))
  (gSeq (gSet 2 (mLc 10 (mIt (mVar 1)) tYes' (mCall f__law_made (aCons (mVar 10) aNil))))
  (gSeq (gIf (tOr (tOf (mOp neF (mLc 11 (mIt (mVar 2)) tYes' (mCall f__law_parts (aCons (mVar 11) aNil))) (mVar 1))) (tOf (mEqO true [(100, ([0, 1, 2, 3, 4, 5, 6, 107], f_Glue_DeqD))] neF (mOp ixF (mVar 2) (mK (.int 0))) (mCall f__law_made (aCons (mOp ixF (mVar 1) (mK (.int 0))) aNil)))))
  (gRet (mK (.bl false)))
  gNil)
  (gSeq (gIf (tOr (tOf (mOp neF (mBlt reprF (aCons (mEqO false [(100, ([0, 1, 2, 3, 4, 5, 6, 107], f_Glue_DeqD))] eqF (mOp ixF (mVar 2) (mK (.int 0))) (mOp ixF (mVar 2) (mK (.int 1)))) aNil)) (mBlt reprF (aCons (mOp eqF (mOp ixF (mVar 1) (mK (.int 0))) (mOp ixF (mVar 1) (mK (.int 1)))) aNil)))) (tOf (mEqO false [(100, ([0, 1, 2, 3, 4, 5, 6, 107], f_Glue_DeqD))] eqF (mOp ixF (mVar 2) (mK (.int 0))) (mOp ixF (mVar 1) (mK (.int 0))))))
  (gRet (mK (.bl false)))
  gNil)
  (gSeq (gAsg (tLst [(tN 3), (tN 4), (tN 5)]) (mVar 2))
  (gSeq (gSet 6 (mLst (aCons (mCall f__law_added (aCons (mVar 3) (aCons (mVar 4) aNil))) (aCons (mCall f__law_added (aCons (mVar 4) (aCons (mVar 3) aNil))) (aCons (mCall f__law_added (aCons (mCall f__law_added (aCons (mVar 3) (aCons (mVar 4) aNil))) (aCons (mVar 5) aNil))) (aCons (mCall f__law_added (aCons (mVar 3) (aCons (mCall f__law_added (aCons (mVar 4) (aCons (mVar 5) aNil))) aNil))) aNil))))))
  (gSeq (gSet 7 (mCatO (mOp mulF (mLst (aCons (mCall f__law_sum (aCons (mOp ixF (mVar 1) (mK (.int 0))) (aCons (mOp ixF (mVar 1) (mK (.int 1))) aNil))) aNil)) (mK (.int 2))) (mLst (aCons (mCall f__law_sum (aCons (mCall f__law_sum (aCons (mOp ixF (mVar 1) (mK (.int 0))) (aCons (mOp ixF (mVar 1) (mK (.int 1))) aNil))) (aCons (mOp ixF (mVar 1) (mK (.int 2))) aNil))) aNil))))
  (gSeq (gAppV 7 (mCall f__law_sum (aCons (mOp ixF (mVar 1) (mK (.int 0))) (aCons (mCall f__law_sum (aCons (mOp ixF (mVar 1) (mK (.int 1))) (aCons (mOp ixF (mVar 1) (mK (.int 2))) aNil))) aNil))))
  (gSeq (gIf (tOf (mOp neF (mLc 11 (mIt (mVar 6)) tYes' (mCall f__law_parts (aCons (mVar 11) aNil))) (mVar 7)))
  (gRet (mK (.bl false)))
  gNil)
  (gSeq (gIf (tAnd (tOf (mOp ninF2 (mK (.non)) (mVar 7))) (tOf (mEqO true [(100, ([0, 1, 2, 3, 4, 5, 6, 107], f_Glue_DeqD))] neF (mOp ixF (mVar 6) (mK (.int 2))) (mOp ixF (mVar 6) (mK (.int 3))))))
  (gRet (mK (.bl false)))
  gNil)
  (gSeq (gSet 8 (mCall f__law_pick (aCons (mVar 0) (aCons (mLst (aCons (mK (.int 0)) (aCons (mK (.int 1)) (aCons (mK (.int 2)) (aCons (mK (.int 3)) (aCons (mUn negF (mK (.int 1))) (aCons (mUn negF (mK (.int 2))) (aCons (mK (.int 100)) (aCons (mOp powF (mK (.int 10)) (mK (.int 30))) aNil))))))))) aNil))))
  (gRet (mOp eqF (mCall f__law_parts (aCons (mCall f__law_times (aCons (mVar 3) (aCons (mVar 8) aNil))) aNil)) (mCall f__law_product (aCons (mOp ixF (mVar 1) (mK (.int 0))) (aCons (mVar 8) aNil))))))))))))))))
def f__law_right : MF := mkF 11 m__law_right
theorem cal__law_right {fn : Addr} {fd : FuncData} (T : Tx P w K mg) (C__law_pick : Cal P w K mg base 2 "_law_pick" (spM K 2 f__law_pick)) (C__law_drawn_glue : Cal P w K mg base 3 "_law_drawn_glue" (spM K 1 f__law_drawn_glue)) (C__law_made : Cal P w K mg base 6 "_law_made" (spM K 1 f__law_made)) (C__law_parts : Cal P w K mg base 3 "_law_parts" (spM K 1 f__law_parts)) (C__law_sum : Cal P w K mg base 2 "_law_sum" (spM K 2 f__law_sum)) (C__law_product : Cal P w K mg base 2 "_law_product" (spM K 2 f__law_product)) (C__law_added : Cal P w K mg base 7 "_law_added" (spM K 2 f__law_added)) (C__law_times : Cal P w K mg base 7 "_law_times" (spM K 2 f__law_times)) (Q_Glue_DeqD : EqC P w K mg base 2 100 [0, 1, 2, 3, 4, 5, 6, 107] f_Glue_DeqD) (F : Fun K "_law_right" "_law_right" s__law_right fn fd) (hm : mg "_law_right" = some (.ref fn)) (hb : Binds K fd ["_law_dice_here"] []) : Cal P w K mg base 8 "_law_right" (spM K 1 f__law_right) :=
  fnM F sc__law_right hm hb (fun cdv A outer s H E Fx n0 hr h0 =>
  (ds_cons (d1_setLc (own := [("_law_turn", 9)]) 1 9 rfl sc__law_right.nd (blkOk_by (N := ["_law_dice_here", "_law_plains", "_law_glues", "_law_a", "_law_b", "_law_c", "_law_sums", "_law_dues", "_law_many", "_law_turn", "_law_plain", "_law_glue"]) (sc := defScope s__law_right) (by decide +kernel)) rfl (fun _ _ _ _ _ => pg_name (i := 9) sc__law_right.nd rfl (Or.inl rfl)) (sw_true rfl rfl rfl (by decide +kernel)) (di_rng1 T.b_range de_int) .no (fun s H C cl fp => (de_frz (de_call C__law_drawn_glue (hr.mono (by decide)) (da_cons (de_var 0) da_nil)))))
  (ds_cons (d1_setLc (own := [("_law_plain", 10)]) 2 10 rfl sc__law_right.nd (blkOk_by (N := ["_law_dice_here", "_law_plains", "_law_glues", "_law_a", "_law_b", "_law_c", "_law_sums", "_law_dues", "_law_many", "_law_turn", "_law_plain", "_law_glue"]) (sc := defScope s__law_right) (by decide +kernel)) rfl (fun _ _ _ _ _ => pg_name (i := 10) sc__law_right.nd rfl (Or.inl rfl)) (sw_true rfl rfl rfl (by decide +kernel)) (di_it (de_var 1)) .no (fun s H C cl fp => (de_call C__law_made (hr.mono (by decide)) (da_cons (de_var 10) da_nil))))
  (ds_cons (d1_if (dt_w (dw_or (dt_cmp (opNe hr.units) rdNe (de_lc (own := [("_law_glue", 11)]) 11 rfl sc__law_right.nd (blkOk_by (N := ["_law_dice_here", "_law_plains", "_law_glues", "_law_a", "_law_b", "_law_c", "_law_sums", "_law_dues", "_law_many", "_law_turn", "_law_plain", "_law_glue"]) (sc := defScope s__law_right) (by decide +kernel)) rfl (fun _ _ _ _ _ => pg_name (i := 11) sc__law_right.nd rfl (Or.inl rfl)) (di_it (de_var 2)) .no (fun s H C cl fp => (de_call C__law_parts (hr.mono (by decide)) (da_cons (de_var 11) da_nil)))) (de_var 1)) (dw_or1 (dt_eqo (k := 2) true (by simp) (opNe hr.units) rdNe (tb2_cons (Q_Glue_DeqD.mono (by decide)) tb2_nil) (hr.mono (by decide)) (de_ix ixSeq rdIx (de_var 2) de_int) (de_call C__law_made (hr.mono (by decide)) (da_cons (de_ix ixSeq rdIx (de_var 1) de_int) da_nil))))))
  (ds_one (d1_ret de_bl))
  ds_nil)
  (ds_cons (d1_if (dt_w (dw_or (dt_cmp (opNe hr.units) rdNe (de_callB cr_repr rdRepr T.b_repr (by decide +kernel) (da_cons (de_eqo (k := 2) false (by simp) (opEq hr.units) rdEq (tb2_cons (Q_Glue_DeqD.mono (by decide)) tb2_nil) (hr.mono (by decide)) (de_ix ixSeq rdIx (de_var 2) de_int) (de_ix ixSeq rdIx (de_var 2) de_int)) da_nil)) (de_callB cr_repr rdRepr T.b_repr (by decide +kernel) (da_cons (de_cmp (opEq hr.units) rdEq (de_ix ixSeq rdIx (de_var 1) de_int) (de_ix ixSeq rdIx (de_var 1) de_int)) da_nil))) (dw_or1 (dt_eqo (k := 2) false (by simp) (opEq hr.units) rdEq (tb2_cons (Q_Glue_DeqD.mono (by decide)) tb2_nil) (hr.mono (by decide)) (de_ix ixSeq rdIx (de_var 2) de_int) (de_ix ixSeq rdIx (de_var 1) de_int)))))
  (ds_one (d1_ret de_bl))
  ds_nil)
  (ds_cons (d1_asg (dg_lst rfl (dgs_cons (dg_name 3 sc__law_right.nd) (dgs_cons (dg_name 4 sc__law_right.nd) (dgs_cons (dg_name 5 sc__law_right.nd) dgs_nil)))) (de_var 2))
  (ds_cons (d1_set 6 sc__law_right.nd (de_lst (da_cons (de_call C__law_added (hr.mono (by decide)) (da_cons (de_var 3) (da_cons (de_var 4) da_nil))) (da_cons (de_call C__law_added (hr.mono (by decide)) (da_cons (de_var 4) (da_cons (de_var 3) da_nil))) (da_cons (de_call C__law_added (hr.mono (by decide)) (da_cons (de_call C__law_added (hr.mono (by decide)) (da_cons (de_var 3) (da_cons (de_var 4) da_nil))) (da_cons (de_var 5) da_nil))) (da_cons (de_call C__law_added (hr.mono (by decide)) (da_cons (de_var 3) (da_cons (de_call C__law_added (hr.mono (by decide)) (da_cons (de_var 4) (da_cons (de_var 5) da_nil))) da_nil))) da_nil))))))
  (ds_cons (d1_set 7 sc__law_right.nd (de_catO (de_op opMul rdMul (de_lst (da_cons (de_call C__law_sum (hr.mono (by decide)) (da_cons (de_ix ixSeq rdIx (de_var 1) de_int) (da_cons (de_ix ixSeq rdIx (de_var 1) de_int) da_nil))) da_nil)) de_int) (de_lst (da_cons (de_call C__law_sum (hr.mono (by decide)) (da_cons (de_call C__law_sum (hr.mono (by decide)) (da_cons (de_ix ixSeq rdIx (de_var 1) de_int) (da_cons (de_ix ixSeq rdIx (de_var 1) de_int) da_nil))) (da_cons (de_ix ixSeq rdIx (de_var 1) de_int) da_nil))) da_nil))))
  (ds_cons (d1_app 7 (de_call C__law_sum (hr.mono (by decide)) (da_cons (de_ix ixSeq rdIx (de_var 1) de_int) (da_cons (de_call C__law_sum (hr.mono (by decide)) (da_cons (de_ix ixSeq rdIx (de_var 1) de_int) (da_cons (de_ix ixSeq rdIx (de_var 1) de_int) da_nil))) da_nil))))
  (ds_cons (d1_if (dt_cmp (opNe hr.units) rdNe (de_lc (own := [("_law_glue", 11)]) 11 rfl sc__law_right.nd (blkOk_by (N := ["_law_dice_here", "_law_plains", "_law_glues", "_law_a", "_law_b", "_law_c", "_law_sums", "_law_dues", "_law_many", "_law_turn", "_law_plain", "_law_glue"]) (sc := defScope s__law_right) (by decide +kernel)) rfl (fun _ _ _ _ _ => pg_name (i := 11) sc__law_right.nd rfl (Or.inl rfl)) (di_it (de_var 6)) .no (fun s H C cl fp => (de_call C__law_parts (hr.mono (by decide)) (da_cons (de_var 11) da_nil)))) (de_var 7))
  (ds_one (d1_ret de_bl))
  ds_nil)
  (ds_cons (d1_if (dt_w (dw_and (dt_cmp (opNin2 (hu65 hr)) rdNin2 de_non (de_var 7)) (dw_and1 (dt_eqo (k := 2) true (by simp) (opNe hr.units) rdNe (tb2_cons (Q_Glue_DeqD.mono (by decide)) tb2_nil) (hr.mono (by decide)) (de_ix ixSeq rdIx (de_var 6) de_int) (de_ix ixSeq rdIx (de_var 6) de_int)))))
  (ds_one (d1_ret de_bl))
  ds_nil)
  (ds_cons (d1_set 8 sc__law_right.nd (de_call C__law_pick (hr.mono (by decide)) (da_cons (de_var 0) (da_cons (de_lst (da_cons de_int (da_cons de_int (da_cons de_int (da_cons de_int (da_cons (de_un un_neg rdNeg de_int) (da_cons (de_un un_neg rdNeg de_int) (da_cons de_int (da_cons (de_op opPow rdPow de_int de_int) da_nil))))))))) da_nil))))
  (ds_one (d1_ret (de_cmp (opEq hr.units) rdEq (de_call C__law_parts (hr.mono (by decide)) (da_cons (de_call C__law_times (hr.mono (by decide)) (da_cons (de_var 3) (da_cons (de_var 8) da_nil))) da_nil)) (de_call C__law_product (hr.mono (by decide)) (da_cons (de_ix ixSeq rdIx (de_var 1) de_int) (da_cons (de_var 8) da_nil))))))))))))))))))
def m_law (n0 : Nat) : MS :=
  (gSeq (gFor 1 (mRng1 (mBlt max2F (aCons (mK (.int 1)) (aCons (mBlt min2F (aCons (mK (.int 4)) (aCons (mBlt lenF (aCons (mVar 0) aNil)) aNil))) aNil))))
  (gSeq (gSet 2 (mCall f__law_dice (aCons (mVar 0) (aCons (mVar 1) aNil))))
  (gFor 3 (mRng1 (mK (.int 3)))
  (gIf (tNot (tTru (mCall f__law_right (aCons (mVar 2) aNil))))
  (gRet (mK (.bl false)))
  gNil))))
  (gSeq (gSet 4 (fun ρ S => frzL S.length ((mMake 100 g_Glue_DinitD_2_stretch_stretch_order_shrink f_Glue_DinitD (aCons (mK (.int 3)) aNil) (aCons (mK (.int 5)) (aCons (mK (.int 1)) (aCons (mK (.int 2)) aNil)))) ρ S)))
  (gSeq (gSet 5 (mLst (aCons (mCall f__law_parts (aCons (mOpO [(100, ([2, 107], f_Glue_DaddD))] addF (mVar 4) (fun ρ S => frzL S.length ((mMake 100 g_Glue_DinitD_2_stretch_shrink f_Glue_DinitD (aCons (mK (.int 1)) aNil) (aCons (mK (.int 9)) (aCons (mK (.int 4)) aNil))) ρ S))) aNil)) (aCons (mCall f__law_parts (aCons (mOpO [(100, ([2, 107], f_Glue_DmulD))] mulF (mVar 4) (mK (.int 2))) aNil)) (aCons (mCall f__law_parts (aCons (fun ρ S => frzL S.length ((mMake 100 g_Glue_DinitD_2_stretch_order f_Glue_DinitD (aCons (mK (.int 5)) aNil) (aCons (mK (.int 2)) aNil)) ρ S)) aNil)) aNil)))))
  (gRet (mOp eqF (mVar 5) (mLst (aCons (mLst (aCons (mK (.int 4)) (aCons (mK (.int 5)) (aCons (mK (.int 1)) (aCons (mK (.int 6)) (aCons (mK (.int 0)) aNil)))))) (aCons (mLst (aCons (mK (.int 6)) (aCons (mK (.int 10)) (aCons (mK (.int 1)) (aCons (mK (.int 4)) (aCons (mK (.int 0)) aNil)))))) (aCons (mLst (aCons (mK (.int 5)) (aCons (mK (.int 0)) (aCons (mK (.int 0)) (aCons (mK (.int 0)) (aCons (mK (.int 0)) aNil)))))) aNil)))))))))
def f_law : MF := mkF 5 m_law
theorem cal_law {fn : Addr} {fd : FuncData} (T : Tx P w K mg) (C__law_dice : Cal P w K mg base 1 "_law_dice" (spM K 2 f__law_dice)) (C__law_parts : Cal P w K mg base 3 "_law_parts" (spM K 1 f__law_parts)) (C__law_right : Cal P w K mg base 8 "_law_right" (spM K 1 f__law_right)) (B_Glue_DaddD : BinC P w K mg base 6 .Add 100 [2, 107] f_Glue_DaddD) (B_Glue_DmulD : BinC P w K mg base 6 .Mult 100 [2, 107] f_Glue_DmulD) (M_g_Glue_DinitD_2_stretch_order : MkC P w K mg base 4 "Glue" 100 1 ["stretch_order"] g_Glue_DinitD_2_stretch_order f_Glue_DinitD) (M_g_Glue_DinitD_2_stretch_shrink : MkC P w K mg base 4 "Glue" 100 1 ["stretch", "shrink"] g_Glue_DinitD_2_stretch_shrink f_Glue_DinitD) (M_g_Glue_DinitD_2_stretch_stretch_order_shrink : MkC P w K mg base 4 "Glue" 100 1 ["stretch", "stretch_order", "shrink"] g_Glue_DinitD_2_stretch_stretch_order_shrink f_Glue_DinitD) (F : Fun K "law" "law" s_law fn fd) (hm : mg "law" = some (.ref fn)) (hb : Binds K fd ["_law_script"] []) : Cal P w K mg base 9 "law" (spM K 1 f_law) :=
  fnM F sc_law hm hb (fun cdv A outer s H E Fx n0 hr h0 =>
  (ds_cons (d1_for 1 (passes_of rfl) rfl sc_law.nd (di_rng1 T.b_range (de_callB (cr_max2 rfl) rdMax2 T.b_max (by decide +kernel) (da_cons de_int (da_cons (de_callB (cr_min2 rfl) rdMin2 T.b_min (by decide +kernel) (da_cons de_int (da_cons (de_callB cr_len rdLen T.b_len (by decide +kernel) (da_cons (de_var 0) da_nil)) da_nil))) da_nil))))
  (ds_cons (d1_set 2 sc_law.nd (de_call C__law_dice (hr.mono (by decide)) (da_cons (de_var 0) (da_cons (de_var 1) da_nil))))
  (ds_one (d1_for 3 (passes_of rfl) rfl sc_law.nd (di_rng1 T.b_range de_int)
  (ds_one (d1_if (dt_not (dt_tru (de_call C__law_right (hr.mono (by decide)) (da_cons (de_var 2) da_nil))))
  (ds_one (d1_ret de_bl))
  ds_nil))))))
  (ds_cons (d1_set 4 sc_law.nd (de_frz (de_make (k := 4) M_g_Glue_DinitD_2_stretch_stretch_order_shrink (hr.mono (by decide)) (args1 (da_cons de_int da_nil)) (dk_cons de_int (dk_cons de_int (dk_cons de_int dk_nil))))))
  (ds_cons (d1_set 5 sc_law.nd (de_lst (da_cons (de_call C__law_parts (hr.mono (by decide)) (da_cons (de_opo (k := 6) opAdd rdAdd (tb2_cons (B_Glue_DaddD.mono (by decide)) tb2_nil) (hr.mono (by decide)) (de_var 4) (de_frz (de_make (k := 4) M_g_Glue_DinitD_2_stretch_shrink (hr.mono (by decide)) (args1 (da_cons de_int da_nil)) (dk_cons de_int (dk_cons de_int dk_nil))))) da_nil)) (da_cons (de_call C__law_parts (hr.mono (by decide)) (da_cons (de_opo (k := 6) opMul rdMul (tb2_cons (B_Glue_DmulD.mono (by decide)) tb2_nil) (hr.mono (by decide)) (de_var 4) de_int) da_nil)) (da_cons (de_call C__law_parts (hr.mono (by decide)) (da_cons (de_frz (de_make (k := 4) M_g_Glue_DinitD_2_stretch_order (hr.mono (by decide)) (args1 (da_cons de_int da_nil)) (dk_cons de_int dk_nil))) da_nil)) da_nil)))))
  (ds_one (d1_ret (de_cmp (opEq hr.units) rdEq (de_var 5) (de_lst (da_cons (de_lst (da_cons de_int (da_cons de_int (da_cons de_int (da_cons de_int (da_cons de_int da_nil)))))) (da_cons (de_lst (da_cons de_int (da_cons de_int (da_cons de_int (da_cons de_int (da_cons de_int da_nil)))))) (da_cons (de_lst (da_cons de_int (da_cons de_int (da_cons de_int (da_cons de_int (da_cons de_int da_nil)))))) da_nil)))))))))))
end Mir

set_option maxHeartbeats 4000000
namespace Mir
open PySem PySem.Spec L2
local macro_rules | `(tactic| walk_at "ev") => `(tactic| simp (disch := omega) only [*, mFld_eq, mProp_eq, mMeth_eq, mIsiO_eq, mEqO_eq, mOpO_eq, mMake_eq, madeS_n, mCallK, prpS_1, tTup_t, tLst_l, tAll_nil, tAll_cons, tN_d, mNo, gNo, eqoS_d, frzL_id, ↓chain_le, chainW_i, Int.natAbs_natCast, Int.toNat_natCast, reprV_i, reprV_s, reprV_n, reprV_b, and_self, and_true, true_and, gTry, hdl, gone, bareE, mErr, slE, List.map, if_pos, if_neg, gNil, gSeq, gIf, gRet, gRetN, gSet, gStoV, gSto, gAppV, gApp, gEx, gPar, gAug, gFor, gRaise, gRaise1, gAsg, mVar, mk_ok, mOp, mUn, mIf, mAnd, mOr, mNot, mTup, mLst, mLstO, mBlt, mCall, mMs, mSl, oNo, oSome, mFmt, mChain, mFs, fsL, aCons, aNil, tOf, tTru, tAnd, tOr, tNot, tYes', mIt, mRng1, mRng2, datas, truS_vw, truD, op1_vw, op2_vw, opN_vw, vws_nil, vws_cons,
  vw_dat, vw_own, ceD_lst, ceD_dct, asB_ok, ofO_some, ofO_none, dat'_some, dat'_none, RE.ok_bind, RE.exc_bind, RE.stuck_bind, RE.ok_toS, RE.exc_toS, RE.stuck_toS, RE.noX_ok, RS.nx_bind, RS.rt_bind, RS.bk_bind, RS.ct_bind, RS.exc_bind, RS.stuck_bind, Option.bind_some, Option.map_some, Option.bind_none, Option.map_none, cond_dec, cond_true, cond_false, List.getElem?_cons_zero, List.getElem?_cons_succ, List.set_cons_zero, List.set_cons_succ, List.replicate, List.cons_append, List.nil_append,
  atI_0, atI_1, atI_2, isNonD_non, isNonD_int, isNonD_bl, isNonD_str, isNonD_lst, isNonD_tup, isNonD_dct, isNonD_ins, if_true, if_false, ite_true, ite_false, outF_nx, outF_rt, outF_exc, ixN_0, ixN_1, ixN_2, List.length_cons, List.length_nil, List.length_set, addF_i, subF_i, addF_s, addF_l, addF_t, iaddF_i, iaddF_s, imulF_i, mulF_i, mulF_s, mulF_l, mulF_t, divF_i, modF_i, powF_i, negF_i, ltF_i, ltF_s, leF_i, leF_s, gtF_i, gtF_s, geF_i, geF_s, isF_n, isnF_n, isF_b, isnF_b, inF_s, ninF_s, ixF_l, ixF_t, ixF_q, ixF_s, lenF_s, lenF_lst, lenF_sq, lenF_tup, absF_i, max2F_i, min2F_i, intF_i, intF_b, strF_i, strF_s, reprF_d, listF_lst, tupF_lst, itD_lst, listF_sq, tupF_sq, itD_sq, listF_tup, tupF_tup, itD_tup, itD_s, divmodF_i, slF_s, slF_t, slF_l, fmtF_s, fmtF_i, startswithF_s, endswithF_s, findF_s, countF_s, stripF_s, lstripF_s, rstripF_s, rmprefixF_s, rmsuffixF_s, isalphaF_n, isdigitF_n, zfillF_i, splitF_s, strsOf_map, intsOf_map, blsOf_map, joinF_m, allF_m, anyF_m, dec_T, dec_F, cond_nd, Bool.not_true, Bool.not_false, eqF_i, eqF_s, neF_i, neF_s, rgs_0, rgs_1, rgs_2, forL_nil, forL_cons, forK_nx, forK_ct, forK_bk, forK_rt, forK_exc, isi_non_int, isi_non_bool, isi_non_str, isi_non_list, isi_non_tuple, isi_non_dict, isi_bl_int, isi_bl_bool, isi_bl_str, isi_bl_list, isi_bl_tuple, isi_bl_dict, isi_int_int, isi_int_bool, isi_int_str, isi_int_list, isi_int_tuple, isi_int_dict, isi_str_int, isi_str_bool, isi_str_str, isi_str_list, isi_str_tuple, isi_str_dict, isi_lst_int, isi_lst_bool, isi_lst_str, isi_lst_list, isi_lst_tuple, isi_lst_dict, isi_tup_int, isi_tup_bool, isi_tup_str, isi_tup_list, isi_tup_tuple, isi_tup_dict, isi_dct_int, isi_dct_bool, isi_dct_str, isi_dct_list, isi_dct_tuple, isi_dct_dict])

def lenI (i : Int) : Bool := decide (-1073741823 ≤ i ∧ i ≤ 1073741823)
def ordI (i : Int) : Bool := decide (0 ≤ i ∧ i < 4)
theorem isint_eq (i : Int) (S : List Ce) : f_is_int [.dat (.int i)] S = .ok (.dat (.bl (decide ((if i < 0 then -i else i) < 1000000000000000000000000000000000000000000000000000000000000)))) S := by
  have k1 : k_INTEGER_END = .int 1000000000000000000000000000000000000000000000000000000000000 := rfl
  unfold f_is_int mkF m_is_int
  walk_at "ev"
  rw [cut_same (by simp)]
theorem islen_eq (i : Int) (S : List Ce) : f_is_length [.dat (.int i)] S = .ok (.dat (.bl (lenI i))) S := by
  have e1 := isint_eq i S
  have k1 : k_MAX_LENGTH = .int 1073741823 := rfl
  unfold f_is_length mkF m_is_length
  unfold lenI
  by_cases h : (if i < 0 then -i else i) < 1000000000000000000000000000000000000000000000000000000000000
  · have h' : decide ((if i < 0 then -i else i) < 1000000000000000000000000000000000000000000000000000000000000) = true := decide_eq_true h
    rw [h'] at e1
    clear h h'
    by_cases h1 : -1073741823 ≤ i
    · by_cases h2 : i ≤ 1073741823
      · walk_at "ev"
        rw [cut_same (by simp)]
      · walk_at "ev"
        rw [cut_same (by simp)]
    · walk_at "ev"
      rw [cut_same (by simp)]
      simp
  · have h' : decide ((if i < 0 then -i else i) < 1000000000000000000000000000000000000000000000000000000000000) = false := decide_eq_false h
    rw [h'] at e1
    have h3 : decide (-1073741823 ≤ i ∧ i ≤ 1073741823) = false := decide_eq_false (by split at h <;> omega)
    rw [h3]
    clear h h' h3
    walk_at "ev"
    rw [cut_same (by simp)]
theorem isord_eq (i : Int) (S : List Ce) : f_is_order [.dat (.int i)] S = .ok (.dat (.bl (ordI i))) S := by
  have e1 := isint_eq i S
  have k1 : k_ORDERS = .tup [.str "pt", .str "fil", .str "fill", .str "filll"] := rfl
  unfold f_is_order mkF m_is_order
  unfold ordI
  by_cases h : (if i < 0 then -i else i) < 1000000000000000000000000000000000000000000000000000000000000
  · rw [decide_eq_true h] at e1
    clear h
    by_cases h1 : 0 ≤ i
    · by_cases h2 : i < 4
      · walk_at "ev"
        rw [cut_same (by simp), show ((0 + 1 + 1 + 1 + 1 : Nat) : Int) = 4 from rfl]
        simp [h2]
      · walk_at "ev"
        rw [cut_same (by simp), show ((0 + 1 + 1 + 1 + 1 : Nat) : Int) = 4 from rfl]
        simp [h2]
    · walk_at "ev"
      rw [cut_same (by simp)]
      simp
  · rw [decide_eq_false h] at e1
    have h3 : decide (0 ≤ i ∧ i < 4) = false := decide_eq_false (by split at h <;> omega)
    rw [h3]
    clear h h3
    walk_at "ev"
    rw [cut_same (by simp)]
def amtI (a o : Int) : Bool := lenI a && (decide (0 ≤ a) && ordI o)
theorem isamt_eq (a o : Int) (S : List Ce) : f_is_amount [.dat (.int a), .dat (.int o)] S = .ok (.dat (.bl (amtI a o))) S := by
  have e1 := islen_eq a S
  have e2 := isord_eq o S
  unfold f_is_amount mkF m_is_amount
  unfold amtI
  cases h : lenI a with
  | true =>
    rw [h] at e1
    clear h
    by_cases h1 : 0 ≤ a
    · walk_at "ev"
      rw [cut_same (by simp)]
      simp
    · walk_at "ev"
      rw [cut_same (by simp)]
      simp
  | false =>
    rw [h] at e1
    clear h
    walk_at "ev"
    rw [cut_same (by simp)]
    simp
def ordFor (a o : Int) : Int := if a = 0 then 0 else o
theorem ordfor_eq (a o : Int) (S : List Ce) : f_order_for [.dat (.int a), .dat (.int o)] S = .ok (.dat (.int (ordFor a o))) S := by
  unfold f_order_for mkF m_order_for ordFor
  by_cases h : a = 0
  · walk_at "ev"
    rw [cut_same (by simp)]
  · walk_at "ev"
    rw [cut_same (by simp)]
def okG (n a oa b ob : Int) : Bool := lenI n && (amtI a oa && amtI b ob)
def fG (n a oa b ob : Int) : List (Str × Sl) := [("_natural", .dat (.int n)), ("_stretch", .dat (.int a)), ("_stretch_order", .dat (.int oa)), ("_shrink", .dat (.int b)), ("_shrink_order", .dat (.int ob))]
def oG (n a oa b ob : Int) : D := .ins 100 [("_natural", .int n), ("_stretch", .int a), ("_stretch_order", .int oa), ("_shrink", .int b), ("_shrink_order", .int ob)]
def pG (n a oa b ob : Int) : D := .lst [.int n, .int a, .int oa, .int b, .int ob]
theorem okTake_ins {S : List Ce} {C : Nat} {fs : List (Str × Sl)} (h : plain S = true) (hf : (fs.all fun f => slLt (S.length + 1) f.2) = true) : okTake (S.length + 1) (S ++ [.ins C fs]) = true := by
  unfold okTake
  rw [List.take_of_length_le (by simp)]
  rw [List.all_append]
  unfold plain at h
  rw [List.all_eq_true] at h
  rw [Bool.and_eq_true]
  refine ⟨List.all_eq_true.mpr fun x hx => ?_, ?_⟩
  · have z := h x hx
    cases x with
    | ins C fs => cases z
    | _ => rfl
  · simp only [List.all_cons, List.all_nil, Bool.and_true, ceLt]
    exact hf
theorem init_eq {S : List Ce} (hp : plain S = true) (n a oa b ob : Int) : f_Glue_DinitD [.own S.length, .dat (.int n), .dat (.int a), .dat (.int oa), .dat (.int b), .dat (.int ob)] (S ++ [.ins 100 []]) =
    if okG n a oa b ob = true then .ok (.dat .non) (S ++ [.ins 100 (fG n a (ordFor a oa) b (ordFor b ob))]) else .exc 2 none (S ++ [.ins 100 []]) := by
  have e1 := islen_eq n (S ++ [.ins 100 []])
  have e2 := isamt_eq a oa (S ++ [.ins 100 []])
  have e3 := isamt_eq b ob (S ++ [.ins 100 []])
  unfold f_Glue_DinitD mkF m_Glue_DinitD okG
  by_cases h : (lenI n && (amtI a oa && amtI b ob)) = true
  · rw [if_pos h]
    rw [Bool.and_eq_true, Bool.and_eq_true] at h
    rw [h.1] at e1
    rw [h.2.1] at e2
    rw [h.2.2] at e3
    clear h
    have g1 : gFld [100] "_natural" (mVar 0) (mVar 1) [.own S.length, .dat (.int n), .dat (.int a), .dat (.int oa), .dat (.int b), .dat (.int ob)] (S ++ [.ins 100 []]) = .nx [.own S.length, .dat (.int n), .dat (.int a), .dat (.int oa), .dat (.int b), .dat (.int ob)] (S ++ [.ins 100 [("_natural", .dat (.int n))]]) := gFld_last rfl rfl rfl rfl
    have g2 : gFld [100] "_stretch" (mVar 0) (mVar 2) [.own S.length, .dat (.int n), .dat (.int a), .dat (.int oa), .dat (.int b), .dat (.int ob)] (S ++ [.ins 100 [("_natural", .dat (.int n))]]) = .nx [.own S.length, .dat (.int n), .dat (.int a), .dat (.int oa), .dat (.int b), .dat (.int ob)] (S ++ [.ins 100 [("_natural", .dat (.int n)), ("_stretch", .dat (.int a))]]) := gFld_last rfl rfl rfl rfl
    have g3 : gFld [100] "_stretch_order" (mVar 0) (mCall f_order_for (aCons (mVar 2) (aCons (mVar 3) aNil))) [.own S.length, .dat (.int n), .dat (.int a), .dat (.int oa), .dat (.int b), .dat (.int ob)] (S ++ [.ins 100 [("_natural", .dat (.int n)), ("_stretch", .dat (.int a))]]) = .nx [.own S.length, .dat (.int n), .dat (.int a), .dat (.int oa), .dat (.int b), .dat (.int ob)] (S ++ [.ins 100 [("_natural", .dat (.int n)), ("_stretch", .dat (.int a)), ("_stretch_order", .dat (.int (ordFor a oa)))]]) := gFld_last rfl (ordfor_eq a oa _) rfl rfl
    have g4 : gFld [100] "_shrink" (mVar 0) (mVar 4) [.own S.length, .dat (.int n), .dat (.int a), .dat (.int oa), .dat (.int b), .dat (.int ob)] (S ++ [.ins 100 [("_natural", .dat (.int n)), ("_stretch", .dat (.int a)), ("_stretch_order", .dat (.int (ordFor a oa)))]]) = .nx [.own S.length, .dat (.int n), .dat (.int a), .dat (.int oa), .dat (.int b), .dat (.int ob)] (S ++ [.ins 100 [("_natural", .dat (.int n)), ("_stretch", .dat (.int a)), ("_stretch_order", .dat (.int (ordFor a oa))), ("_shrink", .dat (.int b))]]) := gFld_last rfl rfl rfl rfl
    have g5 : gFld [100] "_shrink_order" (mVar 0) (mCall f_order_for (aCons (mVar 4) (aCons (mVar 5) aNil))) [.own S.length, .dat (.int n), .dat (.int a), .dat (.int oa), .dat (.int b), .dat (.int ob)] (S ++ [.ins 100 [("_natural", .dat (.int n)), ("_stretch", .dat (.int a)), ("_stretch_order", .dat (.int (ordFor a oa))), ("_shrink", .dat (.int b))]]) = .nx [.own S.length, .dat (.int n), .dat (.int a), .dat (.int oa), .dat (.int b), .dat (.int ob)] (S ++ [.ins 100 (fG n a (ordFor a oa) b (ordFor b ob))]) := gFld_last rfl (ordfor_eq b ob _) rfl rfl
    walk_at "ev"
    have hl : (S ++ [Ce.ins 100 []]).length = (S ++ [Ce.ins 100 (fG n a (ordFor a oa) b (ordFor b ob))]).length := by simp
    have hk : okTake (S ++ [Ce.ins 100 (fG n a (ordFor a oa) b (ordFor b ob))]).length (S ++ [Ce.ins 100 (fG n a (ordFor a oa) b (ordFor b ob))]) = true := by
      rw [List.length_append]; exact okTake_ins hp rfl
    rw [hl, cut_take hk, List.take_length]
  · rw [if_neg h]
    have hx : cutX (S ++ [Ce.ins 100 []]).length 2 none (S ++ [Ce.ins 100 []]) = .exc 2 none (S ++ [Ce.ins 100 []]) := by
      rw [cutX_take (by rw [List.length_append]; exact okTake_ins hp rfl), List.take_length]
    cases h1 : lenI n with
    | false =>
      rw [h1] at e1
      clear h h1
      walk_at "ev"
    | true =>
      rw [h1] at e1
      cases h2 : amtI a oa with
      | false =>
        rw [h2] at e2
        clear h h1 h2
        walk_at "ev"
      | true =>
        rw [h2] at e2
        cases h3 : amtI b ob with
        | false =>
          rw [h3] at e3
          clear h h1 h2 h3
          walk_at "ev"
        | true => exact absurd (by rw [h1, h2, h3]; rfl) h
theorem made_eq {S : List Ce} (hp : plain S = true) (n a oa b ob : Int) : f__law_made [.dat (pG n a oa b ob)] S = .ok (.dat (if okG n a oa b ob = true then oG n a (ordFor a oa) b (ordFor b ob) else .non)) S := by
  have e1 := init_eq hp n a oa b ob
  unfold f__law_made mkF m__law_made pG
  by_cases h : okG n a oa b ob = true
  · rw [if_pos h] at e1 ⊢
    clear h
    have fz : frzL S.length (.ok (.own S.length) (S ++ [.ins 100 (fG n a (ordFor a oa) b (ordFor b ob))])) = .ok (.dat (oG n a (ordFor a oa) b (ordFor b ob))) S := frzL_ins hp rfl
    have i3 : ∀ (x y z u : D) (r : List D), atI (x :: y :: z :: u :: r) 3 = some u := atI_3
    have i4 : ∀ (x y z u v : D) (r : List D), atI (x :: y :: z :: u :: v :: r) 4 = some v := atI_4
    have gg : ∀ a0 a1 b0 b1 b2 b3 : Sl, g_Glue_DinitD_2_stretch_stretch_order_shrink_shrink_order [a0, a1] [b0, b1, b2, b3] = [a0, a1, b0, b1, b2, b3] := fun _ _ _ _ _ _ => rfl
    walk_at "ev"
    rw [cut_same rfl]
  · rw [if_neg h] at e1 ⊢
    clear h
    have i3 : ∀ (x y z u : D) (r : List D), atI (x :: y :: z :: u :: r) 3 = some u := atI_3
    have i4 : ∀ (x y z u v : D) (r : List D), atI (x :: y :: z :: u :: v :: r) 4 = some v := atI_4
    have gg : ∀ a0 a1 b0 b1 b2 b3 : Sl, g_Glue_DinitD_2_stretch_stretch_order_shrink_shrink_order [a0, a1] [b0, b1, b2, b3] = [a0, a1, b0, b1, b2, b3] := fun _ _ _ _ _ _ => rfl
    have fz : frzL S.length (RE.exc 2 none (S ++ [Ce.ins 100 []])) = RE.exc 2 none (S ++ [Ce.ins 100 []]) := rfl
    have hn : (2 < nk ∧ 2 < nk) := by decide
    have hs : subT 2 2 = true := by decide
    walk_at "ev"
    rw [cut_take (okTake_app hp), List.take_left]
theorem parts_eq {S : List Ce} (n a oa b ob : Int) : f__law_parts [.dat (oG n a oa b ob)] S = .ok (.dat (pG n a oa b ob)) S := by
  have p1 : f_Glue_natural [.dat (oG n a oa b ob)] S = .ok (.dat (.int n)) S := by
    unfold f_Glue_natural mkF m_Glue_natural
    have : fldS [100] "_natural" (.dat (oG n a oa b ob)) S = .ok (.dat (.int n)) S := rfl
    walk_at "ev"
    rw [cut_same rfl]
  have p2 : f_Glue_stretch [.dat (oG n a oa b ob)] S = .ok (.dat (.int a)) S := by
    unfold f_Glue_stretch mkF m_Glue_stretch
    have : fldS [100] "_stretch" (.dat (oG n a oa b ob)) S = .ok (.dat (.int a)) S := rfl
    walk_at "ev"
    rw [cut_same rfl]
  have p3 : f_Glue_stretch_order [.dat (oG n a oa b ob)] S = .ok (.dat (.int oa)) S := by
    unfold f_Glue_stretch_order mkF m_Glue_stretch_order
    have : fldS [100] "_stretch_order" (.dat (oG n a oa b ob)) S = .ok (.dat (.int oa)) S := rfl
    walk_at "ev"
    rw [cut_same rfl]
  have p4 : f_Glue_shrink [.dat (oG n a oa b ob)] S = .ok (.dat (.int b)) S := by
    unfold f_Glue_shrink mkF m_Glue_shrink
    have : fldS [100] "_shrink" (.dat (oG n a oa b ob)) S = .ok (.dat (.int b)) S := rfl
    walk_at "ev"
    rw [cut_same rfl]
  have p5 : f_Glue_shrink_order [.dat (oG n a oa b ob)] S = .ok (.dat (.int ob)) S := by
    unfold f_Glue_shrink_order mkF m_Glue_shrink_order
    have : fldS [100] "_shrink_order" (.dat (oG n a oa b ob)) S = .ok (.dat (.int ob)) S := rfl
    walk_at "ev"
    rw [cut_same rfl]
  have q : ∀ F : MF, prpS [(100, F)] (.dat (oG n a oa b ob)) S = (F [.dat (oG n a oa b ob)] S).noX := fun F => prpS_1
  have hn : isNonD (oG n a oa b ob) = false := rfl
  unfold f__law_parts mkF m__law_parts
  walk_at "ev"
  rw [cut_same rfl]
  rfl
theorem parts_non {S : List Ce} : f__law_parts [.dat .non] S = .ok (.dat .non) S := by
  unfold f__law_parts mkF m__law_parts
  walk_at "ev"
  rw [cut_same rfl]
/-! ### sums -/
/-- the greater order wins -/
def jo (x y : Int × Int) : Int × Int := if x.2 > y.2 then x else if x.2 < y.2 then y else (x.1 + y.1, x.2)
theorem joined_eq {S : List Ce} (a oa b ob : Int) : f_joined [.dat (.tup [.int a, .int oa]), .dat (.tup [.int b, .int ob])] S = .ok (.dat (.tup [.int (jo (a, oa) (b, ob)).1, .int (jo (a, oa) (b, ob)).2])) S := by
  unfold f_joined mkF m_joined jo
  by_cases h1 : ob < oa
  · have h1' : oa > ob := h1
    walk_at "ev"
    rw [cut_same rfl]
  · by_cases h2 : oa < ob
    · have h1' : ¬ oa > ob := h1
      walk_at "ev"
      rw [cut_same rfl]
    · have h1' : ¬ oa > ob := h1
      walk_at "ev"
      rw [cut_same rfl]
theorem both_eq {S : List Ce} (a oa b ob : Int) : f__law_both [.dat (.lst [.int a, .int oa]), .dat (.lst [.int b, .int ob])] S = .ok (.dat (.lst [.int (jo (a, oa) (b, ob)).1, .int (jo (a, oa) (b, ob)).2])) S := by
  unfold f__law_both mkF m__law_both jo
  by_cases h0 : oa = ob
  · have h1 : ¬ oa > ob := by omega
    have h2 : ¬ oa < ob := by omega
    subst h0
    have h3 : ¬ oa > oa := by omega
    have h4 : ¬ oa < oa := by omega
    clear h1 h2
    simp only [h3, h4, if_false]
    clear h3 h4
    walk_at "ev"
    rw [cut_same rfl]
  · by_cases h1 : ob < oa
    · have h1' : oa > ob := h1
      walk_at "ev"
      rw [cut_same rfl]
    · have h1' : ¬ oa > ob := h1
      have h2 : oa < ob := by omega
      walk_at "ev"
      rw [cut_same rfl]

/-! ### fair, sums, products -/
abbrev G5 := Int × Int × Int × Int × Int
def pO : Option G5 → D
  | some (n, a, oa, b, ob) => pG n a oa b ob
  | none => .non
def oO : Option G5 → D
  | some (n, a, oa, b, ob) => oG n a oa b ob
  | none => .non
def big (i : Int) : Bool := decide (1073741824 ≤ (if i < 0 then -i else i))
def fairO (g : G5) : Option G5 := match g with
  | (n, a, oa, b, ob) => if big n = true ∨ big a = true ∨ big b = true then none else some (n, a, oa, b, ob)
theorem fair_eq {S : List Ce} (hp : plain S = true) (n a oa b ob : Int) : f__law_fair [.dat (pG n a oa b ob)] S = .ok (.dat (pO (fairO (n, a, oa, b, ob)))) S := by
  have p30 : (2 : Int) ^ Int.toNat 30 = 1073741824 := by decide
  have i3 : ∀ (x y z u : D) (r : List D), atI (x :: y :: z :: u :: r) 3 = some u := atI_3
  have hX : mLc 2 (mIt (mTup (aCons (mOp ixF (mVar 0) (mK (.int 0))) (aCons (mOp ixF (mVar 0) (mK (.int 1))) (aCons (mOp ixF (mVar 0) (mK (.int 3))) aNil))))) (tOf (mOp geF (mBlt absF (aCons (mVar 2) aNil)) (mOp powF (mK (.int 2)) (mK (.int 30))))) (mVar 2) [.dat (.lst [.int n, .int a, .int oa, .int b, .int ob]), .no, .no] S = .ok (.dat (.lst (([.int n, .int a, .int b] : List D).filter fun d => match d with | .int i => big i | _ => false))) S := by
    refine (mLc_fm (fun d => match d with | .int i => big i | _ => false) id (ds := [.int n, .int a, .int b]) ?_ hp (by simp) ?_ ?_).trans (by rw [List.map_id])
    · walk_at "ev"
    · intro d hd T
      have : ∃ i, d = .int i := by
        rcases List.mem_cons.mp hd with rfl | hd
        · exact ⟨_, rfl⟩
        rcases List.mem_cons.mp hd with rfl | hd
        · exact ⟨_, rfl⟩
        rcases List.mem_cons.mp hd with rfl | hd
        · exact ⟨_, rfl⟩
        · cases hd
      obtain ⟨i, rfl⟩ := this
      unfold big
      clear hd
      walk_at "ev"
    · intro d hd _ T
      rfl
  have hok : okP 60 (.lst (([.int n, .int a, .int b] : List D).filter fun d => match d with | .int i => big i | _ => false)) = true := by
    simp only [okP]
    rw [List.all_eq_true]
    intro x hx
    have := (List.mem_filter.mp hx).1
    rcases List.mem_cons.mp this with rfl | hd
    · rfl
    rcases List.mem_cons.mp hd with rfl | hd
    · rfl
    rcases List.mem_cons.mp hd with rfl | hd
    · rfl
    · cases hd
  have he := eqF_nil hok
  unfold f__law_fair mkF m__law_fair pG
  have hb : (([.int n, .int a, .int b] : List D).filter fun d => match d with | .int i => big i | _ => false).isEmpty = decide (¬(big n = true ∨ big a = true ∨ big b = true)) := by
    cases h1 : big n <;> cases h2 : big a <;> cases h3 : big b <;> simp [List.filter, h1, h2, h3]
  rw [hb] at he
  clear hb hok
  generalize (([.int n, .int a, .int b] : List D).filter fun d => match d with | .int i => big i | _ => false) = L at *
  generalize mLc 2 (mIt (mTup (aCons (mOp ixF (mVar 0) (mK (.int 0))) (aCons (mOp ixF (mVar 0) (mK (.int 1))) (aCons (mOp ixF (mVar 0) (mK (.int 3))) aNil))))) (tOf (mOp geF (mBlt absF (aCons (mVar 2) aNil)) (mOp powF (mK (.int 2)) (mK (.int 30))))) (mVar 2) = X at *
  unfold fairO
  by_cases h : big n = true ∨ big a = true ∨ big b = true
  · rw [decide_eq_false (fun z => z h)] at he
    simp only [h, if_true]
    clear h
    walk_at "ev"
    rw [cut_same rfl]
    rfl
  · rw [decide_eq_true h] at he
    simp only [h, if_false]
    clear h
    walk_at "ev"
    rw [cut_same rfl]
    rfl
end Mir

set_option maxHeartbeats 4000000
namespace Mir
open PySem PySem.Spec L2
local macro_rules | `(tactic| walk_at "ev") => `(tactic| simp (disch := omega) only [*, mFld_eq, mProp_eq, mMeth_eq, mIsiO_eq, mEqO_eq, mOpO_eq, mMake_eq, madeS_n, mCallK, prpS_1, tTup_t, tLst_l, tAll_nil, tAll_cons, tN_d, mNo, gNo, eqoS_d, frzL_id, ↓chain_le, chainW_i, Int.natAbs_natCast, Int.toNat_natCast, reprV_i, reprV_s, reprV_n, reprV_b, and_self, and_true, true_and, gTry, hdl, gone, bareE, mErr, slE, List.map, if_pos, if_neg, gNil, gSeq, gIf, gRet, gRetN, gSet, gStoV, gSto, gAppV, gApp, gEx, gPar, gAug, gFor, gRaise, gRaise1, gAsg, mVar, mk_ok, mOp, mUn, mIf, mAnd, mOr, mNot, mTup, mLst, mLstO, mBlt, mCall, mMs, mSl, oNo, oSome, mFmt, mChain, mFs, fsL, aCons, aNil, tOf, tTru, tAnd, tOr, tNot, tYes', mIt, mRng1, mRng2, datas, truS_vw, truD, op1_vw, op2_vw, opN_vw, vws_nil, vws_cons,
  vw_dat, vw_own, ceD_lst, ceD_dct, asB_ok, ofO_some, ofO_none, dat'_some, dat'_none, RE.ok_bind, RE.exc_bind, RE.stuck_bind, RE.ok_toS, RE.exc_toS, RE.stuck_toS, RE.noX_ok, RS.nx_bind, RS.rt_bind, RS.bk_bind, RS.ct_bind, RS.exc_bind, RS.stuck_bind, Option.bind_some, Option.map_some, Option.bind_none, Option.map_none, cond_dec, cond_true, cond_false, List.getElem?_cons_zero, List.getElem?_cons_succ, List.set_cons_zero, List.set_cons_succ, List.replicate, List.cons_append, List.nil_append,
  atI_0, atI_1, atI_2, isNonD_non, isNonD_int, isNonD_bl, isNonD_str, isNonD_lst, isNonD_tup, isNonD_dct, isNonD_ins, if_true, if_false, ite_true, ite_false, outF_nx, outF_rt, outF_exc, ixN_0, ixN_1, ixN_2, List.length_cons, List.length_nil, List.length_set, addF_i, subF_i, addF_s, addF_l, addF_t, iaddF_i, iaddF_s, imulF_i, mulF_i, mulF_s, mulF_l, mulF_t, divF_i, modF_i, powF_i, negF_i, ltF_i, ltF_s, leF_i, leF_s, gtF_i, gtF_s, geF_i, geF_s, isF_n, isnF_n, isF_b, isnF_b, inF_s, ninF_s, ixF_l, ixF_t, ixF_q, ixF_s, lenF_s, lenF_lst, lenF_sq, lenF_tup, absF_i, max2F_i, min2F_i, intF_i, intF_b, strF_i, strF_s, reprF_d, listF_lst, tupF_lst, itD_lst, listF_sq, tupF_sq, itD_sq, listF_tup, tupF_tup, itD_tup, itD_s, divmodF_i, slF_s, slF_t, slF_l, fmtF_s, fmtF_i, startswithF_s, endswithF_s, findF_s, countF_s, stripF_s, lstripF_s, rstripF_s, rmprefixF_s, rmsuffixF_s, isalphaF_n, isdigitF_n, zfillF_i, splitF_s, strsOf_map, intsOf_map, blsOf_map, joinF_m, allF_m, anyF_m, dec_T, dec_F, cond_nd, Bool.not_true, Bool.not_false, eqF_i, eqF_s, neF_i, neF_s, rgs_0, rgs_1, rgs_2, forL_nil, forL_cons, forK_nx, forK_ct, forK_bk, forK_rt, forK_exc, isi_non_int, isi_non_bool, isi_non_str, isi_non_list, isi_non_tuple, isi_non_dict, isi_bl_int, isi_bl_bool, isi_bl_str, isi_bl_list, isi_bl_tuple, isi_bl_dict, isi_int_int, isi_int_bool, isi_int_str, isi_int_list, isi_int_tuple, isi_int_dict, isi_str_int, isi_str_bool, isi_str_str, isi_str_list, isi_str_tuple, isi_str_dict, isi_lst_int, isi_lst_bool, isi_lst_str, isi_lst_list, isi_lst_tuple, isi_lst_dict, isi_tup_int, isi_tup_bool, isi_tup_str, isi_tup_list, isi_tup_tuple, isi_tup_dict, isi_dct_int, isi_dct_bool, isi_dct_str, isi_dct_list, isi_dct_tuple, isi_dct_dict])
def sumO : Option G5 → Option G5 → Option G5
  | some (n, a, oa, b, ob), some (n', a', oa', b', ob') => fairO (n + n', (jo (a, oa) (a', oa')).1, (jo (a, oa) (a', oa')).2, (jo (b, ob) (b', ob')).1, (jo (b, ob) (b', ob')).2)
  | _, _ => none
theorem sum_eq {S : List Ce} (hp : plain S = true) (x y : Option G5) : f__law_sum [.dat (pO x), .dat (pO y)] S = .ok (.dat (pO (sumO x y))) S := by
  unfold f__law_sum mkF m__law_sum
  cases x with
  | none =>
    simp only [pO, sumO]
    walk_at "ev"
    rw [cut_same rfl]
  | some x =>
    obtain ⟨n, a, oa, b, ob⟩ := x
    cases y with
    | none =>
      simp only [pO, sumO]
      have hn : isNonD (pG n a oa b ob) = false := rfl
      walk_at "ev"
      rw [cut_same rfl]
    | some y =>
      obtain ⟨n', a', oa', b', ob'⟩ := y
      have e1 := both_eq (S := S) a oa a' oa'
      have e2 := both_eq (S := S) b ob b' ob'
      have e3 := fair_eq hp (n + n') (jo (a, oa) (a', oa')).1 (jo (a, oa) (a', oa')).2 (jo (b, ob) (b', ob')).1 (jo (b, ob) (b', ob')).2
      simp only [sumO]
      generalize fairO (n + n', (jo (a, oa) (a', oa')).1, (jo (a, oa) (a', oa')).2, (jo (b, ob) (b', ob')).1, (jo (b, ob) (b', ob')).2) = R at *
      have c1 : ∀ n a oa b ob : Int, cutD [D.int n, .int a, .int oa, .int b, .int ob] (some 1) (some 3) = [.int a, .int oa] := fun _ _ _ _ _ => rfl
      have c2 : ∀ n a oa b ob : Int, cutD [D.int n, .int a, .int oa, .int b, .int ob] (some 3) (some 5) = [.int b, .int ob] := fun _ _ _ _ _ => rfl
      have l1 : ((0 + 1 + (0 + 1 + 1) ≤ 100000) ∧ True) := by decide
      unfold pO pG at *
      dsimp only at *
      have h1 : (0 + 1 + (0 + 1 + 1) ≤ 100000) := by decide
      have h2 : (0 + 1 + 1 + 1 + (0 + 1 + 1) ≤ 100000) := by decide
      clear l1
      walk_at "ev"
      rw [cut_same rfl]
end Mir

set_option maxHeartbeats 4000000
namespace Mir
open PySem PySem.Spec L2
local macro_rules | `(tactic| walk_at "ev") => `(tactic| simp (disch := omega) only [*, mFld_eq, mProp_eq, mMeth_eq, mIsiO_eq, mEqO_eq, mOpO_eq, mMake_eq, madeS_n, mCallK, prpS_1, tTup_t, tLst_l, tAll_nil, tAll_cons, tN_d, mNo, gNo, eqoS_d, frzL_id, ↓chain_le, chainW_i, Int.natAbs_natCast, Int.toNat_natCast, reprV_i, reprV_s, reprV_n, reprV_b, and_self, and_true, true_and, gTry, hdl, gone, bareE, mErr, slE, List.map, if_pos, if_neg, gNil, gSeq, gIf, gRet, gRetN, gSet, gStoV, gSto, gAppV, gApp, gEx, gPar, gAug, gFor, gRaise, gRaise1, gAsg, mVar, mk_ok, mOp, mUn, mIf, mAnd, mOr, mNot, mTup, mLst, mLstO, mBlt, mCall, mMs, mSl, oNo, oSome, mFmt, mChain, mFs, fsL, aCons, aNil, tOf, tTru, tAnd, tOr, tNot, tYes', mIt, mRng1, mRng2, datas, truS_vw, truD, op1_vw, op2_vw, opN_vw, vws_nil, vws_cons,
  vw_dat, vw_own, ceD_lst, ceD_dct, asB_ok, ofO_some, ofO_none, dat'_some, dat'_none, RE.ok_bind, RE.exc_bind, RE.stuck_bind, RE.ok_toS, RE.exc_toS, RE.stuck_toS, RE.noX_ok, RS.nx_bind, RS.rt_bind, RS.bk_bind, RS.ct_bind, RS.exc_bind, RS.stuck_bind, Option.bind_some, Option.map_some, Option.bind_none, Option.map_none, cond_dec, cond_true, cond_false, List.getElem?_cons_zero, List.getElem?_cons_succ, List.set_cons_zero, List.set_cons_succ, List.replicate, List.cons_append, List.nil_append,
  atI_0, atI_1, atI_2, isNonD_non, isNonD_int, isNonD_bl, isNonD_str, isNonD_lst, isNonD_tup, isNonD_dct, isNonD_ins, if_true, if_false, ite_true, ite_false, outF_nx, outF_rt, outF_exc, ixN_0, ixN_1, ixN_2, List.length_cons, List.length_nil, List.length_set, addF_i, subF_i, addF_s, addF_l, addF_t, iaddF_i, iaddF_s, imulF_i, mulF_i, mulF_s, mulF_l, mulF_t, divF_i, modF_i, powF_i, negF_i, ltF_i, ltF_s, leF_i, leF_s, gtF_i, gtF_s, geF_i, geF_s, isF_n, isnF_n, isF_b, isnF_b, inF_s, ninF_s, ixF_l, ixF_t, ixF_q, ixF_s, lenF_s, lenF_lst, lenF_sq, lenF_tup, absF_i, max2F_i, min2F_i, intF_i, intF_b, strF_i, strF_s, reprF_d, listF_lst, tupF_lst, itD_lst, listF_sq, tupF_sq, itD_sq, listF_tup, tupF_tup, itD_tup, itD_s, divmodF_i, slF_s, slF_t, slF_l, fmtF_s, fmtF_i, startswithF_s, endswithF_s, findF_s, countF_s, stripF_s, lstripF_s, rstripF_s, rmprefixF_s, rmsuffixF_s, isalphaF_n, isdigitF_n, zfillF_i, splitF_s, strsOf_map, intsOf_map, blsOf_map, joinF_m, allF_m, anyF_m, dec_T, dec_F, cond_nd, Bool.not_true, Bool.not_false, eqF_i, eqF_s, neF_i, neF_s, rgs_0, rgs_1, rgs_2, forL_nil, forL_cons, forK_nx, forK_ct, forK_bk, forK_rt, forK_exc, isi_non_int, isi_non_bool, isi_non_str, isi_non_list, isi_non_tuple, isi_non_dict, isi_bl_int, isi_bl_bool, isi_bl_str, isi_bl_list, isi_bl_tuple, isi_bl_dict, isi_int_int, isi_int_bool, isi_int_str, isi_int_list, isi_int_tuple, isi_int_dict, isi_str_int, isi_str_bool, isi_str_str, isi_str_list, isi_str_tuple, isi_str_dict, isi_lst_int, isi_lst_bool, isi_lst_str, isi_lst_list, isi_lst_tuple, isi_lst_dict, isi_tup_int, isi_tup_bool, isi_tup_str, isi_tup_list, isi_tup_tuple, isi_tup_dict, isi_dct_int, isi_dct_bool, isi_dct_str, isi_dct_list, isi_dct_tuple, isi_dct_dict])
/-! ### the program's sums -/
def madeO (n a oa b ob : Int) : Option G5 := if okG n a oa b ob = true then some (n, a, ordFor a oa, b, ordFor b ob) else none
def addO : Option G5 → Option G5 → Option G5
  | some (n, a, oa, b, ob), some (n', a', oa', b', ob') => madeO (n + n') (jo (a, oa) (a', oa')).1 (jo (a, oa) (a', oa')).2 (jo (b, ob) (b', ob')).1 (jo (b, ob) (b', ob')).2
  | _, _ => none
theorem mk5 {S : List Ce} (hp : plain S = true) {ρ : List Sl} {fa fb : MA'} {n a oa b ob : Int} (ha : fa ρ S = .ok [.dat (.int n)] S) (hb : fb ρ S = .ok [.dat (.int a), .dat (.int oa), .dat (.int b), .dat (.int ob)] S) :
    frzL S.length (mMake 100 g_Glue_DinitD_2_stretch_stretch_order_shrink_shrink_order f_Glue_DinitD fa fb ρ S) = if okG n a oa b ob = true then .ok (.dat (oG n a (ordFor a oa) b (ordFor b ob))) S else .exc 2 none (S ++ [.ins 100 []]) := by
  have gg : ∀ a0 a1 b0 b1 b2 b3 : Sl, g_Glue_DinitD_2_stretch_stretch_order_shrink_shrink_order [a0, a1] [b0, b1, b2, b3] = [a0, a1, b0, b1, b2, b3] := fun _ _ _ _ _ _ => rfl
  rw [mMake_eq, ha, RE.ok_bind, hb, RE.ok_bind, gg, init_eq hp]
  by_cases h : okG n a oa b ob = true
  · rw [if_pos h, if_pos h]
    rw [RE.ok_bind, madeS_n]
    exact frzL_ins hp rfl
  · rw [if_neg h, if_neg h, RE.exc_bind, frzL_exc]
theorem isi_G {n a oa b ob : Int} {S : List Ce} : isiS it_Glue (.dat (oG n a oa b ob)) S = .ok (.dat (.bl true)) S := isiS_d (t := 107) rfl rfl
end Mir

set_option maxHeartbeats 4000000
namespace Mir
open PySem PySem.Spec L2
local macro_rules | `(tactic| walk_at "ev") => `(tactic| simp (disch := omega) only [*, mFld_eq, mProp_eq, mMeth_eq, mIsiO_eq, mEqO_eq, mOpO_eq, mMake_eq, madeS_n, mCallK, prpS_1, tTup_t, tLst_l, tAll_nil, tAll_cons, tN_d, mNo, gNo, eqoS_d, frzL_id, ↓chain_le, chainW_i, Int.natAbs_natCast, Int.toNat_natCast, reprV_i, reprV_s, reprV_n, reprV_b, and_self, and_true, true_and, gTry, hdl, gone, bareE, mErr, slE, List.map, if_pos, if_neg, gNil, gSeq, gIf, gRet, gRetN, gSet, gStoV, gSto, gAppV, gApp, gEx, gPar, gAug, gFor, gRaise, gRaise1, gAsg, mVar, mk_ok, mOp, mUn, mIf, mAnd, mOr, mNot, mTup, mLst, mLstO, mBlt, mCall, mMs, mSl, oNo, oSome, mFmt, mChain, mFs, fsL, aCons, aNil, tOf, tTru, tAnd, tOr, tNot, tYes', mIt, mRng1, mRng2, datas, truS_vw, truD, op1_vw, op2_vw, opN_vw, vws_nil, vws_cons,
  vw_dat, vw_own, ceD_lst, ceD_dct, asB_ok, ofO_some, ofO_none, dat'_some, dat'_none, RE.ok_bind, RE.exc_bind, RE.stuck_bind, RE.ok_toS, RE.exc_toS, RE.stuck_toS, RE.noX_ok, RS.nx_bind, RS.rt_bind, RS.bk_bind, RS.ct_bind, RS.exc_bind, RS.stuck_bind, Option.bind_some, Option.map_some, Option.bind_none, Option.map_none, cond_dec, cond_true, cond_false, List.getElem?_cons_zero, List.getElem?_cons_succ, List.set_cons_zero, List.set_cons_succ, List.replicate, List.cons_append, List.nil_append,
  atI_0, atI_1, atI_2, isNonD_non, isNonD_int, isNonD_bl, isNonD_str, isNonD_lst, isNonD_tup, isNonD_dct, isNonD_ins, if_true, if_false, ite_true, ite_false, outF_nx, outF_rt, outF_exc, ixN_0, ixN_1, ixN_2, List.length_cons, List.length_nil, List.length_set, addF_i, subF_i, addF_s, addF_l, addF_t, iaddF_i, iaddF_s, imulF_i, mulF_i, mulF_s, mulF_l, mulF_t, divF_i, modF_i, powF_i, negF_i, ltF_i, ltF_s, leF_i, leF_s, gtF_i, gtF_s, geF_i, geF_s, isF_n, isnF_n, isF_b, isnF_b, inF_s, ninF_s, ixF_l, ixF_t, ixF_q, ixF_s, lenF_s, lenF_lst, lenF_sq, lenF_tup, absF_i, max2F_i, min2F_i, intF_i, intF_b, strF_i, strF_s, reprF_d, listF_lst, tupF_lst, itD_lst, listF_sq, tupF_sq, itD_sq, listF_tup, tupF_tup, itD_tup, itD_s, divmodF_i, slF_s, slF_t, slF_l, fmtF_s, fmtF_i, startswithF_s, endswithF_s, findF_s, countF_s, stripF_s, lstripF_s, rstripF_s, rmprefixF_s, rmsuffixF_s, isalphaF_n, isdigitF_n, zfillF_i, splitF_s, strsOf_map, intsOf_map, blsOf_map, joinF_m, allF_m, anyF_m, dec_T, dec_F, cond_nd, Bool.not_true, Bool.not_false, eqF_i, eqF_s, neF_i, neF_s, rgs_0, rgs_1, rgs_2, forL_nil, forL_cons, forK_nx, forK_ct, forK_bk, forK_rt, forK_exc, isi_non_int, isi_non_bool, isi_non_str, isi_non_list, isi_non_tuple, isi_non_dict, isi_bl_int, isi_bl_bool, isi_bl_str, isi_bl_list, isi_bl_tuple, isi_bl_dict, isi_int_int, isi_int_bool, isi_int_str, isi_int_list, isi_int_tuple, isi_int_dict, isi_str_int, isi_str_bool, isi_str_str, isi_str_list, isi_str_tuple, isi_str_dict, isi_lst_int, isi_lst_bool, isi_lst_str, isi_lst_list, isi_lst_tuple, isi_lst_dict, isi_tup_int, isi_tup_bool, isi_tup_str, isi_tup_list, isi_tup_tuple, isi_tup_dict, isi_dct_int, isi_dct_bool, isi_dct_str, isi_dct_list, isi_dct_tuple, isi_dct_dict])
theorem dadd_eq {S : List Ce} (hp : plain S = true) (n a oa b ob n' a' oa' b' ob' : Int) : f_Glue_DaddD [.dat (oG n a oa b ob), .dat (oG n' a' oa' b' ob')] S =
    match addO (some (n, a, oa, b, ob)) (some (n', a', oa', b', ob')) with
    | some g => .ok (.dat (oO (some g))) S
    | none => .exc 2 none S := by
  have e0 := isi_G (n := n') (a := a') (oa := oa') (b := b') (ob := ob') (S := S)
  have s1 : ∀ n a oa b ob : Int, fldS [100] "_stretch" (.dat (oG n a oa b ob)) S = .ok (.dat (.int a)) S := fun _ _ _ _ _ => rfl
  have s2 : ∀ n a oa b ob : Int, fldS [100] "_stretch_order" (.dat (oG n a oa b ob)) S = .ok (.dat (.int oa)) S := fun _ _ _ _ _ => rfl
  have s3 : ∀ n a oa b ob : Int, fldS [100] "_shrink" (.dat (oG n a oa b ob)) S = .ok (.dat (.int b)) S := fun _ _ _ _ _ => rfl
  have s4 : ∀ n a oa b ob : Int, fldS [100] "_shrink_order" (.dat (oG n a oa b ob)) S = .ok (.dat (.int ob)) S := fun _ _ _ _ _ => rfl
  have s5 : ∀ n a oa b ob : Int, fldS [100] "_natural" (.dat (oG n a oa b ob)) S = .ok (.dat (.int n)) S := fun _ _ _ _ _ => rfl
  have j1 := joined_eq (S := S) a oa a' oa'
  have j2 := joined_eq (S := S) b ob b' ob'
  simp only [addO, madeO]
  generalize (jo (a, oa) (a', oa')).1 = A at *
  generalize (jo (a, oa) (a', oa')).2 = OA at *
  generalize (jo (b, ob) (b', ob')).1 = B at *
  generalize (jo (b, ob) (b', ob')).2 = OB at *
  have m := mk5 (S := S) hp (ρ := [.dat (oG n a oa b ob), .dat (oG n' a' oa' b' ob'), .dat (.int A), .dat (.int OA), .dat (.int B), .dat (.int OB)]) (fa := aCons (mOp addF (mFld [100] "_natural" (mVar 0)) (mFld [100] "_natural" (mVar 1))) aNil) (fb := aCons (mVar 2) (aCons (mVar 3) (aCons (mVar 4) (aCons (mVar 5) aNil)))) (n := n + n') (a := A) (oa := OA) (b := B) (ob := OB) (by walk_at "ev") rfl
  unfold f_Glue_DaddD mkF m_Glue_DaddD
  by_cases h : okG (n + n') A OA B OB = true
  · rw [if_pos h] at m ⊢
    clear h
    generalize mMake 100 g_Glue_DinitD_2_stretch_stretch_order_shrink_shrink_order f_Glue_DinitD (aCons (mOp addF (mFld [100] "_natural" (mVar 0)) (mFld [100] "_natural" (mVar 1))) aNil) (aCons (mVar 2) (aCons (mVar 3) (aCons (mVar 4) (aCons (mVar 5) aNil)))) = X at *
    walk_at "ev"
    rw [cut_same rfl]
    rfl
  · rw [if_neg h] at m ⊢
    clear h
    generalize mMake 100 g_Glue_DinitD_2_stretch_stretch_order_shrink_shrink_order f_Glue_DinitD (aCons (mOp addF (mFld [100] "_natural" (mVar 0)) (mFld [100] "_natural" (mVar 1))) aNil) (aCons (mVar 2) (aCons (mVar 3) (aCons (mVar 4) (aCons (mVar 5) aNil)))) = X at *
    walk_at "ev"
    rw [cutX_take (okTake_app hp), List.take_left]

theorem added_eq {S : List Ce} (hp : plain S = true) (x y : Option G5) : f__law_added [.dat (oO x), .dat (oO y)] S = .ok (.dat (oO (addO x y))) S := by
  unfold f__law_added mkF m__law_added
  cases x with
  | none =>
    simp only [oO, addO]
    walk_at "ev"
    rw [cut_same rfl]
  | some x =>
    obtain ⟨n, a, oa, b, ob⟩ := x
    cases y with
    | none =>
      simp only [oO, addO]
      have hn : isNonD (oG n a oa b ob) = false := rfl
      walk_at "ev"
      rw [cut_same rfl]
    | some y =>
      obtain ⟨n', a', oa', b', ob'⟩ := y
      have e := dadd_eq hp n a oa b ob n' a' oa' b' ob'
      have hn : isNonD (oG n a oa b ob) = false := rfl
      have hn' : isNonD (oG n' a' oa' b' ob') = false := rfl
      have ho : opoS [(100, ([2, 107], f_Glue_DaddD))] addF (.dat (oG n a oa b ob)) (.dat (oG n' a' oa' b' ob')) S = f_Glue_DaddD [.dat (oG n a oa b ob), .dat (oG n' a' oa' b' ob')] S := opoS_1 (t := 107) rfl rfl
      simp only [oO]
      cases h : addO (some (n, a, oa, b, ob)) (some (n', a', oa', b', ob')) with
      | none =>
        rw [h] at e
        dsimp only at e
        have hk : (2 < nk ∧ 2 < nk) := by decide
        have hs : subT 2 2 = true := by decide
        clear h
        walk_at "ev"
        rw [cut_same rfl]
      | some g =>
        rw [h] at e
        dsimp only at e
        clear h
        walk_at "ev"
        rw [cut_same rfl]
        rfl
theorem nabs30 {n : Int} (h : big n = false) : n.natAbs < 2 ^ 30 := by
  have h := of_decide_eq_false h
  split at h <;> omega
def mulO (g : G5) (m : Int) : Option G5 := match g with
  | (n, a, oa, b, ob) => madeO (n * m) (a * m) oa (b * m) ob
theorem dmul_eq {S : List Ce} (hp : plain S = true) {n a oa b ob m : Int} (hn : big n = false) (ha : big a = false) (hb : big b = false) (hm : m.natAbs < 2 ^ 100) : f_Glue_DmulD [.dat (oG n a oa b ob), .dat (.int m)] S =
    match mulO (n, a, oa, b, ob) m with
    | some g => .ok (.dat (oO (some g))) S
    | none => .exc 2 none S := by
  have k1 := okMul_of (nabs30 hn) hm
  have k2 := okMul_of (nabs30 ha) hm
  have k3 := okMul_of (nabs30 hb) hm
  have s1 : ∀ n a oa b ob : Int, fldS [100] "_stretch" (.dat (oG n a oa b ob)) S = .ok (.dat (.int a)) S := fun _ _ _ _ _ => rfl
  have s2 : ∀ n a oa b ob : Int, fldS [100] "_stretch_order" (.dat (oG n a oa b ob)) S = .ok (.dat (.int oa)) S := fun _ _ _ _ _ => rfl
  have s3 : ∀ n a oa b ob : Int, fldS [100] "_shrink" (.dat (oG n a oa b ob)) S = .ok (.dat (.int b)) S := fun _ _ _ _ _ => rfl
  have s4 : ∀ n a oa b ob : Int, fldS [100] "_shrink_order" (.dat (oG n a oa b ob)) S = .ok (.dat (.int ob)) S := fun _ _ _ _ _ => rfl
  have s5 : ∀ n a oa b ob : Int, fldS [100] "_natural" (.dat (oG n a oa b ob)) S = .ok (.dat (.int n)) S := fun _ _ _ _ _ => rfl
  have e1 := isint_eq m S
  have hi : (if m < 0 then -m else m) < 1000000000000000000000000000000000000000000000000000000000000 := by
    have : (2 : Nat) ^ 100 = 1267650600228229401496703205376 := by decide
    rw [this] at hm
    split <;> omega
  rw [decide_eq_true hi] at e1
  clear hi hm hn ha hb
  simp only [mulO, madeO]
  have mm := mk5 (S := S) hp (ρ := [.dat (oG n a oa b ob), .dat (.int m)]) (fa := aCons (mOp mulF (mFld [100] "_natural" (mVar 0)) (mVar 1)) aNil) (fb := aCons (mOp mulF (mFld [100] "_stretch" (mVar 0)) (mVar 1)) (aCons (mFld [100] "_stretch_order" (mVar 0)) (aCons (mOp mulF (mFld [100] "_shrink" (mVar 0)) (mVar 1)) (aCons (mFld [100] "_shrink_order" (mVar 0)) aNil)))) (n := n * m) (a := a * m) (oa := oa) (b := b * m) (ob := ob) (by walk_at "ev") (by walk_at "ev")
  unfold f_Glue_DmulD mkF m_Glue_DmulD
  generalize mMake 100 g_Glue_DinitD_2_stretch_stretch_order_shrink_shrink_order f_Glue_DinitD (aCons (mOp mulF (mFld [100] "_natural" (mVar 0)) (mVar 1)) aNil) (aCons (mOp mulF (mFld [100] "_stretch" (mVar 0)) (mVar 1)) (aCons (mFld [100] "_stretch_order" (mVar 0)) (aCons (mOp mulF (mFld [100] "_shrink" (mVar 0)) (mVar 1)) (aCons (mFld [100] "_shrink_order" (mVar 0)) aNil)))) = X at *
  clear s1 s2 s3 s4 s5 k1 k2 k3
  by_cases h : okG (n * m) (a * m) oa (b * m) ob = true
  · rw [if_pos h] at mm ⊢
    clear h
    walk_at "ev"
    rw [cut_same rfl]
    rfl
  · rw [if_neg h] at mm ⊢
    clear h
    walk_at "ev"
    rw [cutX_take (okTake_app hp), List.take_left]
theorem times_eq {S : List Ce} (hp : plain S = true) {n a oa b ob m : Int} (hn : big n = false) (ha : big a = false) (hb : big b = false) (hm : m.natAbs < 2 ^ 100) : f__law_times [.dat (oG n a oa b ob), .dat (.int m)] S = .ok (.dat (oO (mulO (n, a, oa, b, ob) m))) S := by
  have e := dmul_eq hp (oa := oa) (ob := ob) hn ha hb hm
  have ho : opoS [(100, ([2, 107], f_Glue_DmulD))] mulF (.dat (oG n a oa b ob)) (.dat (.int m)) S = f_Glue_DmulD [.dat (oG n a oa b ob), .dat (.int m)] S := opoS_1 (t := 2) rfl rfl
  clear hn ha hb hm
  unfold f__law_times mkF m__law_times
  cases h : mulO (n, a, oa, b, ob) m with
  | none =>
    rw [h] at e
    dsimp only at e
    have hk : (2 < nk ∧ 2 < nk) := by decide
    have hs : subT 2 2 = true := by decide
    clear h
    walk_at "ev"
    rw [cut_same rfl]
    rfl
  | some g =>
    rw [h] at e
    dsimp only at e
    clear h
    walk_at "ev"
    rw [cut_same rfl]
/-- the law's product -/
def prodO (g : G5) (m : Int) : Option G5 := match g with
  | (n, a, oa, b, ob) => if a * m < 0 ∨ b * m < 0 then none else fairO (n * m, a * m, if m = 0 then 0 else oa, b * m, if m = 0 then 0 else ob)
theorem prod_eq {S : List Ce} (hp : plain S = true) {n a oa b ob m : Int} (hn : big n = false) (ha : big a = false) (hb : big b = false) (hm : m.natAbs < 2 ^ 100) : f__law_product [.dat (pG n a oa b ob), .dat (.int m)] S = .ok (.dat (pO (prodO (n, a, oa, b, ob) m))) S := by
  have k1 := okMul_of (nabs30 hn) hm
  have k2 := okMul_of (nabs30 ha) hm
  have k3 := okMul_of (nabs30 hb) hm
  have i3 : ∀ (x y z u : D) (r : List D), atI (x :: y :: z :: u :: r) 3 = some u := atI_3
  have i4 : ∀ (x y z u v : D) (r : List D), atI (x :: y :: z :: u :: v :: r) 4 = some v := atI_4
  have h2 : (0 + 1 + 1 + 1 + (0 + 1 + 1) ≤ 100000) := by decide
  have e0 := fair_eq hp (n * m) (a * m) (if m = 0 then 0 else oa) (b * m) (if m = 0 then 0 else ob)
  unfold pG at e0
  clear hn ha hb hm
  unfold f__law_product mkF m__law_product pG prodO
  have h1 : (0 + 1 ≤ 1) := by decide
  by_cases hz : m = 0
  · simp only [hz, if_true] at *
    by_cases l1 : a * 0 < 0
    · exact absurd l1 (by omega)
    · by_cases l2 : b * 0 < 0
      · exact absurd l2 (by omega)
      · have l3 : ¬ (a * 0 < 0 ∨ b * 0 < 0) := fun z => z.elim l1 l2
        rw [if_neg l3]
        clear l3
        generalize fairO (n * 0, a * 0, 0, b * 0, 0) = R at *
        have d0 : decide ((0 : Int) = 0) = true := rfl
        walk_at "ev"
        rw [cut_same rfl]
  · simp only [if_neg hz] at e0 ⊢
    by_cases l1 : a * m < 0
    · have l3 : (a * m < 0 ∨ b * m < 0) := .inl l1
      rw [if_pos l3]
      clear l3 e0
      walk_at "ev"
      rw [cut_same rfl]
      rfl
    · by_cases l2 : b * m < 0
      · have l3 : (a * m < 0 ∨ b * m < 0) := .inr l2
        rw [if_pos l3]
        clear l3 e0
        walk_at "ev"
        rw [cut_same rfl]
        rfl
      · have l3 : ¬ (a * m < 0 ∨ b * m < 0) := fun z => z.elim l1 l2
        rw [if_neg l3]
        clear l3
        generalize fairO (n * m, a * m, oa, b * m, ob) = R at *
        walk_at "ev"
        rw [cut_same rfl]
end Mir

set_option maxHeartbeats 4000000
namespace Mir
open PySem PySem.Spec L2
local macro_rules | `(tactic| walk_at "ev") => `(tactic| simp (disch := omega) only [*, mFld_eq, mProp_eq, mMeth_eq, mIsiO_eq, mEqO_eq, mOpO_eq, mMake_eq, madeS_n, mCallK, prpS_1, tTup_t, tLst_l, tAll_nil, tAll_cons, tN_d, mNo, gNo, eqoS_d, frzL_id, ↓chain_le, chainW_i, Int.natAbs_natCast, Int.toNat_natCast, reprV_i, reprV_s, reprV_n, reprV_b, and_self, and_true, true_and, gTry, hdl, gone, bareE, mErr, slE, List.map, if_pos, if_neg, gNil, gSeq, gIf, gRet, gRetN, gSet, gStoV, gSto, gAppV, gApp, gEx, gPar, gAug, gFor, gRaise, gRaise1, gAsg, mVar, mk_ok, mOp, mUn, mIf, mAnd, mOr, mNot, mTup, mLst, mLstO, mBlt, mCall, mMs, mSl, oNo, oSome, mFmt, mChain, mFs, fsL, aCons, aNil, tOf, tTru, tAnd, tOr, tNot, tYes', mIt, mRng1, mRng2, datas, truS_vw, truD, op1_vw, op2_vw, opN_vw, vws_nil, vws_cons,
  vw_dat, vw_own, ceD_lst, ceD_dct, asB_ok, ofO_some, ofO_none, dat'_some, dat'_none, RE.ok_bind, RE.exc_bind, RE.stuck_bind, RE.ok_toS, RE.exc_toS, RE.stuck_toS, RE.noX_ok, RS.nx_bind, RS.rt_bind, RS.bk_bind, RS.ct_bind, RS.exc_bind, RS.stuck_bind, Option.bind_some, Option.map_some, Option.bind_none, Option.map_none, cond_dec, cond_true, cond_false, List.getElem?_cons_zero, List.getElem?_cons_succ, List.set_cons_zero, List.set_cons_succ, List.replicate, List.cons_append, List.nil_append,
  atI_0, atI_1, atI_2, isNonD_non, isNonD_int, isNonD_bl, isNonD_str, isNonD_lst, isNonD_tup, isNonD_dct, isNonD_ins, if_true, if_false, ite_true, ite_false, outF_nx, outF_rt, outF_exc, ixN_0, ixN_1, ixN_2, List.length_cons, List.length_nil, List.length_set, addF_i, subF_i, addF_s, addF_l, addF_t, iaddF_i, iaddF_s, imulF_i, mulF_i, mulF_s, mulF_l, mulF_t, divF_i, modF_i, powF_i, negF_i, ltF_i, ltF_s, leF_i, leF_s, gtF_i, gtF_s, geF_i, geF_s, isF_n, isnF_n, isF_b, isnF_b, inF_s, ninF_s, ixF_l, ixF_t, ixF_q, ixF_s, lenF_s, lenF_lst, lenF_sq, lenF_tup, absF_i, max2F_i, min2F_i, intF_i, intF_b, strF_i, strF_s, reprF_d, listF_lst, tupF_lst, itD_lst, listF_sq, tupF_sq, itD_sq, listF_tup, tupF_tup, itD_tup, itD_s, divmodF_i, slF_s, slF_t, slF_l, fmtF_s, fmtF_i, startswithF_s, endswithF_s, findF_s, countF_s, stripF_s, lstripF_s, rstripF_s, rmprefixF_s, rmsuffixF_s, isalphaF_n, isdigitF_n, zfillF_i, splitF_s, strsOf_map, intsOf_map, blsOf_map, joinF_m, allF_m, anyF_m, dec_T, dec_F, cond_nd, Bool.not_true, Bool.not_false, eqF_i, eqF_s, neF_i, neF_s, rgs_0, rgs_1, rgs_2, forL_nil, forL_cons, forK_nx, forK_ct, forK_bk, forK_rt, forK_exc, isi_non_int, isi_non_bool, isi_non_str, isi_non_list, isi_non_tuple, isi_non_dict, isi_bl_int, isi_bl_bool, isi_bl_str, isi_bl_list, isi_bl_tuple, isi_bl_dict, isi_int_int, isi_int_bool, isi_int_str, isi_int_list, isi_int_tuple, isi_int_dict, isi_str_int, isi_str_bool, isi_str_str, isi_str_list, isi_str_tuple, isi_str_dict, isi_lst_int, isi_lst_bool, isi_lst_str, isi_lst_list, isi_lst_tuple, isi_lst_dict, isi_tup_int, isi_tup_bool, isi_tup_str, isi_tup_list, isi_tup_tuple, isi_tup_dict, isi_dct_int, isi_dct_bool, isi_dct_str, isi_dct_list, isi_dct_tuple, isi_dct_dict])

/-! ### the law's and the program's agree -/
def Wa (a o : Int) : Prop := 0 ≤ a ∧ a < 1073741824 ∧ 0 ≤ o ∧ o < 4 ∧ (a = 0 → o = 0)
def Wg : G5 → Prop
  | (n, a, oa, b, ob) => big n = false ∧ Wa a oa ∧ Wa b ob
theorem big_iff {i : Int} : big i = true ↔ i ≤ -1073741824 ∨ 1073741824 ≤ i := by
  unfold big
  rw [decide_eq_true_eq]
  split <;> omega
theorem big_f {i : Int} : big i = false ↔ -1073741824 < i ∧ i < 1073741824 := by
  unfold big
  rw [decide_eq_false_iff_not]
  split <;> omega
theorem len_big (i : Int) : lenI i = !big i := by
  cases h : big i with
  | true =>
    have := big_iff.mp h
    exact decide_eq_false (by omega)
  | false =>
    have := big_f.mp h
    exact decide_eq_true (by omega)
/-- amounts with their orders, however great -/
def Wo (a o : Int) : Prop := 0 ≤ a ∧ 0 ≤ o ∧ o < 4 ∧ (a = 0 → o = 0)
theorem amt_o {a o : Int} (h : Wo a o) : amtI a o = !big a ∧ ordFor a o = o := by
  obtain ⟨h1, h2, h3, h4⟩ := h
  constructor
  · unfold amtI
    rw [len_big, decide_eq_true h1, show ordI o = true from decide_eq_true ⟨h2, h3⟩]
    simp
  · unfold ordFor
    split
    · rename_i h; exact (h4 h).symm
    · rfl
theorem made_fair {n a oa b ob : Int} (ha : Wo a oa) (hb : Wo b ob) : madeO n a oa b ob = fairO (n, a, oa, b, ob) := by
  unfold madeO fairO okG
  rw [(amt_o ha).1, (amt_o ha).2, (amt_o hb).1, (amt_o hb).2, len_big]
  cases e1 : big n <;> cases e2 : big a <;> cases e3 : big b <;> simp [e1, e2, e3]
theorem jo_wo {a o a' o' : Int} (h : Wo a o) (h' : Wo a' o') : Wo (jo (a, o) (a', o')).1 (jo (a, o) (a', o')).2 := by
  obtain ⟨h1, h2, h3, h4⟩ := h
  obtain ⟨g1, g2, g3, g4⟩ := h'
  unfold jo
  dsimp only
  split
  · exact ⟨h1, h2, h3, h4⟩
  · split
    · exact ⟨g1, g2, g3, g4⟩
    · refine ⟨by show 0 ≤ a + a'; omega, h2, h3, fun z => ?_⟩
      have z : a + a' = 0 := z
      exact h4 (by omega)
theorem wo_of {a o : Int} (h : Wa a o) : Wo a o := ⟨h.1, h.2.2.1, h.2.2.2.1, h.2.2.2.2⟩
def WOp : Option G5 → Prop
  | some g => Wg g
  | none => True
theorem fair_w {n a oa b ob : Int} (ha : Wo a oa) (hb : Wo b ob) : WOp (fairO (n, a, oa, b, ob)) := by
  unfold fairO
  dsimp only
  split
  · trivial
  · rename_i h
    have h1 : big n = false := by cases e : big n with | true => exact absurd (.inl e) h | false => rfl
    have h2 : big a = false := by cases e : big a with | true => exact absurd (.inr (.inl e)) h | false => rfl
    have h3 : big b = false := by cases e : big b with | true => exact absurd (.inr (.inr e)) h | false => rfl
    exact ⟨h1, ⟨ha.1, (big_f.mp h2).2, ha.2⟩, ⟨hb.1, (big_f.mp h3).2, hb.2⟩⟩
theorem sum_w {x y : Option G5} (hx : WOp x) (hy : WOp y) : WOp (sumO x y) := by
  cases x with
  | none => trivial
  | some x =>
    cases y with
    | none => trivial
    | some y => exact fair_w (jo_wo (wo_of hx.2.1) (wo_of hy.2.1)) (jo_wo (wo_of hx.2.2) (wo_of hy.2.2))
theorem add_sum {x y : Option G5} (hx : WOp x) (hy : WOp y) : addO x y = sumO x y := by
  cases x with
  | none => rfl
  | some x =>
    cases y with
    | none => rfl
    | some y => exact made_fair (jo_wo (wo_of hx.2.1) (wo_of hy.2.1)) (jo_wo (wo_of hx.2.2) (wo_of hy.2.2))
theorem jo_comm (x y : Int × Int) : jo x y = jo y x := by
  obtain ⟨a, o⟩ := x
  obtain ⟨b, p⟩ := y
  unfold jo
  dsimp only
  by_cases h1 : o > p
  · rw [if_pos h1, if_neg (by omega), if_pos (by omega)]
  · by_cases h2 : o < p
    · rw [if_neg h1, if_pos h2, if_pos (by omega)]
    · rw [if_neg h1, if_neg h2, if_neg (by omega), if_neg (by omega), Int.add_comm, show o = p by omega]
theorem jo_assoc (x y z : Int × Int) : jo (jo x y) z = jo x (jo y z) := by
  obtain ⟨a, o⟩ := x
  obtain ⟨b, p⟩ := y
  obtain ⟨c, q⟩ := z
  unfold jo
  dsimp only
  by_cases h1 : o > p <;> by_cases h2 : o < p <;> by_cases h3 : p > q <;> by_cases h4 : p < q <;> by_cases h5 : o > q <;> by_cases h6 : o < q <;> simp only [h1, h2, h3, h4, h5, h6, if_true, if_false] <;> first | omega | rfl | (rw [Int.add_assoc]) | skip
theorem sum_comm (x y : Option G5) : sumO x y = sumO y x := by
  cases x with
  | none => cases y <;> rfl
  | some x =>
    cases y with
    | none => rfl
    | some y =>
      obtain ⟨n, a, oa, b, ob⟩ := x
      obtain ⟨n', a', oa', b', ob'⟩ := y
      unfold sumO
      dsimp only
      rw [jo_comm (a, oa), jo_comm (b, ob), Int.add_comm n]
theorem fair_some {g r : G5} (h : fairO g = some r) : r = g := by
  obtain ⟨n, a, oa, b, ob⟩ := g
  unfold fairO at h
  dsimp only at h
  split at h
  · cases h
  · cases h; rfl
theorem sum_assoc {x y z : Option G5} {r r' : G5} (h : sumO (sumO x y) z = some r) (h' : sumO x (sumO y z) = some r') : r = r' := by
  cases x with
  | none => cases h
  | some x =>
    cases y with
    | none => cases h
    | some y =>
      cases z with
      | none => cases hs : sumO (some x) (some y) <;> (rw [hs] at h; cases h)
      | some z =>
        obtain ⟨n, a, oa, b, ob⟩ := x
        obtain ⟨n', a', oa', b', ob'⟩ := y
        obtain ⟨n2, a2, oa2, b2, ob2⟩ := z
        cases hs : sumO (some (n, a, oa, b, ob)) (some (n', a', oa', b', ob')) with
        | none => rw [hs] at h; cases h
        | some s =>
          cases ht : sumO (some (n', a', oa', b', ob')) (some (n2, a2, oa2, b2, ob2)) with
          | none => rw [ht] at h'; cases h'
          | some t =>
            have es := fair_some (g := (n + n', (jo (a, oa) (a', oa')).1, (jo (a, oa) (a', oa')).2, (jo (b, ob) (b', ob')).1, (jo (b, ob) (b', ob')).2)) hs
            have et := fair_some (g := (n' + n2, (jo (a', oa') (a2, oa2)).1, (jo (a', oa') (a2, oa2)).2, (jo (b', ob') (b2, ob2)).1, (jo (b', ob') (b2, ob2)).2)) ht
            subst es; subst et
            rw [hs] at h
            rw [ht] at h'
            have e1 := fair_some (g := (_, _, _, _, _)) h
            have e2 := fair_some (g := (_, _, _, _, _)) h'
            subst e1; subst e2
            have j1 := jo_assoc (a, oa) (a', oa') (a2, oa2)
            have j2 := jo_assoc (b, ob) (b', ob') (b2, ob2)
            simp only [Prod.mk.injEq]
            refine ⟨by omega, ?_, ?_, ?_, ?_⟩
            · exact congrArg Prod.fst j1
            · exact congrArg Prod.snd j1
            · exact congrArg Prod.fst j2
            · exact congrArg Prod.snd j2
theorem mul_prod {g : G5} {m : Int} (h : Wg g) : mulO g m = prodO g m := by
  obtain ⟨n, a, oa, b, ob⟩ := g
  obtain ⟨hn, ha, hb⟩ := h
  unfold mulO prodO
  dsimp only
  by_cases hz : m = 0
  · subst hz
    have e1 : ¬ (a * 0 < 0 ∨ b * 0 < 0) := by omega
    rw [if_neg e1, if_pos rfl, if_pos rfl, Int.mul_zero, Int.mul_zero, Int.mul_zero]
    have : ∀ o, 0 ≤ o → o < 4 → amtI 0 o = true ∧ ordFor 0 o = 0 := fun o h1 h2 => by
      refine ⟨?_, rfl⟩
      unfold amtI
      rw [show ordI o = true from decide_eq_true ⟨h1, h2⟩]
      decide
    unfold madeO okG
    rw [(this oa ha.2.2.1 ha.2.2.2.1).1, (this ob hb.2.2.1 hb.2.2.2.1).1, (this oa ha.2.2.1 ha.2.2.2.1).2, (this ob hb.2.2.1 hb.2.2.2.1).2]
    rfl
  · rw [if_neg hz, if_neg hz]
    by_cases h1 : a * m < 0 ∨ b * m < 0
    · rw [if_pos h1]
      unfold madeO
      rw [if_neg]
      unfold okG amtI
      intro hk
      rw [Bool.and_eq_true, Bool.and_eq_true, Bool.and_eq_true, Bool.and_eq_true, Bool.and_eq_true, Bool.and_eq_true] at hk
      have k1 := of_decide_eq_true hk.2.1.2.1
      have k2 := of_decide_eq_true hk.2.2.2.1
      omega
    · rw [if_neg h1]
      have p : ∀ {a o : Int}, Wa a o → ¬ a * m < 0 → Wo (a * m) o := fun {a o} h hn => by
        refine ⟨by omega, h.2.2.1, h.2.2.2.1, fun z => ?_⟩
        rcases Int.mul_eq_zero.mp z with z | z
        · exact h.2.2.2.2 z
        · exact absurd z hz
      exact made_fair (p ha fun z => h1 (.inl z)) (p hb fun z => h1 (.inr z))
theorem prod_w {g : G5} {m : Int} (h : Wg g) : True := trivial
end Mir

set_option maxHeartbeats 4000000
namespace Mir
open PySem PySem.Spec L2
local macro_rules | `(tactic| walk_at "ev") => `(tactic| simp (disch := omega) only [*, mFld_eq, mProp_eq, mMeth_eq, mIsiO_eq, mEqO_eq, mOpO_eq, mMake_eq, madeS_n, mCallK, prpS_1, tTup_t, tLst_l, tAll_nil, tAll_cons, tN_d, mNo, gNo, eqoS_d, frzL_id, ↓chain_le, chainW_i, Int.natAbs_natCast, Int.toNat_natCast, reprV_i, reprV_s, reprV_n, reprV_b, and_self, and_true, true_and, gTry, hdl, gone, bareE, mErr, slE, List.map, if_pos, if_neg, gNil, gSeq, gIf, gRet, gRetN, gSet, gStoV, gSto, gAppV, gApp, gEx, gPar, gAug, gFor, gRaise, gRaise1, gAsg, mVar, mk_ok, mOp, mUn, mIf, mAnd, mOr, mNot, mTup, mLst, mLstO, mBlt, mCall, mMs, mSl, oNo, oSome, mFmt, mChain, mFs, fsL, aCons, aNil, tOf, tTru, tAnd, tOr, tNot, tYes', mIt, mRng1, mRng2, datas, truS_vw, truD, op1_vw, op2_vw, opN_vw, vws_nil, vws_cons,
  vw_dat, vw_own, ceD_lst, ceD_dct, asB_ok, ofO_some, ofO_none, dat'_some, dat'_none, RE.ok_bind, RE.exc_bind, RE.stuck_bind, RE.ok_toS, RE.exc_toS, RE.stuck_toS, RE.noX_ok, RS.nx_bind, RS.rt_bind, RS.bk_bind, RS.ct_bind, RS.exc_bind, RS.stuck_bind, Option.bind_some, Option.map_some, Option.bind_none, Option.map_none, cond_dec, cond_true, cond_false, List.getElem?_cons_zero, List.getElem?_cons_succ, List.set_cons_zero, List.set_cons_succ, List.replicate, List.cons_append, List.nil_append,
  atI_0, atI_1, atI_2, isNonD_non, isNonD_int, isNonD_bl, isNonD_str, isNonD_lst, isNonD_tup, isNonD_dct, isNonD_ins, if_true, if_false, ite_true, ite_false, outF_nx, outF_rt, outF_exc, ixN_0, ixN_1, ixN_2, List.length_cons, List.length_nil, List.length_set, addF_i, subF_i, addF_s, addF_l, addF_t, iaddF_i, iaddF_s, imulF_i, mulF_i, mulF_s, mulF_l, mulF_t, divF_i, modF_i, powF_i, negF_i, ltF_i, ltF_s, leF_i, leF_s, gtF_i, gtF_s, geF_i, geF_s, isF_n, isnF_n, isF_b, isnF_b, inF_s, ninF_s, ixF_l, ixF_t, ixF_q, ixF_s, lenF_s, lenF_lst, lenF_sq, lenF_tup, absF_i, max2F_i, min2F_i, intF_i, intF_b, strF_i, strF_s, reprF_d, listF_lst, tupF_lst, itD_lst, listF_sq, tupF_sq, itD_sq, listF_tup, tupF_tup, itD_tup, itD_s, divmodF_i, slF_s, slF_t, slF_l, fmtF_s, fmtF_i, startswithF_s, endswithF_s, findF_s, countF_s, stripF_s, lstripF_s, rstripF_s, rmprefixF_s, rmsuffixF_s, isalphaF_n, isdigitF_n, zfillF_i, splitF_s, strsOf_map, intsOf_map, blsOf_map, joinF_m, allF_m, anyF_m, dec_T, dec_F, cond_nd, Bool.not_true, Bool.not_false, eqF_i, eqF_s, neF_i, neF_s, rgs_0, rgs_1, rgs_2, forL_nil, forL_cons, forK_nx, forK_ct, forK_bk, forK_rt, forK_exc, isi_non_int, isi_non_bool, isi_non_str, isi_non_list, isi_non_tuple, isi_non_dict, isi_bl_int, isi_bl_bool, isi_bl_str, isi_bl_list, isi_bl_tuple, isi_bl_dict, isi_int_int, isi_int_bool, isi_int_str, isi_int_list, isi_int_tuple, isi_int_dict, isi_str_int, isi_str_bool, isi_str_str, isi_str_list, isi_str_tuple, isi_str_dict, isi_lst_int, isi_lst_bool, isi_lst_str, isi_lst_list, isi_lst_tuple, isi_lst_dict, isi_tup_int, isi_tup_bool, isi_tup_str, isi_tup_list, isi_tup_tuple, isi_tup_dict, isi_dct_int, isi_dct_bool, isi_dct_str, isi_dct_list, isi_dct_tuple, isi_dct_dict])


/-! ### equality -/
theorem parts_t {S : List Ce} (n a oa b ob : Int) : f_Glue__parts [.dat (oG n a oa b ob)] S = .ok (.dat (.tup [.int n, .int a, .int oa, .int b, .int ob])) S := by
  have s1 : fldS [100] "_stretch" (.dat (oG n a oa b ob)) S = .ok (.dat (.int a)) S := rfl
  have s2 : fldS [100] "_stretch_order" (.dat (oG n a oa b ob)) S = .ok (.dat (.int oa)) S := rfl
  have s3 : fldS [100] "_shrink" (.dat (oG n a oa b ob)) S = .ok (.dat (.int b)) S := rfl
  have s4 : fldS [100] "_shrink_order" (.dat (oG n a oa b ob)) S = .ok (.dat (.int ob)) S := rfl
  have s5 : fldS [100] "_natural" (.dat (oG n a oa b ob)) S = .ok (.dat (.int n)) S := rfl
  have l5 : (0 + 1 + 1 + 1 + 1 + 1 ≤ 1000) := by decide
  unfold f_Glue__parts mkF m_Glue__parts
  walk_at "ev"
  rw [cut_same rfl]
def g5T (g : G5) : D := .tup [.int g.1, .int g.2.1, .int g.2.2.1, .int g.2.2.2.1, .int g.2.2.2.2]
theorem g5_eq (x y : G5) : eqB (g5T x) (g5T y) = decide (x = y) := by
  obtain ⟨n, a, oa, b, ob⟩ := x
  obtain ⟨n', a', oa', b', ob'⟩ := y
  simp only [g5T, eqB, eqBs, Bool.and_true]
  rw [Bool.eq_iff_iff]
  simp only [Bool.and_eq_true, beq_iff_eq, decide_eq_true_eq, Prod.mk.injEq]
theorem pG_eq (x y : G5) : eqB (pO (some x)) (pO (some y)) = decide (x = y) := by
  obtain ⟨n, a, oa, b, ob⟩ := x
  obtain ⟨n', a', oa', b', ob'⟩ := y
  simp only [pO, pG, eqB, eqBs, Bool.and_true]
  rw [Bool.eq_iff_iff]
  simp only [Bool.and_eq_true, beq_iff_eq, decide_eq_true_eq, Prod.mk.injEq]
theorem deq_eq {S : List Ce} (x y : G5) : f_Glue_DeqD [.dat (oO (some x)), .dat (oO (some y))] S = .ok (.dat (.bl (decide (x = y)))) S := by
  have e := g5_eq x y
  obtain ⟨n, a, oa, b, ob⟩ := x
  obtain ⟨n', a', oa', b', ob'⟩ := y
  simp only [oO]
  have e0 := isi_G (n := n') (a := a') (oa := oa') (b := b') (ob := ob') (S := S)
  have p1 := parts_t (S := S) n a oa b ob
  have p2 := parts_t (S := S) n' a' oa' b' ob'
  have m : ∀ n a oa b ob : Int, ∀ k, metS "_parts" [(100, (g_Glue__parts_1, f_Glue__parts))] (.dat (oG n a oa b ob)) S k = k (g_Glue__parts_1, f_Glue__parts) := fun _ _ _ _ _ _ => metS_1 rfl
  have g : ∀ as bs : List Sl, g_Glue__parts_1 as bs = as := fun _ _ => rfl
  have q : eqF (.tup [.int n, .int a, .int oa, .int b, .int ob]) (.tup [.int n', .int a', .int oa', .int b', .int ob']) = some (.bl (decide ((n, a, oa, b, ob) = (n', a', oa', b', ob')))) := by
    rw [eqF_T rfl rfl]
    exact congrArg (fun t => some (D.bl t)) e
  unfold f_Glue_DeqD mkF m_Glue_DeqD
  walk_at "ev"
  rw [cut_same rfl]
theorem deq_no {S : List Ce} (x : G5) (n a oa b ob : Int) : f_Glue_DeqD [.dat (oO (some x)), .dat (pG n a oa b ob)] S = .ok (.dat (.bl false)) S := by
  obtain ⟨n', a', oa', b', ob'⟩ := x
  have e0 : isiS it_Glue (.dat (pG n a oa b ob)) S = .ok (.dat (.bl false)) S := isiS_d (t := 4) rfl rfl
  unfold f_Glue_DeqD mkF m_Glue_DeqD
  walk_at "ev"
  rw [cut_same rfl]
/-! ### draws -/
theorem dlen_eq {S : List Ce} {j N : Nat} {cs : List D} (hS : S[j]? = some (.lst cs)) (hd : Dice cs N) (hN : N < 10 ^ 8) :
    ∃ v cs', f__law_drawn_length [.own j] S = .ok (.dat (.int v)) (S.set j (.lst cs')) ∧ big v = false ∧ Dice cs' (N + 3) := by
  have hj := (List.getElem?_eq_some_iff.mp hS).1
  have g1 : ∀ c : Ce, (S.set j c)[j]? = some c := fun c => List.getElem?_set_self hj
  obtain ⟨r, cs1, e1, r0, r1, hd1⟩ := roll_eq (t := 6) hS hd (by omega) (by omega) (by omega)
  have p30 : (2 : Int) ^ Int.toNat 30 = 1073741824 := by decide
  have km : okMul 65536 40 = true := by decide +kernel
  -- the amount
  have amount : ∃ v cs2, (gIf (tOf (mOp eqF (mVar 1) (mK (.int 0)))) (gSet 2 (mCall f__law_roll (aCons (mVar 0) (aCons (mK (.int 20)) aNil)))) (gIf (tOf (mOp eqF (mVar 1) (mK (.int 1)))) (gSet 2 (mOp mulF (mCall f__law_roll (aCons (mVar 0) (aCons (mK (.int 400)) aNil))) (mK (.int 3277)))) (gIf (tOf (mOp eqF (mVar 1) (mK (.int 2)))) (gSet 2 (mOp subF (mOp subF (mOp powF (mK (.int 2)) (mK (.int 30))) (mK (.int 1))) (mCall f__law_roll (aCons (mVar 0) (aCons (mK (.int 3)) aNil))))) (gSet 2 (mCall f__law_roll (aCons (mVar 0) (aCons (mOp mulF (mK (.int 65536)) (mK (.int 40))) aNil))))))) [.own j, .dat (.int r), .no] (S.set j (.lst cs1)) = .nx [.own j, .dat (.int r), .dat (.int v)] (S.set j (.lst cs2)) ∧ 0 ≤ v ∧ v < 1073741824 ∧ Dice cs2 (N + 2) := by
    by_cases h0 : r = 0
    · obtain ⟨v, cs2, e2, v0, v1, hd2⟩ := roll_eq (t := 20) (g1 (.lst cs1)) hd1 (by omega) (by omega) (by omega)
      rw [List.set_set] at e2
      refine ⟨v, cs2, ?_, v0, by omega, hd2⟩
      clear e1 r0 r1
      walk_at "ev"
    · by_cases h1 : r = 1
      · obtain ⟨v, cs2, e2, v0, v1, hd2⟩ := roll_eq (t := 400) (g1 (.lst cs1)) hd1 (by omega) (by omega) (by omega)
        rw [List.set_set] at e2
        have k : okMul v 3277 = true := okMul_of (a := 64) (b := 64) (by omega) (by omega)
        refine ⟨v * 3277, cs2, ?_, by omega, by omega, hd2⟩
        clear e1 r0 r1
        walk_at "ev"
      · by_cases h2 : r = 2
        · obtain ⟨v, cs2, e2, v0, v1, hd2⟩ := roll_eq (t := 3) (g1 (.lst cs1)) hd1 (by omega) (by omega) (by omega)
          rw [List.set_set] at e2
          refine ⟨1073741824 - 1 - v, cs2, ?_, by omega, by omega, hd2⟩
          clear e1 r0 r1
          walk_at "ev"
        · obtain ⟨v, cs2, e2, v0, v1, hd2⟩ := roll_eq (t := 2621440) (g1 (.lst cs1)) hd1 (by omega) (by omega) (by omega)
          rw [List.set_set] at e2
          have m40 : (65536 : Int) * 40 = 2621440 := rfl
          refine ⟨v, cs2, ?_, v0, by omega, hd2⟩
          clear e1 r0 r1
          walk_at "ev"
  obtain ⟨v, cs2, e2, v0, v1, hd2⟩ := amount
  obtain ⟨t, cs3, e3, t0, t1, hd3⟩ := roll_eq (t := 3) (g1 (.lst cs2)) hd2 (by omega) (by omega) (by omega)
  rw [List.set_set] at e3
  refine ⟨if 0 < t then v else 0 - v, cs3, ?_, big_f.mpr (by split <;> omega), hd3⟩
  unfold f__law_drawn_length mkF m__law_drawn_length
  generalize (gIf (tOf (mOp eqF (mVar 1) (mK (.int 0)))) (gSet 2 (mCall f__law_roll (aCons (mVar 0) (aCons (mK (.int 20)) aNil)))) (gIf (tOf (mOp eqF (mVar 1) (mK (.int 1)))) (gSet 2 (mOp mulF (mCall f__law_roll (aCons (mVar 0) (aCons (mK (.int 400)) aNil))) (mK (.int 3277)))) (gIf (tOf (mOp eqF (mVar 1) (mK (.int 2)))) (gSet 2 (mOp subF (mOp subF (mOp powF (mK (.int 2)) (mK (.int 30))) (mK (.int 1))) (mCall f__law_roll (aCons (mVar 0) (aCons (mK (.int 3)) aNil))))) (gSet 2 (mCall f__law_roll (aCons (mVar 0) (aCons (mOp mulF (mK (.int 65536)) (mK (.int 40))) aNil))))))) = X at e2 ⊢
  by_cases ht : 0 < t
  · rw [if_pos ht]
    clear r0 r1 v0 v1 t0 t1
    walk_at "ev"
    rw [cut_same (by simp)]
  · rw [if_neg ht]
    clear r0 r1 v0 v1 t0 t1
    walk_at "ev"
    rw [cut_same (by simp)]
end Mir

set_option maxHeartbeats 4000000
namespace Mir
open PySem PySem.Spec L2
local macro_rules | `(tactic| walk_at "ev") => `(tactic| simp (disch := omega) only [*, mFld_eq, mProp_eq, mMeth_eq, mIsiO_eq, mEqO_eq, mOpO_eq, mMake_eq, madeS_n, mCallK, prpS_1, tTup_t, tLst_l, tAll_nil, tAll_cons, tN_d, mNo, gNo, eqoS_d, frzL_id, ↓chain_le, chainW_i, Int.natAbs_natCast, Int.toNat_natCast, reprV_i, reprV_s, reprV_n, reprV_b, and_self, and_true, true_and, gTry, hdl, gone, bareE, mErr, slE, List.map, if_pos, if_neg, gNil, gSeq, gIf, gRet, gRetN, gSet, gStoV, gSto, gAppV, gApp, gEx, gPar, gAug, gFor, gRaise, gRaise1, gAsg, mVar, mk_ok, mOp, mUn, mIf, mAnd, mOr, mNot, mTup, mLst, mLstO, mBlt, mCall, mMs, mSl, oNo, oSome, mFmt, mChain, mFs, fsL, aCons, aNil, tOf, tTru, tAnd, tOr, tNot, tYes', mIt, mRng1, mRng2, datas, truS_vw, truD, op1_vw, op2_vw, opN_vw, vws_nil, vws_cons,
  vw_dat, vw_own, ceD_lst, ceD_dct, asB_ok, ofO_some, ofO_none, dat'_some, dat'_none, RE.ok_bind, RE.exc_bind, RE.stuck_bind, RE.ok_toS, RE.exc_toS, RE.stuck_toS, RE.noX_ok, RS.nx_bind, RS.rt_bind, RS.bk_bind, RS.ct_bind, RS.exc_bind, RS.stuck_bind, Option.bind_some, Option.map_some, Option.bind_none, Option.map_none, cond_dec, cond_true, cond_false, List.getElem?_cons_zero, List.getElem?_cons_succ, List.set_cons_zero, List.set_cons_succ, List.replicate, List.cons_append, List.nil_append,
  atI_0, atI_1, atI_2, isNonD_non, isNonD_int, isNonD_bl, isNonD_str, isNonD_lst, isNonD_tup, isNonD_dct, isNonD_ins, if_true, if_false, ite_true, ite_false, outF_nx, outF_rt, outF_exc, ixN_0, ixN_1, ixN_2, List.length_cons, List.length_nil, List.length_set, addF_i, subF_i, addF_s, addF_l, addF_t, iaddF_i, iaddF_s, imulF_i, mulF_i, mulF_s, mulF_l, mulF_t, divF_i, modF_i, powF_i, negF_i, ltF_i, ltF_s, leF_i, leF_s, gtF_i, gtF_s, geF_i, geF_s, isF_n, isnF_n, isF_b, isnF_b, inF_s, ninF_s, ixF_l, ixF_t, ixF_q, ixF_s, lenF_s, lenF_lst, lenF_sq, lenF_tup, absF_i, max2F_i, min2F_i, intF_i, intF_b, strF_i, strF_s, reprF_d, listF_lst, tupF_lst, itD_lst, listF_sq, tupF_sq, itD_sq, listF_tup, tupF_tup, itD_tup, itD_s, divmodF_i, slF_s, slF_t, slF_l, fmtF_s, fmtF_i, startswithF_s, endswithF_s, findF_s, countF_s, stripF_s, lstripF_s, rstripF_s, rmprefixF_s, rmsuffixF_s, isalphaF_n, isdigitF_n, zfillF_i, splitF_s, strsOf_map, intsOf_map, blsOf_map, joinF_m, allF_m, anyF_m, dec_T, dec_F, cond_nd, Bool.not_true, Bool.not_false, eqF_i, eqF_s, neF_i, neF_s, rgs_0, rgs_1, rgs_2, forL_nil, forL_cons, forK_nx, forK_ct, forK_bk, forK_rt, forK_exc, isi_non_int, isi_non_bool, isi_non_str, isi_non_list, isi_non_tuple, isi_non_dict, isi_bl_int, isi_bl_bool, isi_bl_str, isi_bl_list, isi_bl_tuple, isi_bl_dict, isi_int_int, isi_int_bool, isi_int_str, isi_int_list, isi_int_tuple, isi_int_dict, isi_str_int, isi_str_bool, isi_str_str, isi_str_list, isi_str_tuple, isi_str_dict, isi_lst_int, isi_lst_bool, isi_lst_str, isi_lst_list, isi_lst_tuple, isi_lst_dict, isi_tup_int, isi_tup_bool, isi_tup_str, isi_tup_list, isi_tup_tuple, isi_tup_dict, isi_dct_int, isi_dct_bool, isi_dct_str, isi_dct_list, isi_dct_tuple, isi_dct_dict])



theorem app_get {S : List Ce} {j : Nat} {c d : Ce} (h : S[j]? = some c) : (S ++ [d])[j]? = some c := by
  rw [List.getElem?_append_left (List.getElem?_eq_some_iff.mp h).1]; exact h
theorem app_set {S : List Ce} {j : Nat} {c d : Ce} (h : j < S.length) : (S ++ [d]).set j c = S.set j c ++ [d] := List.set_append_left _ _ h
def bTurn : MS := gSeq (gSet 3 (mIf (tOf (mOp gtF (mCall f__law_roll (aCons (mVar 0) (aCons (mK (.int 3)) aNil))) (mK (.int 0)))) (mBlt absF (aCons (mCall f__law_drawn_length (aCons (mVar 0) aNil)) aNil)) (mK (.int 0))))
    (gExt 1 (mLst (aCons (mVar 3) (aCons (mIf (tOf (mOp gtF (mVar 3) (mK (.int 0)))) (mCall f__law_roll (aCons (mVar 0) (aCons (mK (.int 4)) aNil))) (mK (.int 0))) aNil))))
theorem turn_eq {S : List Ce} {j N : Nat} {cs xs : List D} {v2 v3 : Sl} (hS : S[j]? = some (.lst cs)) (hd : Dice cs N) (hN : N < 10 ^ 8 - 10) (hx : xs.length ≤ 100) :
    ∃ a o cs', bTurn [.own j, .own S.length, v2, v3] (S ++ [.lst xs]) = .nx [.own j, .own S.length, v2, .dat (.int a)] (S.set j (.lst cs') ++ [.lst (xs ++ [.int a, .int o])]) ∧ Wa a o ∧ Dice cs' (N + 5) := by
  have hj := (List.getElem?_eq_some_iff.mp hS).1
  have g1 : ∀ c : Ce, (S.set j c)[j]? = some c := fun c => List.getElem?_set_self hj
  have l0 : ∀ c : Ce, (S.set j c).length = S.length := fun c => List.length_set
  have gL : ∀ (c : Ce) (ys : List D), (S.set j c ++ [Ce.lst ys])[S.length]? = some (Ce.lst ys) := fun c ys => by
    rw [List.getElem?_append_right (by rw [l0]; exact Nat.le_refl _), l0, Nat.sub_self]; rfl
  have sL : ∀ (c : Ce) (ys zs : List D), (S.set j c ++ [Ce.lst ys]).set S.length (Ce.lst zs) = S.set j c ++ [Ce.lst zs] := fun c ys zs => by
    rw [List.set_append_right _ _ (by rw [l0]; exact Nat.le_refl _), l0, Nat.sub_self]; rfl
  have gL0 : (S ++ [Ce.lst xs])[S.length]? = some (Ce.lst xs) := by
    rw [List.getElem?_append_right (Nat.le_refl _), Nat.sub_self]; rfl
  obtain ⟨r, cs1, e1, r0, r1, hd1⟩ := roll_eq (t := 3) (app_get (d := .lst xs) hS) hd (by omega) (by omega) (by omega)
  rw [app_set hj] at e1
  -- the amount
  have amount : ∃ a cs2, (mIf (tOf (mOp gtF (mCall f__law_roll (aCons (mVar 0) (aCons (mK (.int 3)) aNil))) (mK (.int 0)))) (mBlt absF (aCons (mCall f__law_drawn_length (aCons (mVar 0) aNil)) aNil)) (mK (.int 0))) [.own j, .own S.length, v2, v3] (S ++ [.lst xs]) = .ok (.dat (.int a)) (S.set j (.lst cs2) ++ [.lst xs]) ∧ 0 ≤ a ∧ a < 1073741824 ∧ Dice cs2 (N + 4) := by
    by_cases h : 0 < r
    · obtain ⟨v, cs2, e2, vb, hd2⟩ := dlen_eq (app_get (d := .lst xs) (g1 (.lst cs1))) hd1 (by omega)
      rw [app_set (by rw [l0]; exact hj), List.set_set] at e2
      have vb := big_f.mp vb
      refine ⟨if v < 0 then -v else v, cs2, ?_, by split <;> omega, by split <;> omega, hd2⟩
      clear r0 r1 vb
      walk_at "ev"
    · refine ⟨0, cs1, ?_, by omega, by omega, hd1.mono (by omega)⟩
      clear r0 r1
      walk_at "ev"
  obtain ⟨a, cs2, e2, a0, a1, hd2⟩ := amount
  unfold bTurn
  generalize (mIf (tOf (mOp gtF (mCall f__law_roll (aCons (mVar 0) (aCons (mK (.int 3)) aNil))) (mK (.int 0)))) (mBlt absF (aCons (mCall f__law_drawn_length (aCons (mVar 0) aNil)) aNil)) (mK (.int 0))) = X at e2 ⊢
  clear e1
  have hl : xs.length + (0 + 1 + 1) < 100000 := by omega
  have h1 : (0 + 1 + 1 ≤ 1000) := by decide
  by_cases h : 0 < a
  · obtain ⟨o, cs3, e3, o0, o1, hd3⟩ := roll_eq (t := 4) (app_get (d := .lst xs) (g1 (.lst cs2))) hd2 (by omega) (by omega) (by omega)
    rw [app_set (by rw [l0]; exact hj), List.set_set] at e3
    refine ⟨a, o, cs3, ?_, ⟨by omega, a1, o0, o1, fun z => by omega⟩, hd3⟩
    clear r0 r1 a0 a1 o0 o1
    unfold gExt
    walk_at "ev"
  · refine ⟨a, 0, cs2, ?_, ⟨a0, a1, by omega, by omega, fun _ => rfl⟩, hd2.mono (by omega)⟩
    clear r0 r1 a0 a1
    unfold gExt
    walk_at "ev"
theorem dglue_eq {S : List Ce} {j N : Nat} {cs : List D} (hp : plain S = true) (hS : S[j]? = some (.lst cs)) (hd : Dice cs N) (hN : N < 10 ^ 8 - 100) :
    ∃ g cs', frzL S.length (f__law_drawn_glue [.own j] S) = .ok (.dat (pO (some g))) (S.set j (.lst cs')) ∧ Wg g ∧ Dice cs' (N + 20) := by
  have hj := (List.getElem?_eq_some_iff.mp hS).1
  have g1 : ∀ c : Ce, (S.set j c)[j]? = some c := fun c => List.getElem?_set_self hj
  have l0 : ∀ c : Ce, (S.set j c).length = S.length := fun c => List.length_set
  obtain ⟨n, cs1, e1, nb, hd1⟩ := dlen_eq hS hd (by omega)
  obtain ⟨a, oa, cs2, e2, wa, hd2⟩ := turn_eq (xs := [.int n]) (v2 := .dat (.int 0)) (v3 := .no) (g1 (.lst cs1)) hd1 (by omega) (by simp)
  rw [List.set_set, l0] at e2
  obtain ⟨b, ob, cs3, e3, wb, hd3⟩ := turn_eq (xs := [.int n] ++ [.int a, .int oa]) (v2 := .dat (.int 1)) (v3 := .dat (.int a)) (g1 (.lst cs2)) hd2 (by omega) (by simp)
  rw [List.set_set, l0] at e3
  refine ⟨(n, a, oa, b, ob), cs3, ?_, ⟨nb, wa, wb⟩, hd3.mono (by omega)⟩
  have hb : m__law_drawn_glue S.length = gSeq (gSet 1 (mLstO (aCons (mCall f__law_drawn_length (aCons (mVar 0) aNil)) aNil))) (gSeq (gFor 2 (mRng1 (mK (.int 2))) bTurn) (gRet (mVar 1))) := rfl
  have hf : f__law_drawn_glue [.own j] S = .ok (.own S.length) (S.set j (.lst cs3) ++ [.lst ([.int n] ++ [.int a, .int oa] ++ [.int b, .int ob])]) := by
    have cc : cut S.length (.own S.length) (S.set j (.lst cs3) ++ [.lst ([.int n] ++ [.int a, .int oa] ++ [.int b, .int ob])]) = .ok (.own S.length) (S.set j (.lst cs3) ++ [.lst ([.int n] ++ [.int a, .int oa] ++ [.int b, .int ob])]) := by
      have z := cut_own (S := S.set j (.lst cs3)) (cl := .lst ([.int n] ++ [.int a, .int oa] ++ [.int b, .int ob])) (plain_set hp) rfl
      rwa [l0] at z
    have h1 : (0 + 1 ≤ 1000) := by decide
    have r2 : (Int.toNat 2) = 2 := rfl
    have n2 : Int.natAbs 2 ≤ 4000000000000000000 := by decide
    unfold f__law_drawn_glue mkF
    rw [hb]
    generalize bTurn = B at *
    clear hb nb wa wb
    simp only [List.cons_append, List.nil_append] at e2 e3 cc
    walk_at "ev"
  rw [hf]
  have z := frzL_new (S := S.set j (.lst cs3)) (ds := [.int n] ++ [.int a, .int oa] ++ [.int b, .int ob]) (plain_set hp)
  rw [l0] at z
  exact z
end Mir

set_option maxHeartbeats 4000000
namespace Mir
open PySem PySem.Spec L2
local macro_rules | `(tactic| walk_at "ev") => `(tactic| simp (disch := omega) only [*, mFld_eq, mProp_eq, mMeth_eq, mIsiO_eq, mEqO_eq, mOpO_eq, mMake_eq, madeS_n, mCallK, prpS_1, tTup_t, tLst_l, tAll_nil, tAll_cons, tN_d, mNo, gNo, eqoS_d, frzL_id, ↓chain_le, chainW_i, Int.natAbs_natCast, Int.toNat_natCast, reprV_i, reprV_s, reprV_n, reprV_b, and_self, and_true, true_and, gTry, hdl, gone, bareE, mErr, slE, List.map, if_pos, if_neg, gNil, gSeq, gIf, gRet, gRetN, gSet, gStoV, gSto, gAppV, gApp, gEx, gPar, gAug, gFor, gRaise, gRaise1, gAsg, mVar, mk_ok, mOp, mUn, mIf, mAnd, mOr, mNot, mTup, mLst, mLstO, mBlt, mCall, mMs, mSl, oNo, oSome, mFmt, mChain, mFs, fsL, aCons, aNil, tOf, tTru, tAnd, tOr, tNot, tYes', mIt, mRng1, mRng2, datas, truS_vw, truD, op1_vw, op2_vw, opN_vw, vws_nil, vws_cons,
  vw_dat, vw_own, ceD_lst, ceD_dct, asB_ok, ofO_some, ofO_none, dat'_some, dat'_none, RE.ok_bind, RE.exc_bind, RE.stuck_bind, RE.ok_toS, RE.exc_toS, RE.stuck_toS, RE.noX_ok, RS.nx_bind, RS.rt_bind, RS.bk_bind, RS.ct_bind, RS.exc_bind, RS.stuck_bind, Option.bind_some, Option.map_some, Option.bind_none, Option.map_none, cond_dec, cond_true, cond_false, List.getElem?_cons_zero, List.getElem?_cons_succ, List.set_cons_zero, List.set_cons_succ, List.replicate, List.cons_append, List.nil_append,
  atI_0, atI_1, atI_2, isNonD_non, isNonD_int, isNonD_bl, isNonD_str, isNonD_lst, isNonD_tup, isNonD_dct, isNonD_ins, if_true, if_false, ite_true, ite_false, outF_nx, outF_rt, outF_exc, ixN_0, ixN_1, ixN_2, List.length_cons, List.length_nil, List.length_set, addF_i, subF_i, addF_s, addF_l, addF_t, iaddF_i, iaddF_s, imulF_i, mulF_i, mulF_s, mulF_l, mulF_t, divF_i, modF_i, powF_i, negF_i, ltF_i, ltF_s, leF_i, leF_s, gtF_i, gtF_s, geF_i, geF_s, isF_n, isnF_n, isF_b, isnF_b, inF_s, ninF_s, ixF_l, ixF_t, ixF_q, ixF_s, lenF_s, lenF_lst, lenF_sq, lenF_tup, absF_i, max2F_i, min2F_i, intF_i, intF_b, strF_i, strF_s, reprF_d, listF_lst, tupF_lst, itD_lst, listF_sq, tupF_sq, itD_sq, listF_tup, tupF_tup, itD_tup, itD_s, divmodF_i, slF_s, slF_t, slF_l, fmtF_s, fmtF_i, startswithF_s, endswithF_s, findF_s, countF_s, stripF_s, lstripF_s, rstripF_s, rmprefixF_s, rmsuffixF_s, isalphaF_n, isdigitF_n, zfillF_i, splitF_s, strsOf_map, intsOf_map, blsOf_map, joinF_m, allF_m, anyF_m, dec_T, dec_F, cond_nd, Bool.not_true, Bool.not_false, eqF_i, eqF_s, neF_i, neF_s, rgs_0, rgs_1, rgs_2, forL_nil, forL_cons, forK_nx, forK_ct, forK_bk, forK_rt, forK_exc, isi_non_int, isi_non_bool, isi_non_str, isi_non_list, isi_non_tuple, isi_non_dict, isi_bl_int, isi_bl_bool, isi_bl_str, isi_bl_list, isi_bl_tuple, isi_bl_dict, isi_int_int, isi_int_bool, isi_int_str, isi_int_list, isi_int_tuple, isi_int_dict, isi_str_int, isi_str_bool, isi_str_str, isi_str_list, isi_str_tuple, isi_str_dict, isi_lst_int, isi_lst_bool, isi_lst_str, isi_lst_list, isi_lst_tuple, isi_lst_dict, isi_tup_int, isi_tup_bool, isi_tup_str, isi_tup_list, isi_tup_tuple, isi_tup_dict, isi_dct_int, isi_dct_bool, isi_dct_str, isi_dct_list, isi_dct_tuple, isi_dct_dict])




/-! ### the law -/
theorem all_g : ∀ {ys : List D}, (∀ y ∈ ys, ∃ g, Wg g ∧ y = pO (some g)) → ys.length = 3 → ∃ a b c, Wg a ∧ Wg b ∧ Wg c ∧ ys = [pO (some a), pO (some b), pO (some c)]
  | [x, y, z], h, _ => by
    obtain ⟨a, ha, rfl⟩ := h x (by simp)
    obtain ⟨b, hb, rfl⟩ := h y (by simp)
    obtain ⟨c, hc, rfl⟩ := h z (by simp)
    exact ⟨a, b, c, ha, hb, hc, rfl⟩
theorem made_o {S : List Ce} (hp : plain S = true) {g : G5} (h : Wg g) : f__law_made [.dat (pO (some g))] S = .ok (.dat (oO (some g))) S := by
  obtain ⟨n, a, oa, b, ob⟩ := g
  obtain ⟨hn, ha, hb⟩ := h
  have e := made_eq hp n a oa b ob
  have k : okG n a oa b ob = true := by
    unfold okG
    rw [len_big, hn, (amt_o (wo_of ha)).1, (amt_o (wo_of hb)).1, big_f.mpr ⟨by have := ha.1; omega, ha.2.1⟩, big_f.mpr ⟨by have := hb.1; omega, hb.2.1⟩]
    rfl
  rw [if_pos k, (amt_o (wo_of ha)).2, (amt_o (wo_of hb)).2] at e
  exact e
theorem parts_o {S : List Ce} (x : Option G5) : f__law_parts [.dat (oO x)] S = .ok (.dat (pO x)) S := by
  cases x with
  | none => exact parts_non
  | some g => obtain ⟨n, a, oa, b, ob⟩ := g; exact parts_eq n a oa b ob
theorem okP_p (n : Nat) (x : Option G5) : okP (n + 2) (pO x) = true := by
  cases x with
  | none => rfl
  | some g => obtain ⟨n, a, oa, b, ob⟩ := g; rfl
/-- the rest of a turn, behind the draws of the glues -/
def bA : MS := (gSeq (gSet 2 (mLc 10 (mIt (mVar 1)) tYes' (mCall f__law_made (aCons (mVar 10) aNil))))
  (gSeq (gIf (tOr (tOf (mOp neF (mLc 11 (mIt (mVar 2)) tYes' (mCall f__law_parts (aCons (mVar 11) aNil))) (mVar 1))) (tOf (mEqO true [(100, ([0, 1, 2, 3, 4, 5, 6, 107], f_Glue_DeqD))] neF (mOp ixF (mVar 2) (mK (.int 0))) (mCall f__law_made (aCons (mOp ixF (mVar 1) (mK (.int 0))) aNil)))))
  (gRet (mK (.bl false)))
  gNil)
  (gSeq (gIf (tOr (tOf (mOp neF (mBlt reprF (aCons (mEqO false [(100, ([0, 1, 2, 3, 4, 5, 6, 107], f_Glue_DeqD))] eqF (mOp ixF (mVar 2) (mK (.int 0))) (mOp ixF (mVar 2) (mK (.int 1)))) aNil)) (mBlt reprF (aCons (mOp eqF (mOp ixF (mVar 1) (mK (.int 0))) (mOp ixF (mVar 1) (mK (.int 1)))) aNil)))) (tOf (mEqO false [(100, ([0, 1, 2, 3, 4, 5, 6, 107], f_Glue_DeqD))] eqF (mOp ixF (mVar 2) (mK (.int 0))) (mOp ixF (mVar 1) (mK (.int 0))))))
  (gRet (mK (.bl false)))
  gNil)
  (gAsg (tLst [(tN 3), (tN 4), (tN 5)]) (mVar 2)))))
theorem bA_eq {S : List Ce} {j : Nat} (hp : plain S = true) {a b c : G5} (ha : Wg a) (hb : Wg b) (hc : Wg c) {v9 : Sl} :
    bA [.own j, .dat (.lst [pO (some a), pO (some b), pO (some c)]), .no, .no, .no, .no, .no, .no, .no, v9, .no, .no] S =
      .nx [.own j, .dat (.lst [pO (some a), pO (some b), pO (some c)]), .dat (.lst [oO (some a), oO (some b), oO (some c)]), .dat (oO (some a)), .dat (oO (some b)), .dat (oO (some c)), .no, .no, .no, v9, .no, .no] S := by
  have m1 : mLc 10 (mIt (mVar 1)) tYes' (mCall f__law_made (aCons (mVar 10) aNil)) [.own j, .dat (.lst [pO (some a), pO (some b), pO (some c)]), .no, .no, .no, .no, .no, .no, .no, v9, .no, .no] S = .ok (.dat (.lst [oO (some a), oO (some b), oO (some c)])) S :=
    mLc_rel (ds := [pO (some a), pO (some b), pO (some c)]) rfl hp (by simp) (.cons (fun T hT => made_o hT ha) (.cons (fun T hT => made_o hT hb) (.cons (fun T hT => made_o hT hc) .nil)))
  have m2 : mLc 11 (mIt (mVar 2)) tYes' (mCall f__law_parts (aCons (mVar 11) aNil)) [.own j, .dat (.lst [pO (some a), pO (some b), pO (some c)]), .dat (.lst [oO (some a), oO (some b), oO (some c)]), .no, .no, .no, .no, .no, .no, v9, .no, .no] S = .ok (.dat (.lst [pO (some a), pO (some b), pO (some c)])) S :=
    mLc_rel (ds := [oO (some a), oO (some b), oO (some c)]) rfl hp (by simp) (.cons (fun T hT => parts_o (some a)) (.cons (fun T hT => parts_o (some b)) (.cons (fun T hT => parts_o (some c)) .nil)))
  have k3 : okP 60 (.lst [pO (some a), pO (some b), pO (some c)]) = true := by
    simp only [okP, List.all_cons, List.all_nil, okP_p 57 (some a), okP_p 57 (some b), okP_p 57 (some c), Bool.and_self]
  have n1 := neF_same k3
  have mk : f__law_made [.dat (pO (some a))] S = .ok (.dat (oO (some a))) S := made_o hp ha
  have t1 : ∀ (x : G5), tagD (oO (some x)) = some 107 := fun x => by obtain ⟨n, a, oa, b, ob⟩ := x; rfl
  have t4 : ∀ (x : G5), tagD (pO (some x)) = some 4 := fun x => by obtain ⟨n, a, oa, b, ob⟩ := x; rfl
  have q1 : ∀ (neg : Bool) (u : D → D → Option D) (x y : G5), eqoS neg [(100, ([0, 1, 2, 3, 4, 5, 6, 107], f_Glue_DeqD))] u (.dat (oO (some x))) (.dat (oO (some y))) S = .ok (.dat (.bl (bif neg then !(decide (x = y)) else decide (x = y)))) S := fun neg u x y => by
    have e := deq_eq (S := S) x y
    obtain ⟨n, a, oa, b, ob⟩ := x
    exact eqoS_1 (t1 y) rfl e
  have q2 : ∀ (u : D → D → Option D) (x y : G5), eqoS false [(100, ([0, 1, 2, 3, 4, 5, 6, 107], f_Glue_DeqD))] u (.dat (oO (some x))) (.dat (pO (some y))) S = .ok (.dat (.bl false)) S := fun u x y => by
    have e : f_Glue_DeqD [.dat (oO (some x)), .dat (pO (some y))] S = .ok (.dat (.bl false)) S := by
      obtain ⟨n', a', oa', b', ob'⟩ := y
      exact deq_no x n' a' oa' b' ob'
    obtain ⟨n, a, oa, b, ob⟩ := x
    exact eqoS_1 (r := false) (t4 y) rfl e
  have q0 := q1 true neF a a
  have q3 := q1 false eqF a b
  have q4 := q2 eqF a a
  have e1 : eqF (pO (some a)) (pO (some b)) = some (.bl (decide (a = b))) := by
    have e := pG_eq a b
    have w1 : ∀ x : G5, ∃ l, pO (some x) = .lst l := fun x => by obtain ⟨n, a, oa, b, ob⟩ := x; exact ⟨_, rfl⟩
    have o1 := okP_p 58 (some a)
    have o2 := okP_p 58 (some b)
    obtain ⟨l, hl⟩ := w1 a
    obtain ⟨m, hm⟩ := w1 b
    rw [hl, hm] at e
    rw [hl] at o1
    rw [hm] at o2
    rw [hl, hm, eqF_L o1 o2, e]
  have n2 : neF (D.str (if decide (a = b) = true then Str.ofString "True" else Str.ofString "False")) (D.str (if decide (a = b) = true then Str.ofString "True" else Str.ofString "False")) = some (.bl false) := by
    rw [neF_s]; simp
  rw [decide_eq_true (rfl : a = a)] at q0
  generalize decide (a = b) = dab at *
  clear k3 q1 q2 t1 t4
  unfold bA
  generalize mLc 10 (mIt (mVar 1)) tYes' (mCall f__law_made (aCons (mVar 10) aNil)) = X at *
  generalize mLc 11 (mIt (mVar 2)) tYes' (mCall f__law_parts (aCons (mVar 11) aNil)) = Y at *
  generalize pO (some a) = pa at *
  generalize pO (some b) = pb at *
  generalize pO (some c) = pc at *
  generalize oO (some a) = qa at *
  generalize oO (some b) = qb at *
  generalize oO (some c) = qc at *
  clear ha hb hc hp
  walk_at "ev"
  trace_state
end Mir

set_option maxHeartbeats 4000000
namespace Mir
open PySem PySem.Spec L2
local macro_rules | `(tactic| walk_at "ev") => `(tactic| simp (disch := omega) only [*, mFld_eq, mProp_eq, mMeth_eq, mIsiO_eq, mEqO_eq, mOpO_eq, mMake_eq, madeS_n, mCallK, prpS_1, tTup_t, tLst_l, tAll_nil, tAll_cons, tN_d, mNo, gNo, eqoS_d, frzL_id, ↓chain_le, chainW_i, Int.natAbs_natCast, Int.toNat_natCast, reprV_i, reprV_s, reprV_n, reprV_b, and_self, and_true, true_and, gTry, hdl, gone, bareE, mErr, slE, List.map, if_pos, if_neg, gNil, gSeq, gIf, gRet, gRetN, gSet, gStoV, gSto, gAppV, gApp, gEx, gPar, gAug, gFor, gRaise, gRaise1, gAsg, mVar, mk_ok, mOp, mUn, mIf, mAnd, mOr, mNot, mTup, mLst, mLstO, mBlt, mCall, mMs, mSl, oNo, oSome, mFmt, mChain, mFs, fsL, aCons, aNil, tOf, tTru, tAnd, tOr, tNot, tYes', mIt, mRng1, mRng2, datas, truS_vw, truD, op1_vw, op2_vw, opN_vw, vws_nil, vws_cons,
  vw_dat, vw_own, ceD_lst, ceD_dct, asB_ok, ofO_some, ofO_none, dat'_some, dat'_none, RE.ok_bind, RE.exc_bind, RE.stuck_bind, RE.ok_toS, RE.exc_toS, RE.stuck_toS, RE.noX_ok, RS.nx_bind, RS.rt_bind, RS.bk_bind, RS.ct_bind, RS.exc_bind, RS.stuck_bind, Option.bind_some, Option.map_some, Option.bind_none, Option.map_none, cond_dec, cond_true, cond_false, List.getElem?_cons_zero, List.getElem?_cons_succ, List.set_cons_zero, List.set_cons_succ, List.replicate, List.cons_append, List.nil_append,
  atI_0, atI_1, atI_2, isNonD_non, isNonD_int, isNonD_bl, isNonD_str, isNonD_lst, isNonD_tup, isNonD_dct, isNonD_ins, if_true, if_false, ite_true, ite_false, outF_nx, outF_rt, outF_exc, ixN_0, ixN_1, ixN_2, List.length_cons, List.length_nil, List.length_set, addF_i, subF_i, addF_s, addF_l, addF_t, iaddF_i, iaddF_s, imulF_i, mulF_i, mulF_s, mulF_l, mulF_t, divF_i, modF_i, powF_i, negF_i, ltF_i, ltF_s, leF_i, leF_s, gtF_i, gtF_s, geF_i, geF_s, isF_n, isnF_n, isF_b, isnF_b, inF_s, ninF_s, ixF_l, ixF_t, ixF_q, ixF_s, lenF_s, lenF_lst, lenF_sq, lenF_tup, absF_i, max2F_i, min2F_i, intF_i, intF_b, strF_i, strF_s, reprF_d, listF_lst, tupF_lst, itD_lst, listF_sq, tupF_sq, itD_sq, listF_tup, tupF_tup, itD_tup, itD_s, divmodF_i, slF_s, slF_t, slF_l, fmtF_s, fmtF_i, startswithF_s, endswithF_s, findF_s, countF_s, stripF_s, lstripF_s, rstripF_s, rmprefixF_s, rmsuffixF_s, isalphaF_n, isdigitF_n, zfillF_i, splitF_s, strsOf_map, intsOf_map, blsOf_map, joinF_m, allF_m, anyF_m, dec_T, dec_F, cond_nd, Bool.not_true, Bool.not_false, eqF_i, eqF_s, neF_i, neF_s, rgs_0, rgs_1, rgs_2, forL_nil, forL_cons, forK_nx, forK_ct, forK_bk, forK_rt, forK_exc, isi_non_int, isi_non_bool, isi_non_str, isi_non_list, isi_non_tuple, isi_non_dict, isi_bl_int, isi_bl_bool, isi_bl_str, isi_bl_list, isi_bl_tuple, isi_bl_dict, isi_int_int, isi_int_bool, isi_int_str, isi_int_list, isi_int_tuple, isi_int_dict, isi_str_int, isi_str_bool, isi_str_str, isi_str_list, isi_str_tuple, isi_str_dict, isi_lst_int, isi_lst_bool, isi_lst_str, isi_lst_list, isi_lst_tuple, isi_lst_dict, isi_tup_int, isi_tup_bool, isi_tup_str, isi_tup_list, isi_tup_tuple, isi_tup_dict, isi_dct_int, isi_dct_bool, isi_dct_str, isi_dct_list, isi_dct_tuple, isi_dct_dict])




def bB : MS := (gSeq (gSet 6 (mLst (aCons (mCall f__law_added (aCons (mVar 3) (aCons (mVar 4) aNil))) (aCons (mCall f__law_added (aCons (mVar 4) (aCons (mVar 3) aNil))) (aCons (mCall f__law_added (aCons (mCall f__law_added (aCons (mVar 3) (aCons (mVar 4) aNil))) (aCons (mVar 5) aNil))) (aCons (mCall f__law_added (aCons (mVar 3) (aCons (mCall f__law_added (aCons (mVar 4) (aCons (mVar 5) aNil))) aNil))) aNil))))))
  (gSeq (gSet 7 (mCatO (mOp mulF (mLst (aCons (mCall f__law_sum (aCons (mOp ixF (mVar 1) (mK (.int 0))) (aCons (mOp ixF (mVar 1) (mK (.int 1))) aNil))) aNil)) (mK (.int 2))) (mLst (aCons (mCall f__law_sum (aCons (mCall f__law_sum (aCons (mOp ixF (mVar 1) (mK (.int 0))) (aCons (mOp ixF (mVar 1) (mK (.int 1))) aNil))) (aCons (mOp ixF (mVar 1) (mK (.int 2))) aNil))) aNil))))
  (gSeq (gAppV 7 (mCall f__law_sum (aCons (mOp ixF (mVar 1) (mK (.int 0))) (aCons (mCall f__law_sum (aCons (mOp ixF (mVar 1) (mK (.int 1))) (aCons (mOp ixF (mVar 1) (mK (.int 2))) aNil))) aNil))))
  (gSeq (gIf (tOf (mOp neF (mLc 11 (mIt (mVar 6)) tYes' (mCall f__law_parts (aCons (mVar 11) aNil))) (mVar 7)))
  (gRet (mK (.bl false)))
  gNil)
  (gSeq (gIf (tAnd (tOf (mOp ninF2 (mK (.non)) (mVar 7))) (tOf (mEqO true [(100, ([0, 1, 2, 3, 4, 5, 6, 107], f_Glue_DeqD))] neF (mOp ixF (mVar 6) (mK (.int 2))) (mOp ixF (mVar 6) (mK (.int 3))))))
  (gRet (mK (.bl false)))
  gNil)
  gNil)))))
def bC : MS := (gSeq (gSet 8 (mCall f__law_pick (aCons (mVar 0) (aCons (mLst (aCons (mK (.int 0)) (aCons (mK (.int 1)) (aCons (mK (.int 2)) (aCons (mK (.int 3)) (aCons (mUn negF (mK (.int 1))) (aCons (mUn negF (mK (.int 2))) (aCons (mK (.int 100)) (aCons (mOp powF (mK (.int 10)) (mK (.int 30))) aNil))))))))) aNil))))
  (gRet (mOp eqF (mCall f__law_parts (aCons (mCall f__law_times (aCons (mVar 3) (aCons (mVar 8) aNil))) aNil)) (mCall f__law_product (aCons (mOp ixF (mVar 1) (mK (.int 0))) (aCons (mVar 8) aNil))))))
theorem add_o {S : List Ce} (hp : plain S = true) {x y : Option G5} (hx : WOp x) (hy : WOp y) : f__law_added [.dat (oO x), .dat (oO y)] S = .ok (.dat (oO (sumO x y))) S := by rw [added_eq hp, add_sum hx hy]
theorem isNon_p (x : Option G5) : isNonD (pO x) = x.isNone := by
  cases x with
  | none => rfl
  | some g => obtain ⟨n, a, oa, b, ob⟩ := g; rfl
theorem eqB_non (x : Option G5) : eqB (pO x) .non = x.isNone := by
  cases x with
  | none => rfl
  | some g => obtain ⟨n, a, oa, b, ob⟩ := g; rfl
theorem flatDs_none : ∀ (l : List D), (∃ x ∈ l, flatD x = none) → flatDs l = none
  | [], h => by obtain ⟨x, hx, _⟩ := h; cases hx
  | d :: r, h => by
    unfold flatDs
    cases e : flatD d with
    | none => rfl
    | some v =>
      obtain ⟨x, hx, hn⟩ := h
      rcases List.mem_cons.mp hx with rfl | hx
      · rw [e] at hn; cases hn
      · rw [flatDs_none r ⟨x, hx, hn⟩]
theorem flat_some (g : G5) : flatD (pO (some g)) = none := by obtain ⟨n, a, oa, b, ob⟩ := g; rfl
theorem nin_g (x1 x3 x4 : Option G5) (h0 : ninDF .non (.lst [pO x1, pO x1, pO x3, pO x4]) = some (.bl (!(x1.isNone || (x1.isNone || (x3.isNone || (x4.isNone || false))))))) : ninF2 .non (.lst [pO x1, pO x1, pO x3, pO x4]) = some (.bl (!(x1.isNone || (x1.isNone || (x3.isNone || (x4.isNone || false)))))) := by
  have e : ninF .non (.lst [pO x1, pO x1, pO x3, pO x4]) = (inSeq .non [pO x1, pO x1, pO x3, pO x4]).map (fun b => D.bl !b) := rfl
  have key : ∀ x, (x ∈ [pO x1, pO x1, pO x3, pO x4]) → flatD x = none → ninF2 .non (.lst [pO x1, pO x1, pO x3, pO x4]) = ninDF .non (.lst [pO x1, pO x1, pO x3, pO x4]) := fun x hx hn => by
    have f : inSeq .non [pO x1, pO x1, pO x3, pO x4] = none := by
      unfold inSeq
      rw [flatDs_none _ ⟨x, hx, hn⟩]
      rfl
    unfold ninF2
    rw [e, f]
    rfl
  cases x1 with
  | some g => rw [key _ (by simp) (flat_some g)]; exact h0
  | none =>
    cases x3 with
    | some g => rw [key (pO (some g)) (by simp) (flat_some g)]; exact h0
    | none =>
      cases x4 with
      | some g => rw [key (pO (some g)) (by simp) (flat_some g)]; exact h0
      | none => rfl
theorem bB_eq {S : List Ce} {j : Nat} (hp : plain S = true) {a b c : G5} (ha : Wg a) (hb : Wg b) (hc : Wg c) {v9 v10 v11 : Sl} : ∃ ds v6,
    bB [.own j, .dat (.lst [pO (some a), pO (some b), pO (some c)]), .dat (.lst [oO (some a), oO (some b), oO (some c)]), .dat (oO (some a)), .dat (oO (some b)), .dat (oO (some c)), .no, .no, .no, v9, v10, v11] S =
      .nx [.own j, .dat (.lst [pO (some a), pO (some b), pO (some c)]), .dat (.lst [oO (some a), oO (some b), oO (some c)]), .dat (oO (some a)), .dat (oO (some b)), .dat (oO (some c)), v6, .own S.length, .no, v9, v10, v11] (S ++ [.lst ds]) := by
  have wa : WOp (some a) := ha
  have wb : WOp (some b) := hb
  have wc : WOp (some c) := hc
  have wab := sum_w wa wb
  have wbc := sum_w wb wc
  have s1 := add_o hp wa wb
  have s2 := add_o hp wb wa
  rw [sum_comm] at s2
  have s3 := add_o hp wab wc
  have s4 := add_o hp wa wbc
  have s5 := add_o hp wb wc
  have p1 := sum_eq hp (some a) (some b)
  have p2 := sum_eq hp (sumO (some a) (some b)) (some c)
  have p3 : ∀ T, plain T = true → f__law_sum [.dat (pO (some b)), .dat (pO (some c))] T = .ok (.dat (pO (sumO (some b) (some c)))) T := fun T hT => sum_eq hT _ _
  have p4 : ∀ T, plain T = true → f__law_sum [.dat (pO (some a)), .dat (pO (sumO (some b) (some c)))] T = .ok (.dat (pO (sumO (some a) (sumO (some b) (some c))))) T := fun T hT => sum_eq hT _ _
  have as := @sum_assoc (some a) (some b) (some c)
  generalize hx1 : sumO (some a) (some b) = x1 at *
  generalize hx2 : sumO (some b) (some c) = x2 at *
  generalize hx3 : sumO x1 (some c) = x3 at *
  generalize hx4 : sumO (some a) x2 = x4 at *
  have hpl : ∀ ds, plain (S ++ [Ce.lst ds]) = true := fun ds => by unfold plain at *; rw [List.all_append, hp]; rfl
  have q3 := fun ds => p3 _ (hpl ds)
  have q4 := fun ds => p4 _ (hpl ds)
  clear p3 p4
  have gL : ∀ ds : List D, (S ++ [Ce.lst ds])[S.length]? = some (Ce.lst ds) := fun ds => by
    rw [List.getElem?_append_right (Nat.le_refl _), Nat.sub_self]; rfl
  have sL : ∀ ds es : List D, (S ++ [Ce.lst ds]).set S.length (Ce.lst es) = S ++ [Ce.lst es] := fun ds es => by
    rw [List.set_append_right _ _ (Nat.le_refl _), Nat.sub_self]; rfl
  have lS : ∀ (ds : List D) (ρ : List Sl), ρ[2]? = some (.dat (.lst [oO (some a), oO (some b), oO (some c)])) → ρ[6]? = some (.dat (.lst [oO x1, oO x1, oO x3, oO x4])) → ρ.length = 12 → mLc 11 (mIt (mVar 6)) tYes' (mCall f__law_parts (aCons (mVar 11) aNil)) ρ (S ++ [Ce.lst ds]) = .ok (.dat (.lst [pO x1, pO x1, pO x3, pO x4])) (S ++ [Ce.lst ds]) := fun ds ρ _ h6 hl => by
    have pe : ∀ (x : Option G5) (T : List Ce), (mCall f__law_parts (aCons (mVar 11) aNil)) (ρ.set 11 (.dat (oO x))) T = .ok (.dat (pO x)) T := fun x T => by
      have e : (ρ.set 11 (Sl.dat (oO x)))[11]? = some (.dat (oO x)) := List.getElem?_set_self (by omega)
      have m := mvar_dat (S := T) e
      have pp := parts_o (S := T) x
      walk_at "ev"
    exact mLc_rel (ds := [oO x1, oO x1, oO x3, oO x4]) (by have m := mvar_dat (S := S ++ [Ce.lst ds]) h6; walk_at "ev") (hpl ds) (by simp) (.cons (fun T hT => pe x1 T) (.cons (fun T hT => pe x1 T) (.cons (fun T hT => pe x3 T) (.cons (fun T hT => pe x4 T) .nil))))
  have k4 : okP 60 (.lst [pO x1, pO x1, pO x3, pO x4]) = true := by
    simp only [okP, List.all_cons, List.all_nil, okP_p 57 x1, okP_p 57 x3, okP_p 57 x4, Bool.and_self]
  have n1 := neF_same k4
  have nin : ninF2 .non (.lst [pO x1, pO x1, pO x3, pO x4]) = some (.bl (!(x1.isNone || (x1.isNone || (x3.isNone || (x4.isNone || false)))))) := by
    have h0 : ninDF .non (.lst [pO x1, pO x1, pO x3, pO x4]) = some (.bl (!(x1.isNone || (x1.isNone || (x3.isNone || (x4.isNone || false)))))) := by
      unfold ninDF
      dsimp only
      rw [if_pos ⟨rfl, k4⟩]
      simp only [List.any_cons, List.any_nil, eqB_non]
    exact nin_g x1 x3 x4 h0
  have eqx : (!(x1.isNone || (x1.isNone || (x3.isNone || (x4.isNone || false))))) = true → ∀ T, eqoS true [(100, ([0, 1, 2, 3, 4, 5, 6, 107], f_Glue_DeqD))] neF (.dat (oO x3)) (.dat (oO x4)) T = .ok (.dat (.bl false)) T := fun hh T => by
    cases x3 with
    | none => simp at hh
    | some g3 =>
      cases x4 with
      | none => simp at hh
      | some g4 =>
        have e := as rfl rfl
        subst e
        have d := deq_eq (S := T) g3 g3
        rw [decide_eq_true (rfl : g3 = g3)] at d
        have t1 : tagD (oO (some g3)) = some 107 := by obtain ⟨n, a, oa, b, ob⟩ := g3; rfl
        obtain ⟨n, a, oa, b, ob⟩ := g3
        exact eqoS_1 t1 rfl d
  have c2 : (List.replicate (Int.toNat 2) [pO x1]).flatten = [pO x1, pO x1] := rfl
  have h1 : (0 + 1 ≤ 1000) := by decide
  have h2 : ((0 + 1 + 1) + (0 + 1) ≤ 100000) := by decide
  have h3 : (0 ≤ (2 : Int) ∧ (2 : Int) ≤ 100000 ∧ (0 + 1 ≤ 100)) := by decide
  have h4 : (0 + 1 + 1 + 1 < 100000) := by decide
  have h5 : (0 + 1 + 1 + 1 + 1 ≤ 1000) := by decide
  have i3 : ∀ (x y z u : D) (r : List D), atI (x :: y :: z :: u :: r) 3 = some u := atI_3
  refine ⟨[pO x1, pO x1, pO x3, pO x4], .dat (.lst [oO x1, oO x1, oO x3, oO x4]), ?_⟩
  have lS' := fun ds => lS ds [.own j, .dat (.lst [pO (some a), pO (some b), pO (some c)]), .dat (.lst [oO (some a), oO (some b), oO (some c)]), .dat (oO (some a)), .dat (oO (some b)), .dat (oO (some c)), .dat (.lst [oO x1, oO x1, oO x3, oO x4]), .own S.length, .no, v9, v10, v11] rfl rfl rfl
  clear lS as hx1 hx2 hx3 hx4 wa wb wc wab wbc ha hb hc hp hpl k4
  unfold bB
  generalize mLc 11 (mIt (mVar 6)) tYes' (mCall f__law_parts (aCons (mVar 11) aNil)) = X at *
  generalize (!(x1.isNone || (x1.isNone || (x3.isNone || (x4.isNone || false))))) = bn at *
  generalize pO (some a) = pa at *
  generalize pO (some b) = pb at *
  generalize pO (some c) = pc at *
  generalize oO (some a) = qa at *
  generalize oO (some b) = qb at *
  generalize oO (some c) = qc at *
  generalize pO x1 = y1 at *
  generalize pO x2 = y2 at *
  generalize pO x3 = y3 at *
  generalize pO x4 = y4 at *
  generalize oO x1 = z1 at *
  generalize oO x2 = z2 at *
  generalize oO x3 = z3 at *
  generalize oO x4 = z4 at *
  unfold mCatO
  cases bn with
  | false =>
    clear eqx
    walk_at "ev"
  | true =>
    have eqx := eqx rfl
    walk_at "ev"

theorem bC_eq {S : List Ce} {j N : Nat} {cs : List D} (hp : plain S = true) (hS : S[j]? = some (.lst cs)) (hd : Dice cs N) (hN : N < 10 ^ 9) {a b c : G5} (ha : Wg a) {v2 v4 v5 v6 v7 v9 v10 v11 : Sl} : ∃ cs' , Dice cs' (N + 1) ∧
    bC [.own j, .dat (.lst [pO (some a), pO (some b), pO (some c)]), v2, .dat (oO (some a)), v4, v5, v6, v7, .no, v9, v10, v11] S = .rt (.dat (.bl true)) (S.set j (.lst cs')) := by
  obtain ⟨d, cs', hd1, e1, hd'⟩ := pick_lst (ds := [.int 0, .int 1, .int 2, .int 3, .int (-1), .int (-2), .int 100, .int (10 ^ 30)]) hS hd hN (by simp) (by simp)
  have hm : ∃ m : Int, d = .int m ∧ m.natAbs < 2 ^ 100 := by
    simp only [List.mem_cons, List.not_mem_nil, or_false] at hd1
    rcases hd1 with h | h | h | h | h | h | h | h <;> exact ⟨_, h, by decide⟩
  obtain ⟨m, rfl, hm⟩ := hm
  clear hd1
  refine ⟨cs', hd', ?_⟩
  have hp' : plain (S.set j (.lst cs')) = true := plain_set hp
  have wa := ha
  obtain ⟨n, x, ox, y, oy⟩ := a
  obtain ⟨hn, hx, hy⟩ := ha
  have t := times_eq hp' (n := n) (a := x) (oa := ox) (b := y) (ob := oy) hn (big_f.mpr ⟨by have := hx.1; omega, hx.2.1⟩) (big_f.mpr ⟨by have := hy.1; omega, hy.2.1⟩) hm
  have p := prod_eq hp' (n := n) (a := x) (oa := ox) (b := y) (ob := oy) hn (big_f.mpr ⟨by have := hx.1; omega, hx.2.1⟩) (big_f.mpr ⟨by have := hy.1; omega, hy.2.1⟩) hm
  rw [mul_prod wa] at t
  have q := parts_o (S := S.set j (.lst cs')) (prodO (n, x, ox, y, oy) m)
  generalize prodO (n, x, ox, y, oy) m = R at *
  have e : eqF (pO R) (pO R) = some (.bl true) := by
    cases R with
    | none => rfl
    | some g => obtain ⟨n, a, oa, b, ob⟩ := g; exact eqF_same rfl
  have p30 : (10 : Int) ^ Int.toNat 30 = 10 ^ 30 := rfl
  have h8 : (0 + 1 + 1 + 1 + 1 + 1 + 1 + 1 + 1 ≤ 1000) := by decide
  have c1 : (0 ≤ (30 : Int) ∧ (30 : Int) ≤ 1000000 ∧ Int.natAbs 10 < 2 ^ 64) := by decide
  simp only [oO, pO] at *
  unfold bC
  clear hn hx hy wa hp hp' hm hd hN
  walk_at "ev"
  trace_state
end Mir

set_option maxHeartbeats 4000000
namespace Mir
open PySem PySem.Spec L2
local macro_rules | `(tactic| walk_at "ev") => `(tactic| simp (disch := omega) only [*, mFld_eq, mProp_eq, mMeth_eq, mIsiO_eq, mEqO_eq, mOpO_eq, mMake_eq, madeS_n, mCallK, prpS_1, tTup_t, tLst_l, tAll_nil, tAll_cons, tN_d, mNo, gNo, eqoS_d, frzL_id, ↓chain_le, chainW_i, Int.natAbs_natCast, Int.toNat_natCast, reprV_i, reprV_s, reprV_n, reprV_b, and_self, and_true, true_and, gTry, hdl, gone, bareE, mErr, slE, List.map, if_pos, if_neg, gNil, gSeq, gIf, gRet, gRetN, gSet, gStoV, gSto, gAppV, gApp, gEx, gPar, gAug, gFor, gRaise, gRaise1, gAsg, mVar, mk_ok, mOp, mUn, mIf, mAnd, mOr, mNot, mTup, mLst, mLstO, mBlt, mCall, mMs, mSl, oNo, oSome, mFmt, mChain, mFs, fsL, aCons, aNil, tOf, tTru, tAnd, tOr, tNot, tYes', mIt, mRng1, mRng2, datas, truS_vw, truD, op1_vw, op2_vw, opN_vw, vws_nil, vws_cons,
  vw_dat, vw_own, ceD_lst, ceD_dct, asB_ok, ofO_some, ofO_none, dat'_some, dat'_none, RE.ok_bind, RE.exc_bind, RE.stuck_bind, RE.ok_toS, RE.exc_toS, RE.stuck_toS, RE.noX_ok, RS.nx_bind, RS.rt_bind, RS.bk_bind, RS.ct_bind, RS.exc_bind, RS.stuck_bind, Option.bind_some, Option.map_some, Option.bind_none, Option.map_none, cond_dec, cond_true, cond_false, List.getElem?_cons_zero, List.getElem?_cons_succ, List.set_cons_zero, List.set_cons_succ, List.replicate, List.cons_append, List.nil_append,
  atI_0, atI_1, atI_2, isNonD_non, isNonD_int, isNonD_bl, isNonD_str, isNonD_lst, isNonD_tup, isNonD_dct, isNonD_ins, if_true, if_false, ite_true, ite_false, outF_nx, outF_rt, outF_exc, ixN_0, ixN_1, ixN_2, List.length_cons, List.length_nil, List.length_set, addF_i, subF_i, addF_s, addF_l, addF_t, iaddF_i, iaddF_s, imulF_i, mulF_i, mulF_s, mulF_l, mulF_t, divF_i, modF_i, powF_i, negF_i, ltF_i, ltF_s, leF_i, leF_s, gtF_i, gtF_s, geF_i, geF_s, isF_n, isnF_n, isF_b, isnF_b, inF_s, ninF_s, ixF_l, ixF_t, ixF_q, ixF_s, lenF_s, lenF_lst, lenF_sq, lenF_tup, absF_i, max2F_i, min2F_i, intF_i, intF_b, strF_i, strF_s, reprF_d, listF_lst, tupF_lst, itD_lst, listF_sq, tupF_sq, itD_sq, listF_tup, tupF_tup, itD_tup, itD_s, divmodF_i, slF_s, slF_t, slF_l, fmtF_s, fmtF_i, startswithF_s, endswithF_s, findF_s, countF_s, stripF_s, lstripF_s, rstripF_s, rmprefixF_s, rmsuffixF_s, isalphaF_n, isdigitF_n, zfillF_i, splitF_s, strsOf_map, intsOf_map, blsOf_map, joinF_m, allF_m, anyF_m, dec_T, dec_F, cond_nd, Bool.not_true, Bool.not_false, eqF_i, eqF_s, neF_i, neF_s, rgs_0, rgs_1, rgs_2, forL_nil, forL_cons, forK_nx, forK_ct, forK_bk, forK_rt, forK_exc, isi_non_int, isi_non_bool, isi_non_str, isi_non_list, isi_non_tuple, isi_non_dict, isi_bl_int, isi_bl_bool, isi_bl_str, isi_bl_list, isi_bl_tuple, isi_bl_dict, isi_int_int, isi_int_bool, isi_int_str, isi_int_list, isi_int_tuple, isi_int_dict, isi_str_int, isi_str_bool, isi_str_str, isi_str_list, isi_str_tuple, isi_str_dict, isi_lst_int, isi_lst_bool, isi_lst_str, isi_lst_list, isi_lst_tuple, isi_lst_dict, isi_tup_int, isi_tup_bool, isi_tup_str, isi_tup_list, isi_tup_tuple, isi_tup_dict, isi_dct_int, isi_dct_bool, isi_dct_str, isi_dct_list, isi_dct_tuple, isi_dct_dict])




def bD : MS := (gSet 1 (mLc 9 (mRng1 (mK (.int 3))) tYes' (fun ρ S => frzL S.length ((mCall f__law_drawn_glue (aCons (mVar 0) aNil)) ρ S))))
def bTry : MS := (gIf (tNot (tTru (mCall f__law_right (aCons (mVar 2) aNil))))
  (gRet (mK (.bl false)))
  gNil)
def bOut : MS := (gSeq (gSet 2 (mCall f__law_dice (aCons (mVar 0) (aCons (mVar 1) aNil))))
  (gFor 3 (mRng1 (mK (.int 3)))
  (gIf (tNot (tTru (mCall f__law_right (aCons (mVar 2) aNil))))
  (gRet (mK (.bl false)))
  gNil)))
def bRest : MS := (gSeq (gSet 4 (fun ρ S => frzL S.length ((mMake 100 g_Glue_DinitD_2_stretch_stretch_order_shrink f_Glue_DinitD (aCons (mK (.int 3)) aNil) (aCons (mK (.int 5)) (aCons (mK (.int 1)) (aCons (mK (.int 2)) aNil)))) ρ S)))
  (gSeq (gSet 5 (mLst (aCons (mCall f__law_parts (aCons (mOpO [(100, ([2, 107], f_Glue_DaddD))] addF (mVar 4) (fun ρ S => frzL S.length ((mMake 100 g_Glue_DinitD_2_stretch_shrink f_Glue_DinitD (aCons (mK (.int 1)) aNil) (aCons (mK (.int 9)) (aCons (mK (.int 4)) aNil))) ρ S))) aNil)) (aCons (mCall f__law_parts (aCons (mOpO [(100, ([2, 107], f_Glue_DmulD))] mulF (mVar 4) (mK (.int 2))) aNil)) (aCons (mCall f__law_parts (aCons (fun ρ S => frzL S.length ((mMake 100 g_Glue_DinitD_2_stretch_order f_Glue_DinitD (aCons (mK (.int 5)) aNil) (aCons (mK (.int 2)) aNil)) ρ S)) aNil)) aNil)))))
  (gRet (mOp eqF (mVar 5) (mLst (aCons (mLst (aCons (mK (.int 4)) (aCons (mK (.int 5)) (aCons (mK (.int 1)) (aCons (mK (.int 6)) (aCons (mK (.int 0)) aNil)))))) (aCons (mLst (aCons (mK (.int 6)) (aCons (mK (.int 10)) (aCons (mK (.int 1)) (aCons (mK (.int 4)) (aCons (mK (.int 0)) aNil)))))) (aCons (mLst (aCons (mK (.int 5)) (aCons (mK (.int 0)) (aCons (mK (.int 0)) (aCons (mK (.int 0)) (aCons (mK (.int 0)) aNil)))))) aNil))))))))
theorem gSeq_assoc (a b c : MS) : gSeq (gSeq a b) c = gSeq a (gSeq b c) := by
  funext ρ S
  unfold gSeq
  cases a ρ S <;> rfl
theorem gSeq_nil (c : MS) : gSeq gNil c = c := rfl
theorem right_parts (n : Nat) : m__law_right n = gSeq bD (gSeq bA (gSeq bB bC)) := by
  unfold bA bB
  simp only [gSeq_assoc, gSeq_nil]
  rfl
theorem right_eq {S : List Ce} {j N : Nat} {cs : List D} (hp : plain S = true) (hS : S[j]? = some (.lst cs)) (hd : Dice cs N) (hN : N < 10 ^ 7) : ∃ cs', Dice cs' (N + 100) ∧ f__law_right [.own j] S = .ok (.dat (.bl true)) (S.set j (.lst cs')) := by
  have hj := (List.getElem?_eq_some_iff.mp hS).1
  have g1 : ∀ c : Ce, (S.set j c)[j]? = some c := fun c => List.getElem?_set_self hj
  have l0 : ∀ c : Ce, (S.set j c).length = S.length := fun c => List.length_set
  obtain ⟨ys, cs1, e1, hl, hy, hd1⟩ := mLc_drawP (j := 9) (jd := j) (q := 20) (M := 10 ^ 8 - 200) (it := mRng1 (mK (.int 3))) (elt := fun ρ S => frzL S.length ((mCall f__law_drawn_glue (aCons (mVar 0) aNil)) ρ S)) (ρ := [.own j, .no, .no, .no, .no, .no, .no, .no, .no, .no, .no, .no]) (P := fun y => ∃ g, Wg g ∧ y = pO (some g)) (S := S) (ds := rgs 0 3) (by
      have n3 : Int.natAbs 3 ≤ 4000000000000000000 := by decide
      have r3 : Int.toNat 3 = 3 := rfl
      walk_at "ev") hp hS hd (by rw [rgs_len]; omega) (by rw [rgs_len]; omega) (fun T cs N d hT hS hd hN => by
      obtain ⟨g, cs', e, w, h⟩ := dglue_eq hT hS hd (by omega)
      exact ⟨_, cs', ⟨g, w, rfl⟩, e, h⟩)
  obtain ⟨a, b, c, ha, hb, hc, rfl⟩ := all_g hy (by rw [hl, rgs_len])
  rw [rgs_len] at hd1
  have eA := bA_eq (S := S.set j (.lst cs1)) (j := j) (plain_set hp) ha hb hc (v9 := .no)
  obtain ⟨ds, v6, eB⟩ := bB_eq (S := S.set j (.lst cs1)) (j := j) (plain_set hp) ha hb hc (v9 := .no) (v10 := .no) (v11 := .no)
  have hpl : plain (S.set j (.lst cs1) ++ [Ce.lst ds]) = true := by
    have := plain_set (j := j) (cs := cs1) hp
    unfold plain at *; rw [List.all_append, this]; rfl
  obtain ⟨cs2, hd2, eC⟩ := bC_eq (S := S.set j (.lst cs1) ++ [Ce.lst ds]) (j := j) hpl (app_get (g1 (.lst cs1))) hd1 (by omega) ha (a := a) (b := b) (c := c) (v2 := .dat (.lst [oO (some a), oO (some b), oO (some c)])) (v4 := .dat (oO (some b))) (v5 := .dat (oO (some c))) (v6 := v6) (v7 := .own (S.set j (.lst cs1)).length) (v9 := .no) (v10 := .no) (v11 := .no)
  rw [app_set (by rw [l0]; exact hj), List.set_set] at eC
  refine ⟨cs2, hd2.mono (by omega), ?_⟩
  have e2 : bD [.own j, .no, .no, .no, .no, .no, .no, .no, .no, .no, .no, .no] S = .nx [.own j, .dat (.lst [pO (some a), pO (some b), pO (some c)]), .no, .no, .no, .no, .no, .no, .no, .no, .no, .no] (S.set j (.lst cs1)) := by
    unfold bD gSet
    rw [e1]
    rfl
  show outF S.length (m__law_right S.length [.own j, .no, .no, .no, .no, .no, .no, .no, .no, .no, .no, .no] S) = _
  rw [right_parts]
  unfold gSeq
  rw [e2]
  dsimp only [RS.bind]
  rw [eA]
  dsimp only
  rw [eB]
  dsimp only
  rw [eC]
  show cut S.length (.dat (.bl true)) (S.set j (.lst cs2) ++ [Ce.lst ds]) = _
  have hk : okTake S.length (S.set j (.lst cs2) ++ [Ce.lst ds]) = true := by
    have z := okTake_app (S := S.set j (.lst cs2)) (T := [Ce.lst ds]) (plain_set hp)
    rwa [l0] at z
  rw [cut_take hk, List.take_append_of_le_length (by rw [l0]; exact Nat.le_refl _), List.take_of_length_le (by rw [l0]; exact Nat.le_refl _)]
theorem mkAny {S : List Ce} (hp : plain S = true) {ρ : List Sl} {gD : List Sl → List Sl → List Sl} {fa fb : MA'} {xs ys : List Sl} {n a oa b ob : Int} (ha : fa ρ S = .ok xs S) (hb : fb ρ S = .ok ys S) (hg : gD (.own S.length :: xs) ys = [.own S.length, .dat (.int n), .dat (.int a), .dat (.int oa), .dat (.int b), .dat (.int ob)]) (h : okG n a oa b ob = true) :
    frzL S.length (mMake 100 gD f_Glue_DinitD fa fb ρ S) = .ok (.dat (oG n a (ordFor a oa) b (ordFor b ob))) S := by
  rw [mMake_eq, ha, RE.ok_bind, hb, RE.ok_bind, hg, init_eq hp, if_pos h, RE.ok_bind, madeS_n]
  exact frzL_ins hp rfl
theorem law_parts (n : Nat) : m_law n = gSeq (gFor 1 (mRng1 (mBlt max2F (aCons (mK (.int 1)) (aCons (mBlt min2F (aCons (mK (.int 4)) (aCons (mBlt lenF (aCons (mVar 0) aNil)) aNil))) aNil)))) bOut) bRest := rfl
theorem rest_eq {S : List Ce} {x v1 v2 v3 : Sl} (hp : plain S = true) : bRest [x, v1, v2, v3, .no, .no] S = .rt (.dat (.bl true)) S := by
  have m1 := mkAny hp (ρ := [x, v1, v2, v3, .no, .no]) (gD := g_Glue_DinitD_2_stretch_stretch_order_shrink) (fa := aCons (mK (.int 3)) aNil) (fb := aCons (mK (.int 5)) (aCons (mK (.int 1)) (aCons (mK (.int 2)) aNil))) (n := 3) (a := 5) (oa := 1) (b := 2) (ob := 0) rfl rfl rfl (by decide)
  have m2 := mkAny hp (ρ := [x, v1, v2, v3, .dat (oG 3 5 1 2 0), .no]) (gD := g_Glue_DinitD_2_stretch_shrink) (fa := aCons (mK (.int 1)) aNil) (fb := aCons (mK (.int 9)) (aCons (mK (.int 4)) aNil)) (n := 1) (a := 9) (oa := 0) (b := 4) (ob := 0) rfl rfl rfl (by decide)
  have m3 := mkAny hp (ρ := [x, v1, v2, v3, .dat (oG 3 5 1 2 0), .no]) (gD := g_Glue_DinitD_2_stretch_order) (fa := aCons (mK (.int 5)) aNil) (fb := aCons (mK (.int 2)) aNil) (n := 5) (a := 0) (oa := 2) (b := 0) (ob := 0) rfl rfl rfl (by decide)
  rw [show ordFor 5 1 = 1 by decide, show ordFor 2 0 = 0 by decide] at m1
  rw [show ordFor 9 0 = 0 by decide, show ordFor 4 0 = 0 by decide] at m2
  rw [show ordFor 0 2 = 0 by decide, show ordFor 0 0 = 0 by decide] at m3
  have a1 : f_Glue_DaddD [.dat (oG 3 5 1 2 0), .dat (oG 1 9 0 4 0)] S = .ok (.dat (oG 4 5 1 6 0)) S := by
    have e := dadd_eq hp 3 5 1 2 0 1 9 0 4 0
    rw [show addO (some (3, 5, 1, 2, 0)) (some (1, 9, 0, 4, 0)) = some (4, 5, 1, 6, 0) by decide] at e
    exact e
  have a2 : f_Glue_DmulD [.dat (oG 3 5 1 2 0), .dat (.int 2)] S = .ok (.dat (oG 6 10 1 4 0)) S := by
    have e := dmul_eq hp (n := 3) (a := 5) (oa := 1) (b := 2) (ob := 0) (m := 2) (by decide) (by decide) (by decide) (by decide)
    rw [show mulO (3, 5, 1, 2, 0) 2 = some (6, 10, 1, 4, 0) by decide] at e
    exact e
  have o1 : opoS [(100, ([2, 107], f_Glue_DaddD))] addF (.dat (oG 3 5 1 2 0)) (.dat (oG 1 9 0 4 0)) S = f_Glue_DaddD [.dat (oG 3 5 1 2 0), .dat (oG 1 9 0 4 0)] S := opoS_1 (t := 107) rfl rfl
  have o2 : opoS [(100, ([2, 107], f_Glue_DmulD))] mulF (.dat (oG 3 5 1 2 0)) (.dat (.int 2)) S = f_Glue_DmulD [.dat (oG 3 5 1 2 0), .dat (.int 2)] S := opoS_1 (t := 2) rfl rfl
  have p1 := parts_eq (S := S) 4 5 1 6 0
  have p2 := parts_eq (S := S) 6 10 1 4 0
  have p3 := parts_eq (S := S) 5 0 0 0 0
  unfold pG at p1 p2 p3
  have q := eqF_same (xs := [.lst [.int 4, .int 5, .int 1, .int 6, .int 0], .lst [.int 6, .int 10, .int 1, .int 4, .int 0], .lst [.int 5, .int 0, .int 0, .int 0, .int 0]]) rfl
  have h3 : (0 + 1 + 1 + 1 ≤ 1000) := by decide
  have h5 : (0 + 1 + 1 + 1 + 1 + 1 ≤ 1000) := by decide
  unfold bRest
  generalize mMake 100 g_Glue_DinitD_2_stretch_stretch_order_shrink f_Glue_DinitD (aCons (mK (.int 3)) aNil) (aCons (mK (.int 5)) (aCons (mK (.int 1)) (aCons (mK (.int 2)) aNil))) = X1 at *
  generalize mMake 100 g_Glue_DinitD_2_stretch_shrink f_Glue_DinitD (aCons (mK (.int 1)) aNil) (aCons (mK (.int 9)) (aCons (mK (.int 4)) aNil)) = X2 at *
  generalize mMake 100 g_Glue_DinitD_2_stretch_order f_Glue_DinitD (aCons (mK (.int 5)) aNil) (aCons (mK (.int 2)) aNil) = X3 at *
  generalize oG 3 5 1 2 0 = G1 at *
  generalize oG 1 9 0 4 0 = G2 at *
  generalize oG 4 5 1 6 0 = G3 at *
  generalize oG 6 10 1 4 0 = G4 at *
  generalize oG 5 0 0 0 0 = G5' at *
  walk_at "ev"
end Mir

set_option maxHeartbeats 4000000
namespace Mir
open PySem PySem.Spec L2
local macro_rules | `(tactic| walk_at "ev") => `(tactic| simp (disch := omega) only [*, mFld_eq, mProp_eq, mMeth_eq, mIsiO_eq, mEqO_eq, mOpO_eq, mMake_eq, madeS_n, mCallK, prpS_1, tTup_t, tLst_l, tAll_nil, tAll_cons, tN_d, mNo, gNo, eqoS_d, frzL_id, ↓chain_le, chainW_i, Int.natAbs_natCast, Int.toNat_natCast, reprV_i, reprV_s, reprV_n, reprV_b, and_self, and_true, true_and, gTry, hdl, gone, bareE, mErr, slE, List.map, if_pos, if_neg, gNil, gSeq, gIf, gRet, gRetN, gSet, gStoV, gSto, gAppV, gApp, gEx, gPar, gAug, gFor, gRaise, gRaise1, gAsg, mVar, mk_ok, mOp, mUn, mIf, mAnd, mOr, mNot, mTup, mLst, mLstO, mBlt, mCall, mMs, mSl, oNo, oSome, mFmt, mChain, mFs, fsL, aCons, aNil, tOf, tTru, tAnd, tOr, tNot, tYes', mIt, mRng1, mRng2, datas, truS_vw, truD, op1_vw, op2_vw, opN_vw, vws_nil, vws_cons,
  vw_dat, vw_own, ceD_lst, ceD_dct, asB_ok, ofO_some, ofO_none, dat'_some, dat'_none, RE.ok_bind, RE.exc_bind, RE.stuck_bind, RE.ok_toS, RE.exc_toS, RE.stuck_toS, RE.noX_ok, RS.nx_bind, RS.rt_bind, RS.bk_bind, RS.ct_bind, RS.exc_bind, RS.stuck_bind, Option.bind_some, Option.map_some, Option.bind_none, Option.map_none, cond_dec, cond_true, cond_false, List.getElem?_cons_zero, List.getElem?_cons_succ, List.set_cons_zero, List.set_cons_succ, List.replicate, List.cons_append, List.nil_append,
  atI_0, atI_1, atI_2, isNonD_non, isNonD_int, isNonD_bl, isNonD_str, isNonD_lst, isNonD_tup, isNonD_dct, isNonD_ins, if_true, if_false, ite_true, ite_false, outF_nx, outF_rt, outF_exc, ixN_0, ixN_1, ixN_2, List.length_cons, List.length_nil, List.length_set, addF_i, subF_i, addF_s, addF_l, addF_t, iaddF_i, iaddF_s, imulF_i, mulF_i, mulF_s, mulF_l, mulF_t, divF_i, modF_i, powF_i, negF_i, ltF_i, ltF_s, leF_i, leF_s, gtF_i, gtF_s, geF_i, geF_s, isF_n, isnF_n, isF_b, isnF_b, inF_s, ninF_s, ixF_l, ixF_t, ixF_q, ixF_s, lenF_s, lenF_lst, lenF_sq, lenF_tup, absF_i, max2F_i, min2F_i, intF_i, intF_b, strF_i, strF_s, reprF_d, listF_lst, tupF_lst, itD_lst, listF_sq, tupF_sq, itD_sq, listF_tup, tupF_tup, itD_tup, itD_s, divmodF_i, slF_s, slF_t, slF_l, fmtF_s, fmtF_i, startswithF_s, endswithF_s, findF_s, countF_s, stripF_s, lstripF_s, rstripF_s, rmprefixF_s, rmsuffixF_s, isalphaF_n, isdigitF_n, zfillF_i, splitF_s, strsOf_map, intsOf_map, blsOf_map, joinF_m, allF_m, anyF_m, dec_T, dec_F, cond_nd, Bool.not_true, Bool.not_false, eqF_i, eqF_s, neF_i, neF_s, rgs_0, rgs_1, rgs_2, forL_nil, forL_cons, forK_nx, forK_ct, forK_bk, forK_rt, forK_exc, isi_non_int, isi_non_bool, isi_non_str, isi_non_list, isi_non_tuple, isi_non_dict, isi_bl_int, isi_bl_bool, isi_bl_str, isi_bl_list, isi_bl_tuple, isi_bl_dict, isi_int_int, isi_int_bool, isi_int_str, isi_int_list, isi_int_tuple, isi_int_dict, isi_str_int, isi_str_bool, isi_str_str, isi_str_list, isi_str_tuple, isi_str_dict, isi_lst_int, isi_lst_bool, isi_lst_str, isi_lst_list, isi_lst_tuple, isi_lst_dict, isi_tup_int, isi_tup_bool, isi_tup_str, isi_tup_list, isi_tup_tuple, isi_tup_dict, isi_dct_int, isi_dct_bool, isi_dct_str, isi_dct_list, isi_dct_tuple, isi_dct_dict])





theorem try_eq {S : List Ce} {j N : Nat} {cs : List D} {x v1 v3 : Sl} (hp : plain S = true) (hS : S[j]? = some (.lst cs)) (hd : Dice cs N) (hN : N < 10 ^ 7) : ∃ cs', Dice cs' (N + 100) ∧ bTry [x, v1, .own j, v3, .no, .no] S = .nx [x, v1, .own j, v3, .no, .no] (S.set j (.lst cs')) := by
  obtain ⟨cs', hd', e⟩ := right_eq hp hS hd hN
  refine ⟨cs', hd', ?_⟩
  unfold bTry
  clear hd hd'
  walk_at "ev"
theorem out_eq {S : List Ce} {ns : List Int} {i : Nat} {v2 v3 : Sl} (hp : plain S = true) (hn : ns.length ≤ 63) (hi : i ≤ 63) : ∃ S' w2 w3, bOut [.dat (.sq (ns.map .int)), .dat (.int i), v2, v3, .no, .no] S = .nx [.dat (.sq (ns.map .int)), .dat (.int i), w2, w3, .no, .no] S' ∧ plain S' = true := by
  obtain ⟨cs0, e0, hd0⟩ := dice_eq (S := S) hp hn hi
  have hp0 : plain (S ++ [Ce.lst cs0]) = true := by unfold plain at *; rw [List.all_append, hp]; rfl
  have g0 : (S ++ [Ce.lst cs0])[S.length]? = some (.lst cs0) := by simp
  have hL : S.length < (S ++ [Ce.lst cs0]).length := by simp
  have g1 : ∀ c : Ce, ((S ++ [Ce.lst cs0]).set S.length c)[S.length]? = some c := fun c => List.getElem?_set_self hL
  obtain ⟨cs1, hd1, e1⟩ := try_eq (x := .dat (.sq (ns.map .int))) (v1 := .dat (.int i)) (v3 := .dat (.int 0)) hp0 g0 hd0 (by omega)
  obtain ⟨cs2, hd2, e2⟩ := try_eq (x := .dat (.sq (ns.map .int))) (v1 := .dat (.int i)) (v3 := .dat (.int 1)) (plain_set hp0) (g1 (.lst cs1)) hd1 (by omega)
  rw [List.set_set] at e2
  obtain ⟨cs3, hd3, e3⟩ := try_eq (x := .dat (.sq (ns.map .int))) (v1 := .dat (.int i)) (v3 := .dat (.int 2)) (plain_set hp0) (g1 (.lst cs2)) hd2 (by omega)
  rw [List.set_set] at e3
  refine ⟨(S ++ [Ce.lst cs0]).set S.length (.lst cs3), .own S.length, .dat (.int 2), ?_, plain_set hp0⟩
  have n3 : Int.natAbs 3 ≤ 4000000000000000000 := by decide
  have r3 : Int.toNat 3 = 3 := rfl
  have rg : rgs 0 3 = [.int 0, .int 1, .int 2] := rfl
  unfold bOut
  have hb : (gIf (tNot (tTru (mCall f__law_right (aCons (mVar 2) aNil)))) (gRet (mK (.bl false))) gNil) = bTry := rfl
  rw [hb]
  generalize bTry = B at *
  clear hb hd0 hd1 hd2 hd3
  walk_at "ev"
theorem lawTrue (ns : List Int) (h : ns.length ≤ 63) : ∃ S', f_law [.dat (.sq (ns.map .int))] [] = .ok (.dat (.bl true)) S' := by
  obtain ⟨m, hm⟩ : ∃ m : Nat, (if (if (ns.length : Int) < 4 then (ns.length : Int) else 4) > 1 then (if (ns.length : Int) < 4 then (ns.length : Int) else 4) else 1) = (m : Int) ∧ m ≤ 4 :=
    ⟨(if (if (ns.length : Int) < 4 then (ns.length : Int) else 4) > 1 then (if (ns.length : Int) < 4 then (ns.length : Int) else 4) else 1 : Int).toNat, by omega, by omega⟩
  have hit : (mRng1 (mBlt max2F (aCons (mK (.int 1)) (aCons (mBlt min2F (aCons (mK (.int 4)) (aCons (mBlt lenF (aCons (mVar 0) aNil)) aNil))) aNil)))) [.dat (.sq (ns.map .int)), .no, .no, .no, .no, .no] [] = .ok (rgs 0 m) [] := by
    have hl : (ns.map D.int).length = ns.length := List.length_map _
    have hm1 := hm.1
    have b4 : m ≤ 4000000000000000000 := by omega
    clear hm
    unfold mRng1
    simp only [mBlt, opN, vws, vw, vws_nil, vws_cons, aCons, aNil, mK, mVar, RE.ok_bind, List.getElem?_cons_zero, Option.bind_some, Option.map_some, dat'_some, lenF_sq, min2F_i, max2F_i, hl, hm1, Int.natAbs_natCast, b4, if_true, Int.toNat_natCast]
  obtain ⟨ρ', S', el, ⟨w1, w2, w3, rfl, hp⟩⟩ := forL_inv (j := 1) (g := bOut) (fun n ρ S => ∃ w1 w2 w3, ρ = [.dat (.sq (ns.map .int)), w1, w2, w3, .no, .no] ∧ plain S = true) (rgs 0 m) 0 [.dat (.sq (ns.map .int)), .no, .no, .no, .no, .no] [] ⟨_, _, _, rfl, rfl⟩ (fun k d hk ρ T hI => by
    obtain ⟨w1, w2, w3, rfl, hpT⟩ := hI
    have hk6 : k < m := by have := (List.getElem?_eq_some_iff.mp hk).1; rw [rgs_len] at this; exact this
    rw [rgs_get hk6, Int.zero_add] at hk
    cases hk
    obtain ⟨T', u2, u3, et, hpT'⟩ := out_eq (v2 := w2) (v3 := w3) hpT h (show k ≤ 63 by omega)
    exact ⟨_, _, et, ⟨_, _, _, rfl, hpT'⟩⟩)
  have hr := rest_eq (x := .dat (.sq (ns.map .int))) (v1 := w1) (v2 := w2) (v3 := w3) hp
  obtain ⟨S2, hc⟩ := cut_ex 0 (.bl true) S'
  refine ⟨S2, ?_⟩
  show outF 0 (m_law 0 [.dat (.sq (ns.map .int)), .no, .no, .no, .no, .no] []) = _
  rw [law_parts]
  unfold gSeq gFor
  rw [hit]
  show outF 0 ((forL 1 bOut (rgs 0 m) _ []).bind bRest) = _
  rw [el]
  show outF 0 (bRest _ S') = _
  rw [hr]
  exact hc
end Mir

set_option maxHeartbeats 4000000
namespace Mir
open PySem PySem.Spec L2
/-! the facts of the written part, the law -/
theorem kwc_nil {α : Type} {D : Addr} {t : Sem α} {r : α} (h : t = pure r) : KwChain D [] t r := h
theorem vs_tup {K : PySem.W.Frag} {a : Addr} {o : Option Addr} {its : Array Value} {n : Nat} {sl : Array (Option Value)} {vs : List V} {G : Hp} (hl : K.lookup a = some ⟨.type "tuple", o, .seq its n, sl⟩) (hz : its.size ≤ sizeLine) (hv : Vals vs its.toList) : SqT K G a vs := .inr ⟨_, its, n, hl, rfl, rfl, hz, hv⟩
def spEnd (K : PySem.W.Frag) : Sp := fun vs H Q _ => ∃ (a : Addr) (ns : List Int), vs = [.ref a] ∧ ns.length ≤ 63 ∧ SqL K H a (ns.map V.int) ∧ ∀ H', Q (.bl true) H'
theorem end_of [CM : ClsMap] {P : Program} {w : World} {K : PySem.W.Frag} {mg : Str → Option Value} {base : Heap} {k : Nat} {f : Addr} (h : RunG P w K mg base k f (spM K 1 f_law)) : RunG P w K mg base k f (spEnd K) := fun A outer s H us vs Q E hr hG e0 r hs => by
  obtain ⟨a, ns, rfl, hl, hS, q⟩ := hs
  refine h A outer s H us _ Q E hr hG e0 r ⟨H, [], [], [.dat (.sq (ns.map .int))], rfl, ⟨Ex.refl H, Ex.refl H, fun _ _ _ e => e, fun _ _ e => .inl e, List.prefix_refl _, List.nodup_nil, fun _ h => (nomatch h), fun _ h => (nomatch h), rfl, rfl, fun _ _ h => by simp at h, fun _ _ _ h => by simp at h⟩, .cons (.dat (.sq hS (ints_at ns))) .nil, ?_⟩
  obtain ⟨S', e⟩ := lawTrue ns hl
  rw [e]
  intro v G' ps' H' o av
  cases av with | dat av => cases av; exact q H'
theorem bk_g_Glue_DinitD_2_stretch_shrink {K : PySem.W.Frag} {fn : Addr} {fd : FuncData} (F : FunD K "__init__" "Glue.__init__" (defArgs s_Glue_DinitD) (defBody s_Glue_DinitD) (defScope s_Glue_DinitD) [] [("stretch", .int 0), ("stretch_order", .int 0), ("shrink", .int 0), ("shrink_order", .int 0)] fn fd) [CM : ClsMap] : BindK K fd ["self", "natural", "stretch", "stretch_order", "shrink", "shrink_order"] 2 ["stretch", "shrink"] 6 g_Glue_DinitD_2_stretch_shrink := by
  obtain ⟨mv, kb⟩ := F.kbinds0 (ps := ["self", "natural", "stretch", "stretch_order", "shrink", "shrink_order"]) 2 ["stretch", "shrink"] [("stretch_order", .int 0), ("shrink_order", .int 0)] (fun {α} us mv ws => (us[0]?).toList ++ ((us[1]?).toList ++ ((ws[0]?).toList ++ ((mv[0]?).toList ++ ((ws[1]?).toList ++ ((mv[1]?).toList)))))) (by simp) (fun z hz => by simp only [List.mem_cons, List.not_mem_nil, or_false] at hz ⊢; rcases hz with rfl | rfl <;> simp) (fun r1 r2 r3 => ((Mir.Vals.at r1 0).append ((Mir.Vals.at r1 1).append ((Mir.Vals.at r3 0).append ((Mir.Vals.at r2 0).append ((Mir.Vals.at r3 1).append (Mir.Vals.at r2 1)))))))
    (fun D doc pm an cdv ct us mv ws l1 l2 l3 => match us, l1, mv, l2, ws, l3 with | [u0, u1], _, [v0, v1], _, [w0, w1], _ => ⟨_, _, _, _, _, _, rfl, rfl, _, _, _, _, _, _, rfl, rfl, kwc_nil rfl⟩)
  refine ⟨⟨_, _, kb, fun G pl vs zs as bs l1 l2 a1 a2 => ?_⟩, fun as bs l1 l2 => match as, l1, bs, l2 with | [x0, x1], _, [y0, y1], _ => rfl⟩
  match as, l1, bs, l2 with
  | [x0, x1], _, [y0, y1], _ =>
    cases a1 with | cons h0 a1 =>
    cases a1 with | cons h1 a1 =>
    cases a1
    cases a2 with | cons k0 a2 =>
    cases a2 with | cons k1 a2 =>
    cases a2
    exact .cons h0 (.cons h1 (.cons k0 (.cons (.dat (.int _)) (.cons k1 (.cons (.dat (.int _)) (.nil))))))

theorem bk_g_Glue_DinitD_2_stretch_stretch_order_shrink {K : PySem.W.Frag} {fn : Addr} {fd : FuncData} (F : FunD K "__init__" "Glue.__init__" (defArgs s_Glue_DinitD) (defBody s_Glue_DinitD) (defScope s_Glue_DinitD) [] [("stretch", .int 0), ("stretch_order", .int 0), ("shrink", .int 0), ("shrink_order", .int 0)] fn fd) [CM : ClsMap] : BindK K fd ["self", "natural", "stretch", "stretch_order", "shrink", "shrink_order"] 2 ["stretch", "stretch_order", "shrink"] 6 g_Glue_DinitD_2_stretch_stretch_order_shrink := by
  obtain ⟨mv, kb⟩ := F.kbinds0 (ps := ["self", "natural", "stretch", "stretch_order", "shrink", "shrink_order"]) 2 ["stretch", "stretch_order", "shrink"] [("shrink_order", .int 0)] (fun {α} us mv ws => (us[0]?).toList ++ ((us[1]?).toList ++ ((ws[0]?).toList ++ ((ws[1]?).toList ++ ((ws[2]?).toList ++ ((mv[0]?).toList)))))) (by simp) (fun z hz => by simp only [List.mem_cons, List.not_mem_nil, or_false] at hz ⊢; rcases hz with rfl <;> simp) (fun r1 r2 r3 => ((Mir.Vals.at r1 0).append ((Mir.Vals.at r1 1).append ((Mir.Vals.at r3 0).append ((Mir.Vals.at r3 1).append ((Mir.Vals.at r3 2).append (Mir.Vals.at r2 0)))))))
    (fun D doc pm an cdv ct us mv ws l1 l2 l3 => match us, l1, mv, l2, ws, l3 with | [u0, u1], _, [v0], _, [w0, w1, w2], _ => ⟨_, _, _, _, _, _, rfl, rfl, kwc_nil rfl⟩)
  refine ⟨⟨_, _, kb, fun G pl vs zs as bs l1 l2 a1 a2 => ?_⟩, fun as bs l1 l2 => match as, l1, bs, l2 with | [x0, x1], _, [y0, y1, y2], _ => rfl⟩
  match as, l1, bs, l2 with
  | [x0, x1], _, [y0, y1, y2], _ =>
    cases a1 with | cons h0 a1 =>
    cases a1 with | cons h1 a1 =>
    cases a1
    cases a2 with | cons k0 a2 =>
    cases a2 with | cons k1 a2 =>
    cases a2 with | cons k2 a2 =>
    cases a2
    exact .cons h0 (.cons h1 (.cons k0 (.cons k1 (.cons k2 (.cons (.dat (.int _)) (.nil))))))

theorem bk_g_Glue_DinitD_2_stretch_stretch_order_shrink_shrink_order {K : PySem.W.Frag} {fn : Addr} {fd : FuncData} (F : FunD K "__init__" "Glue.__init__" (defArgs s_Glue_DinitD) (defBody s_Glue_DinitD) (defScope s_Glue_DinitD) [] [("stretch", .int 0), ("stretch_order", .int 0), ("shrink", .int 0), ("shrink_order", .int 0)] fn fd) [CM : ClsMap] : BindK K fd ["self", "natural", "stretch", "stretch_order", "shrink", "shrink_order"] 2 ["stretch", "stretch_order", "shrink", "shrink_order"] 6 g_Glue_DinitD_2_stretch_stretch_order_shrink_shrink_order := by
  obtain ⟨mv, kb⟩ := F.kbinds0 (ps := ["self", "natural", "stretch", "stretch_order", "shrink", "shrink_order"]) 2 ["stretch", "stretch_order", "shrink", "shrink_order"] [] (fun {α} us mv ws => (us[0]?).toList ++ ((us[1]?).toList ++ ((ws[0]?).toList ++ ((ws[1]?).toList ++ ((ws[2]?).toList ++ ((ws[3]?).toList)))))) (by simp) (fun z hz => by simp at hz) (fun r1 r2 r3 => ((Mir.Vals.at r1 0).append ((Mir.Vals.at r1 1).append ((Mir.Vals.at r3 0).append ((Mir.Vals.at r3 1).append ((Mir.Vals.at r3 2).append (Mir.Vals.at r3 3)))))))
    (fun D doc pm an cdv ct us mv ws l1 l2 l3 => match us, l1, mv, l2, ws, l3 with | [u0, u1], _, [], _, [w0, w1, w2, w3], _ => kwc_nil rfl)
  refine ⟨⟨_, _, kb, fun G pl vs zs as bs l1 l2 a1 a2 => ?_⟩, fun as bs l1 l2 => match as, l1, bs, l2 with | [x0, x1], _, [y0, y1, y2, y3], _ => rfl⟩
  match as, l1, bs, l2 with
  | [x0, x1], _, [y0, y1, y2, y3], _ =>
    cases a1 with | cons h0 a1 =>
    cases a1 with | cons h1 a1 =>
    cases a1
    cases a2 with | cons k0 a2 =>
    cases a2 with | cons k1 a2 =>
    cases a2 with | cons k2 a2 =>
    cases a2 with | cons k3 a2 =>
    cases a2
    exact .cons h0 (.cons h1 (.cons k0 (.cons k1 (.cons k2 (.cons k3 (.nil))))))

theorem bk_g_Glue_DinitD_2_stretch_order {K : PySem.W.Frag} {fn : Addr} {fd : FuncData} (F : FunD K "__init__" "Glue.__init__" (defArgs s_Glue_DinitD) (defBody s_Glue_DinitD) (defScope s_Glue_DinitD) [] [("stretch", .int 0), ("stretch_order", .int 0), ("shrink", .int 0), ("shrink_order", .int 0)] fn fd) [CM : ClsMap] : BindK K fd ["self", "natural", "stretch", "stretch_order", "shrink", "shrink_order"] 2 ["stretch_order"] 6 g_Glue_DinitD_2_stretch_order := by
  obtain ⟨mv, kb⟩ := F.kbinds0 (ps := ["self", "natural", "stretch", "stretch_order", "shrink", "shrink_order"]) 2 ["stretch_order"] [("stretch", .int 0), ("shrink", .int 0), ("shrink_order", .int 0)] (fun {α} us mv ws => (us[0]?).toList ++ ((us[1]?).toList ++ ((mv[0]?).toList ++ ((ws[0]?).toList ++ ((mv[1]?).toList ++ ((mv[2]?).toList)))))) (by simp) (fun z hz => by simp only [List.mem_cons, List.not_mem_nil, or_false] at hz ⊢; rcases hz with rfl | rfl | rfl <;> simp) (fun r1 r2 r3 => ((Mir.Vals.at r1 0).append ((Mir.Vals.at r1 1).append ((Mir.Vals.at r2 0).append ((Mir.Vals.at r3 0).append ((Mir.Vals.at r2 1).append (Mir.Vals.at r2 2)))))))
    (fun D doc pm an cdv ct us mv ws l1 l2 l3 => match us, l1, mv, l2, ws, l3 with | [u0, u1], _, [v0, v1, v2], _, [w0], _ => ⟨_, _, _, _, _, _, rfl, rfl, _, _, _, _, _, _, rfl, rfl, _, _, _, _, _, _, rfl, rfl, kwc_nil rfl⟩)
  refine ⟨⟨_, _, kb, fun G pl vs zs as bs l1 l2 a1 a2 => ?_⟩, fun as bs l1 l2 => match as, l1, bs, l2 with | [x0, x1], _, [y0], _ => rfl⟩
  match as, l1, bs, l2 with
  | [x0, x1], _, [y0], _ =>
    cases a1 with | cons h0 a1 =>
    cases a1 with | cons h1 a1 =>
    cases a1
    cases a2 with | cons k0 a2 =>
    cases a2
    exact .cons h0 (.cons h1 (.cons (.dat (.int _)) (.cons k0 (.cons (.dat (.int _)) (.cons (.dat (.int _)) (.nil))))))

theorem all_mk {l : PySem.W.OpenLaw} {w : World} {K : PySem.W.Frag} {h : Heap} {mg : Str → Option Value} {fa : Addr} (X : K.In h) (G : h.Ns mainGlobals mg) (hfa : mg "law" = some (.ref fa))
    {C_Glue : Addr}
    {f0 : Addr} {od0 an0 : Option Addr} {sl0 : Array (Option Value)} {oc0 dc0 pm0 cd0 ct0 : Value}
    {kV0 : Value}
    {f1 : Addr} {od1 an1 : Option Addr} {sl1 : Array (Option Value)} {oc1 dc1 pm1 cd1 ct1 : Value}
    {kV1 : Value}
    {f2 : Addr} {od2 an2 : Option Addr} {sl2 : Array (Option Value)} {oc2 dc2 pm2 cd2 ct2 : Value}
    {kV2 : Value}
    {f3 : Addr} {od3 an3 : Option Addr} {sl3 : Array (Option Value)} {oc3 dc3 pm3 cd3 ct3 : Value}
    {kV3 : Value}
    {f4 : Addr} {od4 an4 : Option Addr} {sl4 : Array (Option Value)} {oc4 dc4 pm4 cd4 ct4 : Value}
    {kV4 : Value}
    {f5 : Addr} {od5 an5 : Option Addr} {sl5 : Array (Option Value)} {oc5 dc5 pm5 cd5 ct5 : Value}
    {kV5 : Value}
    {f6 : Addr} {od6 an6 : Option Addr} {sl6 : Array (Option Value)} {oc6 dc6 pm6 cd6 ct6 : Value}
    {kV6 : Value}
    {f7 : Addr} {od7 an7 : Option Addr} {sl7 : Array (Option Value)} {oc7 dc7 pm7 cd7 ct7 : Value}
    {p7 : Addr} {rs7 : List Value}
    {kV7 : Value}
    {f8 : Addr} {od8 an8 : Option Addr} {sl8 : Array (Option Value)} {oc8 dc8 pm8 cd8 ct8 : Value}
    {p8 : Addr} {rs8 : List Value}
    {kV8 : Value}
    {f9 : Addr} {od9 an9 : Option Addr} {sl9 : Array (Option Value)} {oc9 dc9 pm9 cd9 ct9 : Value}
    {p9 : Addr} {rs9 : List Value}
    {kV9 : Value}
    {f10 : Addr} {od10 an10 : Option Addr} {sl10 : Array (Option Value)} {oc10 dc10 pm10 cd10 ct10 : Value}
    {p10 : Addr} {rs10 : List Value}
    {kV10 : Value}
    {f11 : Addr} {od11 an11 : Option Addr} {sl11 : Array (Option Value)} {oc11 dc11 pm11 cd11 ct11 : Value}
    {p11 : Addr} {rs11 : List Value}
    {kV11 : Value}
    {f12 : Addr} {od12 an12 : Option Addr} {sl12 : Array (Option Value)} {oc12 dc12 pm12 cd12 ct12 : Value}
    {kV12 : Value}
    {f13 : Addr} {od13 an13 : Option Addr} {sl13 : Array (Option Value)} {oc13 dc13 pm13 cd13 ct13 : Value}
    {kV13 : Value}
    {f14 : Addr} {od14 an14 : Option Addr} {sl14 : Array (Option Value)} {oc14 dc14 pm14 cd14 ct14 : Value}
    {kV14 : Value}
    {f15 : Addr} {od15 an15 : Option Addr} {sl15 : Array (Option Value)} {oc15 dc15 pm15 cd15 ct15 : Value}
    {kV15 : Value}
    {f16 : Addr} {od16 an16 : Option Addr} {sl16 : Array (Option Value)} {oc16 dc16 pm16 cd16 ct16 : Value}
    {kV16 : Value}
    {f17 : Addr} {od17 an17 : Option Addr} {sl17 : Array (Option Value)} {oc17 dc17 pm17 cd17 ct17 : Value}
    {kV17 : Value}
    {f18 : Addr} {od18 an18 : Option Addr} {sl18 : Array (Option Value)} {oc18 dc18 pm18 cd18 ct18 : Value}
    {kV18 : Value}
    {f19 : Addr} {od19 an19 : Option Addr} {sl19 : Array (Option Value)} {oc19 dc19 pm19 cd19 ct19 : Value}
    {kV19 : Value}
    {f20 : Addr} {od20 an20 : Option Addr} {sl20 : Array (Option Value)} {oc20 dc20 pm20 cd20 ct20 : Value}
    {kV20 : Value}
    {f21 : Addr} {od21 an21 : Option Addr} {sl21 : Array (Option Value)} {oc21 dc21 pm21 cd21 ct21 : Value}
    {kV21 : Value}
    {f22 : Addr} {od22 an22 : Option Addr} {sl22 : Array (Option Value)} {oc22 dc22 pm22 cd22 ct22 : Value}
    {kV22 : Value}
    {f23 : Addr} {od23 an23 : Option Addr} {sl23 : Array (Option Value)} {oc23 dc23 pm23 cd23 ct23 : Value}
    {dK23 : Addr}
    {f24 : Addr} {od24 an24 : Option Addr} {sl24 : Array (Option Value)} {oc24 dc24 pm24 cd24 ct24 : Value}
    {kV24 : Value}
    {f25 : Addr} {od25 an25 : Option Addr} {sl25 : Array (Option Value)} {oc25 dc25 pm25 cd25 ct25 : Value}
    {kV25 : Value}
    {f26 : Addr} {od26 an26 : Option Addr} {sl26 : Array (Option Value)} {oc26 dc26 pm26 cd26 ct26 : Value}
    {kV26 : Value}
    {f27 : Addr} {od27 an27 : Option Addr} {sl27 : Array (Option Value)} {oc27 dc27 pm27 cd27 ct27 : Value}
    {kV27 : Value}
    {f28 : Addr} {od28 an28 : Option Addr} {sl28 : Array (Option Value)} {oc28 dc28 pm28 cd28 ct28 : Value}
    {kV28 : Value}
    {f29 : Addr} {od29 an29 : Option Addr} {sl29 : Array (Option Value)} {oc29 dc29 pm29 cd29 ct29 : Value}
    {kV29 : Value}
    {f30 : Addr} {od30 an30 : Option Addr} {sl30 : Array (Option Value)} {oc30 dc30 pm30 cd30 ct30 : Value}
    {kV30 : Value}
    {tk1 : Tok}
    {tk2 : Tok}
    {tk3 : Tok}
    {tk4 : Tok}
    {tk5 : Tok}
    {tk6 : Tok}
    {tk7 : Tok}
    {tk8 : Tok}
    {tk9 : Tok}
    {tk10 : Tok}
    {tr11 : Addr} {to11 : Option Addr} {tn11 : Nat} {ts11 : Array (Option Value)}
    {C_PressError : Addr}
    {C_InvalidLength : Addr}
    {C_InvalidGlue : Addr}
    {fo_Glue_add ro_Glue_add : Option Value}
    {fo_Glue_mul ro_Glue_mul : Option Value}
    (ea_Glue : PySem.W.nsIn K mainGlobals "Glue" = some (some (.ref C_Glue)))
    (pg_Glue : PySem.W.plainGet K C_Glue Str.empty = true)
    (hd_Glue : PySem.W.hasDictIn K C_Glue = true)
    (po_Glue : PySem.W.plainOver K C_Glue = true)
    (sa_Glue : PySem.W.findIn K (.ref C_Glue) "__setattr__" = some (some (.builtin "object.__setattr__")))
    (mk_Glue : PySem.W.makesIn K C_Glue = true)
    (kc_Glue : PySem.W.keepIn K (.ref C_Glue) = true)
    (hn_cls : PySem.W.specialIn K (.builtin "object.__class__") "__get__" = some (some (.builtin "getset_descriptor.__get__")))
    (ht_cls : PySem.W.takesIn K (.builtin "object.__class__") = some true)
    (ha_Glue : PySem.W.findIn K (.ref C_Glue) "__class__" = some (some (.builtin "object.__class__")))
    (hm_Glue : PySem.W.mroIn K C_Glue (.type "object") = some true)
    (kt_Glue_0 : PySem.W.kitOne K (.type "NoneType") (.ref C_Glue) = some false)
    (kt_Glue_1 : PySem.W.kitOne K (.type "bool") (.ref C_Glue) = some false)
    (kt_Glue_2 : PySem.W.kitOne K (.type "int") (.ref C_Glue) = some false)
    (kt_Glue_3 : PySem.W.kitOne K (.type "str") (.ref C_Glue) = some false)
    (kt_Glue_4 : PySem.W.kitOne K (.type "list") (.ref C_Glue) = some false)
    (kt_Glue_5 : PySem.W.kitOne K (.type "tuple") (.ref C_Glue) = some false)
    (kt_Glue_6 : PySem.W.kitOne K (.type "dict") (.ref C_Glue) = some false)
    (kt_Glue_Glue : PySem.W.kitOne K (.ref C_Glue) (.ref C_Glue) = some true)
    (a0 : PySem.W.nsIn K mainGlobals "is_int" = some (some (.ref f0)))
    (l0 : K.lookup f0 = some ⟨oc0, od0, .func (PySem.W.fnOf "is_int" "is_int" (defArgs s_is_int) (defBody s_is_int) (defScope s_is_int) .none kV0 dc0 pm0 an0 cd0 ct0), sl0⟩)
    (c0 : PySem.W.codeIn K cd0 "is_int" = true)
    (k0 : PySem.W.keepIn K (.ref f0) = true)
    (a1 : PySem.W.nsIn K mainGlobals "order_for" = some (some (.ref f1)))
    (l1 : K.lookup f1 = some ⟨oc1, od1, .func (PySem.W.fnOf "order_for" "order_for" (defArgs s_order_for) (defBody s_order_for) (defScope s_order_for) .none kV1 dc1 pm1 an1 cd1 ct1), sl1⟩)
    (c1 : PySem.W.codeIn K cd1 "order_for" = true)
    (k1 : PySem.W.keepIn K (.ref f1) = true)
    (a2 : PySem.W.nsIn K mainGlobals "joined" = some (some (.ref f2)))
    (l2 : K.lookup f2 = some ⟨oc2, od2, .func (PySem.W.fnOf "joined" "joined" (defArgs s_joined) (defBody s_joined) (defScope s_joined) .none kV2 dc2 pm2 an2 cd2 ct2), sl2⟩)
    (c2 : PySem.W.codeIn K cd2 "joined" = true)
    (k2 : PySem.W.keepIn K (.ref f2) = true)
    (a3 : PySem.W.nsIn K mainGlobals "_law_dice" = some (some (.ref f3)))
    (l3 : K.lookup f3 = some ⟨oc3, od3, .func (PySem.W.fnOf "_law_dice" "_law_dice" (defArgs s__law_dice) (defBody s__law_dice) (defScope s__law_dice) .none kV3 dc3 pm3 an3 cd3 ct3), sl3⟩)
    (c3 : PySem.W.codeIn K cd3 "_law_dice" = true)
    (k3 : PySem.W.keepIn K (.ref f3) = true)
    (a4 : PySem.W.nsIn K mainGlobals "_law_roll" = some (some (.ref f4)))
    (l4 : K.lookup f4 = some ⟨oc4, od4, .func (PySem.W.fnOf "_law_roll" "_law_roll" (defArgs s__law_roll) (defBody s__law_roll) (defScope s__law_roll) .none kV4 dc4 pm4 an4 cd4 ct4), sl4⟩)
    (c4 : PySem.W.codeIn K cd4 "_law_roll" = true)
    (k4 : PySem.W.keepIn K (.ref f4) = true)
    (a5 : PySem.W.nsIn K mainGlobals "_law_fair" = some (some (.ref f5)))
    (l5 : K.lookup f5 = some ⟨oc5, od5, .func (PySem.W.fnOf "_law_fair" "_law_fair" (defArgs s__law_fair) (defBody s__law_fair) (defScope s__law_fair) .none kV5 dc5 pm5 an5 cd5 ct5), sl5⟩)
    (c5 : PySem.W.codeIn K cd5 "_law_fair" = true)
    (k5 : PySem.W.keepIn K (.ref f5) = true)
    (a6 : PySem.W.nsIn K mainGlobals "_law_both" = some (some (.ref f6)))
    (l6 : K.lookup f6 = some ⟨oc6, od6, .func (PySem.W.fnOf "_law_both" "_law_both" (defArgs s__law_both) (defBody s__law_both) (defScope s__law_both) .none kV6 dc6 pm6 an6 cd6 ct6), sl6⟩)
    (c6 : PySem.W.codeIn K cd6 "_law_both" = true)
    (k6 : PySem.W.keepIn K (.ref f6) = true)
    (a7 : PySem.W.findIn K (.ref C_Glue) "natural" = some (some (.ref p7)))
    (pg7 : PySem.W.specialIn K (.ref p7) "__get__" = some (some (.builtin "property.__get__")))
    (pt7 : PySem.W.takesIn K (.ref p7) = some true)
    (pr7 : PySem.W.recIn K p7 "property" = some (.ref f7 :: rs7))
    (l7 : K.lookup f7 = some ⟨oc7, od7, .func (PySem.W.fnOf "natural" "Glue.natural" (defArgs s_Glue_natural) (defBody s_Glue_natural) (defScope s_Glue_natural) .none kV7 dc7 pm7 an7 cd7 ct7), sl7⟩)
    (c7 : PySem.W.codeIn K cd7 "Glue.natural" = true)
    (k7 : PySem.W.keepIn K (.ref f7) = true)
    (a8 : PySem.W.findIn K (.ref C_Glue) "stretch" = some (some (.ref p8)))
    (pg8 : PySem.W.specialIn K (.ref p8) "__get__" = some (some (.builtin "property.__get__")))
    (pt8 : PySem.W.takesIn K (.ref p8) = some true)
    (pr8 : PySem.W.recIn K p8 "property" = some (.ref f8 :: rs8))
    (l8 : K.lookup f8 = some ⟨oc8, od8, .func (PySem.W.fnOf "stretch" "Glue.stretch" (defArgs s_Glue_stretch) (defBody s_Glue_stretch) (defScope s_Glue_stretch) .none kV8 dc8 pm8 an8 cd8 ct8), sl8⟩)
    (c8 : PySem.W.codeIn K cd8 "Glue.stretch" = true)
    (k8 : PySem.W.keepIn K (.ref f8) = true)
    (a9 : PySem.W.findIn K (.ref C_Glue) "stretch_order" = some (some (.ref p9)))
    (pg9 : PySem.W.specialIn K (.ref p9) "__get__" = some (some (.builtin "property.__get__")))
    (pt9 : PySem.W.takesIn K (.ref p9) = some true)
    (pr9 : PySem.W.recIn K p9 "property" = some (.ref f9 :: rs9))
    (l9 : K.lookup f9 = some ⟨oc9, od9, .func (PySem.W.fnOf "stretch_order" "Glue.stretch_order" (defArgs s_Glue_stretch_order) (defBody s_Glue_stretch_order) (defScope s_Glue_stretch_order) .none kV9 dc9 pm9 an9 cd9 ct9), sl9⟩)
    (c9 : PySem.W.codeIn K cd9 "Glue.stretch_order" = true)
    (k9 : PySem.W.keepIn K (.ref f9) = true)
    (a10 : PySem.W.findIn K (.ref C_Glue) "shrink" = some (some (.ref p10)))
    (pg10 : PySem.W.specialIn K (.ref p10) "__get__" = some (some (.builtin "property.__get__")))
    (pt10 : PySem.W.takesIn K (.ref p10) = some true)
    (pr10 : PySem.W.recIn K p10 "property" = some (.ref f10 :: rs10))
    (l10 : K.lookup f10 = some ⟨oc10, od10, .func (PySem.W.fnOf "shrink" "Glue.shrink" (defArgs s_Glue_shrink) (defBody s_Glue_shrink) (defScope s_Glue_shrink) .none kV10 dc10 pm10 an10 cd10 ct10), sl10⟩)
    (c10 : PySem.W.codeIn K cd10 "Glue.shrink" = true)
    (k10 : PySem.W.keepIn K (.ref f10) = true)
    (a11 : PySem.W.findIn K (.ref C_Glue) "shrink_order" = some (some (.ref p11)))
    (pg11 : PySem.W.specialIn K (.ref p11) "__get__" = some (some (.builtin "property.__get__")))
    (pt11 : PySem.W.takesIn K (.ref p11) = some true)
    (pr11 : PySem.W.recIn K p11 "property" = some (.ref f11 :: rs11))
    (l11 : K.lookup f11 = some ⟨oc11, od11, .func (PySem.W.fnOf "shrink_order" "Glue.shrink_order" (defArgs s_Glue_shrink_order) (defBody s_Glue_shrink_order) (defScope s_Glue_shrink_order) .none kV11 dc11 pm11 an11 cd11 ct11), sl11⟩)
    (c11 : PySem.W.codeIn K cd11 "Glue.shrink_order" = true)
    (k11 : PySem.W.keepIn K (.ref f11) = true)
    (a12 : PySem.W.findIn K (.ref C_Glue) "_parts" = some (some (.ref f12)))
    (l12 : K.lookup f12 = some ⟨oc12, od12, .func (PySem.W.fnOf "_parts" "Glue._parts" (defArgs s_Glue__parts) (defBody s_Glue__parts) (defScope s_Glue__parts) .none kV12 dc12 pm12 an12 cd12 ct12), sl12⟩)
    (c12 : PySem.W.codeIn K cd12 "Glue._parts" = true)
    (k12 : PySem.W.keepIn K (.ref f12) = true)
    (fn12 : PySem.W.isFn K (.ref f12) = true)
    (a13 : PySem.W.nsIn K mainGlobals "is_length" = some (some (.ref f13)))
    (l13 : K.lookup f13 = some ⟨oc13, od13, .func (PySem.W.fnOf "is_length" "is_length" (defArgs s_is_length) (defBody s_is_length) (defScope s_is_length) .none kV13 dc13 pm13 an13 cd13 ct13), sl13⟩)
    (c13 : PySem.W.codeIn K cd13 "is_length" = true)
    (k13 : PySem.W.keepIn K (.ref f13) = true)
    (a14 : PySem.W.nsIn K mainGlobals "is_order" = some (some (.ref f14)))
    (l14 : K.lookup f14 = some ⟨oc14, od14, .func (PySem.W.fnOf "is_order" "is_order" (defArgs s_is_order) (defBody s_is_order) (defScope s_is_order) .none kV14 dc14 pm14 an14 cd14 ct14), sl14⟩)
    (c14 : PySem.W.codeIn K cd14 "is_order" = true)
    (k14 : PySem.W.keepIn K (.ref f14) = true)
    (a15 : PySem.W.nsIn K mainGlobals "_law_pick" = some (some (.ref f15)))
    (l15 : K.lookup f15 = some ⟨oc15, od15, .func (PySem.W.fnOf "_law_pick" "_law_pick" (defArgs s__law_pick) (defBody s__law_pick) (defScope s__law_pick) .none kV15 dc15 pm15 an15 cd15 ct15), sl15⟩)
    (c15 : PySem.W.codeIn K cd15 "_law_pick" = true)
    (k15 : PySem.W.keepIn K (.ref f15) = true)
    (a16 : PySem.W.nsIn K mainGlobals "_law_drawn_length" = some (some (.ref f16)))
    (l16 : K.lookup f16 = some ⟨oc16, od16, .func (PySem.W.fnOf "_law_drawn_length" "_law_drawn_length" (defArgs s__law_drawn_length) (defBody s__law_drawn_length) (defScope s__law_drawn_length) .none kV16 dc16 pm16 an16 cd16 ct16), sl16⟩)
    (c16 : PySem.W.codeIn K cd16 "_law_drawn_length" = true)
    (k16 : PySem.W.keepIn K (.ref f16) = true)
    (a17 : PySem.W.nsIn K mainGlobals "_law_sum" = some (some (.ref f17)))
    (l17 : K.lookup f17 = some ⟨oc17, od17, .func (PySem.W.fnOf "_law_sum" "_law_sum" (defArgs s__law_sum) (defBody s__law_sum) (defScope s__law_sum) .none kV17 dc17 pm17 an17 cd17 ct17), sl17⟩)
    (c17 : PySem.W.codeIn K cd17 "_law_sum" = true)
    (k17 : PySem.W.keepIn K (.ref f17) = true)
    (a18 : PySem.W.nsIn K mainGlobals "_law_product" = some (some (.ref f18)))
    (l18 : K.lookup f18 = some ⟨oc18, od18, .func (PySem.W.fnOf "_law_product" "_law_product" (defArgs s__law_product) (defBody s__law_product) (defScope s__law_product) .none kV18 dc18 pm18 an18 cd18 ct18), sl18⟩)
    (c18 : PySem.W.codeIn K cd18 "_law_product" = true)
    (k18 : PySem.W.keepIn K (.ref f18) = true)
    (a19 : PySem.W.findIn K (.ref C_Glue) "__eq__" = some (some (.ref f19)))
    (l19 : K.lookup f19 = some ⟨oc19, od19, .func (PySem.W.fnOf "__eq__" "Glue.__eq__" (defArgs s_Glue_DeqD) (defBody s_Glue_DeqD) (defScope s_Glue_DeqD) .none kV19 dc19 pm19 an19 cd19 ct19), sl19⟩)
    (c19 : PySem.W.codeIn K cd19 "Glue.__eq__" = true)
    (k19 : PySem.W.keepIn K (.ref f19) = true)
    (fn19 : PySem.W.isFn K (.ref f19) = true)
    (a20 : PySem.W.nsIn K mainGlobals "is_amount" = some (some (.ref f20)))
    (l20 : K.lookup f20 = some ⟨oc20, od20, .func (PySem.W.fnOf "is_amount" "is_amount" (defArgs s_is_amount) (defBody s_is_amount) (defScope s_is_amount) .none kV20 dc20 pm20 an20 cd20 ct20), sl20⟩)
    (c20 : PySem.W.codeIn K cd20 "is_amount" = true)
    (k20 : PySem.W.keepIn K (.ref f20) = true)
    (a21 : PySem.W.nsIn K mainGlobals "_law_drawn_glue" = some (some (.ref f21)))
    (l21 : K.lookup f21 = some ⟨oc21, od21, .func (PySem.W.fnOf "_law_drawn_glue" "_law_drawn_glue" (defArgs s__law_drawn_glue) (defBody s__law_drawn_glue) (defScope s__law_drawn_glue) .none kV21 dc21 pm21 an21 cd21 ct21), sl21⟩)
    (c21 : PySem.W.codeIn K cd21 "_law_drawn_glue" = true)
    (k21 : PySem.W.keepIn K (.ref f21) = true)
    (a22 : PySem.W.nsIn K mainGlobals "_law_parts" = some (some (.ref f22)))
    (l22 : K.lookup f22 = some ⟨oc22, od22, .func (PySem.W.fnOf "_law_parts" "_law_parts" (defArgs s__law_parts) (defBody s__law_parts) (defScope s__law_parts) .none kV22 dc22 pm22 an22 cd22 ct22), sl22⟩)
    (c22 : PySem.W.codeIn K cd22 "_law_parts" = true)
    (k22 : PySem.W.keepIn K (.ref f22) = true)
    (a23 : PySem.W.findIn K (.ref C_Glue) "__init__" = some (some (.ref f23)))
    (l23 : K.lookup f23 = some ⟨oc23, od23, .func (PySem.W.fnOf "__init__" "Glue.__init__" (defArgs s_Glue_DinitD) (defBody s_Glue_DinitD) (defScope s_Glue_DinitD) .none (.ref dK23) dc23 pm23 an23 cd23 ct23), sl23⟩)
    (c23 : PySem.W.codeIn K cd23 "Glue.__init__" = true)
    (k23 : PySem.W.keepIn K (.ref f23) = true)
    (fn23 : PySem.W.isFn K (.ref f23) = true)
    (a24 : PySem.W.nsIn K mainGlobals "_law_made" = some (some (.ref f24)))
    (l24 : K.lookup f24 = some ⟨oc24, od24, .func (PySem.W.fnOf "_law_made" "_law_made" (defArgs s__law_made) (defBody s__law_made) (defScope s__law_made) .none kV24 dc24 pm24 an24 cd24 ct24), sl24⟩)
    (c24 : PySem.W.codeIn K cd24 "_law_made" = true)
    (k24 : PySem.W.keepIn K (.ref f24) = true)
    (a25 : PySem.W.findIn K (.ref C_Glue) "__add__" = some (some (.ref f25)))
    (l25 : K.lookup f25 = some ⟨oc25, od25, .func (PySem.W.fnOf "__add__" "Glue.__add__" (defArgs s_Glue_DaddD) (defBody s_Glue_DaddD) (defScope s_Glue_DaddD) .none kV25 dc25 pm25 an25 cd25 ct25), sl25⟩)
    (c25 : PySem.W.codeIn K cd25 "Glue.__add__" = true)
    (k25 : PySem.W.keepIn K (.ref f25) = true)
    (fn25 : PySem.W.isFn K (.ref f25) = true)
    (a26 : PySem.W.findIn K (.ref C_Glue) "__mul__" = some (some (.ref f26)))
    (l26 : K.lookup f26 = some ⟨oc26, od26, .func (PySem.W.fnOf "__mul__" "Glue.__mul__" (defArgs s_Glue_DmulD) (defBody s_Glue_DmulD) (defScope s_Glue_DmulD) .none kV26 dc26 pm26 an26 cd26 ct26), sl26⟩)
    (c26 : PySem.W.codeIn K cd26 "Glue.__mul__" = true)
    (k26 : PySem.W.keepIn K (.ref f26) = true)
    (fn26 : PySem.W.isFn K (.ref f26) = true)
    (a27 : PySem.W.nsIn K mainGlobals "_law_added" = some (some (.ref f27)))
    (l27 : K.lookup f27 = some ⟨oc27, od27, .func (PySem.W.fnOf "_law_added" "_law_added" (defArgs s__law_added) (defBody s__law_added) (defScope s__law_added) .none kV27 dc27 pm27 an27 cd27 ct27), sl27⟩)
    (c27 : PySem.W.codeIn K cd27 "_law_added" = true)
    (k27 : PySem.W.keepIn K (.ref f27) = true)
    (a28 : PySem.W.nsIn K mainGlobals "_law_times" = some (some (.ref f28)))
    (l28 : K.lookup f28 = some ⟨oc28, od28, .func (PySem.W.fnOf "_law_times" "_law_times" (defArgs s__law_times) (defBody s__law_times) (defScope s__law_times) .none kV28 dc28 pm28 an28 cd28 ct28), sl28⟩)
    (c28 : PySem.W.codeIn K cd28 "_law_times" = true)
    (k28 : PySem.W.keepIn K (.ref f28) = true)
    (a29 : PySem.W.nsIn K mainGlobals "_law_right" = some (some (.ref f29)))
    (l29 : K.lookup f29 = some ⟨oc29, od29, .func (PySem.W.fnOf "_law_right" "_law_right" (defArgs s__law_right) (defBody s__law_right) (defScope s__law_right) .none kV29 dc29 pm29 an29 cd29 ct29), sl29⟩)
    (c29 : PySem.W.codeIn K cd29 "_law_right" = true)
    (k29 : PySem.W.keepIn K (.ref f29) = true)
    (a30 : PySem.W.nsIn K mainGlobals "law" = some (some (.ref f30)))
    (l30 : K.lookup f30 = some ⟨oc30, od30, .func (PySem.W.fnOf "law" "law" (defArgs s_law) (defBody s_law) (defScope s_law) .none kV30 dc30 pm30 an30 cd30 ct30), sl30⟩)
    (c30 : PySem.W.codeIn K cd30 "law" = true)
    (k30 : PySem.W.keepIn K (.ref f30) = true)
    (dk23_stretch : PySem.W.nsIn K dK23 "stretch" = some (some (.int 0 tk1)))
    (dk23_stretch_order : PySem.W.nsIn K dK23 "stretch_order" = some (some (.int 0 tk2)))
    (dk23_shrink : PySem.W.nsIn K dK23 "shrink" = some (some (.int 0 tk3)))
    (dk23_shrink_order : PySem.W.nsIn K dK23 "shrink_order" = some (some (.int 0 tk4)))
    (z_abs : PySem.W.nsIn K mainGlobals "abs" = some none)
    (z_bool : PySem.W.nsIn K mainGlobals "bool" = some none)
    (z_int : PySem.W.nsIn K mainGlobals "int" = some none)
    (z_isinstance : PySem.W.nsIn K mainGlobals "isinstance" = some none)
    (z_len : PySem.W.nsIn K mainGlobals "len" = some none)
    (z_list : PySem.W.nsIn K mainGlobals "list" = some none)
    (z_max : PySem.W.nsIn K mainGlobals "max" = some none)
    (z_min : PySem.W.nsIn K mainGlobals "min" = some none)
    (z_range : PySem.W.nsIn K mainGlobals "range" = some none)
    (z_repr : PySem.W.nsIn K mainGlobals "repr" = some none)
    (nf_Glue__natural : PySem.W.findIn K (.ref C_Glue) "_natural" = some none)
    (nf_Glue__shrink : PySem.W.findIn K (.ref C_Glue) "_shrink" = some none)
    (nf_Glue__shrink_order : PySem.W.findIn K (.ref C_Glue) "_shrink_order" = some none)
    (nf_Glue__stretch : PySem.W.findIn K (.ref C_Glue) "_stretch" = some none)
    (nf_Glue__stretch_order : PySem.W.findIn K (.ref C_Glue) "_stretch_order" = some none)
    (gn_INTEGER_END : PySem.W.nsIn K mainGlobals "INTEGER_END" = some (some (.int 1000000000000000000000000000000000000000000000000000000000000 tk5)))
    (gn_MAX_LENGTH : PySem.W.nsIn K mainGlobals "MAX_LENGTH" = some (some (.int 1073741823 tk6)))
    (gh11 : K.lookup tr11 = some ⟨.type "tuple", to11, .seq #[(.str "pt" tk7), (.str "fil" tk8), (.str "fill" tk9), (.str "filll" tk10)] tn11, ts11⟩)
    (gn_ORDERS : PySem.W.nsIn K mainGlobals "ORDERS" = some (some (.ref tr11)))
    (ea_PressError : PySem.W.nsIn K mainGlobals "PressError" = some (some (.ref C_PressError)))
    (ek_PressError : PySem.W.keepIn K (.ref C_PressError) = true)
    (eb_PressError : PySem.W.subIn K (.ref C_PressError) (.type "BaseException") = some true)
    (et_PressError : PySem.W.typeIn K (.ref C_PressError) = some (.type "type"))
    (eh_PressError : PySem.W.hasDictIn K C_PressError = true)
    (ea_InvalidLength : PySem.W.nsIn K mainGlobals "InvalidLength" = some (some (.ref C_InvalidLength)))
    (ek_InvalidLength : PySem.W.keepIn K (.ref C_InvalidLength) = true)
    (eb_InvalidLength : PySem.W.subIn K (.ref C_InvalidLength) (.type "BaseException") = some true)
    (et_InvalidLength : PySem.W.typeIn K (.ref C_InvalidLength) = some (.type "type"))
    (eh_InvalidLength : PySem.W.hasDictIn K C_InvalidLength = true)
    (ea_InvalidGlue : PySem.W.nsIn K mainGlobals "InvalidGlue" = some (some (.ref C_InvalidGlue)))
    (ek_InvalidGlue : PySem.W.keepIn K (.ref C_InvalidGlue) = true)
    (eb_InvalidGlue : PySem.W.subIn K (.ref C_InvalidGlue) (.type "BaseException") = some true)
    (et_InvalidGlue : PySem.W.typeIn K (.ref C_InvalidGlue) = some (.type "type"))
    (eh_InvalidGlue : PySem.W.hasDictIn K C_InvalidGlue = true)
    (ei_InvalidGlue : PySem.W.excIn K C_InvalidGlue [.type "ValueError", .type "Exception", .type "BaseException", .type "object"] "ValueError.__new__" = true)
    (x_0_0 : PySem.W.subIn K (.ref C_PressError) (.ref C_PressError) = some true)
    (x_0_1 : PySem.W.subIn K (.ref C_PressError) (.ref C_InvalidLength) = some false)
    (x_0_2 : PySem.W.subIn K (.ref C_PressError) (.ref C_InvalidGlue) = some false)
    (x_1_0 : PySem.W.subIn K (.ref C_InvalidLength) (.ref C_PressError) = some true)
    (x_1_1 : PySem.W.subIn K (.ref C_InvalidLength) (.ref C_InvalidLength) = some true)
    (x_1_2 : PySem.W.subIn K (.ref C_InvalidLength) (.ref C_InvalidGlue) = some false)
    (x_2_0 : PySem.W.subIn K (.ref C_InvalidGlue) (.ref C_PressError) = some true)
    (x_2_1 : PySem.W.subIn K (.ref C_InvalidGlue) (.ref C_InvalidLength) = some false)
    (x_2_2 : PySem.W.subIn K (.ref C_InvalidGlue) (.ref C_InvalidGlue) = some true)
    (sf_Glue : PySem.W.selfFirst K C_Glue = true)
    (br_Glue_add : PySem.W.findIn K (.ref C_Glue) "__radd__" = some none)
    (b1_Glue_add : PySem.W.findIn K (.type "int") "__add__" = some fo_Glue_add)
    (b2_Glue_add : PySem.W.findIn K (.type "int") "__radd__" = some ro_Glue_add)
    (bs_Glue : PySem.W.subIn K (.type "int") (.ref C_Glue) = some false)
    (br_Glue_mul : PySem.W.findIn K (.ref C_Glue) "__rmul__" = some none)
    (b1_Glue_mul : PySem.W.findIn K (.type "int") "__mul__" = some fo_Glue_mul)
    (b2_Glue_mul : PySem.W.findIn K (.type "int") "__rmul__" = some ro_Glue_mul)
    (ne_Glue : PySem.W.findIn K (.ref C_Glue) "__ne__" = some (some (.builtin "object.__ne__")))
    (ob_Glue : PySem.W.subIn K (.ref C_Glue) (.type "object") = some true)
    (nt_Glue_0 : PySem.W.notFirst K C_Glue (.type "NoneType") = true)
    (nt_Glue_1 : PySem.W.notFirst K C_Glue (.type "bool") = true)
    (nt_Glue_2 : PySem.W.notFirst K C_Glue (.type "int") = true)
    (nt_Glue_3 : PySem.W.notFirst K C_Glue (.type "str") = true)
    (nt_Glue_4 : PySem.W.notFirst K C_Glue (.type "list") = true)
    (nt_Glue_5 : PySem.W.notFirst K C_Glue (.type "tuple") = true)
    (nt_Glue_6 : PySem.W.notFirst K C_Glue (.type "dict") = true)
    (nt_Glue_Glue : PySem.W.notFirst K C_Glue (.ref C_Glue) = true) :
    ∀ base : Heap, K.In base → base.Ns mainGlobals mg → RunG l.prog w K mg base 9 fa (spEnd K) := by
  have e := hfa.symm.trans (PySem.W.mg_of X G a30)
  cases e
  letI CM : ClsMap := ⟨fun i => match i with | 0 => C_PressError | 1 => C_InvalidLength | 2 => C_InvalidGlue | 100 => C_Glue | _ => 0⟩
  have cl_Glue : Cls K C_Glue := ⟨pg_Glue, hd_Glue, po_Glue, sa_Glue⟩
  have ii_Glue : IsiC K C_Glue := ⟨cl_Glue, ha_Glue, hn_cls, ht_cls, hm_Glue⟩
  have T : Tx l.prog w K mg := {
    it_Glue := (it_cons kt_Glue_0 (it_low (by decide)) (it_cons kt_Glue_1 (it_low (by decide)) (it_cons kt_Glue_2 (it_low (by decide)) (it_cons kt_Glue_3 (it_low (by decide)) (it_cons kt_Glue_4 (it_low (by decide)) (it_cons kt_Glue_5 (it_low (by decide)) (it_cons kt_Glue_6 (it_low (by decide)) (it_cons kt_Glue_Glue (it_own (m := 100) ii_Glue) it_nil)))))))),
    b_abs := PySem.W.mg_none_of X G z_abs,
    b_bool := PySem.W.mg_none_of X G z_bool,
    b_int := PySem.W.mg_none_of X G z_int,
    b_isinstance := PySem.W.mg_none_of X G z_isinstance,
    b_len := PySem.W.mg_none_of X G z_len,
    b_list := PySem.W.mg_none_of X G z_list,
    b_max := PySem.W.mg_none_of X G z_max,
    b_min := PySem.W.mg_none_of X G z_min,
    b_range := PySem.W.mg_none_of X G z_range,
    b_repr := PySem.W.mg_none_of X G z_repr,
    fd_Glue__natural := ⟨cl_Glue, nf_Glue__natural⟩,
    fd_Glue__shrink := ⟨cl_Glue, nf_Glue__shrink⟩,
    fd_Glue__shrink_order := ⟨cl_Glue, nf_Glue__shrink_order⟩,
    fd_Glue__stretch := ⟨cl_Glue, nf_Glue__stretch⟩,
    fd_Glue__stretch_order := ⟨cl_Glue, nf_Glue__stretch_order⟩,
    g_INTEGER_END := ⟨_, (.int 1000000000000000000000000000000000000000000000000000000000000), PySem.W.mg_of X G gn_INTEGER_END, ⟨tk5, rfl⟩, fun G => (.int _)⟩,
    g_MAX_LENGTH := ⟨_, (.int 1073741823), PySem.W.mg_of X G gn_MAX_LENGTH, ⟨tk6, rfl⟩, fun G => (.int _)⟩,
    g_ORDERS := ⟨_, (.ref tr11), PySem.W.mg_of X G gn_ORDERS, rfl, fun G => (.tup (vs_tup (vs := [(.str "pt"), (.str "fil"), (.str "fill"), (.str "filll")]) gh11 (by show _ ≤ sizeLine; simp; decide) (.cons ⟨tk7, rfl⟩ (.cons ⟨tk8, rfl⟩ (.cons ⟨tk9, rfl⟩ (.cons ⟨tk10, rfl⟩ (.nil)))))) (.cons (.str _) (.cons (.str _) (.cons (.str _) (.cons (.str _) (.nil))))))⟩,
    n_Glue := PySem.W.mg_of X G ea_Glue,
    e_InvalidGlue := ⟨PySem.W.mg_of X G ea_InvalidGlue, ⟨_, _, _, _, PySem.F.excBase_ValueError, ei_InvalidGlue⟩, ek_InvalidGlue, eb_InvalidGlue, et_InvalidGlue⟩,
    n_InvalidGlue := PySem.W.mg_of X G ea_InvalidGlue,
    sb := ⟨fun i j hi hj => by
      have hi : i < 3 := hi
      have hj : j < 3 := hj
      have ei : i = 0 ∨ i = 1 ∨ i = 2 := by omega
      have ej : j = 0 ∨ j = 1 ∨ j = 2 := by omega
      rcases ei with rfl | rfl | rfl
      · rcases ej with rfl | rfl | rfl
        · exact PySem.W.exm_ref eb_PressError eh_PressError et_PressError x_0_0
        · exact PySem.W.exm_ref eb_InvalidLength eh_InvalidLength et_InvalidLength x_0_1
        · exact PySem.W.exm_ref eb_InvalidGlue eh_InvalidGlue et_InvalidGlue x_0_2
      · rcases ej with rfl | rfl | rfl
        · exact PySem.W.exm_ref eb_PressError eh_PressError et_PressError x_1_0
        · exact PySem.W.exm_ref eb_InvalidLength eh_InvalidLength et_InvalidLength x_1_1
        · exact PySem.W.exm_ref eb_InvalidGlue eh_InvalidGlue et_InvalidGlue x_1_2
      · rcases ej with rfl | rfl | rfl
        · exact PySem.W.exm_ref eb_PressError eh_PressError et_PressError x_2_0
        · exact PySem.W.exm_ref eb_InvalidLength eh_InvalidLength et_InvalidLength x_2_1
        · exact PySem.W.exm_ref eb_InvalidGlue eh_InvalidGlue et_InvalidGlue x_2_2⟩ }
  intro base _ _
  have m_is_int := PySem.W.mg_of X G a0
  have F_is_int := fun_mk (st := s_is_int) l0 c0 k0
  have C_is_int := cal_is_int (P := l.prog) (w := w) (base := base) T   F_is_int m_is_int (F_is_int.binds (ps := ["value"]) fun _ _ _ _ _ _ us hl => match us, hl with | [_], _ => rfl)
  have m_order_for := PySem.W.mg_of X G a1
  have F_order_for := fun_mk (st := s_order_for) l1 c1 k1
  have C_order_for := cal_order_for (P := l.prog) (w := w) (base := base) T   F_order_for m_order_for (F_order_for.binds (ps := ["amount", "order"]) fun _ _ _ _ _ _ us hl => match us, hl with | [_, _], _ => rfl)
  have m_joined := PySem.W.mg_of X G a2
  have F_joined := fun_mk (st := s_joined) l2 c2 k2
  have C_joined := cal_joined (P := l.prog) (w := w) (base := base) T   F_joined m_joined (F_joined.binds (ps := ["one", "other"]) fun _ _ _ _ _ _ us hl => match us, hl with | [_, _], _ => rfl)
  have m__law_dice := PySem.W.mg_of X G a3
  have F__law_dice := fun_mk (st := s__law_dice) l3 c3 k3
  have C__law_dice := cal__law_dice (P := l.prog) (w := w) (base := base) T   F__law_dice m__law_dice (F__law_dice.binds (ps := ["_law_script", "_law_spot"]) fun _ _ _ _ _ _ us hl => match us, hl with | [_, _], _ => rfl)
  have m__law_roll := PySem.W.mg_of X G a4
  have F__law_roll := fun_mk (st := s__law_roll) l4 c4 k4
  have C__law_roll := cal__law_roll (P := l.prog) (w := w) (base := base) T   F__law_roll m__law_roll (F__law_roll.binds (ps := ["_law_dice_here", "_law_total"]) fun _ _ _ _ _ _ us hl => match us, hl with | [_, _], _ => rfl)
  have m__law_fair := PySem.W.mg_of X G a5
  have F__law_fair := fun_mk (st := s__law_fair) l5 c5 k5
  have C__law_fair := cal__law_fair (P := l.prog) (w := w) (base := base) T   F__law_fair m__law_fair (F__law_fair.binds (ps := ["_law_plain"]) fun _ _ _ _ _ _ us hl => match us, hl with | [_], _ => rfl)
  have m__law_both := PySem.W.mg_of X G a6
  have F__law_both := fun_mk (st := s__law_both) l6 c6 k6
  have C__law_both := cal__law_both (P := l.prog) (w := w) (base := base) T   F__law_both m__law_both (F__law_both.binds (ps := ["_law_one", "_law_other"]) fun _ _ _ _ _ _ us hl => match us, hl with | [_, _], _ => rfl)
  have F_Glue_natural := fun_mk (st := s_Glue_natural) l7 c7 k7
  have O_Glue_natural := ok_Glue_natural (P := l.prog) (w := w) (mg := mg) (base := base) T   F_Glue_natural
  have F_Glue_stretch := fun_mk (st := s_Glue_stretch) l8 c8 k8
  have O_Glue_stretch := ok_Glue_stretch (P := l.prog) (w := w) (mg := mg) (base := base) T   F_Glue_stretch
  have F_Glue_stretch_order := fun_mk (st := s_Glue_stretch_order) l9 c9 k9
  have O_Glue_stretch_order := ok_Glue_stretch_order (P := l.prog) (w := w) (mg := mg) (base := base) T   F_Glue_stretch_order
  have F_Glue_shrink := fun_mk (st := s_Glue_shrink) l10 c10 k10
  have O_Glue_shrink := ok_Glue_shrink (P := l.prog) (w := w) (mg := mg) (base := base) T   F_Glue_shrink
  have F_Glue_shrink_order := fun_mk (st := s_Glue_shrink_order) l11 c11 k11
  have O_Glue_shrink_order := ok_Glue_shrink_order (P := l.prog) (w := w) (mg := mg) (base := base) T   F_Glue_shrink_order
  have F_Glue__parts := fun_mk (st := s_Glue__parts) l12 c12 k12
  have O_Glue__parts := ok_Glue__parts (P := l.prog) (w := w) (mg := mg) (base := base) T   F_Glue__parts
  have m_is_length := PySem.W.mg_of X G a13
  have F_is_length := fun_mk (st := s_is_length) l13 c13 k13
  have C_is_length := cal_is_length (P := l.prog) (w := w) (base := base) T C_is_int  F_is_length m_is_length (F_is_length.binds (ps := ["value"]) fun _ _ _ _ _ _ us hl => match us, hl with | [_], _ => rfl)
  have m_is_order := PySem.W.mg_of X G a14
  have F_is_order := fun_mk (st := s_is_order) l14 c14 k14
  have C_is_order := cal_is_order (P := l.prog) (w := w) (base := base) T C_is_int  F_is_order m_is_order (F_is_order.binds (ps := ["value"]) fun _ _ _ _ _ _ us hl => match us, hl with | [_], _ => rfl)
  have m__law_pick := PySem.W.mg_of X G a15
  have F__law_pick := fun_mk (st := s__law_pick) l15 c15 k15
  have C__law_pick := cal__law_pick (P := l.prog) (w := w) (base := base) T C__law_roll  F__law_pick m__law_pick (F__law_pick.binds (ps := ["_law_dice_here", "_law_items"]) fun _ _ _ _ _ _ us hl => match us, hl with | [_, _], _ => rfl)
  have m__law_drawn_length := PySem.W.mg_of X G a16
  have F__law_drawn_length := fun_mk (st := s__law_drawn_length) l16 c16 k16
  have C__law_drawn_length := cal__law_drawn_length (P := l.prog) (w := w) (base := base) T C__law_roll  F__law_drawn_length m__law_drawn_length (F__law_drawn_length.binds (ps := ["_law_dice_here"]) fun _ _ _ _ _ _ us hl => match us, hl with | [_], _ => rfl)
  have m__law_sum := PySem.W.mg_of X G a17
  have F__law_sum := fun_mk (st := s__law_sum) l17 c17 k17
  have C__law_sum := cal__law_sum (P := l.prog) (w := w) (base := base) T C__law_fair C__law_both  F__law_sum m__law_sum (F__law_sum.binds (ps := ["_law_one", "_law_other"]) fun _ _ _ _ _ _ us hl => match us, hl with | [_, _], _ => rfl)
  have m__law_product := PySem.W.mg_of X G a18
  have F__law_product := fun_mk (st := s__law_product) l18 c18 k18
  have C__law_product := cal__law_product (P := l.prog) (w := w) (base := base) T C__law_fair  F__law_product m__law_product (F__law_product.binds (ps := ["_law_plain", "_law_many"]) fun _ _ _ _ _ _ us hl => match us, hl with | [_, _], _ => rfl)
  have T_g_Glue__parts_1 : MtC l.prog w K mg base 1 100 "_parts" 0 [] g_Glue__parts_1 f_Glue__parts := ⟨_, RunK.of O_Glue__parts (BindK.pos (F_Glue__parts.binds (ps := ["self"]) fun _ _ _ _ _ _ us hl => match us, hl with | [_], _ => rfl) rfl), ⟨a12, fn12, k12⟩, cl_Glue⟩
  have F_Glue_DeqD := fun_mk (st := s_Glue_DeqD) l19 c19 k19
  have O_Glue_DeqD := ok_Glue_DeqD (P := l.prog) (w := w) (mg := mg) (base := base) T  T_g_Glue__parts_1 F_Glue_DeqD
  have m_is_amount := PySem.W.mg_of X G a20
  have F_is_amount := fun_mk (st := s_is_amount) l20 c20 k20
  have C_is_amount := cal_is_amount (P := l.prog) (w := w) (base := base) T C_is_length C_is_order  F_is_amount m_is_amount (F_is_amount.binds (ps := ["amount", "order"]) fun _ _ _ _ _ _ us hl => match us, hl with | [_, _], _ => rfl)
  have m__law_drawn_glue := PySem.W.mg_of X G a21
  have F__law_drawn_glue := fun_mk (st := s__law_drawn_glue) l21 c21 k21
  have C__law_drawn_glue := cal__law_drawn_glue (P := l.prog) (w := w) (base := base) T C__law_roll C__law_drawn_length  F__law_drawn_glue m__law_drawn_glue (F__law_drawn_glue.binds (ps := ["_law_dice_here"]) fun _ _ _ _ _ _ us hl => match us, hl with | [_], _ => rfl)
  have P_Glue_natural : PrC l.prog w K mg base 1 100 "natural" f_Glue_natural := ⟨_, _, RunK.of O_Glue_natural (BindK.pos (F_Glue_natural.binds (ps := ["self"]) fun _ _ _ _ _ _ us hl => match us, hl with | [_], _ => rfl) rfl), ⟨a7, pg7, pt7, ⟨_, pr7⟩⟩, cl_Glue⟩
  have P_Glue_shrink : PrC l.prog w K mg base 1 100 "shrink" f_Glue_shrink := ⟨_, _, RunK.of O_Glue_shrink (BindK.pos (F_Glue_shrink.binds (ps := ["self"]) fun _ _ _ _ _ _ us hl => match us, hl with | [_], _ => rfl) rfl), ⟨a10, pg10, pt10, ⟨_, pr10⟩⟩, cl_Glue⟩
  have P_Glue_shrink_order : PrC l.prog w K mg base 1 100 "shrink_order" f_Glue_shrink_order := ⟨_, _, RunK.of O_Glue_shrink_order (BindK.pos (F_Glue_shrink_order.binds (ps := ["self"]) fun _ _ _ _ _ _ us hl => match us, hl with | [_], _ => rfl) rfl), ⟨a11, pg11, pt11, ⟨_, pr11⟩⟩, cl_Glue⟩
  have P_Glue_stretch : PrC l.prog w K mg base 1 100 "stretch" f_Glue_stretch := ⟨_, _, RunK.of O_Glue_stretch (BindK.pos (F_Glue_stretch.binds (ps := ["self"]) fun _ _ _ _ _ _ us hl => match us, hl with | [_], _ => rfl) rfl), ⟨a8, pg8, pt8, ⟨_, pr8⟩⟩, cl_Glue⟩
  have P_Glue_stretch_order : PrC l.prog w K mg base 1 100 "stretch_order" f_Glue_stretch_order := ⟨_, _, RunK.of O_Glue_stretch_order (BindK.pos (F_Glue_stretch_order.binds (ps := ["self"]) fun _ _ _ _ _ _ us hl => match us, hl with | [_], _ => rfl) rfl), ⟨a9, pg9, pt9, ⟨_, pr9⟩⟩, cl_Glue⟩
  have m__law_parts := PySem.W.mg_of X G a22
  have F__law_parts := fun_mk (st := s__law_parts) l22 c22 k22
  have C__law_parts := cal__law_parts (P := l.prog) (w := w) (base := base) T  P_Glue_natural P_Glue_shrink P_Glue_shrink_order P_Glue_stretch P_Glue_stretch_order F__law_parts m__law_parts (F__law_parts.binds (ps := ["_law_glue"]) fun _ _ _ _ _ _ us hl => match us, hl with | [_], _ => rfl)
  have D_Glue_DinitD : FunD K "__init__" "Glue.__init__" (defArgs s_Glue_DinitD) (defBody s_Glue_DinitD) (defScope s_Glue_DinitD) [] [("stretch", .int 0), ("stretch_order", .int 0), ("shrink", .int 0), ("shrink_order", .int 0)] f23 _ := ⟨⟨_, _, _, _, _, _, _, _, _, _, rfl, l23, c23, .inl ⟨rfl, rfl⟩, .inr ⟨_, rfl, fun z hz => by
    simp only [List.mem_cons, List.not_mem_nil, or_false] at hz
    rcases hz with rfl | rfl | rfl | rfl
    · exact ⟨_, dk23_stretch, ⟨tk1, rfl⟩⟩
    · exact ⟨_, dk23_stretch_order, ⟨tk2, rfl⟩⟩
    · exact ⟨_, dk23_shrink, ⟨tk3, rfl⟩⟩
    · exact ⟨_, dk23_shrink_order, ⟨tk4, rfl⟩⟩⟩⟩, k23⟩
  have F_Glue_DinitD := fun_mk (st := s_Glue_DinitD) l23 c23 k23
  have O_Glue_DinitD := ok_Glue_DinitD (P := l.prog) (w := w) (mg := mg) (base := base) T C_is_length C_is_amount C_order_for  F_Glue_DinitD
  have M_g_Glue_DinitD_2_stretch_stretch_order_shrink_shrink_order : MkC l.prog w K mg base 4 "Glue" 100 1 ["stretch", "stretch_order", "shrink", "shrink_order"] g_Glue_DinitD_2_stretch_stretch_order_shrink_shrink_order f_Glue_DinitD := ⟨_, RunK.of O_Glue_DinitD (bk_g_Glue_DinitD_2_stretch_stretch_order_shrink_shrink_order D_Glue_DinitD), ⟨mk_Glue, a23, fn23, kc_Glue⟩, PySem.W.mg_of X G ea_Glue⟩
  have m__law_made := PySem.W.mg_of X G a24
  have F__law_made := fun_mk (st := s__law_made) l24 c24 k24
  have C__law_made := cal__law_made (P := l.prog) (w := w) (base := base) T  M_g_Glue_DinitD_2_stretch_stretch_order_shrink_shrink_order F__law_made m__law_made (F__law_made.binds (ps := ["_law_plain"]) fun _ _ _ _ _ _ us hl => match us, hl with | [_], _ => rfl)
  have F_Glue_DaddD := fun_mk (st := s_Glue_DaddD) l25 c25 k25
  have O_Glue_DaddD := ok_Glue_DaddD (P := l.prog) (w := w) (mg := mg) (base := base) T C_joined M_g_Glue_DinitD_2_stretch_stretch_order_shrink_shrink_order F_Glue_DaddD
  have F_Glue_DmulD := fun_mk (st := s_Glue_DmulD) l26 c26 k26
  have O_Glue_DmulD := ok_Glue_DmulD (P := l.prog) (w := w) (mg := mg) (base := base) T C_is_int M_g_Glue_DinitD_2_stretch_stretch_order_shrink_shrink_order F_Glue_DmulD
  have B_Glue_DaddD : BinC l.prog w K mg base 6 .Add 100 [2, 107] f_Glue_DaddD := ⟨⟨_, ⟨RunK.of O_Glue_DaddD (BindK.pos (F_Glue_DaddD.binds (ps := ["self", "other"]) fun _ _ _ _ _ _ us hl => match us, hl with | [_, _], _ => rfl) rfl), a25, fn25⟩⟩, sf_Glue, (cs_cons (.inr ⟨"int", _, _, _, ⟨by decide, rfl⟩, br_Glue_add, .inl rfl, b1_Glue_add, b2_Glue_add, bs_Glue⟩) (cs_cons (.inl rfl) cs_nil))⟩
  have m__law_added := PySem.W.mg_of X G a27
  have F__law_added := fun_mk (st := s__law_added) l27 c27 k27
  have C__law_added := cal__law_added (P := l.prog) (w := w) (base := base) T  B_Glue_DaddD F__law_added m__law_added (F__law_added.binds (ps := ["_law_one", "_law_other"]) fun _ _ _ _ _ _ us hl => match us, hl with | [_, _], _ => rfl)
  have B_Glue_DmulD : BinC l.prog w K mg base 6 .Mult 100 [2, 107] f_Glue_DmulD := ⟨⟨_, ⟨RunK.of O_Glue_DmulD (BindK.pos (F_Glue_DmulD.binds (ps := ["self", "other"]) fun _ _ _ _ _ _ us hl => match us, hl with | [_, _], _ => rfl) rfl), a26, fn26⟩⟩, sf_Glue, (cs_cons (.inr ⟨"int", _, _, _, ⟨by decide, rfl⟩, br_Glue_mul, .inl rfl, b1_Glue_mul, b2_Glue_mul, bs_Glue⟩) (cs_cons (.inl rfl) cs_nil))⟩
  have m__law_times := PySem.W.mg_of X G a28
  have F__law_times := fun_mk (st := s__law_times) l28 c28 k28
  have C__law_times := cal__law_times (P := l.prog) (w := w) (base := base) T  B_Glue_DmulD F__law_times m__law_times (F__law_times.binds (ps := ["_law_glue", "_law_many"]) fun _ _ _ _ _ _ us hl => match us, hl with | [_, _], _ => rfl)
  have Q_Glue_DeqD : EqC l.prog w K mg base 2 100 [0, 1, 2, 3, 4, 5, 6, 107] f_Glue_DeqD := ⟨⟨_, ⟨RunK.of O_Glue_DeqD (BindK.pos (F_Glue_DeqD.binds (ps := ["self", "other"]) fun _ _ _ _ _ _ us hl => match us, hl with | [_, _], _ => rfl) rfl), a19, fn19⟩⟩, ne_Glue, ob_Glue, (cs_cons nt_Glue_0 (cs_cons nt_Glue_1 (cs_cons nt_Glue_2 (cs_cons nt_Glue_3 (cs_cons nt_Glue_4 (cs_cons nt_Glue_5 (cs_cons nt_Glue_6 (cs_cons nt_Glue_Glue cs_nil))))))))⟩
  have m__law_right := PySem.W.mg_of X G a29
  have F__law_right := fun_mk (st := s__law_right) l29 c29 k29
  have C__law_right := cal__law_right (P := l.prog) (w := w) (base := base) T C__law_pick C__law_drawn_glue C__law_made C__law_parts C__law_sum C__law_product C__law_added C__law_times Q_Glue_DeqD F__law_right m__law_right (F__law_right.binds (ps := ["_law_dice_here"]) fun _ _ _ _ _ _ us hl => match us, hl with | [_], _ => rfl)
  have M_g_Glue_DinitD_2_stretch_order : MkC l.prog w K mg base 4 "Glue" 100 1 ["stretch_order"] g_Glue_DinitD_2_stretch_order f_Glue_DinitD := ⟨_, RunK.of O_Glue_DinitD (bk_g_Glue_DinitD_2_stretch_order D_Glue_DinitD), ⟨mk_Glue, a23, fn23, kc_Glue⟩, PySem.W.mg_of X G ea_Glue⟩
  have M_g_Glue_DinitD_2_stretch_shrink : MkC l.prog w K mg base 4 "Glue" 100 1 ["stretch", "shrink"] g_Glue_DinitD_2_stretch_shrink f_Glue_DinitD := ⟨_, RunK.of O_Glue_DinitD (bk_g_Glue_DinitD_2_stretch_shrink D_Glue_DinitD), ⟨mk_Glue, a23, fn23, kc_Glue⟩, PySem.W.mg_of X G ea_Glue⟩
  have M_g_Glue_DinitD_2_stretch_stretch_order_shrink : MkC l.prog w K mg base 4 "Glue" 100 1 ["stretch", "stretch_order", "shrink"] g_Glue_DinitD_2_stretch_stretch_order_shrink f_Glue_DinitD := ⟨_, RunK.of O_Glue_DinitD (bk_g_Glue_DinitD_2_stretch_stretch_order_shrink D_Glue_DinitD), ⟨mk_Glue, a23, fn23, kc_Glue⟩, PySem.W.mg_of X G ea_Glue⟩
  have m_law := PySem.W.mg_of X G a30
  have F_law := fun_mk (st := s_law) l30 c30 k30
  have C_law := cal_law (P := l.prog) (w := w) (base := base) T C__law_dice C__law_parts C__law_right B_Glue_DaddD B_Glue_DmulD M_g_Glue_DinitD_2_stretch_order M_g_Glue_DinitD_2_stretch_shrink M_g_Glue_DinitD_2_stretch_stretch_order_shrink F_law m_law (F_law.binds (ps := ["_law_script"]) fun _ _ _ _ _ _ us hl => match us, hl with | [_], _ => rfl)
  obtain ⟨f, R, hf, _⟩ := C_law.toG
  have e := (PySem.W.mg_of X G a30).symm.trans hf
  cases e
  exact end_of R
theorem walk {l : PySem.W.OpenLaw} {q : Program} {loose : List Str} {XP : (Str → Option Value) → Heap → Prop} {YP : World → Heap → Prop} {d : DefRec} {K : Params → PySem.W.Frag} (hn : l.most = some 63) (hdf : d.params.defaults = [])
    (hY : ∀ (w : World) (h : Heap), YP w h → (K w.params).In h)
    (F : ∀ (w : World) (mg : Str → Option Value) (fa : Addr) (h : Heap), (K w.params).In h → h.Ns mainGlobals mg → mg d.name = some (.ref fa) →
      ∀ base : Heap, (K w.params).In base → base.Ns mainGlobals mg → RunG l.prog w (K w.params) mg base 9 fa (spEnd (K w.params))) :
    PySem.W.WalkO q loose XP YP l.row.toRowW d [] (fun f vs => PySem.call f vs) :=
  walk_ofG (n := 63) (k := 9) (sp := fun w => spEnd (K w.params)) hn (by decide) hdf ⟨rfl, by decide, by decide⟩ hY F fun w H a ns hl hS => ⟨a, ns, rfl, hl, hS, fun _ => rfl⟩
end Mir

open PySem PySem.W PyProof.Rows in
set_option maxRecDepth 100000 in
set_option maxHeartbeats 0 in
theorem PySem.Challenge.cw_pagewright_k03_whole_sums_of_glue_holds : PySem.Challenge.rw_pagewright_k03_whole_sums_of_glue.Holds := by
  w_on; o_law; k_head; (case hw => w_witness2)
  k_fill
  refine Mir.walk (l := PySem.Challenge.rw_pagewright_k03_whole_sums_of_glue) rfl rfl (fun w h Y => PySem.W.kIn_of Y) ?F
  case F =>
    intro w mg fa h KX G hmg
    refine' Mir.all_mk (l := PySem.Challenge.rw_pagewright_k03_whole_sums_of_glue) KX G hmg ?ea_Glue ?pg_Glue ?hd_Glue ?po_Glue ?sa_Glue ?mk_Glue ?kc_Glue ?hn_cls ?ht_cls ?ha_Glue ?hm_Glue ?kt_Glue_0 ?kt_Glue_1 ?kt_Glue_2 ?kt_Glue_3 ?kt_Glue_4 ?kt_Glue_5 ?kt_Glue_6 ?kt_Glue_Glue ?a0 ?l0 ?c0 ?k0 ?a1 ?l1 ?c1 ?k1 ?a2 ?l2 ?c2 ?k2 ?a3 ?l3 ?c3 ?k3 ?a4 ?l4 ?c4 ?k4 ?a5 ?l5 ?c5 ?k5 ?a6 ?l6 ?c6 ?k6 ?a7 ?pg7 ?pt7 ?pr7 ?l7 ?c7 ?k7 ?a8 ?pg8 ?pt8 ?pr8 ?l8 ?c8 ?k8 ?a9 ?pg9 ?pt9 ?pr9 ?l9 ?c9 ?k9 ?a10 ?pg10 ?pt10 ?pr10 ?l10 ?c10 ?k10 ?a11 ?pg11 ?pt11 ?pr11 ?l11 ?c11 ?k11 ?a12 ?l12 ?c12 ?k12 ?fn12 ?a13 ?l13 ?c13 ?k13 ?a14 ?l14 ?c14 ?k14 ?a15 ?l15 ?c15 ?k15 ?a16 ?l16 ?c16 ?k16 ?a17 ?l17 ?c17 ?k17 ?a18 ?l18 ?c18 ?k18 ?a19 ?l19 ?c19 ?k19 ?fn19 ?a20 ?l20 ?c20 ?k20 ?a21 ?l21 ?c21 ?k21 ?a22 ?l22 ?c22 ?k22 ?a23 ?l23 ?c23 ?k23 ?fn23 ?a24 ?l24 ?c24 ?k24 ?a25 ?l25 ?c25 ?k25 ?fn25 ?a26 ?l26 ?c26 ?k26 ?fn26 ?a27 ?l27 ?c27 ?k27 ?a28 ?l28 ?c28 ?k28 ?a29 ?l29 ?c29 ?k29 ?a30 ?l30 ?c30 ?k30 ?dk23_stretch ?dk23_stretch_order ?dk23_shrink ?dk23_shrink_order ?z_abs ?z_bool ?z_int ?z_isinstance ?z_len ?z_list ?z_max ?z_min ?z_range ?z_repr ?nf_Glue__natural ?nf_Glue__shrink ?nf_Glue__shrink_order ?nf_Glue__stretch ?nf_Glue__stretch_order ?gn_INTEGER_END ?gn_MAX_LENGTH ?gh11 ?gn_ORDERS ?ea_PressError ?ek_PressError ?eb_PressError ?et_PressError ?eh_PressError ?ea_InvalidLength ?ek_InvalidLength ?eb_InvalidLength ?et_InvalidLength ?eh_InvalidLength ?ea_InvalidGlue ?ek_InvalidGlue ?eb_InvalidGlue ?et_InvalidGlue ?eh_InvalidGlue ?ei_InvalidGlue ?x_0_0 ?x_0_1 ?x_0_2 ?x_1_0 ?x_1_1 ?x_1_2 ?x_2_0 ?x_2_1 ?x_2_2 ?sf_Glue ?br_Glue_add ?b1_Glue_add ?b2_Glue_add ?bs_Glue ?br_Glue_mul ?b1_Glue_mul ?b2_Glue_mul ?ne_Glue ?ob_Glue ?nt_Glue_0 ?nt_Glue_1 ?nt_Glue_2 ?nt_Glue_3 ?nt_Glue_4 ?nt_Glue_5 ?nt_Glue_6 ?nt_Glue_Glue
    (case ea_Glue => k_is)
    (case pg_Glue => k_is)
    (case hd_Glue => k_is)
    (case po_Glue => k_is)
    (case sa_Glue => k_is)
    (case mk_Glue => k_is)
    (case kc_Glue => k_is)
    (case hn_cls => k_is)
    (case ht_cls => k_is)
    (case ha_Glue => k_is)
    (case hm_Glue => k_is)
    (case kt_Glue_0 => kit_is)
    (case kt_Glue_1 => kit_is)
    (case kt_Glue_2 => kit_is)
    (case kt_Glue_3 => kit_is)
    (case kt_Glue_4 => kit_is)
    (case kt_Glue_5 => kit_is)
    (case kt_Glue_6 => kit_is)
    (case kt_Glue_Glue => kit_is)
    (case a0 => k_is)
    (case l0 => k_is)
    (case c0 => k_is)
    (case k0 => k_is)
    (case a1 => k_is)
    (case l1 => k_is)
    (case c1 => k_is)
    (case k1 => k_is)
    (case a2 => k_is)
    (case l2 => k_is)
    (case c2 => k_is)
    (case k2 => k_is)
    (case a3 => k_is)
    (case l3 => k_is)
    (case c3 => k_is)
    (case k3 => k_is)
    (case a4 => k_is)
    (case l4 => k_is)
    (case c4 => k_is)
    (case k4 => k_is)
    (case a5 => k_is)
    (case l5 => k_is)
    (case c5 => k_is)
    (case k5 => k_is)
    (case a6 => k_is)
    (case l6 => k_is)
    (case c6 => k_is)
    (case k6 => k_is)
    (case a7 => k_is)
    (case pg7 => k_is)
    (case pt7 => k_is)
    (case pr7 => k_is)
    (case l7 => k_is)
    (case c7 => k_is)
    (case k7 => k_is)
    (case a8 => k_is)
    (case pg8 => k_is)
    (case pt8 => k_is)
    (case pr8 => k_is)
    (case l8 => k_is)
    (case c8 => k_is)
    (case k8 => k_is)
    (case a9 => k_is)
    (case pg9 => k_is)
    (case pt9 => k_is)
    (case pr9 => k_is)
    (case l9 => k_is)
    (case c9 => k_is)
    (case k9 => k_is)
    (case a10 => k_is)
    (case pg10 => k_is)
    (case pt10 => k_is)
    (case pr10 => k_is)
    (case l10 => k_is)
    (case c10 => k_is)
    (case k10 => k_is)
    (case a11 => k_is)
    (case pg11 => k_is)
    (case pt11 => k_is)
    (case pr11 => k_is)
    (case l11 => k_is)
    (case c11 => k_is)
    (case k11 => k_is)
    (case a12 => k_is)
    (case l12 => k_is)
    (case c12 => k_is)
    (case k12 => k_is)
    (case fn12 => k_is)
    (case a13 => k_is)
    (case l13 => k_is)
    (case c13 => k_is)
    (case k13 => k_is)
    (case a14 => k_is)
    (case l14 => k_is)
    (case c14 => k_is)
    (case k14 => k_is)
    (case a15 => k_is)
    (case l15 => k_is)
    (case c15 => k_is)
    (case k15 => k_is)
    (case a16 => k_is)
    (case l16 => k_is)
    (case c16 => k_is)
    (case k16 => k_is)
    (case a17 => k_is)
    (case l17 => k_is)
    (case c17 => k_is)
    (case k17 => k_is)
    (case a18 => k_is)
    (case l18 => k_is)
    (case c18 => k_is)
    (case k18 => k_is)
    (case a19 => k_is)
    (case l19 => k_is)
    (case c19 => k_is)
    (case k19 => k_is)
    (case fn19 => k_is)
    (case a20 => k_is)
    (case l20 => k_is)
    (case c20 => k_is)
    (case k20 => k_is)
    (case a21 => k_is)
    (case l21 => k_is)
    (case c21 => k_is)
    (case k21 => k_is)
    (case a22 => k_is)
    (case l22 => k_is)
    (case c22 => k_is)
    (case k22 => k_is)
    (case a23 => k_is)
    (case l23 => k_is)
    (case c23 => k_is)
    (case k23 => k_is)
    (case fn23 => k_is)
    (case a24 => k_is)
    (case l24 => k_is)
    (case c24 => k_is)
    (case k24 => k_is)
    (case a25 => k_is)
    (case l25 => k_is)
    (case c25 => k_is)
    (case k25 => k_is)
    (case fn25 => k_is)
    (case a26 => k_is)
    (case l26 => k_is)
    (case c26 => k_is)
    (case k26 => k_is)
    (case fn26 => k_is)
    (case a27 => k_is)
    (case l27 => k_is)
    (case c27 => k_is)
    (case k27 => k_is)
    (case a28 => k_is)
    (case l28 => k_is)
    (case c28 => k_is)
    (case k28 => k_is)
    (case a29 => k_is)
    (case l29 => k_is)
    (case c29 => k_is)
    (case k29 => k_is)
    (case a30 => k_is)
    (case l30 => k_is)
    (case c30 => k_is)
    (case k30 => k_is)
    (case dk23_stretch => k_is)
    (case dk23_stretch_order => k_is)
    (case dk23_shrink => k_is)
    (case dk23_shrink_order => k_is)
    (case z_abs => k_is)
    (case z_bool => k_is)
    (case z_int => k_is)
    (case z_isinstance => k_is)
    (case z_len => k_is)
    (case z_list => k_is)
    (case z_max => k_is)
    (case z_min => k_is)
    (case z_range => k_is)
    (case z_repr => k_is)
    (case nf_Glue__natural => k_is)
    (case nf_Glue__shrink => k_is)
    (case nf_Glue__shrink_order => k_is)
    (case nf_Glue__stretch => k_is)
    (case nf_Glue__stretch_order => k_is)
    (case gn_INTEGER_END => k_is)
    (case gn_MAX_LENGTH => k_is)
    (case gn_ORDERS => k_is)
    (case ea_PressError => k_is)
    (case ek_PressError => k_is)
    (case eb_PressError => k_is)
    (case et_PressError => k_is)
    (case eh_PressError => k_is)
    (case ea_InvalidLength => k_is)
    (case ek_InvalidLength => k_is)
    (case eb_InvalidLength => k_is)
    (case et_InvalidLength => k_is)
    (case eh_InvalidLength => k_is)
    (case ea_InvalidGlue => k_is)
    (case ek_InvalidGlue => k_is)
    (case eb_InvalidGlue => k_is)
    (case et_InvalidGlue => k_is)
    (case eh_InvalidGlue => k_is)
    (case ei_InvalidGlue => k_exc)
    (case x_0_0 => k_is)
    (case x_0_1 => k_is)
    (case x_0_2 => k_is)
    (case x_1_0 => k_is)
    (case x_1_1 => k_is)
    (case x_1_2 => k_is)
    (case x_2_0 => k_is)
    (case x_2_1 => k_is)
    (case x_2_2 => k_is)
    (case sf_Glue => k_is)
    (case br_Glue_add => k_is)
    (case b1_Glue_add => k_is)
    (case b2_Glue_add => k_is)
    (case bs_Glue => k_is)
    (case br_Glue_mul => k_is)
    (case b1_Glue_mul => k_is)
    (case b2_Glue_mul => k_is)
    (case ne_Glue => k_is)
    (case ob_Glue => k_is)
    (case nt_Glue_0 => k_is)
    (case nt_Glue_1 => k_is)
    (case nt_Glue_2 => k_is)
    (case nt_Glue_3 => k_is)
    (case nt_Glue_4 => k_is)
    (case nt_Glue_5 => k_is)
    (case nt_Glue_6 => k_is)
    (case nt_Glue_Glue => k_is)
    (case gh11 => k_is)

