import PyProof.Rows.All
import Wide.All
import OpenK.AllK
import Wide.FinOn
import HandS.ForMost
import HandS.ForExc
import HandS.Wide
import HandS.IsInst
import HandS.Style
import HandS.RaiseMore
import HandS.Conv
import HandS.TupAny
import HandS.TupMul
import KE.KExcInit
import HandS.ExcField
import PyProof.StrOps2
import PyProof.WalkInts
import PyProof.ReprRoads
import PyProof.FitsInt
import PySem.Challenge.RW_pagewright_k02_scaled_lengths_and_errors
import HandS.ExcIs
set_option Elab.async false
set_option linter.all false
set_option maxRecDepth 100000
/-! A value layer over the hand layer: states are slots of immutable data and cells of owned lists. -/
namespace Lay
open PySem PySem.Spec L2

/-! ### heaps that grow -/
def Ex (H H' : Hp) : Prop := ∀ a o, H a = some o → H' a = some o
theorem Ex.refl (H : Hp) : Ex H H := fun _ _ h => h
theorem Ex.trans {H H1 H2 : Hp} (a : Ex H H1) (b : Ex H1 H2) : Ex H H2 := fun x o h => b x o (a x o h)
theorem Ex.new {H : Hp} {p : Addr} {o : HO} (h : H p = none) : Ex H (upd H p o) := fun a u e => by
  rw [upd_ne (ne_of_none e h)]
  exact e
theorem Ex.rd {H H' : Hp} {a : Addr} {u : HO} (e : Ex H H') (h : Rd H a u) : Rd H' a u := by
  rcases h with h | ⟨o, h⟩
  · exact Or.inl (e a _ h)
  · exact Or.inr ⟨o, e a _ h⟩
theorem Ex.sl {K : PySem.W.Frag} {H H' : Hp} {a : Addr} {xs : List V} (e : Ex H H') (h : SqL K H a xs) : SqL K H' a xs := by
  rcases h with h | h
  · exact Or.inl (e.rd h)
  · exact Or.inr h
theorem Ex.st {K : PySem.W.Frag} {H H' : Hp} {a : Addr} {xs : List V} (e : Ex H H') (h : SqT K H a xs) : SqT K H' a xs := by
  rcases h with h | h
  · exact Or.inl (e.rd h)
  · exact Or.inr h
theorem Ex.back {H H' : Hp} {p : Addr} (e : Ex H H') (h : H' p = none) : H p = none := by
  cases h1 : H p with
  | none => rfl
  | some o =>
    rw [e p o h1] at h
    cases h

/-! ### data -/
inductive D where
  | non | bl (b : Bool) | int (i : Int) | str (s : Str)
  | lst (ds : List D) | tup (ds : List D) | dct (kvs : List (Key × D))
  | ins (C : Addr) (fs : List (Str × D))
  | sq (ds : List D) | ty (n : String) | err (a dd : Addr) (f : Str) (x : D)

mutual
inductive AtD (K : PySem.W.Frag) (G : Hp) : V → D → Prop
  | non : AtD K G .non .non
  | bl (b : Bool) : AtD K G (.bl b) (.bl b)
  | int (i : Int) : AtD K G (.int i) (.int i)
  | str (x : Str) : AtD K G (.str x) (.str x)
  | lst {a : Addr} {xs : List V} {ds : List D} : G a = some (.lst xs) → AtDs K G xs ds → AtD K G (.ref a) (.lst ds)
  | sq {a : Addr} {xs : List V} {ds : List D} : SqL K G a xs → AtDs K G xs ds → AtD K G (.ref a) (.sq ds)
  | ty (n : String) : AtD K G (.ty n) (.ty n)
  | err {a dd : Addr} {f : Str} {x : D} {v : V} : G dd = some (.xd [(f, v)]) → AtD K G v x → AtD K G (.ref a) (.err a dd f x)
  | tup {a : Addr} {xs : List V} {ds : List D} : SqT K G a xs → AtDs K G xs ds → AtD K G (.ref a) (.tup ds)
  | dct {a : Addr} {kvs : List (Key × V)} {ds : List (Key × D)} : G a = some (.dK kvs) → AtKs K G kvs ds → AtD K G (.ref a) (.dct ds)
  | ins {a C dx : Addr} {fs : List (Str × V)} {ds : List (Str × D)} : G a = some (.ins C dx fs) → AtFs K G fs ds → AtD K G (.ref a) (.ins C ds)
inductive AtDs (K : PySem.W.Frag) (G : Hp) : List V → List D → Prop
  | nil : AtDs K G [] []
  | cons {v : V} {vs : List V} {d : D} {ds : List D} : AtD K G v d → AtDs K G vs ds → AtDs K G (v :: vs) (d :: ds)
inductive AtKs (K : PySem.W.Frag) (G : Hp) : List (Key × V) → List (Key × D) → Prop
  | nil : AtKs K G [] []
  | cons {k : Key} {v : V} {vs : List (Key × V)} {d : D} {ds : List (Key × D)} : AtD K G v d → AtKs K G vs ds → AtKs K G ((k, v) :: vs) ((k, d) :: ds)
inductive AtFs (K : PySem.W.Frag) (G : Hp) : List (Str × V) → List (Str × D) → Prop
  | nil : AtFs K G [] []
  | cons {k : Str} {v : V} {vs : List (Str × V)} {d : D} {ds : List (Str × D)} : AtD K G v d → AtFs K G vs ds → AtFs K G ((k, v) :: vs) ((k, d) :: ds)
end

section
variable {K : PySem.W.Frag} {G G' : Hp}
mutual
theorem AtD.mono (e : Ex G G') : ∀ {v : V} {d : D}, AtD K G v d → AtD K G' v d
  | _, _, .non => .non
  | _, _, .bl b => .bl b
  | _, _, .int b => .int b
  | _, _, .str b => .str b
  | _, _, .lst h hs => .lst (e _ _ h) (AtDs.mono e hs)
  | _, _, .sq h hs => .sq (e.sl h) (AtDs.mono e hs)
  | _, _, .ty n => .ty n
  | _, _, .err h hs => .err (e _ _ h) (AtD.mono e hs)
  | _, _, .tup h hs => .tup (e.st h) (AtDs.mono e hs)
  | _, _, .dct h hs => .dct (e _ _ h) (AtKs.mono e hs)
  | _, _, .ins h hs => .ins (e _ _ h) (AtFs.mono e hs)
theorem AtDs.mono (e : Ex G G') : ∀ {v : List V} {d : List D}, AtDs K G v d → AtDs K G' v d
  | _, _, .nil => .nil
  | _, _, .cons h hs => .cons (AtD.mono e h) (AtDs.mono e hs)
theorem AtKs.mono (e : Ex G G') : ∀ {v : List (Key × V)} {d : List (Key × D)}, AtKs K G v d → AtKs K G' v d
  | _, _, .nil => .nil
  | _, _, .cons h hs => .cons (AtD.mono e h) (AtKs.mono e hs)
theorem AtFs.mono (e : Ex G G') : ∀ {v : List (Str × V)} {d : List (Str × D)}, AtFs K G v d → AtFs K G' v d
  | _, _, .nil => .nil
  | _, _, .cons h hs => .cons (AtD.mono e h) (AtFs.mono e hs)
end
theorem AtDs.len : ∀ {v : List V} {d : List D}, AtDs K G v d → v.length = d.length
  | _, _, .nil => rfl
  | _, _, .cons _ hs => by rw [List.length_cons, List.length_cons, AtDs.len hs]
theorem AtDs.get : ∀ {v : List V} {d : List D} {i : Nat} {x : D}, AtDs K G v d → d[i]? = some x → ∃ u, v[i]? = some u ∧ AtD K G u x
  | _, _, i, _, .nil, e => by simp at e
  | _, _, 0, _, .cons h _, e => by simp at e; subst e; exact ⟨_, rfl, h⟩
  | _, _, i + 1, x, .cons _ hs, e => by
    obtain ⟨u, h1, h2⟩ := AtDs.get (i := i) (x := x) hs (by simpa using e)
    exact ⟨u, by simpa using h1, h2⟩
theorem AtDs.getV : ∀ {v : List V} {d : List D} {i : Nat} {u : V}, AtDs K G v d → v[i]? = some u → ∃ x, d[i]? = some x ∧ AtD K G u x
  | _, _, i, _, .nil, e => by simp at e
  | _, _, 0, _, .cons h _, e => by simp at e; subst e; exact ⟨_, rfl, h⟩
  | _, _, i + 1, x, .cons _ hs, e => by
    obtain ⟨u, h1, h2⟩ := AtDs.getV (i := i) (u := x) hs (by simpa using e)
    exact ⟨u, by simpa using h1, h2⟩
theorem AtDs.append : ∀ {v w : List V} {d e : List D}, AtDs K G v d → AtDs K G w e → AtDs K G (v ++ w) (d ++ e)
  | _, _, _, _, .nil, h => h
  | _, _, _, _, .cons a b, h => .cons a (AtDs.append b h)
theorem AtDs.set : ∀ {v : List V} {d : List D} {u : V} {x : D} (i : Nat), AtDs K G v d → AtD K G u x → AtDs K G (v.set i u) (d.set i x)
  | _, _, _, _, _, .nil, _ => .nil
  | _, _, _, _, 0, .cons _ b, h => .cons h b
  | _, _, _, _, i + 1, .cons a b, h => .cons a (AtDs.set i b h)
theorem AtDs.one {v : V} {d : D} (h : AtD K G v d) : AtDs K G [v] [d] := .cons h .nil
theorem AtDs.drop : ∀ {v : List V} {d : List D} (n : Nat), AtDs K G v d → AtDs K G (v.drop n) (d.drop n)
  | _, _, 0, h => h
  | _, _, _ + 1, .nil => .nil
  | _, _, n + 1, .cons _ b => AtDs.drop n b
theorem AtDs.take : ∀ {v : List V} {d : List D} (n : Nat), AtDs K G v d → AtDs K G (v.take n) (d.take n)
  | _, _, 0, _ => .nil
  | _, _, _ + 1, .nil => .nil
  | _, _, n + 1, .cons a b => .cons a (AtDs.take n b)
theorem AtFs.look : ∀ {fs : List (Str × V)} {ds : List (Str × D)} {f : Str} {x : D}, AtFs K G fs ds → ds.lookup f = some x → ∃ u, fs.lookup f = some u ∧ AtD K G u x
  | _, _, _, _, .nil, e => by simp at e
  | (k, v) :: _, _, f, x, .cons h hs, e => by
    simp only [List.lookup] at e ⊢
    cases hb : f == k with
    | true => rw [hb] at e; cases e; exact ⟨_, rfl, h⟩
    | false => rw [hb] at e; exact AtFs.look hs e
end

/-! ### the state -/
inductive Sl where
  | no | dat (d : D) | own (k : Nat)
inductive Ce where
  | gone | lst (ds : List D) | dct (kvs : List (Key × D))
def CeAt (K : PySem.W.Frag) (G H : Hp) (p : Addr) : Ce → Prop
  | .gone => True
  | .lst ds => G p = none ∧ ∃ vs, H p = some (.lst vs) ∧ AtDs K G vs ds
  | .dct ds => G p = none ∧ ∃ vs, H p = some (.dK vs) ∧ AtKs K G vs ds
/-- the frame: the owned cells that came as arguments, the heap and the public heap at the entry -/
structure Fx where
  P0 : List Addr
  H0 : Hp
  G0 : Hp
structure SOk (K : PySem.W.Frag) (F : Fx) (G : Hp) (ps : List Addr) (ρ : List Sl) (S : List Ce) (σ : L2.St) (H : Hp) : Prop where
  sub : Ex G H
  base : Ex F.G0 G
  keep : ∀ a o, a ∉ F.P0 → F.H0 a = some o → H a = some o
  new : ∀ a o, G a = some o → F.G0 a = some o ∨ F.H0 a = none
  pre : F.P0 <+: ps
  nd : ps.Nodup
  fresh : ∀ p ∈ ps, p ∈ F.P0 ∨ F.H0 p = none
  there : ∀ p ∈ ps, ∃ o, H p = some o
  plen : ps.length = S.length
  slen : σ.length = ρ.length
  dat : ∀ (i : Nat) (d : D), ρ[i]? = some (.dat d) → ∃ v, σ[i]? = some (some v) ∧ AtD K G v d
  own : ∀ (i k : Nat), ρ[i]? = some (.own k) → ∃ p, ps[k]? = some p ∧ σ[i]? = some (some (.ref p))
  cell : ∀ (k : Nat) (p : Addr) (c : Ce), ps[k]? = some p → S[k]? = some c → CeAt K G H p c
/-- an exception's own dict -/
def ExcAt (K : PySem.W.Frag) (G : Hp) (d : Option Addr) : Option (Str × D) → Prop
  | none => d = none
  | some (f, x) => ∃ a v, d = some a ∧ G a = some (.xd [(f, v)]) ∧ AtD K G v x
/-- an exception that comes: its class, what it keeps -/
abbrev XP := Addr → Option (Str × D) → List Sl → List Ce → Prop
def X0 : XP := fun _ _ _ _ => False

/-! ### readings by the text -/
def WE (X : Cx) (e : Expr) : TE := fun σ H Q => ∃ t, PE X e t ∧ t σ H Q
def WT (X : Cx) (e : Expr) : TT := fun σ H Q => ∃ t, PT X e t ∧ t σ H Q
def WA (X : Cx) (es : List Expr) : TA := fun σ H Q => ∃ t, PA X es t ∧ t σ H Q
def WS (X : Cx) (st : Stmt) : TS := fun D σ H => ∃ t, PS X st t ∧ t D σ H
def WSs (X : Cx) (st : List Stmt) : TS := fun D σ H => ∃ t, PSs X st t ∧ t D σ H
section
variable {X : Cx} {e : Expr} {es : List Expr} {st : Stmt} {sts : List Stmt}
theorem we_pe : PE X e (WE X e) := ⟨fun pins s σ H Q I ⟨t, h, q⟩ => h.run pins s σ H Q I q⟩
theorem wt_pt : PT X e (WT X e) := ⟨fun pins s σ H Q I ⟨t, h, q⟩ => h.run pins s σ H Q I q⟩
theorem wa_pa : PA X es (WA X es) := ⟨fun pos pins s σ H Q I ⟨t, h, q⟩ => h.run pos pins s σ H Q I q⟩
theorem ws_ps : PS X st (WS X st) := ⟨fun pins s σ H D I ⟨t, h, q⟩ => h.run pins s σ H D I q⟩
theorem wss_pss : PSs X sts (WSs X sts) := ⟨fun pins s σ H D I ⟨t, h, q⟩ => h.run pins s σ H D I q⟩
end

/-- where one stands: the context, the frame, what is wished of exceptions -/
structure Cz where
  X : Cx
  F : Fx
  W : WX
  tk : Takes X W
section
variable (c : Cz)
def EX (e : Expr) (ρ : List Sl) (S : List Ce) (Z : XP) (Q : D → List Ce → Prop) : Prop :=
  ∀ (σ : L2.St) (G : Hp) (ps : List Addr) (H : Hp) (k : VK), SOk c.X.K c.F G ps ρ S σ H →
    (∀ v G' H' d S', SOk c.X.K c.F G' ps ρ S' σ H' → Ex G G' → AtD c.X.K G' v d → Q d S' → k v H') →
    (∀ C pl dd G' H' S', SOk c.X.K c.F G' ps ρ S' σ H' → Ex G G' → ExcAt c.X.K G' dd pl → Z C pl ρ S' → c.W (.ref C) dd σ H') → WE c.X e σ H k
def TX (e : Expr) (ρ : List Sl) (S : List Ce) (Z : XP) (Q : Bool → List Ce → Prop) : Prop :=
  ∀ (σ : L2.St) (G : Hp) (ps : List Addr) (H : Hp) (k : Bool → Hp → Prop), SOk c.X.K c.F G ps ρ S σ H →
    (∀ b G' H' S', SOk c.X.K c.F G' ps ρ S' σ H' → Ex G G' → Q b S' → k b H') →
    (∀ C pl dd G' H' S', SOk c.X.K c.F G' ps ρ S' σ H' → Ex G G' → ExcAt c.X.K G' dd pl → Z C pl ρ S' → c.W (.ref C) dd σ H') → WT c.X e σ H k
/-- arguments: data, or an owned cell by its name -/
inductive AtA (K : PySem.W.Frag) (G : Hp) (ps : List Addr) : V → Sl → Prop
  | dat {v : V} {d : D} : AtD K G v d → AtA K G ps v (.dat d)
  | own {p : Addr} {k : Nat} : ps[k]? = some p → AtA K G ps (.ref p) (.own k)
inductive AtAs (K : PySem.W.Frag) (G : Hp) (ps : List Addr) : List V → List Sl → Prop
  | nil : AtAs K G ps [] []
  | cons {v : V} {vs : List V} {a : Sl} {as : List Sl} : AtA K G ps v a → AtAs K G ps vs as → AtAs K G ps (v :: vs) (a :: as)
def AX (es : List Expr) (ρ : List Sl) (S : List Ce) (Z : XP) (Q : List Sl → List Ce → Prop) : Prop :=
  ∀ (σ : L2.St) (G : Hp) (ps : List Addr) (H : Hp) (k : List V → Hp → Prop), SOk c.X.K c.F G ps ρ S σ H →
    (∀ vs G' H' as S', SOk c.X.K c.F G' ps ρ S' σ H' → Ex G G' → AtAs c.X.K G' ps vs as → Q as S' → k vs H') →
    (∀ C pl dd G' H' S', SOk c.X.K c.F G' ps ρ S' σ H' → Ex G G' → ExcAt c.X.K G' dd pl → Z C pl ρ S' → c.W (.ref C) dd σ H') → WA c.X es σ H k
/-- what is to hold behind a block -/
structure Post where
  nx : List Sl → List Ce → Prop
  rt : D → List Ce → Prop
  bk : List Sl → List Ce → Prop := fun _ _ => False
  ct : List Sl → List Ce → Prop := fun _ _ => False
  ex : XP
  rf : List D → List Ce → Prop := fun _ _ => False
structure Real (P : Post) (G : Hp) (E : Ends) : Prop where
  nx : ∀ σ G' ps H ρ S, SOk c.X.K c.F G' ps ρ S σ H → Ex G G' → P.nx ρ S → E.nx σ H
  rt : ∀ σ G' ps H ρ S v d, SOk c.X.K c.F G' ps ρ S σ H → Ex G G' → AtD c.X.K G' v d → P.rt d S → E.rt v H
  bk : ∀ σ G' ps H ρ S, SOk c.X.K c.F G' ps ρ S σ H → Ex G G' → P.bk ρ S → E.bk σ H
  ct : ∀ σ G' ps H ρ S, SOk c.X.K c.F G' ps ρ S σ H → Ex G G' → P.ct ρ S → E.ct σ H
  ex : ∀ σ G' ps H ρ S C pl dd, SOk c.X.K c.F G' ps ρ S σ H → Ex G G' → ExcAt c.X.K G' dd pl → P.ex C pl ρ S → c.W (.ref C) dd σ H
  rf : ∀ G' H S p vs ds, SOk c.X.K c.F G' c.F.P0 [] (S.take c.F.P0.length) [] H → Ex G G' → H p = none → AtDs c.X.K G' vs ds → P.rf ds S → E.rt (.ref p) (upd H p (.lst vs))
def SX (sts : List Stmt) (ρ : List Sl) (S : List Ce) (P : Post) : Prop :=
  ∀ (σ : L2.St) (G : Hp) (ps : List Addr) (H : Hp) (E : Ends), SOk c.X.K c.F G ps ρ S σ H → Real c P G E → WSs c.X sts E σ H
def S1 (st : Stmt) (ρ : List Sl) (S : List Ce) (P : Post) : Prop :=
  ∀ (σ : L2.St) (G : Hp) (ps : List Addr) (H : Hp) (E : Ends), SOk c.X.K c.F G ps ρ S σ H → Real c P G E → WS c.X st E σ H
end
section
variable {c : Cz} {P P' : Post} {G G' : Hp} {E : Ends}
theorem Real.mono (r : Real c P G E) (e : Ex G G') : Real c P G' E :=
  ⟨fun σ G2 ps H ρ S o x => r.nx σ G2 ps H ρ S o (e.trans x), fun σ G2 ps H ρ S v d o x => r.rt σ G2 ps H ρ S v d o (e.trans x), fun σ G2 ps H ρ S o x => r.bk σ G2 ps H ρ S o (e.trans x),
    fun σ G2 ps H ρ S o x => r.ct σ G2 ps H ρ S o (e.trans x), fun σ G2 ps H ρ S C pl dd o x => r.ex σ G2 ps H ρ S C pl dd o (e.trans x), fun G2 H S p vs ds o x => r.rf G2 H S p vs ds o (e.trans x)⟩
end

/-! ### growth -/
inductive Grow : Hp → Hp → Hp → Hp → Prop
  | refl (G H : Hp) : Grow G H G H
  | step {G H G' H' : Hp} {p : Addr} {u : HO} : H p = none → Grow (upd G p u) (upd H p u) G' H' → Grow G H G' H'
theorem Grow.one {G H : Hp} {p : Addr} {u : HO} (h : H p = none) : Grow G H (upd G p u) (upd H p u) := .step h (.refl _ _)
section
variable {ρ : List Sl} {S : List Ce}
theorem SOk.more {K : PySem.W.Frag} {F : Fx} {G : Hp} {ps : List Addr} {σ : L2.St} {H : Hp} (o : SOk K F G ps ρ S σ H) {p : Addr} {u : HO} (hp : H p = none) : SOk K F G ps ρ S σ (upd H p u) :=
  ⟨fun a v e => (Ex.new hp) _ _ (o.sub a v e), o.base, fun a v n e => (Ex.new hp) _ _ (o.keep a v n e), o.new, o.pre, o.nd, o.fresh, fun q hq => (o.there q hq).imp fun w e => (Ex.new hp) _ _ e, o.plen, o.slen, o.dat, o.own, fun i q cl h1 h2 => by
    have z := o.cell i q cl h1 h2
    cases cl with
    | gone => trivial
    | lst ds => obtain ⟨z1, vs, z2, z3⟩ := z; exact ⟨z1, vs, (Ex.new hp) _ _ z2, z3⟩
    | dct ds => obtain ⟨z1, vs, z2, z3⟩ := z; exact ⟨z1, vs, (Ex.new hp) _ _ z2, z3⟩⟩
theorem SOk.free0 {K : PySem.W.Frag} {F : Fx} {G : Hp} {ps : List Addr} {σ : L2.St} {H : Hp} (o : SOk K F G ps ρ S σ H) {p : Addr} (hp : H p = none) : F.H0 p = none := by
  cases e : F.H0 p with
  | none => rfl
  | some u =>
    by_cases hm : p ∈ F.P0
    · obtain ⟨w, hw⟩ := o.there p (o.pre.subset hm)
      rw [hp] at hw; cases hw
    · have z := o.keep p u hm e
      rw [hp] at z; cases z
theorem SOk.put {K : PySem.W.Frag} {F : Fx} {G : Hp} {ps : List Addr} {σ : L2.St} {H : Hp} (o : SOk K F G ps ρ S σ H) {p : Addr} (u : HO) (hp : H p = none) : SOk K F (upd G p u) ps ρ S σ (upd H p u) := by
  have gp : G p = none := o.sub.back hp
  have eg : Ex G (upd G p u) := Ex.new gp
  have eh : Ex H (upd H p u) := Ex.new hp
  refine ⟨fun q w e => ?_, o.base.trans eg, fun q w n e => eh _ _ (o.keep q w n e), fun q w e => ?_, o.pre, o.nd, o.fresh, fun q hq => (o.there q hq).imp fun w e => eh _ _ e, o.plen, o.slen, fun i d h => ?_, o.own, fun i q cl h1 h2 => ?_⟩
  · by_cases hq : q = p
    · subst hq; rw [upd_same] at e ⊢; exact e
    · rw [upd_ne hq] at e ⊢; exact o.sub q w e
  · by_cases hq : q = p
    · subst hq; exact .inr (o.free0 hp)
    · rw [upd_ne hq] at e; exact o.new q w e
  · obtain ⟨v, h1, h2⟩ := o.dat i d h
    exact ⟨v, h1, h2.mono eg⟩
  · have hq : q ≠ p := by
      obtain ⟨w, hw⟩ := o.there q (List.mem_of_getElem? h1)
      exact ne_of_none hw hp
    have z := o.cell i q cl h1 h2
    cases cl with
    | gone => trivial
    | lst ds => obtain ⟨z1, vs, z2, z3⟩ := z; exact ⟨by rw [upd_ne hq]; exact z1, vs, by rw [upd_ne hq]; exact z2, z3.mono eg⟩
    | dct ds => obtain ⟨z1, vs, z2, z3⟩ := z; exact ⟨by rw [upd_ne hq]; exact z1, vs, by rw [upd_ne hq]; exact z2, z3.mono eg⟩
theorem Grow.ex {G H G' H' : Hp} (g : Grow G H G' H') : Ex G H → Ex G G' ∧ Ex H H' ∧ Ex G' H' := by
  induction g with
  | refl G H => exact fun e => ⟨Ex.refl _, Ex.refl _, e⟩
  | @step G H G' H' p u hp _ ih =>
    intro e
    have e1 : Ex (upd G p u) (upd H p u) := fun q w h => by
      by_cases hq : q = p
      · subst hq; rw [upd_same] at h ⊢; exact h
      · rw [upd_ne hq] at h ⊢; exact e q w h
    obtain ⟨a, b, c⟩ := ih e1
    exact ⟨(Ex.new (e.back hp)).trans a, (Ex.new hp).trans b, c⟩
theorem SOk.grow {K : PySem.W.Frag} {F : Fx} {ps : List Addr} {σ : L2.St} {G H G' H' : Hp} (g : Grow G H G' H') : SOk K F G ps ρ S σ H → SOk K F G' ps ρ S σ H' := by
  induction g with
  | refl G H => exact fun o => o
  | step hp _ ih => exact fun o => ih (o.put _ hp)
end
end Lay

namespace Lay
open PySem PySem.Spec L2

/-! ### expressions -/
section
variable {c : Cz} {ρ : List Sl} {S : List Ce} {Z : XP} {Q : D → List Ce → Prop} {a b e : Expr} {es : List Expr} {pos : Pos}
theorem ex_var (i : Nat) {x : Str} {d : D} (hd : ρ[i]? = some (.dat d)) (q : Q d S) (hN : c.X.N[i]? = some x := by rfl) (hv : Vis c.X.env.scope x := by first | exact Or.inl rfl | exact Or.inr (Or.inl rfl) | exact Or.inr (Or.inr rfl))
    (h1 : (x == ("__debug__" : Str)) = false := by decide) (h2 : (x == ("__classdict__" : Str)) = false := by decide) : EX c (.Name x pos) ρ S Z Q := fun σ G ps H k o kn _ => by
  obtain ⟨v, hs, hv'⟩ := o.dat i d hd
  exact ⟨_, pe_var hN hv h1 h2, v, hs, kn v G H d S o (Ex.refl G) hv' q⟩
theorem ex_int {i : Int} {j : Nat} (q : Q (.int i) S) : EX c (.Constant (.int i) j pos) ρ S Z Q := fun σ G ps H k o kn _ => ⟨_, pe_int, kn _ G H _ S o (Ex.refl G) (.int i) q⟩
theorem ex_bl {i : Bool} {j : Nat} (q : Q (.bl i) S) : EX c (.Constant (.bool i) j pos) ρ S Z Q := fun σ G ps H k o kn _ => ⟨_, pe_bl, kn _ G H _ S o (Ex.refl G) (.bl i) q⟩
theorem ex_non {j : Nat} (q : Q .non S) : EX c (.Constant .none j pos) ρ S Z Q := fun σ G ps H k o kn _ => ⟨_, pe_non, kn _ G H _ S o (Ex.refl G) .non q⟩
theorem ex_str {i : Str} {j : Nat} (q : Q (.str i) S) : EX c (.Constant (.str i) j pos) ρ S Z Q := fun σ G ps H k o kn _ => ⟨_, pe_str, kn _ G H _ S o (Ex.refl G) (.str i) q⟩
/-- a module's constant whose data stand in the written part -/
def KonD (K : PySem.W.Frag) (mg : Str → Option Value) (x : Str) (d : D) : Prop := ∃ u v, mg x = some u ∧ RelV v u ∧ ∀ G, AtD K G v d
theorem ex_glob {x : Str} {d : D} (h : KonD c.X.K c.X.mg x d) (q : Q d S) (hg : Gl c.X x := by rfl) (hd : (x == ("__debug__" : Str)) = false := by decide) : EX c (.Name x pos) ρ S Z Q := fun σ G ps H k o kn _ => by
  obtain ⟨u, v, h1, h2, h3⟩ := h
  exact ⟨_, pe_glob hg h1 h2 hd, kn _ G H _ S o (Ex.refl G) (h3 G) q⟩
/-- an operator by values, on data -/
def RD (K : PySem.W.Frag) (r : R2) (d1 d2 d : D) : Prop := ∀ (G H : Hp) (x y : V) (k : VK), Ex G H → AtD K G x d1 → AtD K G y d2 → (∀ z G' H', Grow G H G' H' → AtD K G' z d → k z H') → r x y H k
def UD (K : PySem.W.Frag) (r : V → Hp → VK → Prop) (d1 d : D) : Prop := ∀ (G H : Hp) (x : V) (k : VK), Ex G H → AtD K G x d1 → (∀ z G' H', Grow G H G' H' → AtD K G' z d → k z H') → r x H k
theorem ex_op {op : Operator} {r : R2} (ho : OpR c.X (binaryOp op) r) (h : EX c a ρ S Z fun d1 S1 => EX c b ρ S1 Z fun d2 S2 => ∃ d, RD c.X.K r d1 d2 d ∧ Q d S2) : EX c (.BinOp a op b pos) ρ S Z Q := fun σ G ps H k o kn kx =>
  ⟨_, pe_op ho we_pe we_pe, h σ G ps H _ o (fun v1 G1 H1 d1 S1 o1 e1 a1 q1 => q1 σ G1 ps H1 _ o1 (fun v2 G2 H2 d2 S2 o2 e2 a2 ⟨d, hr, q⟩ =>
    hr G2 H2 v1 v2 k o2.sub (a1.mono e2) a2 fun z G' H' g hz => kn z G' H' d S2 (o2.grow g) ((e1.trans e2).trans (g.ex o2.sub).1) hz q)
    (fun C pl dd G' H' S' o' e' x z => kx C pl dd G' H' S' o' (e1.trans e') x z)) kx⟩
theorem ex_cmp {op : CmpOp} {r : R2} (ho : OpR c.X (compareOp op) r) (h : EX c a ρ S Z fun d1 S1 => EX c b ρ S1 Z fun d2 S2 => ∃ d, RD c.X.K r d1 d2 d ∧ Q d S2) (hm : behindInMarks op b = false := by first | exact nomark _ | rfl) : EX c (.Compare a [op] [b] pos) ρ S Z Q := fun σ G ps H k o kn kx =>
  ⟨_, pe_cmpR ho we_pe we_pe hm, h σ G ps H _ o (fun v1 G1 H1 d1 S1 o1 e1 a1 q1 => q1 σ G1 ps H1 _ o1 (fun v2 G2 H2 d2 S2 o2 e2 a2 ⟨d, hr, q⟩ =>
    hr G2 H2 v1 v2 k o2.sub (a1.mono e2) a2 fun z G' H' g hz => kn z G' H' d S2 (o2.grow g) ((e1.trans e2).trans (g.ex o2.sub).1) hz q)
    (fun C pl dd G' H' S' o' e' x z => kx C pl dd G' H' S' o' (e1.trans e') x z)) kx⟩
theorem ex_un {op : UnaryOp} {r : V → Hp → VK → Prop} (ho : UnR c.X (unaryOp op) r) (h : EX c a ρ S Z fun d1 S1 => ∃ d, UD c.X.K r d1 d ∧ Q d S1) : EX c (.UnaryOp op a pos) ρ S Z Q := fun σ G ps H k o kn kx =>
  ⟨_, pe_un ho we_pe, h σ G ps H _ o (fun v1 G1 H1 d1 S1 o1 e1 a1 ⟨d, hr, q⟩ =>
    hr G1 H1 v1 k o1.sub a1 fun z G' H' g hz => kn z G' H' d S1 (o1.grow g) (e1.trans (g.ex o1.sub).1) hz q) kx⟩
theorem ex_ix {r : R2} (ho : IxR c.X r) (h : EX c a ρ S Z fun d1 S1 => EX c b ρ S1 Z fun d2 S2 => ∃ d, RD c.X.K r d1 d2 d ∧ Q d S2) (hs : PlainIx b := by exact fun _ _ => rfl) : EX c (.Subscript a b pos) ρ S Z Q := fun σ G ps H k o kn kx =>
  ⟨_, pe_ix ho we_pe we_pe hs, h σ G ps H _ o (fun v1 G1 H1 d1 S1 o1 e1 a1 q1 => q1 σ G1 ps H1 _ o1 (fun v2 G2 H2 d2 S2 o2 e2 a2 ⟨d, hr, q⟩ =>
    hr G2 H2 v1 v2 k o2.sub (a1.mono e2) a2 fun z G' H' g hz => kn z G' H' d S2 (o2.grow g) ((e1.trans e2).trans (g.ex o2.sub).1) hz q)
    (fun C pl dd G' H' S' o' e' x z => kx C pl dd G' H' S' o' (e1.trans e') x z)) kx⟩
/-- a subscript of an owned list by its name -/
theorem ex_ixO (i : Nat) {x : Str} {j : Nat} {ds : List D} {p1 : Pos} (hx : ρ[i]? = some (.own j)) (h : EX c b ρ S Z fun d2 S2 => ∃ n d ds, d2 = .int n ∧ S2[j]? = some (.lst ds) ∧ atI ds n = some d ∧ Q d S2) (hN : c.X.N[i]? = some x := by rfl)
    (hv : Vis c.X.env.scope x := by first | exact Or.inl rfl | exact Or.inr (Or.inl rfl) | exact Or.inr (Or.inr rfl)) (h1 : (x == ("__debug__" : Str)) = false := by decide) (h2 : (x == ("__classdict__" : Str)) = false := by decide)
    (hs : PlainIx b := by exact fun _ _ => rfl) : EX c (.Subscript (.Name x p1) b pos) ρ S Z Q := fun σ G ps H k o kn kx => by
  obtain ⟨p, hp, hsx⟩ := o.own i j hx
  refine ⟨_, pe_ix ix_list (pe_var hN hv h1 h2) we_pe hs, .ref p, hsx, h σ G ps H _ o (fun v2 G2 H2 d2 S2 o2 e2 a2 q2 => ?_) kx⟩
  obtain ⟨n, d, ds, rfl, hS, ha, q⟩ := q2
  cases a2
  obtain ⟨_, vs, hv2, hds⟩ := (o2.cell j p _ hp hS : CeAt c.X.K G2 H2 p (.lst ds))
  obtain ⟨m, m1, m2, _⟩ := atI_get ha
  obtain ⟨u, u1, u2⟩ := hds.get m2
  refine ⟨p, vs, n, u, rfl, rfl, SqL.of hv2, ?_, kn u G2 H2 d S2 o2 e2 u2 q⟩
  unfold atI at ha ⊢
  rw [hds.len]
  cases hi : ixN ds.length n with
  | none => rw [hi] at ha; cases ha
  | some w =>
    rw [hi] at ha
    have h3 : ds[w]? = some d := ha
    obtain ⟨u', u3, _⟩ := hds.get h3
    have e3 := (ixN_seq hi).1
    rw [m1] at e3
    cases e3
    exact u1
/-! and, or, not, if -/
theorem ex_and1 {op : BoolOp} (h : EX c a ρ S Z Q) : EX c (.BoolOp op [a] pos) ρ S Z Q := fun σ G ps H k o kn kx => ⟨_, pe_one we_pe, h σ G ps H k o kn kx⟩
theorem ex_and (h : EX c a ρ S Z fun d S1 => ∃ t, d = .bl t ∧ (t = true → EX c (.BoolOp .And (b :: es) pos) ρ S1 Z Q) ∧ (t = false → Q (.bl false) S1)) : EX c (.BoolOp .And (a :: b :: es) pos) ρ S Z Q := fun σ G ps H k o kn kx =>
  ⟨_, pe_and we_pe we_pe, h σ G ps H _ o (fun v1 G1 H1 d1 S1 o1 e1 a1 ⟨t, ed, q1, q2⟩ => by
    subst ed
    cases a1
    refine ⟨t, rfl, ?_⟩
    cases t with
    | true => exact iteT (q1 rfl σ G1 ps H1 k o1 (fun v G' H' d S' o' e' => kn v G' H' d S' o' (e1.trans e')) fun C pl dd G' H' S' o' e' => kx C pl dd G' H' S' o' (e1.trans e'))
    | false => exact iteF (kn _ G1 H1 _ S1 o1 e1 (.bl false) (q2 rfl))) kx⟩
theorem ex_or (h : EX c a ρ S Z fun d S1 => ∃ t, d = .bl t ∧ (t = false → EX c (.BoolOp .Or (b :: es) pos) ρ S1 Z Q) ∧ (t = true → Q (.bl true) S1)) : EX c (.BoolOp .Or (a :: b :: es) pos) ρ S Z Q := fun σ G ps H k o kn kx =>
  ⟨_, pe_or we_pe we_pe, h σ G ps H _ o (fun v1 G1 H1 d1 S1 o1 e1 a1 ⟨t, ed, q1, q2⟩ => by
    subst ed
    cases a1
    refine ⟨t, rfl, ?_⟩
    cases t with
    | false => exact iteF (q1 rfl σ G1 ps H1 k o1 (fun v G' H' d S' o' e' => kn v G' H' d S' o' (e1.trans e')) fun C pl dd G' H' S' o' e' => kx C pl dd G' H' S' o' (e1.trans e'))
    | true => exact iteT (kn _ G1 H1 _ S1 o1 e1 (.bl true) (q2 rfl))) kx⟩
theorem ex_not (h : EX c a ρ S Z fun d S1 => ∃ t, d = .bl t ∧ Q (.bl (!t)) S1) : EX c (.UnaryOp .Not a pos) ρ S Z Q := fun σ G ps H k o kn kx =>
  ⟨_, pe_not we_pe, h σ G ps H _ o (fun v1 G1 H1 d1 S1 o1 e1 a1 ⟨t, ed, q1⟩ => by
    subst ed
    cases a1
    exact ⟨t, rfl, kn _ G1 H1 _ S1 o1 e1 (.bl _) q1⟩) kx⟩
theorem ex_if {t : Expr} (h : TX c t ρ S Z fun x S1 => (x = true → EX c a ρ S1 Z Q) ∧ (x = false → EX c b ρ S1 Z Q)) : EX c (.IfExp t a b pos) ρ S Z Q := fun σ G ps H k o kn kx =>
  ⟨_, pe_ifExp wt_pt we_pe we_pe, h σ G ps H _ o (fun x G1 H1 S1 o1 e1 q => by
    cases x with
    | true => exact iteT (q.1 rfl σ G1 ps H1 k o1 (fun v G' H' d S' o' e' => kn v G' H' d S' o' (e1.trans e')) fun C pl dd G' H' S' o' e' => kx C pl dd G' H' S' o' (e1.trans e'))
    | false => exact iteF (q.2 rfl σ G1 ps H1 k o1 (fun v G' H' d S' o' e' => kn v G' H' d S' o' (e1.trans e')) fun C pl dd G' H' S' o' e' => kx C pl dd G' H' S' o' (e1.trans e'))) kx⟩
/-- a op1 b op2 c -/
theorem ex_chain {op op' : CmpOp} {r r' : R2} {d : Expr} (ho : OpR c.X (compareOp op) r) (ho' : OpR c.X (compareOp op') r')
    (h : EX c a ρ S Z fun d1 S1 => EX c b ρ S1 Z fun d2 S2 => ∃ t, RD c.X.K r d1 d2 (.bl t) ∧ (t = true → EX c d ρ S2 Z fun d3 S3 => ∃ d, RD c.X.K r' d2 d3 d ∧ Q d S3) ∧ (t = false → Q (.bl false) S2))
    (hm : lastMarks [op, op'] [b, d] = false := by with_unfolding_all rfl) : EX c (.Compare a [op, op'] [b, d] pos) ρ S Z Q := fun σ G ps H k o kn kx =>
  ⟨_, pe_chain ho ho' we_pe we_pe we_pe hm, h σ G ps H _ o (fun v1 G1 H1 d1 S1 o1 e1 a1 q1 => q1 σ G1 ps H1 _ o1 (fun v2 G2 H2 d2 S2 o2 e2 a2 ⟨t, hr, q, q'⟩ =>
    hr G2 H2 v1 v2 _ o2.sub (a1.mono e2) a2 fun z G' H' g hz => by
      cases hz
      have o3 := o2.grow g
      have e3 := (g.ex o2.sub).1
      refine ⟨t, rfl, ?_⟩
      cases t with
      | true =>
        exact iteT (q rfl σ G' ps H' _ o3 (fun v3 G3 H3 d3 S3 o4 e4 a3 ⟨dd, hr', q3⟩ => hr' G3 H3 v2 v3 k o4.sub (a2.mono (e3.trans e4)) a3 fun z G5 H5 g5 hz => kn z G5 H5 dd S3 (o4.grow g5) ((((e1.trans e2).trans e3).trans e4).trans (g5.ex o4.sub).1) hz q3)
          fun C pl dd G5 H5 S' o' e' => kx C pl dd G5 H5 S' o' (((e1.trans e2).trans e3).trans e'))
      | false => exact iteF (kn _ G' H' _ S2 o3 ((e1.trans e2).trans e3) (.bl false) (q' rfl)))
    (fun C pl dd G' H' S' o' e' x z => kx C pl dd G' H' S' o' (e1.trans e') x z)) kx⟩
/-! arguments -/
theorem ax_nil {Q : List Sl → List Ce → Prop} (q : Q [] S) : AX c [] ρ S Z Q := fun σ G ps H k o kn _ => ⟨_, pa_nil, kn [] G H [] S o (Ex.refl G) .nil q⟩
theorem AtAs.mono {K : PySem.W.Frag} {G G' : Hp} {ps : List Addr} (e : Ex G G') : ∀ {vs : List V} {as : List Sl}, AtAs K G ps vs as → AtAs K G' ps vs as
  | _, _, .nil => .nil
  | _, _, .cons (.dat h) t => .cons (.dat (h.mono e)) (AtAs.mono e t)
  | _, _, .cons (.own h) t => .cons (.own h) (AtAs.mono e t)
theorem ax_cons {Q : List Sl → List Ce → Prop} (h : EX c e ρ S Z fun d S1 => AX c es ρ S1 Z fun as S2 => Q (.dat d :: as) S2)
    (hs : starEach (e :: es) c.X.env = (false, eval e c.X.env) :: starEach es c.X.env := by rfl) : AX c (e :: es) ρ S Z Q := fun σ G ps H k o kn kx =>
  ⟨_, pa_cons we_pe wa_pa hs, h σ G ps H _ o (fun v1 G1 H1 d1 S1 o1 e1 a1 q1 => q1 σ G1 ps H1 _ o1 (fun vs G2 H2 as S2 o2 e2 a2 q => kn _ G2 H2 _ S2 o2 (e1.trans e2) (.cons (.dat (a1.mono e2)) a2) q)
    fun C pl dd G' H' S' o' e' => kx C pl dd G' H' S' o' (e1.trans e')) kx⟩
/-- an owned cell as an argument -/
theorem ax_own (i : Nat) {x : Str} {p1 : Pos} {j : Nat} {Q : List Sl → List Ce → Prop} (hx : ρ[i]? = some (.own j)) (h : AX c es ρ S Z fun as S2 => Q (.own j :: as) S2) (hN : c.X.N[i]? = some x := by rfl)
    (hv : Vis c.X.env.scope x := by first | exact Or.inl rfl | exact Or.inr (Or.inl rfl) | exact Or.inr (Or.inr rfl)) (h1 : (x == ("__debug__" : Str)) = false := by decide) (h2 : (x == ("__classdict__" : Str)) = false := by decide)
    (hs : starEach (.Name x p1 :: es) c.X.env = (false, eval (.Name x p1) c.X.env) :: starEach es c.X.env := by rfl) : AX c (.Name x p1 :: es) ρ S Z Q := fun σ G ps H k o kn kx => by
  obtain ⟨p, hp, hsx⟩ := o.own i j hx
  exact ⟨_, pa_cons (pe_var hN hv h1 h2) wa_pa hs, .ref p, hsx, h σ G ps H _ o (fun vs G2 H2 as S2 o2 e2 a2 q => kn _ G2 H2 _ S2 o2 e2 (.cons (.own hp) a2) q) kx⟩
/-- a built-in by values, on arguments -/
def CD (K : PySem.W.Frag) (r : List V → Hp → VK → Prop) (as : List Sl) (S : List Ce) (d : D) : Prop :=
  ∀ (F : Fx) (G : Hp) (ps : List Addr) (ρ : List Sl) (σ : L2.St) (H : Hp) (vs : List V) (k : VK), SOk K F G ps ρ S σ H → AtAs K G ps vs as → (∀ z G' H', Grow G H G' H' → AtD K G' z d → k z H') → r vs H k
theorem ex_callB {id : String} {r : List V → Hp → VK → Prop} {x : Str} {p1 : Pos} (hc : CallR c.X (.builtin id) r) (hm : c.X.mg x = none) (hv : bootBuiltins x = some (.builtin id)) (h : AX c (e :: es) ρ S Z fun as S1 => ∃ d, CD c.X.K r as S1 d ∧ Q d S1)
    (hg : Gl c.X x := by rfl) (hn : x ≠ "__name__" := by decide) (hdb : (x == ("__debug__" : Str)) = false := by decide) (hpl : (backTo pos (starEach es c.X.env)).any (·.1) = false := by rfl) (he : starEach (e :: es) c.X.env = (false, eval e c.X.env) :: starEach es c.X.env := by rfl) : EX c (.Call (.Name x p1) (e :: es) [] pos) ρ S Z Q := fun σ G ps H k o kn kx =>
  ⟨_, pe_callB hc hg hm hv wa_pa (hn := hn) (hdb := hdb) (he := he) (hpl := hpl), h σ G ps H _ o (fun vs G1 H1 as S1 o1 e1 a1 ⟨d, hr, q⟩ => hr c.F G1 ps ρ σ H1 vs k o1 a1 fun z G' H' g hz => kn z G' H' d S1 (o1.grow g) (e1.trans (g.ex o1.sub).1) hz q) kx⟩
theorem ex_callTy {T : String} {r : List V → Hp → VK → Prop} {x : Str} {p1 : Pos} (hc : CallR c.X (.type T) r) (hm : c.X.mg x = none) (hv : bootBuiltins x = some (.type T)) (h : AX c (e :: es) ρ S Z fun as S1 => ∃ d, CD c.X.K r as S1 d ∧ Q d S1)
    (hg : Gl c.X x := by rfl) (hn : x ≠ "__name__" := by decide) (hdb : (x == ("__debug__" : Str)) = false := by decide) (hpl : (backTo pos (starEach es c.X.env)).any (·.1) = false := by rfl) (he : starEach (e :: es) c.X.env = (false, eval e c.X.env) :: starEach es c.X.env := by rfl) : EX c (.Call (.Name x p1) (e :: es) [] pos) ρ S Z Q := fun σ G ps H k o kn kx =>
  ⟨_, pe_callTy hc hg hm hv wa_pa (hn := hn) (hdb := hdb) (he := he) (hpl := hpl), h σ G ps H _ o (fun vs G1 H1 as S1 o1 e1 a1 ⟨d, hr, q⟩ => hr c.F G1 ps ρ σ H1 vs k o1 a1 fun z G' H' g hz => kn z G' H' d S1 (o1.grow g) (e1.trans (g.ex o1.sub).1) hz q) kx⟩
end
end Lay

namespace Lay
open PySem PySem.Spec L2

section
variable {c : Cz} {ρ : List Sl} {S : List Ce} {Z : XP} {Q : D → List Ce → Prop} {a b e : Expr} {es : List Expr} {pos : Pos}
/-- only data among the arguments -/
def datas : List Sl → Option (List D)
  | [] => some []
  | .dat d :: r => (datas r).map (d :: ·)
  | _ :: _ => none
theorem AtAs.toDs {K : PySem.W.Frag} {G : Hp} {ps : List Addr} : ∀ {vs : List V} {as : List Sl} {ds : List D}, AtAs K G ps vs as → datas as = some ds → AtDs K G vs ds
  | _, _, _, .nil, e => by cases e; exact .nil
  | _ :: vs, .dat d :: as, ds, .cons (.dat h) t, e => by
    unfold datas at e
    cases q : datas as with
    | none => rw [q] at e; cases e
    | some ds => rw [q] at e; cases e; exact .cons h (AtAs.toDs t q)
  | _, _, _, .cons (.own h) t, e => by cases e
/-- a tuple of written items -/
theorem ex_tup {k : Nat} (h : AX c es ρ S Z fun as S1 => ∃ ds, datas as = some ds ∧ ds.length ≤ 1000 ∧ Q (.tup ds) S1) : EX c (.Tuple es k pos) ρ S Z Q := fun σ G ps H kk o kn kx =>
  ⟨_, pe_tup wa_pa, h σ G ps H _ o (fun vs G1 H1 as S1 o1 e1 a1 ⟨ds, hd, hl, q⟩ => by
    have hv := a1.toDs hd
    refine ⟨by rw [hv.len]; exact Nat.le_trans hl (by decide), fun p hp => ?_⟩
    have gp : G1 p = none := o1.sub.back hp
    exact kn (.ref p) (upd G1 p (.tup vs)) _ _ S1 (o1.put _ hp) (e1.trans (Ex.new gp)) (.tup (SqT.of upd_same) (hv.mono (Ex.new gp))) q) kx⟩
/-- an expression whose value is a fresh list -/
def EF (c : Cz) (e : Expr) (ρ : List Sl) (S : List Ce) (Z : XP) (Q : List D → List Ce → Prop) : Prop :=
  ∀ (σ : L2.St) (G : Hp) (ps : List Addr) (H : Hp) (k : VK), SOk c.X.K c.F G ps ρ S σ H →
    (∀ p vs G' H' ds S', SOk c.X.K c.F G' ps ρ S' σ H' → Ex G G' → H' p = none → AtDs c.X.K G' vs ds → Q ds S' → k (.ref p) (upd H' p (.lst vs))) →
    (∀ C pl dd G' H' S', SOk c.X.K c.F G' ps ρ S' σ H' → Ex G G' → ExcAt c.X.K G' dd pl → Z C pl ρ S' → c.W (.ref C) dd σ H') → WE c.X e σ H k
theorem ex_fresh {Q' : List D → List Ce → Prop} (h : EF c e ρ S Z Q') (hq : ∀ ds S1, Q' ds S1 → Q (.lst ds) S1) : EX c e ρ S Z Q := fun σ G ps H k o kn kx =>
  h σ G ps H k o (fun p vs G1 H1 ds S1 o1 e1 hp a1 q => kn (.ref p) (upd G1 p (.lst vs)) _ _ S1 (o1.put _ hp) (e1.trans (Ex.new (o1.sub.back hp))) (.lst upd_same (a1.mono (Ex.new (o1.sub.back hp)))) (hq ds S1 q)) kx
theorem ex_lstD (h : EF c e ρ S Z fun ds S1 => Q (.lst ds) S1) : EX c e ρ S Z Q := ex_fresh h fun _ _ q => q
theorem ef_lst {Q : List D → List Ce → Prop} (h : AX c es ρ S Z fun as S1 => ∃ ds, datas as = some ds ∧ ds.length ≤ 1000 ∧ Q ds S1) : EF c (.List es pos) ρ S Z Q := fun σ G ps H kk o kn kx =>
  ⟨_, pe_lst wa_pa, h σ G ps H _ o (fun vs G1 H1 as S1 o1 e1 a1 ⟨ds, hd, hl, q⟩ => by
    have hv := a1.toDs hd
    exact ⟨by rw [hv.len]; exact Nat.le_trans hl (by decide), fun p hp => kn p vs G1 H1 ds S1 o1 e1 hp hv q⟩) kx⟩

/-! ### defs -/
/-- the public heap has grown by what was free -/
def Nw (G H G' : Hp) : Prop := ∀ a o, G' a = some o → G a = some o ∨ H a = none
/-- a promise over data: R of the arguments, what is wanted of the value, of an exception -/
abbrev RP := List D → (D → Prop) → (Addr → Option (Str × D) → Prop) → Prop
def spD (K : PySem.W.Frag) (n : Nat) (R : RP) : Sp := fun vs H Q E => ∃ (G : Hp) (ds : List D) (Pr : D → Prop) (Px : Addr → Option (Str × D) → Prop), ds.length = n ∧ Ex G H ∧ AtDs K G vs ds ∧ R ds Pr Px ∧
  (∀ v G' H' d, Ex G G' → Ex G' H' → Ex H H' → Nw G H G' → AtD K G' v d → Pr d → Q v H') ∧ (∀ C pl dd G' H', Ex G G' → Ex G' H' → Ex H H' → Nw G H G' → ExcAt K G' dd pl → Px C pl → E (.ref C) dd H')
/-- .. whose first argument is an owned list -/
abbrev RP1 := List D → List D → (D → List D → Prop) → (Addr → Option (Str × D) → List D → Prop) → Prop
def spO (K : PySem.W.Frag) (n : Nat) (R : RP1) : Sp := fun vs H Q E => ∃ (G : Hp) (p : Addr) (us : List V) (ws : List V) (cs ds : List D) (Pr : D → List D → Prop) (Px : Addr → Option (Str × D) → List D → Prop),
  vs = .ref p :: ws ∧ ds.length = n ∧ Ex G H ∧ G p = none ∧ H p = some (.lst us) ∧ AtDs K G us cs ∧ AtDs K G ws ds ∧ R cs ds Pr Px ∧
  (∀ v G' H' d us' cs', Ex G G' → Ex G' H' → (∀ a o, a ≠ p → H a = some o → H' a = some o) → Nw G H G' → H' p = some (.lst us') → AtDs K G' us' cs' → AtD K G' v d → Pr d cs' → Q v H') ∧
  (∀ C pl dd G' H' us' cs', Ex G G' → Ex G' H' → (∀ a o, a ≠ p → H a = some o → H' a = some o) → Nw G H G' → H' p = some (.lst us') → AtDs K G' us' cs' → ExcAt K G' dd pl → Px C pl cs' → E (.ref C) dd H')
/-- a def of the module that keeps a promise -/
def Cal (P : Program) (w : World) (K : PySem.W.Frag) (mg : Str → Option Value) (base : Heap) (k : Nat) (x : Str) (sp : Sp) : Prop :=
  ∃ (f : Addr) (fd : FuncData) (ps : List Str), FnOk P w K mg base (L2.CX P w) k f fd ps sp ∧ mg x = some (.ref f) ∧ PySem.W.keepIn K (.ref f) = true ∧ Binds K fd ps []
theorem Cal.mono {P : Program} {w : World} {K : PySem.W.Frag} {mg : Str → Option Value} {base : Heap} {j k : Nat} {x : Str} {sp : Sp} (h : Cal P w K mg base j x sp) (l : j ≤ k) : Cal P w K mg base k x sp := by
  obtain ⟨f, fd, ps, h1, h2⟩ := h
  exact ⟨f, fd, ps, h1.mono l, h2⟩
/-- the state behind a call that left the owned cells but one as they were -/
theorem SOk.called {K : PySem.W.Frag} {F : Fx} {G H G' H' : Hp} {ps : List Addr} {σ : L2.St} (o : SOk K F G ps ρ S σ H) (g1 : Ex G G') (g2 : Ex G' H') (g3 : Ex H H') (g4 : Nw G H G') : SOk K F G' ps ρ S σ H' :=
  ⟨g2, o.base.trans g1, fun a ob n q => g3 _ _ (o.keep a ob n q), fun a ob q => (g4 a ob q).elim (fun z => o.new a ob z) fun z => .inr (o.free0 z), o.pre, o.nd, o.fresh, fun p hp => (o.there p hp).imp fun ob q => g3 _ _ q, o.plen, o.slen, fun i d q => by
      obtain ⟨v, v1, v2⟩ := o.dat i d q
      exact ⟨v, v1, v2.mono g1⟩, o.own, fun i p cl q1 q2 => by
      have z := o.cell i p cl q1 q2
      have gn : ∀ (hG : G p = none) {u : HO} (hH : H p = some u), G' p = none := fun hG u hH => by
        cases e : G' p with
        | none => rfl
        | some y =>
          rcases g4 p y e with z | z
          · rw [hG] at z; cases z
          · rw [hH] at z; cases z
      cases cl with
      | gone => trivial
      | lst ds => obtain ⟨z1, vs', z2, z3⟩ := z; exact ⟨gn z1 z2, vs', g3 _ _ z2, z3.mono g1⟩
      | dct ds => obtain ⟨z1, vs', z2, z3⟩ := z; exact ⟨gn z1 z2, vs', g3 _ _ z2, z3.mono g1⟩⟩
/-- f(e, ..), data alone -/
theorem ex_call {k n : Nat} {x : Str} {R : RP} {p1 : Pos} (F : Cal c.X.prog c.X.w c.X.K c.X.mg c.X.base k x (spD c.X.K n R)) (hr : Room k c.X.A)
    (h : AX c (e :: es) ρ S Z fun as S1 => ∃ ds, datas as = some ds ∧ ds.length = n ∧ R ds (fun d => Q d S1) (fun C pl => Z C pl ρ S1)) (hg : Gl c.X x := by rfl) (hdb : (x == ("__debug__" : Str)) = false := by decide)
    (he : starEach (e :: es) c.X.env = (false, eval e c.X.env) :: starEach es c.X.env := by rfl) (hpl : (backTo pos (starEach es c.X.env)).any (·.1) = false := by rfl) : EX c (.Call (.Name x p1) (e :: es) [] pos) ρ S Z Q := fun σ G ps H kk o kn kx => by
  obtain ⟨f, fd, pn, F, hm, hk, hb⟩ := F
  refine ⟨_, pe_callS F hr hg hm hk hb (fun σ => passAt c.tk σ) wa_pa (hdb := hdb) (he := he) (hpl := hpl), h σ G ps H _ o (fun vs G1 H1 as S1 o1 e1 a1 ⟨ds, hd, hl, hR⟩ => ?_) kx⟩
  exact ⟨G1, ds, _, _, hl, o1.sub, a1.toDs hd, hR, fun v G' H' d g1 g2 g3 g4 hv q => kn v G' H' d S1 (o1.called g1 g2 g3 g4) (e1.trans g1) hv q, fun C pl dd G' H' g1 g2 g3 g4 hx q => kx C pl dd G' H' S1 (o1.called g1 g2 g3 g4) (e1.trans g1) hx q⟩
/-- the state behind a call that changed one owned list -/
theorem SOk.called1 {K : PySem.W.Frag} {F : Fx} {G H G' H' : Hp} {ps : List Addr} {σ : L2.St} (o : SOk K F G ps ρ S σ H) {j : Nat} {p : Addr} {cs : List D} {us' : List V} {cs' : List D} (hp : ps[j]? = some p) (hS : S[j]? = some (.lst cs))
    (g1 : Ex G G') (g2 : Ex G' H') (g3 : ∀ a o, a ≠ p → H a = some o → H' a = some o) (g4 : Nw G H G') (h1 : H' p = some (.lst us')) (h2 : AtDs K G' us' cs') : SOk K F G' ps ρ (S.set j (.lst cs')) σ H' := by
  have z0 : G p = none ∧ ∃ vs, H p = some (.lst vs) ∧ AtDs K G vs cs := o.cell j p _ hp hS
  have gn : ∀ {q : Addr} (hG : G q = none) {u : HO} (hH : H q = some u), G' q = none := fun {q} hG u hH => by
    cases e : G' q with
    | none => rfl
    | some y =>
      rcases g4 q y e with z | z
      · rw [hG] at z; cases z
      · rw [hH] at z; cases z
  obtain ⟨zG, vs0, zH, _⟩ := z0
  refine ⟨g2, o.base.trans g1, fun a ob n q => ?_, fun a ob q => (g4 a ob q).elim (fun z => o.new a ob z) fun z => .inr (o.free0 z), o.pre, o.nd, o.fresh, fun q hq => ?_, by rw [List.length_set]; exact o.plen, o.slen, fun i d q => ?_, o.own, fun i q cl q1 q2 => ?_⟩
  · by_cases ha : a = p
    · subst ha
      exfalso
      have z := o.keep a ob n q
      rcases o.fresh a (List.mem_of_getElem? hp) with y | y
      · exact n y
      · rw [q] at y; cases y
    · exact g3 a ob ha (o.keep a ob n q)
  · by_cases hqp : q = p
    · exact ⟨_, by rw [hqp]; exact h1⟩
    · exact (o.there q hq).imp fun ob y => g3 q ob hqp y
  · obtain ⟨v, v1, v2⟩ := o.dat i d q
    exact ⟨v, v1, v2.mono g1⟩
  · by_cases hij : i = j
    · subst hij
      rw [hp] at q1; cases q1
      have hlt : i < S.length := (List.getElem?_eq_some_iff.mp hS).1
      rw [List.getElem?_set_self hlt] at q2
      cases q2
      exact ⟨gn zG zH, us', h1, h2⟩
    · rw [List.getElem?_set_ne (Ne.symm hij)] at q2
      have hqp : q ≠ p := fun y => hij (by
        subst y
        obtain ⟨l1, e1⟩ := List.getElem?_eq_some_iff.mp q1
        obtain ⟨l2, e2⟩ := List.getElem?_eq_some_iff.mp hp
        exact (List.getElem_inj o.nd).mp (e1.trans e2.symm))
      have z := o.cell i q cl q1 q2
      cases cl with
      | gone => trivial
      | lst ds => obtain ⟨z1, vs', z2, z3⟩ := z; exact ⟨gn z1 z2, vs', g3 _ _ hqp z2, z3.mono g1⟩
      | dct ds => obtain ⟨z1, vs', z2, z3⟩ := z; exact ⟨gn z1 z2, vs', g3 _ _ hqp z2, z3.mono g1⟩
/-- f(x, e, ..), x an owned list, the rest data -/
theorem ex_call1 {k n : Nat} {x : Str} {R : RP1} {p1 : Pos} (F : Cal c.X.prog c.X.w c.X.K c.X.mg c.X.base k x (spO c.X.K n R)) (hr : Room k c.X.A)
    (h : AX c (e :: es) ρ S Z fun as S1 => ∃ j as' cs ds, as = .own j :: as' ∧ datas as' = some ds ∧ ds.length = n ∧ S1[j]? = some (.lst cs) ∧ R cs ds (fun d cs' => Q d (S1.set j (.lst cs'))) (fun C pl cs' => Z C pl ρ (S1.set j (.lst cs')))) (hg : Gl c.X x := by rfl) (hdb : (x == ("__debug__" : Str)) = false := by decide)
    (he : starEach (e :: es) c.X.env = (false, eval e c.X.env) :: starEach es c.X.env := by rfl) (hpl : (backTo pos (starEach es c.X.env)).any (·.1) = false := by rfl) : EX c (.Call (.Name x p1) (e :: es) [] pos) ρ S Z Q := fun σ G ps H kk o kn kx => by
  obtain ⟨f, fd, pn, F, hm, hk, hb⟩ := F
  refine ⟨_, pe_callS F hr hg hm hk hb (fun σ => passAt c.tk σ) wa_pa (hdb := hdb) (he := he) (hpl := hpl), h σ G ps H _ o (fun vs G1 H1 as S1 o1 e1 a1 ⟨j, as', cs, ds, ea, hd, hl, hS, hR⟩ => ?_) kx⟩
  subst ea
  cases a1 with
  | cons a0 at' =>
    cases a0 with
    | own hp =>
      have z : CeAt c.X.K G1 H1 _ (.lst cs) := o1.cell j _ _ hp hS
      obtain ⟨zG, us, zH, zd⟩ := z
      exact ⟨G1, _, us, _, cs, ds, _, _, rfl, hl, o1.sub, zG, zH, zd, at'.toDs hd, hR,
        fun v G' H' d us' cs' g1 g2 g3 g4 h1 h2 hv q => kn v G' H' d _ (o1.called1 hp hS g1 g2 g3 g4 h1 h2) (e1.trans g1) hv q,
        fun C pl dd G' H' us' cs' g1 g2 g3 g4 h1 h2 hx q => kx C pl dd G' H' _ (o1.called1 hp hS g1 g2 g3 g4 h1 h2) (e1.trans g1) hx q⟩
end
end Lay

namespace Lay
open PySem PySem.Spec L2

/-! ### tests -/
section
variable {c : Cz} {ρ : List Sl} {S : List Ce} {Z : XP} {Q : Bool → List Ce → Prop} {a b e t : Expr} {es : List Expr} {pos : Pos}
/-- an expression whose value is a bool -/
theorem tx_val (h : EX c e ρ S Z fun d S1 => ∃ x, d = .bl x ∧ Q x S1) (he : ∀ whole, isTrue e c.X.env whole = (do let v ← whole; standAt e.pos; holding [v] (truthy v)) := by intro _; rfl) : TX c e ρ S Z Q := fun σ G ps H k o kn kx =>
  ⟨_, pt_val we_pe he, h σ G ps H _ o (fun v G1 H1 d S1 o1 e1 a1 ⟨x, ed, q⟩ => by
    subst ed
    cases a1
    exact ⟨x, rfl, kn x G1 H1 S1 o1 e1 q⟩) kx⟩
theorem tx_cmp {op : CmpOp} {r : R2} (ho : OpR c.X (compareOp op) r) (h : EX c a ρ S Z fun d1 S1 => EX c b ρ S1 Z fun d2 S2 => ∃ x, RD c.X.K r d1 d2 (.bl x) ∧ Q x S2) (hm : behindInMarks op b = false := by first | exact nomark _ | rfl) : TX c (.Compare a [op] [b] pos) ρ S Z Q := fun σ G ps H k o kn kx =>
  ⟨_, pt_cmpR ho we_pe we_pe hm, h σ G ps H _ o (fun v1 G1 H1 d1 S1 o1 e1 a1 q1 => q1 σ G1 ps H1 _ o1 (fun v2 G2 H2 d2 S2 o2 e2 a2 ⟨x, hr, q⟩ =>
    hr G2 H2 v1 v2 _ o2.sub (a1.mono e2) a2 fun z G' H' g hz => by
      cases hz
      exact ⟨x, rfl, kn x G' H' S2 (o2.grow g) ((e1.trans e2).trans (g.ex o2.sub).1) q⟩)
    (fun C pl dd G' H' S' o' e' x z => kx C pl dd G' H' S' o' (e1.trans e') x z)) kx⟩
theorem tx_chain {op op' : CmpOp} {r r' : R2} {d : Expr} (ho : OpR c.X (compareOp op) r) (ho' : OpR c.X (compareOp op') r')
    (h : EX c a ρ S Z fun d1 S1 => EX c b ρ S1 Z fun d2 S2 => ∃ t, RD c.X.K r d1 d2 (.bl t) ∧ (t = true → EX c d ρ S2 Z fun d3 S3 => ∃ x, RD c.X.K r' d2 d3 (.bl x) ∧ Q x S3) ∧ (t = false → Q false S2))
    (hm : lastMarks [op, op'] [b, d] = false := by with_unfolding_all rfl) : TX c (.Compare a [op, op'] [b, d] pos) ρ S Z Q := fun σ G ps H k o kn kx =>
  ⟨_, pt_chain ho ho' we_pe we_pe we_pe hm, h σ G ps H _ o (fun v1 G1 H1 d1 S1 o1 e1 a1 q1 => q1 σ G1 ps H1 _ o1 (fun v2 G2 H2 d2 S2 o2 e2 a2 ⟨t, hr, q, q'⟩ =>
    hr G2 H2 v1 v2 _ o2.sub (a1.mono e2) a2 fun z G' H' g hz => by
      cases hz
      have o3 := o2.grow g
      have e3 := (g.ex o2.sub).1
      refine ⟨t, rfl, ?_⟩
      cases t with
      | true =>
        exact iteT (q rfl σ G' ps H' _ o3 (fun v3 G3 H3 d3 S3 o4 e4 a3 ⟨x, hr', q3⟩ => hr' G3 H3 v2 v3 _ o4.sub (a2.mono (e3.trans e4)) a3 fun z G5 H5 g5 hz => by
            cases hz
            exact ⟨x, rfl, kn x G5 H5 S3 (o4.grow g5) ((((e1.trans e2).trans e3).trans e4).trans (g5.ex o4.sub).1) q3⟩)
          fun C pl dd G5 H5 S' o' e' => kx C pl dd G5 H5 S' o' (((e1.trans e2).trans e3).trans e'))
      | false => exact iteF ⟨false, rfl, kn _ G' H' S2 o3 ((e1.trans e2).trans e3) (q' rfl)⟩)
    (fun C pl dd G' H' S' o' e' x z => kx C pl dd G' H' S' o' (e1.trans e') x z)) kx⟩
def WW (X : Cx) (e : Expr) : TT := fun σ H Q => ∃ t, PW X e t ∧ t σ H Q
theorem ww_pw {X : Cx} {e : Expr} : PW X e (WW X e) := ⟨fun wh pins s σ H Q I ⟨t, h, q⟩ => h.run wh pins s σ H Q I q⟩
/-- a test by its parts (and, or) -/
def WX' (c : Cz) (e : Expr) (ρ : List Sl) (S : List Ce) (Z : XP) (Q : Bool → List Ce → Prop) : Prop :=
  ∀ (σ : L2.St) (G : Hp) (ps : List Addr) (H : Hp) (k : Bool → Hp → Prop), SOk c.X.K c.F G ps ρ S σ H →
    (∀ b G' H' S', SOk c.X.K c.F G' ps ρ S' σ H' → Ex G G' → Q b S' → k b H') →
    (∀ C pl dd G' H' S', SOk c.X.K c.F G' ps ρ S' σ H' → Ex G G' → ExcAt c.X.K G' dd pl → Z C pl ρ S' → c.W (.ref C) dd σ H') → WW c.X e σ H k
theorem tx_w (h : WX' c e ρ S Z Q) : TX c e ρ S Z Q := fun σ G ps H k o kn kx => ⟨_, ww_pw.pt, h σ G ps H k o kn kx⟩
theorem wx_and1 (h : TX c a ρ S Z Q) : WX' c (.BoolOp .And [a] pos) ρ S Z Q := fun σ G ps H k o kn kx => ⟨_, pw_and1 wt_pt, h σ G ps H k o kn kx⟩
theorem wx_or1 (h : TX c a ρ S Z Q) : WX' c (.BoolOp .Or [a] pos) ρ S Z Q := fun σ G ps H k o kn kx => ⟨_, pw_or1 wt_pt, h σ G ps H k o kn kx⟩
theorem wx_and (h : TX c a ρ S Z fun x S1 => (x = true → WX' c (.BoolOp .And (b :: es) pos) ρ S1 Z Q) ∧ (x = false → Q false S1)) : WX' c (.BoolOp .And (a :: b :: es) pos) ρ S Z Q := fun σ G ps H k o kn kx =>
  ⟨_, pw_and wt_pt ww_pw, h σ G ps H _ o (fun x G1 H1 S1 o1 e1 q => by
    cases x with
    | true => exact iteT (q.1 rfl σ G1 ps H1 k o1 (fun v G' H' S' o' e' => kn v G' H' S' o' (e1.trans e')) fun C pl dd G' H' S' o' e' => kx C pl dd G' H' S' o' (e1.trans e'))
    | false => exact iteF (kn _ G1 H1 S1 o1 e1 (q.2 rfl))) kx⟩
theorem wx_or (h : TX c a ρ S Z fun x S1 => (x = false → WX' c (.BoolOp .Or (b :: es) pos) ρ S1 Z Q) ∧ (x = true → Q true S1)) : WX' c (.BoolOp .Or (a :: b :: es) pos) ρ S Z Q := fun σ G ps H k o kn kx =>
  ⟨_, pw_or wt_pt ww_pw, h σ G ps H _ o (fun x G1 H1 S1 o1 e1 q => by
    cases x with
    | false => exact iteF (q.1 rfl σ G1 ps H1 k o1 (fun v G' H' S' o' e' => kn v G' H' S' o' (e1.trans e')) fun C pl dd G' H' S' o' e' => kx C pl dd G' H' S' o' (e1.trans e'))
    | true => exact iteT (kn _ G1 H1 S1 o1 e1 (q.2 rfl))) kx⟩
theorem tx_and (h : TX c a ρ S Z fun x S1 => (x = true → WX' c (.BoolOp .And (b :: es) pos) ρ S1 Z Q) ∧ (x = false → Q false S1)) : TX c (.BoolOp .And (a :: b :: es) pos) ρ S Z Q := tx_w (wx_and h)
theorem tx_or (h : TX c a ρ S Z fun x S1 => (x = false → WX' c (.BoolOp .Or (b :: es) pos) ρ S1 Z Q) ∧ (x = true → Q true S1)) : TX c (.BoolOp .Or (a :: b :: es) pos) ρ S Z Q := tx_w (wx_or h)
theorem tx_not (h : TX c a ρ S Z fun x S1 => Q (!x) S1) : TX c (.UnaryOp .Not a pos) ρ S Z Q := fun σ G ps H k o kn kx =>
  ⟨_, pt_not wt_pt, h σ G ps H _ o (fun x G1 H1 S1 o1 e1 q => kn (!x) G1 H1 S1 o1 e1 q) kx⟩
/-- a value's truth, of data -/
def truD : D → Option Bool
  | .non => some false
  | .bl b => some b
  | .int i => some (i != 0)
  | .lst ds => some (!ds.isEmpty)
  | .sq ds => some (!ds.isEmpty)
  | .tup ds => some (!ds.isEmpty)
  | .dct ds => some (!ds.isEmpty)
  | _ => none
theorem AtDs.emp {K : PySem.W.Frag} {G : Hp} {v : List V} {d : List D} (h : AtDs K G v d) : v.isEmpty = d.isEmpty := by
  cases h <;> rfl
theorem AtKs.emp {K : PySem.W.Frag} {G : Hp} {v : List (Key × V)} {d : List (Key × D)} (h : AtKs K G v d) : v.isEmpty = d.isEmpty := by
  cases h <;> rfl
theorem truD_ok {K : PySem.W.Frag} {G H : Hp} {v : V} {d : D} {b : Bool} (g : Ex G H) (h : AtD K G v d) (e : truD d = some b) : TruV K v H b := by
  cases h with
  | non => cases e; rfl
  | bl b => cases e; rfl
  | int i => cases e; rfl
  | str s => cases e
  | lst h hs => cases e; exact .inl ⟨_, SqL.of (g _ _ h), by rw [hs.emp]⟩
  | sq h hs => cases e; exact .inl ⟨_, g.sl h, by rw [hs.emp]⟩
  | ty n => cases e
  | err h hs => cases e
  | tup h hs => cases e; exact .inr (.inl ⟨_, g.st h, by rw [hs.emp]⟩)
  | dct h hs => cases e; exact .inr (.inr ⟨_, g _ _ h, by rw [hs.emp]⟩)
  | ins h hs => cases e
theorem tx_tru (h : EX c e ρ S Z fun d S1 => ∃ x, truD d = some x ∧ Q x S1) (he : ∀ whole, isTrue e c.X.env whole = (do let v ← whole; standAt e.pos; holding [v] (truthy v)) := by intro _; rfl) : TX c e ρ S Z Q := fun σ G ps H k o kn kx =>
  ⟨_, pt_truth we_pe he, h σ G ps H _ o (fun v G1 H1 d S1 o1 e1 a1 ⟨x, ed, q⟩ => ⟨x, truD_ok o1.sub a1 ed, kn x G1 H1 S1 o1 e1 q⟩) kx⟩
end

/-! ### statements -/
section
variable {c : Cz} {ρ : List Sl} {S : List Ce} {P : Post} {a b e t : Expr} {es : List Expr} {pos : Pos} {st : Stmt} {sts A B : List Stmt}
def Post.to (P : Post) (N : List Sl → List Ce → Prop) : Post := { P with nx := N }
theorem sx_nil (q : P.nx ρ S) : SX c [] ρ S P := fun σ G ps H E o r => ⟨_, pss_nil, r.nx σ G ps H ρ S o (Ex.refl G) q⟩
theorem sx_cons (h : S1 c st ρ S (P.to fun ρ1 S1 => SX c sts ρ1 S1 P)) : SX c (st :: sts) ρ S P := fun σ G ps H E o r =>
  ⟨_, pss_cons ws_ps wss_pss, h σ G ps H _ o ⟨fun σ' G' ps' H' ρ' S' o' e' q => q σ' G' ps' H' E o' (r.mono e'), r.rt, r.bk, r.ct, r.ex, r.rf⟩⟩
theorem sx_one (h : S1 c st ρ S P) : SX c [st] ρ S P := fun σ G ps H E o r => ⟨_, pss_one ws_ps, h σ G ps H E o r⟩
/-- forget, change what is known (never what holds) -/
theorem s1_if (h : TX c t ρ S P.ex fun x S1 => (x = true → SX c A ρ S1 P) ∧ (x = false → SX c B ρ S1 P)) : S1 c (.If t A B pos) ρ S P := fun σ G ps H E o r =>
  ⟨_, ps_if wt_pt wss_pss wss_pss, h σ G ps H _ o (fun x G1 H1 S1 o1 e1 q => by
    cases x with
    | true => exact iteT (q.1 rfl σ G1 ps H1 E o1 (r.mono e1))
    | false => exact iteF (q.2 rfl σ G1 ps H1 E o1 (r.mono e1))) fun C pl dd G' H' S' o' e' x z => r.ex σ G' ps H' ρ S' C pl dd o' e' x z⟩
theorem s1_ret (h : EX c e ρ S P.ex fun d S1 => P.rt d S1) : S1 c (.Return (some e) pos) ρ S P := fun σ G ps H E o r =>
  ⟨_, ps_ret we_pe, h σ G ps H _ o (fun v G1 H1 d S1 o1 e1 a1 q => r.rt σ G1 ps H1 ρ S1 v d o1 e1 a1 q) fun C pl dd G' H' S' o' e' x z => r.ex σ G' ps H' ρ S' C pl dd o' e' x z⟩
theorem s1_retN (q : P.rt .non S) : S1 c (.Return none pos) ρ S P := fun σ G ps H E o r => ⟨_, ps_retN, r.rt σ G ps H ρ S _ _ o (Ex.refl G) .non q⟩
theorem s1_pass (q : P.nx ρ S) : S1 c (.Pass pos) ρ S P := fun σ G ps H E o r => ⟨_, ps_pass, r.nx σ G ps H ρ S o (Ex.refl G) q⟩
theorem s1_break (q : P.bk ρ S) : S1 c (.Break pos) ρ S P := fun σ G ps H E o r => ⟨_, ps_break, r.bk σ G ps H ρ S o (Ex.refl G) q⟩
theorem s1_continue (q : P.ct ρ S) : S1 c (.Continue pos) ρ S P := fun σ G ps H E o r => ⟨_, ps_continue, r.ct σ G ps H ρ S o (Ex.refl G) q⟩
theorem s1_doc {x : Str} {j : Nat} {p2 : Pos} (q : P.nx ρ S) : S1 c (.Expr (.Constant (.str x) j p2) pos) ρ S P := fun σ G ps H E o r => ⟨_, ps_doc, r.nx σ G ps H ρ S o (Ex.refl G) q⟩
theorem s1_expr (h : EX c e ρ S P.ex fun d S1 => P.nx ρ S1) (hs : swapsWith e none pos.line c.X.env = pure false := by rfl) : S1 c (.Expr e pos) ρ S P := fun σ G ps H E o r =>
  ⟨_, ps_expr we_pe hs, h σ G ps H _ o (fun v G1 H1 d S1 o1 e1 a1 q => r.nx σ G1 ps H1 ρ S1 o1 e1 q) fun C pl dd G' H' S' o' e' x z => r.ex σ G' ps H' ρ S' C pl dd o' e' x z⟩
theorem SOk.setD {K : PySem.W.Frag} {F : Fx} {G H : Hp} {ps : List Addr} {σ : L2.St} (o : SOk K F G ps ρ S σ H) (i : Nat) {v : V} {d : D} (h : AtD K G v d) : SOk K F G ps (ρ.set i (.dat d)) S (σ.set i (some v)) H := by
  refine ⟨o.sub, o.base, o.keep, o.new, o.pre, o.nd, o.fresh, o.there, o.plen, by rw [List.length_set, List.length_set]; exact o.slen, fun j x q => ?_, fun j k q => ?_, o.cell⟩
  · by_cases hj : j = i
    · subst hj
      have hlt : j < ρ.length := by
        have z := (List.getElem?_eq_some_iff.mp q).1
        rw [List.length_set] at z; exact z
      rw [List.getElem?_set_self hlt] at q
      cases q
      exact ⟨v, List.getElem?_set_self (by rw [o.slen]; exact hlt), h⟩
    · rw [List.getElem?_set_ne (Ne.symm hj)] at q ⊢
      exact o.dat j x q
  · by_cases hj : j = i
    · subst hj
      have hlt : j < ρ.length := by
        have z := (List.getElem?_eq_some_iff.mp q).1
        rw [List.length_set] at z; exact z
      rw [List.getElem?_set_self hlt] at q
      cases q
    · rw [List.getElem?_set_ne (Ne.symm hj)] at q ⊢
      exact o.own j k q
/-- a fresh list becomes owned -/
theorem SOk.setF {K : PySem.W.Frag} {F : Fx} {G H : Hp} {ps : List Addr} {σ : L2.St} (o : SOk K F G ps ρ S σ H) (i : Nat) {p : Addr} {vs : List V} {ds : List D} (hp : H p = none) (h : AtDs K G vs ds) :
    SOk K F G (ps ++ [p]) (ρ.set i (.own S.length)) (S ++ [.lst ds]) (σ.set i (some (.ref p))) (upd H p (.lst vs)) := by
  have gp : G p = none := o.sub.back hp
  have npp : p ∉ ps := fun hm => by
    obtain ⟨w, hw⟩ := o.there p hm
    rw [hp] at hw; cases hw
  refine ⟨fun a u e => ?_, o.base, fun a u n e => (Ex.new hp) _ _ (o.keep a u n e), o.new, o.pre.trans (List.prefix_append _ _), ?_, fun q hq => ?_, fun q hq => ?_, by rw [List.length_append, List.length_append, o.plen]; rfl, by rw [List.length_set, List.length_set]; exact o.slen, fun j x q => ?_, fun j k q => ?_, fun k q cl q1 q2 => ?_⟩
  · exact (Ex.new hp) _ _ (o.sub a u e)
  · rw [List.nodup_append]
    exact ⟨o.nd, by simp, fun a ha b hb => by
      have e : b = p := by simpa using hb
      subst e
      exact fun e => npp (e ▸ ha)⟩
  · rcases List.mem_append.mp hq with z | z
    · exact o.fresh q z
    · have e : q = p := by simpa using z
      subst e
      exact .inr (o.free0 hp)
  · rcases List.mem_append.mp hq with z | z
    · exact (o.there q z).imp fun w e => (Ex.new hp) _ _ e
    · have e : q = p := by simpa using z
      subst e
      exact ⟨_, upd_same⟩
  · by_cases hj : j = i
    · subst hj
      have hlt : j < ρ.length := by
        have z := (List.getElem?_eq_some_iff.mp q).1
        rw [List.length_set] at z; exact z
      rw [List.getElem?_set_self hlt] at q
      cases q
    · rw [List.getElem?_set_ne (Ne.symm hj)] at q ⊢
      exact o.dat j x q
  · by_cases hj : j = i
    · subst hj
      have hlt : j < ρ.length := by
        have z := (List.getElem?_eq_some_iff.mp q).1
        rw [List.length_set] at z; exact z
      rw [List.getElem?_set_self hlt] at q
      cases q
      exact ⟨p, by rw [← o.plen]; simp, List.getElem?_set_self (by rw [o.slen]; exact hlt)⟩
    · rw [List.getElem?_set_ne (Ne.symm hj)] at q ⊢
      obtain ⟨p', h1, h2⟩ := o.own j k q
      exact ⟨p', by rw [List.getElem?_append_left (List.getElem?_eq_some_iff.mp h1).1]; exact h1, h2⟩
  · by_cases hk : k < ps.length
    · rw [List.getElem?_append_left hk] at q1
      rw [List.getElem?_append_left (by rw [← o.plen]; exact hk)] at q2
      have hqp : q ≠ p := fun e => npp (e ▸ List.mem_of_getElem? q1)
      have z := o.cell k q cl q1 q2
      cases cl with
      | gone => trivial
      | lst ds => obtain ⟨z1, vs', z2, z3⟩ := z; exact ⟨z1, vs', by rw [upd_ne hqp]; exact z2, z3⟩
      | dct ds => obtain ⟨z1, vs', z2, z3⟩ := z; exact ⟨z1, vs', by rw [upd_ne hqp]; exact z2, z3⟩
    · have hk' : k = ps.length := by
        have z := (List.getElem?_eq_some_iff.mp q1).1
        rw [List.length_append] at z
        have : ([p] : List Addr).length = 1 := rfl
        omega
      subst hk'
      have q1' : (ps ++ [p])[ps.length]? = some p := by simp
      rw [q1'] at q1; cases q1
      have q2' : (S ++ [Ce.lst ds])[ps.length]? = some (Ce.lst ds) := by rw [o.plen]; simp
      rw [q2'] at q2; cases q2
      exact ⟨gp, vs, upd_same, h⟩
/-- x = e -/
theorem s1_set (i : Nat) {x : Str} {p2 : Pos} (hN : c.X.N.Nodup) (h : EX c e ρ S P.ex fun d S1 => P.nx (ρ.set i (.dat d)) S1) (hi : c.X.N[i]? = some x := by rfl) (hx : Loc c.X.env.scope x := by first | exact Or.inl rfl | exact Or.inr rfl)
    (hs : swapsWith e (some (.Name x p2)) pos.line c.X.env = pure false := by rfl) (hf : c.X.fn x = true ∨ c.X.env.scope.names.lookup x = some .local := by first | exact .inl rfl | exact .inr rfl) : S1 c (.Assign [.Name x p2] e pos) ρ S P := fun σ G ps H E o r =>
  ⟨_, ps_set hN hi hx we_pe hs hf, h σ G ps H _ o (fun v G1 H1 d S1 o1 e1 a1 q => r.nx _ G1 ps H1 _ S1 (o1.setD i a1) e1 q) fun C pl dd G' H' S' o' e' x z => r.ex σ G' ps H' ρ S' C pl dd o' e' x z⟩
/-- x = a fresh list, owned from now on -/
theorem s1_setF (i : Nat) {x : Str} {p2 : Pos} (hN : c.X.N.Nodup) (h : EF c e ρ S P.ex fun ds S1 => P.nx (ρ.set i (.own S1.length)) (S1 ++ [.lst ds])) (hi : c.X.N[i]? = some x := by rfl) (hx : Loc c.X.env.scope x := by first | exact Or.inl rfl | exact Or.inr rfl)
    (hs : swapsWith e (some (.Name x p2)) pos.line c.X.env = pure false := by rfl) (hf : c.X.fn x = true ∨ c.X.env.scope.names.lookup x = some .local := by first | exact .inl rfl | exact .inr rfl) : S1 c (.Assign [.Name x p2] e pos) ρ S P := fun σ G ps H E o r =>
  ⟨_, ps_set hN hi hx we_pe hs hf, h σ G ps H _ o (fun p vs G1 H1 ds S1 o1 e1 hp a1 q => r.nx _ G1 _ _ _ _ (o1.setF i hp a1) e1 q) fun C pl dd G' H' S' o' e' x z => r.ex σ G' ps H' ρ S' C pl dd o' e' x z⟩
/-- two places at once -/
theorem s1_par (i j : Nat) {x y : Str} {px py pt : Pos} {kt k2 : Nat} {pt2 : Pos} (hc : c.X.calm = true) (hN : c.X.N.Nodup) (h : AX c [a, b] ρ S P.ex fun as S1 => ∃ d1 d2, as = [.dat d1, .dat d2] ∧ P.nx ((ρ.set i (.dat d1)).set j (.dat d2)) S1) (hij : i ≠ j := by decide)
    (hi : c.X.N[i]? = some x := by rfl) (hj : c.X.N[j]? = some y := by rfl) (hx : c.X.env.scope.names.lookup x = some .local := by rfl) (hy : c.X.env.scope.names.lookup y = some .local := by rfl)
    (hw : swappedStores [.Tuple [.Name x px, .Name y py] kt pt] (.Tuple [a, b] k2 pt2) c.X.env = pure (some [x, y]) := by rfl) (hs : swapsWithSole [.Tuple [.Name x px, .Name y py] kt pt] (.Tuple [a, b] k2 pt2) pos.line c.X.env = pure false := by rfl) : S1 c (.Assign [.Tuple [.Name x px, .Name y py] kt pt] (.Tuple [a, b] k2 pt2) pos) ρ S P := fun σ G ps H E o r =>
  ⟨_, ps_par hc hN hi hj hij hx hy wa_pa hw hs, h σ G ps H _ o (fun vs G1 H1 as S1 o1 e1 a1 ⟨d1, d2, ea, q⟩ => by
    subst ea
    cases a1 with
    | cons a1 t1 => cases t1 with
      | cons a2 t2 => cases t2; cases a1 with
        | dat a1 => cases a2 with
          | dat a2 => exact ⟨_, _, rfl, r.nx _ G1 ps H1 _ S1 ((o1.setD i a1).setD j a2) e1 q⟩) fun C pl dd G' H' S' o' e' x z => r.ex σ G' ps H' ρ S' C pl dd o' e' x z⟩
end
end Lay

namespace Lay
open PySem PySem.Spec L2
section
variable {c : Cz} {ρ : List Sl} {S : List Ce} {P : Post} {a b e t : Expr} {es : List Expr} {pos : Pos} {st : Stmt} {sts A B body : List Stmt} {Z : XP} {Q : D → List Ce → Prop}

/-! ### loops -/
/-- some state of that kind, over G -/
def Has (c : Cz) (G : Hp) (I : List Sl → List Ce → Prop) (σ : L2.St) (H : Hp) : Prop := ∃ G' ps ρ S, SOk c.X.K c.F G' ps ρ S σ H ∧ Ex G G' ∧ I ρ S
def Post.loop (P : Post) (N : List Sl → List Ce → Prop) : Post := { nx := N, rt := P.rt, bk := P.nx, ct := N, ex := P.ex, rf := P.rf }
theorem real_loop {G G1 : Hp} {E : Ends} (r : Real c P G E) (e : Ex G G1) {N : List Sl → List Ce → Prop} {M : L2.St → Hp → Prop} (h : ∀ G', Ex G1 G' → ∀ σ H, Has c G' N σ H → M σ H) : Real c (P.loop N) G1 { E with nx := M, ct := M, bk := E.nx } :=
  ⟨fun σ G' ps H ρ S o x q => h G' x σ H ⟨G', ps, ρ, S, o, Ex.refl _, q⟩, (r.mono e).rt, (r.mono e).nx, fun σ G' ps H ρ S o x q => h G' x σ H ⟨G', ps, ρ, S, o, Ex.refl _, q⟩, (r.mono e).ex, (r.mono e).rf⟩
theorem AtD.toL {K : PySem.W.Frag} {G : Hp} {v : V} {d : D} {ds : List D} (a : AtD K G v d) (e : d = .lst ds ∨ d = .sq ds) : ∃ q vs, v = .ref q ∧ SqL K G q vs ∧ AtDs K G vs ds := by
  rcases e with rfl | rfl
  · cases a with
    | lst h hs => exact ⟨_, _, rfl, SqL.of h, hs⟩
  · cases a with
    | sq h hs => exact ⟨_, _, rfl, h, hs⟩
/-- an iterator that gives these data one by one while G0 stands -/
structure WkD (K : PySem.W.Frag) (J : It) (G0 : Hp) (ds : List D) : Prop where
  goes : ∀ i H, i < ds.length → Ex G0 H → J.go i H
  stops : ∀ H, Ex G0 H → J.stop ds.length H
  yields : ∀ (i : Nat) G H x H', i < ds.length → Ex G0 G → Ex G H → J.yld i H x H' → ∃ d G', ds[i]? = some d ∧ Grow G H G' H' ∧ AtD K G' x d
def WI (X : Cx) (tg e : Expr) : TI := fun σ H R => ∃ wi, PI X tg e wi ∧ wi σ H R
theorem wi_pi {X : Cx} {tg e : Expr} : PI X tg e (WI X tg e) := ⟨fun pins s σ H R I ⟨wi, h, q⟩ => h.run pins s σ H R I q⟩
def IX (c : Cz) (tg e : Expr) (ρ : List Sl) (S : List Ce) (Z : XP) (Q : List D → List Ce → Prop) : Prop :=
  ∀ (σ : L2.St) (G : Hp) (ps : List Addr) (H : Hp) (R : It → Hp → Prop), SOk c.X.K c.F G ps ρ S σ H →
    (∀ J G' H' ds S', SOk c.X.K c.F G' ps ρ S' σ H' → Ex G G' → WkD c.X.K J G' ds → Q ds S' → R J H') →
    (∀ C pl dd G' H' S', SOk c.X.K c.F G' ps ρ S' σ H' → Ex G G' → ExcAt c.X.K G' dd pl → Z C pl ρ S' → c.W (.ref C) dd σ H') → WI c.X tg e σ H R
section
variable {tg : Expr} {Q : List D → List Ce → Prop}
theorem ix_list (h : EX c e ρ S Z fun d S1 => ∃ ds, (d = .lst ds ∨ d = .sq ds) ∧ Q ds S1) : IX c tg e ρ S Z Q := fun σ G ps H R o kn kx =>
  ⟨_, pi_list we_pe, h σ G ps H _ o (fun v G1 H1 d S1 o1 e1 a1 ⟨ds, ed, q⟩ => by
    obtain ⟨a, vs, rfl, hl, hv⟩ := a1.toL ed
    refine ⟨a, rfl, ⟨vs, o1.sub.sl hl⟩, kn _ G1 H1 ds S1 o1 e1 ⟨fun i H' hi hx => ?_, fun H' hx => ⟨vs, hx.sl hl, by rw [hv.len]; exact Nat.le_refl _⟩, fun i G' H' x H2 hi h1 h2 hy => ?_⟩ q⟩
    · exact ⟨vs, vs[i]'(by rw [hv.len]; exact hi), hx.sl hl, by simp⟩
    · obtain ⟨rfl, hy⟩ := hy
      obtain ⟨d, d1, d2⟩ := hv.getV (hy vs ((h1.trans h2).sl hl))
      exact ⟨d, G', d1, .refl _ _, d2.mono h1⟩) kx⟩
theorem ix_tup (h : EX c e ρ S Z fun d S1 => ∃ ds, d = .tup ds ∧ Q ds S1) : IX c tg e ρ S Z Q := fun σ G ps H R o kn kx =>
  ⟨_, pi_tup we_pe, h σ G ps H _ o (fun v G1 H1 d S1 o1 e1 a1 ⟨ds, ed, q⟩ => by
    subst ed
    cases a1 with
    | @tup a vs _ hl hv =>
    refine ⟨a, rfl, ⟨vs, o1.sub.st hl⟩, kn _ G1 H1 ds S1 o1 e1 ⟨fun i H' hi hx => ?_, fun H' hx => ⟨vs, hx.st hl, by rw [hv.len]; exact Nat.le_refl _⟩, fun i G' H' x H2 hi h1 h2 hy => ?_⟩ q⟩
    · exact ⟨vs, vs[i]'(by rw [hv.len]; exact hi), hx.st hl, by simp⟩
    · obtain ⟨rfl, hy⟩ := hy
      obtain ⟨d, d1, d2⟩ := hv.getV (hy vs ((h1.trans h2).st hl))
      exact ⟨d, G', d1, .refl _ _, d2.mono h1⟩) kx⟩
/-- the signs of a text -/
def sgs (s : Str) : List D := s.cps.toList.map fun n => .str ⟨#[n]⟩
theorem sgs_len (s : Str) : (sgs s).length = s.cps.size := by unfold sgs; rw [List.length_map]; exact Array.length_toList
theorem ix_str (h : EX c e ρ S Z fun d S1 => ∃ s, d = .str s ∧ Q (sgs s) S1) : IX c tg e ρ S Z Q := fun σ G ps H R o kn kx =>
  ⟨_, pi_str we_pe, h σ G ps H _ o (fun v G1 H1 d S1 o1 e1 a1 ⟨s, ed, q⟩ => by
    subst ed
    cases a1
    refine ⟨s, rfl, kn _ G1 H1 _ S1 o1 e1 ⟨fun i H' hi hx => by rw [sgs_len] at hi; exact hi, fun H' hx => by rw [sgs_len]; exact Nat.le_refl _, fun i G' H' x H2 hi h1 h2 hy => ?_⟩ q⟩
    obtain ⟨rfl, n, hn, rfl⟩ := hy
    refine ⟨.str ⟨#[n]⟩, G', ?_, .refl _ _, .str _⟩
    unfold sgs
    rw [List.getElem?_map, Array.getElem?_toList, hn] <;> rfl) kx⟩
/-- the ints of a range -/
def rgs (lo : Int) (n : Nat) : List D := (List.range n).map fun (i : Nat) => .int (lo + (i : Int))
theorem rgs_len (lo : Int) (n : Nat) : (rgs lo n).length = n := by unfold rgs; rw [List.length_map, List.length_range]
theorem rgs_get {lo : Int} {n i : Nat} (h : i < n) : (rgs lo n)[i]? = some (.int (lo + (i : Int))) := by
  unfold rgs
  rw [List.getElem?_map, List.getElem?_range h] <;> rfl
theorem wk_rng {K : PySem.W.Frag} {lo : Int} {n : Nat} {G0 : Hp} : WkD K (Itr lo n) G0 (rgs lo n) := ⟨fun i H' hi _ => by rw [rgs_len] at hi; exact hi, fun H' _ => by rw [rgs_len]; exact Nat.le_refl _, fun i G' H' x H2 hi h1 h2 hy => by
    rw [rgs_len] at hi
    obtain ⟨rfl, rfl⟩ := hy
    exact ⟨_, G', rgs_get hi, .refl _ _, .int _⟩⟩
theorem ix_rng1 {p1 p3 : Pos} (hm : c.X.mg "range" = none) (h : EX c e ρ S Z fun d S1 => ∃ n, d = .int n ∧ -(2 ^ 62) ≤ n ∧ n < 2 ^ 62 ∧ Q (rgs 0 n.toNat) S1) (hg : Gl c.X "range" := by rfl) (hse : starEach [e] c.X.env = [(false, eval e c.X.env)] := by rfl) :
    IX c tg (.Call (.Name "range" p1) [e] [] p3) ρ S Z Q := fun σ G ps H R o kn kx =>
  ⟨_, pi_range1 hg hm (pa_cons we_pe pa_nil (by rw [hse]; rfl)) hse, h σ G ps H _ o (fun v G1 H1 d S1 o1 e1 a1 ⟨n, ed, n1, n2, q⟩ => by
    subst ed
    cases a1
    exact ⟨n, rfl, n1, n2, kn _ G1 H1 _ S1 o1 e1 wk_rng q⟩) kx⟩
theorem ix_rng2 {p1 p3 : Pos} (hm : c.X.mg "range" = none) (h : EX c a ρ S Z fun d1 S1 => EX c b ρ S1 Z fun d2 S2 => ∃ i j, d1 = .int i ∧ d2 = .int j ∧ (-(2 ^ 62) ≤ i ∧ i < 2 ^ 62 ∧ -(2 ^ 62) ≤ j ∧ j < 2 ^ 62) ∧ Q (rgs i (j - i).toNat) S2) (hg : Gl c.X "range" := by rfl)
    (hse : starEach [a, b] c.X.env = [(false, eval a c.X.env), (false, eval b c.X.env)] := by rfl) (hs1 : starEach [b] c.X.env = (false, eval b c.X.env) :: starEach [] c.X.env := by rfl) (hs2 : starEach [b] c.X.env = [(false, eval b c.X.env)] := by rfl) :
    IX c tg (.Call (.Name "range" p1) [a, b] [] p3) ρ S Z Q := fun σ G ps H R o kn kx =>
  ⟨_, pi_range2 hg hm (pa_cons we_pe (pa_cons we_pe pa_nil hs1) (by rw [hse, hs1]; rfl)) hse hs2, h σ G ps H _ o (fun v G1 H1 d S1 o1 e1 a1 q1 => q1 σ G1 ps H1 _ o1 (fun v2 G2 H2 d2 S2 o2 e2 a2 ⟨i, j, ed, ed2, hb, q⟩ => by
    subst ed ed2
    cases a1; cases a2
    exact ⟨i, j, rfl, hb, kn _ G2 H2 _ S2 o2 (e1.trans e2) wk_rng q⟩) fun C pl dd G' H' S' o' e' => kx C pl dd G' H' S' o' (e1.trans e')) kx⟩
end
/-- for x in e -/
theorem s1_for (j : Nat) {x : Str} {p2 : Pos} (hp : PassesOwn (model c.X.prog c.X.w) c.X.A c.X.env c.X.xe) (hc : c.X.calm = true) (hN : c.X.N.Nodup)
    (h : IX c (.Name x p2) e ρ S P.ex fun ds S1 => ∃ I : Nat → List Sl → List Ce → Prop, I 0 ρ S1 ∧ (∀ i x ρ' S', ds[i]? = some x → I i ρ' S' → SX c body (ρ'.set j (.dat x)) S' (P.loop (I (i + 1)))) ∧ ∀ ρ' S', I ds.length ρ' S' → P.nx ρ' S')
    (hi : c.X.N[j]? = some x := by rfl) (hx : Loc c.X.env.scope x := by first | exact Or.inl rfl | exact Or.inr rfl) (hf : c.X.fn x = true ∨ c.X.env.scope.names.lookup x = some .local := by first | exact .inl rfl | exact .inr rfl)
    (hs : ∀ x, foldedSetIterable e c.X.env x = pure x := by intro _; rfl) : S1 c (.For (.Name x p2) e body [] pos) ρ S P := fun σ G ps H E o r =>
  ⟨_, ps_for hp hc wi_pi (pg_name hN hi hx hf) wss_pss hs, h σ G ps H _ o (fun J G1 H1 ds S1 o1 e1 wk ⟨I, i0, ht, hd⟩ => by
    refine ⟨fun i m σ' H' => m = ds.length - i ∧ i ≤ ds.length ∧ Has c G1 (I i) σ' H', ⟨ds.length, by simp, Nat.zero_le _, G1, ps, ρ, S1, o1, Ex.refl _, i0⟩, ?_⟩
    rintro i m σ' H' ⟨rfl, hi, G', ps', ρ', S', o', e', hI⟩
    by_cases hlt : i < ds.length
    · refine .inr ⟨wk.goes i H' hlt (e'.trans o'.sub), fun σ2 H2 => Has c G1 (I (i + 1)) σ2 H2, fun σ2 H2 p' => ⟨ds.length - (i + 1), by omega, rfl, hlt, p'⟩, fun x H2 y => ?_⟩
      obtain ⟨d, G2, hd1, g, ha⟩ := wk.yields i G' H' x H2 hlt e' o'.sub y
      have o2 := o'.grow g
      have e2 := (g.ex o'.sub).1
      exact ht i d ρ' S' hd1 hI _ G2 ps' H2 _ (o2.setD j ha) (real_loop r (e1.trans (e'.trans e2)) fun G3 x2 σ2 H3 ⟨G4, ps3, ρ3, S3, o3, e3, q3⟩ => ⟨G4, ps3, ρ3, S3, o3, ((e'.trans e2).trans x2).trans e3, q3⟩)
    · have e : i = ds.length := by omega
      subst e
      exact .inl ⟨wk.stops H' (e'.trans o'.sub), r.nx σ' G' ps' H' ρ' S' o' (e1.trans e') (hd ρ' S' hI)⟩) fun C pl dd G' H' S' o' e' x z => r.ex σ G' ps H' ρ S' C pl dd o' e' x z⟩
/-- while, by a word with its measure -/
theorem s1_while (I : Nat → List Sl → List Ce → Prop) (m0 : Nat) (hp : PassesOwn (model c.X.prog c.X.w) c.X.A c.X.env c.X.xe) (i0 : I m0 ρ S)
    (h : ∀ m ρ' S', I m ρ' S' → TX c t ρ' S' P.ex fun x S1 => (x = true → SX c body ρ' S1 (P.loop fun ρ2 S2 => ∃ m', m' < m ∧ I m' ρ2 S2)) ∧ (x = false → P.nx ρ' S1)) : S1 c (.While t body [] pos) ρ S P := fun σ G ps H E o r =>
  ⟨_, ps_while hp wt_pt wss_pss, fun m σ' H' => Has c G (I m) σ' H', ⟨m0, G, ps, ρ, S, o, Ex.refl _, i0⟩, fun m σ' H' hh => by
    obtain ⟨G', ps', ρ', S', o', e', hI⟩ := hh
    refine h m ρ' S' hI σ' G' ps' H' _ o' (fun x G1 H1 S1 o1 e1 q => ?_) fun C pl dd G' H' S' o2 e2 x z => r.ex σ' G' ps' H' ρ' S' C pl dd o2 (e'.trans e2) x z
    cases x with
    | true =>
      exact iteT ⟨fun σ2 H2 => ∃ m', m' < m ∧ Has c G (I m') σ2 H2, fun _ _ q => q, q.1 rfl σ' G1 ps' H1 _ o1 (real_loop r (e'.trans e1) fun G2 x2 σ2 H2 ⟨G3, ps3, ρ3, S3, o3, e3, m', hm, q3⟩ => ⟨m', hm, G3, ps3, ρ3, S3, o3, ((e'.trans e1).trans x2).trans e3, q3⟩)⟩
    | false => exact iteF (r.nx σ' G1 ps' H1 ρ' S1 o1 (e'.trans e1) (q.2 rfl))⟩

/-! ### owned lists -/
theorem SOk.wr {K : PySem.W.Frag} {F : Fx} {G H : Hp} {ps : List Addr} {σ : L2.St} (o : SOk K F G ps ρ S σ H) {j : Nat} {p : Addr} {cs : List D} {us' : List V} {cs' : List D} (hp : ps[j]? = some p) (hS : S[j]? = some (.lst cs)) (h2 : AtDs K G us' cs') :
    SOk K F G ps ρ (S.set j (.lst cs')) σ (upd H p (.lst us')) := by
  have z0 : G p = none ∧ ∃ vs, H p = some (.lst vs) ∧ AtDs K G vs cs := o.cell j p _ hp hS
  refine o.called1 hp hS (Ex.refl G) (fun a u e => ?_) (fun a u n e => by rw [upd_ne n]; exact e) (fun a u e => .inl e) upd_same h2
  rw [upd_ne (fun y => by subst y; rw [z0.1] at e; cases e)]
  exact o.sub a u e
/-- x.append(e), x owned -/
theorem s1_app (i : Nat) {x : Str} {j : Nat} {cs0 : List D} {p1 p2 p3 : Pos} (hx : ρ[i]? = some (.own j)) (hS : S[j]? = some (.lst cs0)) (h : EX c e ρ S P.ex fun d S1 => ∃ cs, S1[j]? = some (.lst cs) ∧ cs.length < 100000 ∧ P.nx ρ (S1.set j (.lst (cs ++ [d])))) (hN : c.X.N[i]? = some x := by rfl)
    (hv : Vis c.X.env.scope x := by first | exact Or.inl rfl | exact Or.inr (Or.inl rfl) | exact Or.inr (Or.inr rfl)) (h1 : (x == ("__debug__" : Str)) = false := by decide) (h2 : (x == ("__classdict__" : Str)) = false := by decide)
    (he : starEach [e] c.X.env = (false, eval e c.X.env) :: starEach [] c.X.env := by rfl) (hpl : (backTo p3 (starEach [] c.X.env)).any (·.1) = false := by rfl)
    (hfew : ((backTo p3 (starEach [e] c.X.env)).all (fun x => !x.1) && (backToKw p3 (keywordEach [] c.X.env)).all (fun x => x.1.isSome)
      && decide (([e] : List Expr).length + ([] : List Keyword).length + (if ([] : List Keyword).isEmpty then 0 else 1) < 30)) = true := by rfl)
    (hline : (p2.endLine == p3.line) = true := by rfl)
    (hba : attributeBase (.Name x p1) "append" c.X.env (eval (.Name x p1) c.X.env) = eval (.Name x p1) c.X.env := by rfl) (hs : swapsWith (.Call (.Attribute (.Name x p1) "append" p2) [e] [] p3) none pos.line c.X.env = pure false := by rfl) :
    S1 c (.Expr (.Call (.Attribute (.Name x p1) "append" p2) [e] [] p3) pos) ρ S P := fun σ G ps H E o r => by
  obtain ⟨p, hp, hsx⟩ := o.own i j hx
  obtain ⟨z1, vs, z2, z3⟩ := (o.cell j p _ hp hS : CeAt c.X.K G H p (.lst cs0))
  refine ⟨_, ps_expr (pe_bm PySem.F.plainAttrs_list PySem.F.slot_list_append PySem.F.type_list_append mt_append (pe_var hN hv h1 h2) (pa_cons we_pe pa_nil he) (hfew := hfew) (hline := hline) (hs := he) (hplain := hpl) (hbase := hba)) hs, .ref p, hsx, .inl ⟨rfl, vs, SqL.of z2⟩, ?_⟩
  refine h σ G ps H _ o (fun v G1 H1 d S1 o1 e1 a1 ⟨cs, hS1, hl, q⟩ => ?_) fun C pl dd G' H' S' o' e' x z => r.ex σ G' ps H' ρ S' C pl dd o' e' x z
  obtain ⟨y1, us, y2, y3⟩ := (o1.cell j p _ hp hS1 : CeAt c.X.K G1 H1 p (.lst cs))
  exact ⟨p, us, v, rfl, rfl, y2, by rw [y3.len]; exact Nat.lt_of_lt_of_le hl (by decide), r.nx σ G1 ps _ ρ _ (o1.wr hp hS1 (y3.append (.one a1))) e1 q⟩
/-- x[b] = e, x an owned list -/
theorem s1_sto (i : Nat) {x : Str} {j : Nat} {p1 p2 : Pos} (hx : ρ[i]? = some (.own j)) (h : EX c e ρ S P.ex fun d S1 => EX c b ρ S1 P.ex fun d2 S2 => ∃ n m cs, d2 = .int n ∧ S2[j]? = some (.lst cs) ∧ ixN cs.length n = some m ∧ P.nx ρ (S2.set j (.lst (cs.set m d)))) (hN : c.X.N[i]? = some x := by rfl)
    (hv : Vis c.X.env.scope x := by first | exact Or.inl rfl | exact Or.inr (Or.inl rfl) | exact Or.inr (Or.inr rfl)) (h1 : (x == ("__debug__" : Str)) = false := by decide) (h2 : (x == ("__classdict__" : Str)) = false := by decide)
    (ha : ∀ v, assign (.Subscript (.Name x p1) b p2) c.X.env v = (do
      let ov ← holding [v] (eval (.Name x p1) c.X.env)
      let iv ← holding [v, ov] (eval b c.X.env)
      standAt p2
      holding [v, ov, iv] (setItem ov iv v)
      release [v, ov, iv] []) := by intro _; rfl)
    (hs : swapsWithSole [.Subscript (.Name x p1) b p2] e pos.line c.X.env = pure false := by rfl) (hw : swappedStores [.Subscript (.Name x p1) b p2] e c.X.env = pure none := by rfl)
    (h3 : (assignEach [.Subscript (.Name x p1) b p2] c.X.env).map (·.2) = [assign (.Subscript (.Name x p1) b p2) c.X.env] := by rfl) :
    S1 c (.Assign [.Subscript (.Name x p1) b p2] e pos) ρ S P := fun σ G ps H E o r => by
  obtain ⟨p, hp, hsx⟩ := o.own i j hx
  refine ⟨_, ps_asg we_pe (pg_sub (pe_var hN hv h1 h2) we_pe set_list ha) hs hw h3, h σ G ps H _ o (fun v G1 H1 d S1 o1 e1 a1 q1 => ⟨.ref p, hsx, q1 σ G1 ps H1 _ o1 (fun v2 G2 H2 d2 S2 o2 e2 a2 q2 => ?_) fun C pl dd G' H' S' o' e' x z => r.ex σ G' ps H' ρ S' C pl dd o' (e1.trans e') x z⟩) fun C pl dd G' H' S' o' e' x z => r.ex σ G' ps H' ρ S' C pl dd o' e' x z⟩
  obtain ⟨n, m, cs, ed, hS2, hm, q⟩ := q2
  subst ed
  cases a2
  obtain ⟨y1, us, y2, y3⟩ := (o2.cell j p _ hp hS2 : CeAt c.X.K G2 H2 p (.lst cs))
  exact ⟨p, us, n, m, rfl, rfl, y2, by rw [y3.len]; exact hm, r.nx σ G2 ps _ ρ _ (o2.wr hp hS2 (y3.set m (a1.mono e2))) (e1.trans e2) q⟩
/-- the slots of an owned cell that is data from now on -/
def frzS (j : Nat) (d : D) : List Sl → List Sl
  | [] => []
  | .own k :: r => (if k = j then .dat d else .own k) :: frzS j d r
  | .dat e :: r => .dat e :: frzS j d r
  | .no :: r => .no :: frzS j d r
theorem frzS_get (j : Nat) (d : D) : ∀ (ρ : List Sl) (i : Nat), (frzS j d ρ)[i]? = (ρ[i]?).map fun s => match s with | .own k => if k = j then .dat d else .own k | .dat e => .dat e | .no => .no
  | [], i => by simp [frzS]
  | .own k :: r, 0 => by simp [frzS]
  | .dat k :: r, 0 => by simp [frzS]
  | .no :: r, 0 => by simp [frzS]
  | .own k :: r, i + 1 => by simpa [frzS] using frzS_get j d r i
  | .dat k :: r, i + 1 => by simpa [frzS] using frzS_get j d r i
  | .no :: r, i + 1 => by simpa [frzS] using frzS_get j d r i
theorem frzS_len (j : Nat) (d : D) : ∀ (ρ : List Sl), (frzS j d ρ).length = ρ.length
  | [] => rfl
  | .own k :: r => by simp [frzS, frzS_len j d r]
  | .dat k :: r => by simp [frzS, frzS_len j d r]
  | .no :: r => by simp [frzS, frzS_len j d r]
theorem SOk.frz {K : PySem.W.Frag} {F : Fx} {G H : Hp} {ps : List Addr} {σ : L2.St} (o : SOk K F G ps ρ S σ H) {j : Nat} {cs : List D} (hj : F.P0.length ≤ j) (hS : S[j]? = some (.lst cs)) : ∃ G', Ex G G' ∧ SOk K F G' ps (frzS j (.lst cs) ρ) (S.set j .gone) σ H := by
  have hlt : j < S.length := (List.getElem?_eq_some_iff.mp hS).1
  have hlp : j < ps.length := by rw [o.plen]; exact hlt
  obtain ⟨p, hp⟩ : ∃ p, ps[j]? = some p := ⟨_, List.getElem?_eq_getElem hlp⟩
  obtain ⟨y1, us, y2, y3⟩ := (o.cell j p _ hp hS : CeAt K G H p (.lst cs))
  have eg : Ex G (upd G p (.lst us)) := Ex.new y1
  have ny : F.H0 p = none := by
    rcases o.fresh p (List.mem_of_getElem? hp) with z | z
    · exfalso
      obtain ⟨t, ht⟩ := o.pre
      obtain ⟨m, hm, hz⟩ := List.mem_iff_getElem.mp z
      have h1 : ps[m]? = some p := by
        rw [← ht, List.getElem?_append_left hm, List.getElem?_eq_getElem hm, hz]
      obtain ⟨l1, q1⟩ := List.getElem?_eq_some_iff.mp h1
      obtain ⟨l2, q2⟩ := List.getElem?_eq_some_iff.mp hp
      have := (List.getElem_inj o.nd).mp (q1.trans q2.symm)
      omega
    · exact z
  have ad : AtD K (upd G p (.lst us)) (.ref p) (.lst cs) := .lst upd_same (y3.mono eg)
  refine ⟨_, eg, ⟨fun a u e => ?_, o.base.trans eg, o.keep, fun a u e => ?_, o.pre, o.nd, o.fresh, o.there, by rw [List.length_set]; exact o.plen, by rw [frzS_len]; exact o.slen, fun i d q => ?_, fun i k q => ?_, fun k q cl q1 q2 => ?_⟩⟩
  · by_cases ha : a = p
    · subst ha; rw [upd_same] at e; cases e; exact y2
    · rw [upd_ne ha] at e; exact o.sub a u e
  · by_cases ha : a = p
    · subst ha; exact .inr ny
    · rw [upd_ne ha] at e; exact o.new a u e
  · rw [frzS_get] at q
    cases e : ρ[i]? with
    | none => rw [e] at q; cases q
    | some s =>
      rw [e] at q
      cases s with
      | no => cases q
      | dat d' => cases q; obtain ⟨v, h1, h2⟩ := o.dat i _ e; exact ⟨v, h1, h2.mono eg⟩
      | own k =>
        by_cases hk : k = j
        · subst hk
          have z : some (Sl.dat (.lst cs)) = some (Sl.dat d) := by simpa using q
          cases z
          obtain ⟨p', h1, h2⟩ := o.own i k e
          rw [hp] at h1; cases h1
          exact ⟨_, h2, ad⟩
        · simp [hk] at q
  · rw [frzS_get] at q
    cases e : ρ[i]? with
    | none => rw [e] at q; cases q
    | some s =>
      rw [e] at q
      cases s with
      | no => cases q
      | dat d' => cases q
      | own k' =>
        by_cases hk : k' = j
        · simp [hk] at q
        · simp [hk] at q
          subst q
          exact o.own i k' e
  · by_cases hk : k = j
    · subst hk
      rw [List.getElem?_set_self hlt] at q2
      cases q2; trivial
    · rw [List.getElem?_set_ne (Ne.symm hk)] at q2
      have hqp : q ≠ p := fun y => hk (by
        subst y
        obtain ⟨l1, e1⟩ := List.getElem?_eq_some_iff.mp q1
        obtain ⟨l2, e2⟩ := List.getElem?_eq_some_iff.mp hp
        exact (List.getElem_inj o.nd).mp (e1.trans e2.symm))
      have z := o.cell k q cl q1 q2
      cases cl with
      | gone => trivial
      | lst ds => obtain ⟨z1, vs', z2, z3⟩ := z; exact ⟨by rw [upd_ne hqp]; exact z1, vs', z2, z3.mono eg⟩
      | dct ds => obtain ⟨z1, vs', z2, z3⟩ := z; exact ⟨by rw [upd_ne hqp]; exact z1, vs', z2, z3.mono eg⟩
/-- ahead of a block: an owned list is data from now on -/
theorem sx_frz (j : Nat) {cs : List D} (hj : c.F.P0.length ≤ j) (hS : S[j]? = some (.lst cs)) (h : SX c sts (frzS j (.lst cs) ρ) (S.set j .gone) P) : SX c sts ρ S P := fun σ G ps H E o r => by
  obtain ⟨G', e, o'⟩ := o.frz hj hS
  exact h σ G' ps H E o' (r.mono e)
/-- cells at the end that no slot names are forgotten -/
theorem SOk.drop {K : PySem.W.Frag} {F : Fx} {G H : Hp} {ps : List Addr} {σ : L2.St} {J : List Ce} (o : SOk K F G ps ρ (S ++ J) σ H) (hP : F.P0.length ≤ S.length) (hn : ∀ (i k : Nat), ρ[i]? = some (.own k) → k < S.length) : SOk K F G (ps.take S.length) ρ S σ H := by
  have hl : S.length ≤ ps.length := by rw [o.plen, List.length_append]; omega
  refine ⟨o.sub, o.base, o.keep, o.new, ?_, o.nd.sublist (List.take_sublist _ _), fun p hp => o.fresh p (List.mem_of_mem_take hp), fun p hp => o.there p (List.mem_of_mem_take hp), by rw [List.length_take]; omega, o.slen, o.dat, fun i k q => ?_, fun k q cl q1 q2 => ?_⟩
  · exact List.prefix_take_iff.mpr ⟨o.pre, hP⟩
  · obtain ⟨p, h1, h2⟩ := o.own i k q
    exact ⟨p, by rw [List.getElem?_take_of_lt (hn i k q)]; exact h1, h2⟩
  · have hk := (List.getElem?_eq_some_iff.mp q2).1
    rw [List.getElem?_take_of_lt hk] at q1
    exact o.cell k q cl q1 (by rw [List.getElem?_append_left hk]; exact q2)
end
end Lay

namespace Lay
open PySem PySem.Spec L2
section
variable {c : Cz} {ρ : List Sl} {S : List Ce} {P : Post} {a b e t : Expr} {es : List Expr} {pos : Pos} {st : Stmt} {sts A B body : List Stmt} {Z : XP} {Q : D → List Ce → Prop}

/-! ### list comprehensions -/
/-- the names as they were, all else as it is -/
theorem SOk.swap {K : PySem.W.Frag} {F : Fx} {G G' H H' : Hp} {ps ps' : List Addr} {σ σ' : L2.St} {ρ' : List Sl} {S' : List Ce} (o : SOk K F G ps ρ S σ H) (o' : SOk K F G' ps' ρ' S' σ' H') (e : Ex G G') (hp : ps <+: ps') : SOk K F G' ps' ρ S' σ H' :=
  ⟨o'.sub, o'.base, o'.keep, o'.new, o'.pre, o'.nd, o'.fresh, o'.there, o'.plen, o.slen, fun i d q => by
    obtain ⟨v, h1, h2⟩ := o.dat i d q
    exact ⟨v, h1, h2.mono e⟩, fun i k q => by
    obtain ⟨p, h1, h2⟩ := o.own i k q
    obtain ⟨t, ht⟩ := hp
    exact ⟨p, by rw [← ht, List.getElem?_append_left (List.getElem?_eq_some_iff.mp h1).1]; exact h1, h2⟩, o'.cell⟩
def dele (H : Hp) (p : Addr) : Hp := fun b => if b = p then none else H b
theorem dele_same {H : Hp} {p : Addr} : dele H p p = none := if_pos rfl
theorem dele_ne {H : Hp} {p q : Addr} (h : q ≠ p) : dele H p q = H q := if_neg h
theorem upd_dele {H : Hp} {p : Addr} {u : HO} (h : H p = some u) : upd (dele H p) p u = H := by
  funext b
  by_cases hb : b = p
  · subst hb; rw [upd_same, h]
  · rw [upd_ne hb, dele_ne hb]
/-- the last owned cell is let go as a fresh list -/
theorem SOk.pop {K : PySem.W.Frag} {F : Fx} {G H : Hp} {ps : List Addr} {σ : L2.St} {p : Addr} {cs : List D} (o : SOk K F G (ps ++ [p]) ρ (S ++ [.lst cs]) σ H) (hl : ps.length = S.length) (hP : F.P0 <+: ps) (hn : ∀ (i k : Nat), ρ[i]? = some (.own k) → k < S.length) :
    ∃ vs, H p = some (.lst vs) ∧ AtDs K G vs cs ∧ SOk K F G ps ρ S σ (dele H p) := by
  have z : CeAt K G H p (.lst cs) := o.cell ps.length p _ (by simp) (by rw [hl]; simp)
  obtain ⟨z1, vs, z2, z3⟩ := z
  have npp : p ∉ ps := fun hm => by
    have := o.nd
    rw [List.nodup_append] at this
    exact this.2.2 p hm p (by simp) rfl
  have n0 : F.H0 p = none := by
    rcases o.fresh p (by simp) with y | y
    · exact absurd (hP.subset y) npp
    · exact y
  refine ⟨vs, z2, z3, ⟨fun a u e => ?_, o.base, fun a u n e => ?_, o.new, hP, ?_, fun q hq => o.fresh q (List.mem_append_left _ hq), fun q hq => ?_, hl, o.slen, o.dat, fun i k q => ?_, fun k q cl q1 q2 => ?_⟩⟩
  · have ha : a ≠ p := fun y => by subst y; rw [z1] at e; cases e
    rw [dele_ne ha]; exact o.sub a u e
  · have ha : a ≠ p := fun y => by subst y; rw [n0] at e; cases e
    rw [dele_ne ha]; exact o.keep a u n e
  · have := o.nd
    rw [List.nodup_append] at this
    exact this.1
  · have ha : q ≠ p := fun y => npp (y ▸ hq)
    obtain ⟨w, hw⟩ := o.there q (List.mem_append_left _ hq)
    exact ⟨w, by rw [dele_ne ha]; exact hw⟩
  · obtain ⟨p', h1, h2⟩ := o.own i k q
    exact ⟨p', by rw [List.getElem?_append_left (by rw [hl]; exact hn i k q)] at h1; exact h1, h2⟩
  · have hk := (List.getElem?_eq_some_iff.mp q1).1
    have hqp : q ≠ p := fun y => npp (y ▸ List.mem_of_getElem? q1)
    have y := o.cell k q cl (by rw [List.getElem?_append_left hk]; exact q1) (by rw [List.getElem?_append_left (by rw [← hl]; exact hk)]; exact q2)
    cases cl with
    | gone => trivial
    | lst ds => obtain ⟨y1, us, y2, y3⟩ := y; exact ⟨y1, us, by rw [dele_ne hqp]; exact y2, y3⟩
    | dct ds => obtain ⟨y1, us, y2, y3⟩ := y; exact ⟨y1, us, by rw [dele_ne hqp]; exact y2, y3⟩
/-- a fresh list as one more cell, named by none -/
theorem SOk.push {K : PySem.W.Frag} {F : Fx} {G H : Hp} {ps : List Addr} {σ : L2.St} (o : SOk K F G ps ρ S σ H) {p : Addr} {vs : List V} {ds : List D} (hp : H p = none) (h : AtDs K G vs ds) :
    SOk K F G (ps ++ [p]) ρ (S ++ [.lst ds]) σ (upd H p (.lst vs)) := by
  have q := o.setF ρ.length hp h
  have e1 : ρ.set ρ.length (.own S.length) = ρ := List.set_eq_of_length_le (Nat.le_refl _)
  have e2 : σ.set ρ.length (some (.ref p)) = σ := List.set_eq_of_length_le (by rw [o.slen]; exact Nat.le_refl _)
  rw [e1, e2] at q
  exact q
theorem SOk.ownlt {K : PySem.W.Frag} {F : Fx} {G H : Hp} {ps : List Addr} {σ : L2.St} (o : SOk K F G ps ρ S σ H) (i k : Nat) (h : ρ[i]? = some (.own k)) : k < S.length := by
  obtain ⟨p, h1, _⟩ := o.own i k h
  rw [← o.plen]; exact (List.getElem?_eq_some_iff.mp h1).1
/-- the context of a comprehension's block -/
abbrev Cz.blk (c : Cz) (s : Shared) (H : Hp) (scope : Scope) (cl : List (Str × Addr)) (C : Addr) (fp : List Addr) : Cz :=
  ⟨c.X.blk s H scope (compEnvC scope cl C c.X.env) fp, c.F, fun _ _ _ _ => False, takes0⟩
/-- what one turn of it does -/
def Turn1 (c : Cz) (scope : Scope) (elt : Expr) (ifs : List Expr) (ρ : List Sl) (acc : List D) (S : List Ce) (N : List D → List Ce → Prop) : Prop :=
  ∀ (s : Shared) (H : Hp) (C : Addr) (cl : List (Str × Addr)) (fp : List Addr),
    (ifs = [] → EX (c.blk s H scope cl C fp) elt ρ (S ++ [.lst acc]) X0 fun y S2 => ∃ S3, S2 = S3 ++ [.lst acc] ∧ N (acc ++ [y]) S3) ∧
    (∀ t, ifs = [t] → TX (c.blk s H scope cl C fp) t ρ (S ++ [.lst acc]) X0 fun x S2 => (x = true → ∀ (s : Shared) (H : Hp) (C : Addr) (cl : List (Str × Addr)) (fp : List Addr), EX (c.blk s H scope cl C fp) elt ρ S2 X0 fun y S2 => ∃ S3, S2 = S3 ++ [.lst acc] ∧ N (acc ++ [y]) S3) ∧ (x = false → ∃ S3, S2 = S3 ++ [.lst acc] ∧ N acc S3))
def teB (X : Cx) (scope : Scope) (elt : Expr) : TE := fun σ H Q => ∀ (s : Shared) (H' : Hp) (C : Addr) (cl : List (Str × Addr)) (fp : List Addr), WE (X.blk s H' scope (compEnvC scope cl C X.env) fp) elt σ H Q
theorem teB_pe {X : Cx} {scope : Scope} {elt : Expr} (s : Shared) (H' : Hp) (C : Addr) (cl : List (Str × Addr)) (fp : List Addr) : PE (X.blk s H' scope (compEnvC scope cl C X.env) fp) elt (teB X scope elt) :=
  ⟨fun pins s1 σ H Q I h => we_pe.run pins s1 σ H Q I (h s H' C cl fp)⟩
def ttB (X : Cx) (scope : Scope) (ifs : List Expr) : TT := fun σ H Q => (ifs = [] ∧ Q true H) ∨ ∃ t, ifs = [t] ∧ ∀ (s : Shared) (H' : Hp) (C : Addr) (cl : List (Str × Addr)) (fp : List Addr), WT (X.blk s H' scope (compEnvC scope cl C X.env) fp) t σ H Q
theorem ttB_pts {X : Cx} {scope : Scope} {ifs : List Expr} (s : Shared) (H' : Hp) (C : Addr) (cl : List (Str × Addr)) (fp : List Addr) : PTs (X.blk s H' scope (compEnvC scope cl C X.env) fp) ifs (ttB X scope ifs) :=
  ⟨fun pins s1 σ H Q I h => by
    rcases h with ⟨e, h⟩ | ⟨t, e, h⟩
    · subst e; exact pts_nil.run pins s1 σ H Q I h
    · subst e; exact (pts_one wt_pt).run pins s1 σ H Q I (h s H' C cl fp)⟩
/-- one turn, at the library's level -/
theorem turn_ok {scope : Scope} {elt : Expr} {ifs : List Expr} {j : Nat} {G : Hp} {ps : List Addr} {σ : L2.St} {H G1 H1 : Hp} {Dl : Addr} {acc : List D} {S' : List Ce} {N : List D → List Ce → Prop} {v : V} {x : D} (o0 : SOk c.X.K c.F G ps ρ S σ H)
    (o : SOk c.X.K c.F G1 (ps ++ [Dl]) ρ (S' ++ [.lst acc]) σ H1) (hl : ps.length = S'.length) (ha : AtD c.X.K G1 v x) (hz : acc.length < 1000000) (hi : (∃ t, ifs = [t]) ∨ ifs = []) (hT : Turn1 c scope elt ifs (ρ.set j (.dat x)) acc S' N) {M : Hp → Prop}
    (hM : ∀ G2 H2 acc2 S2, SOk c.X.K c.F G2 (ps ++ [Dl]) ρ (S2 ++ [.lst acc2]) σ H2 → ps.length = S2.length → Ex G1 G2 → N acc2 S2 → M H2) :
    wipe ((wipe σ [j]).set j (some v)) [j] = wipe σ [j] ∧ ttB c.X scope ifs ((wipe σ [j]).set j (some v)) H1 fun b H3 => if b = true then teB c.X scope elt ((wipe σ [j]).set j (some v)) H3 fun y H4 => ∃ ac, H4 Dl = some (.lst ac) ∧ ac.length < sizeLine ∧ M (upd H4 Dl (.lst (ac ++ [y]))) else M H3 := by
  have e1 : (wipe σ [j]).set j (some v) = σ.set j (some v) := by
    show (σ.set j none).set j (some v) = σ.set j (some v)
    rw [List.set_set]
  have oj := o.setD j ha
  have fin : ∀ {S2 : List Ce} {G2 H2 : Hp} {ρ2 : List Sl} {σ2 : L2.St}, SOk c.X.K c.F G2 (ps ++ [Dl]) ρ2 S2 σ2 H2 → Ex G1 G2 → SOk c.X.K c.F G2 (ps ++ [Dl]) ρ S2 σ H2 := fun o2 e2 => o.swap o2 e2 (List.prefix_refl _)
  have elt_ok : ∀ {S2 : List Ce} {G2 H2 : Hp}, SOk c.X.K c.F G2 (ps ++ [Dl]) (ρ.set j (.dat x)) S2 (σ.set j (some v)) H2 → Ex G1 G2 → (∀ (s : Shared) (H : Hp) (C : Addr) (cl : List (Str × Addr)) (fp : List Addr), EX (c.blk s H scope cl C fp) elt (ρ.set j (.dat x)) S2 X0 fun y S2 => ∃ S3, S2 = S3 ++ [.lst acc] ∧ N (acc ++ [y]) S3) →
      teB c.X scope elt (σ.set j (some v)) H2 fun y H4 => ∃ ac, H4 Dl = some (.lst ac) ∧ ac.length < sizeLine ∧ M (upd H4 Dl (.lst (ac ++ [y]))) := fun {S2 G2 H2} o2 e2 hE s H' C cl fp => by
    refine hE s H' C cl fp _ G2 _ H2 _ o2 (fun u G3 H3 y S3 o3 e3 a3 ⟨S4, eS, hN⟩ => ?_) fun C pl dd G' H' S' o' e' x z => z.elim
    subst eS
    have l4 : ps.length = S4.length := by
      have := o3.plen
      rw [List.length_append, List.length_append] at this
      exact Nat.add_right_cancel this
    obtain ⟨y1, us, y2, y3⟩ := (o3.cell ps.length Dl (.lst acc) (by simp) (by rw [l4]; simp) : CeAt c.X.K G3 H3 Dl (.lst acc))
    refine ⟨us, y2, by rw [y3.len]; exact Nat.lt_of_lt_of_le hz (by decide), hM G3 _ (acc ++ [y]) S4 ?_ l4 (e2.trans e3) hN⟩
    have o4 := (fin o3 (e2.trans e3)).wr (j := ps.length) (p := Dl) (cs := acc) (us' := us ++ [u]) (cs' := acc ++ [y]) (by simp) (by rw [l4]; simp) (y3.append (.one a3))
    have e5 : (S4 ++ [Ce.lst acc]).set ps.length (.lst (acc ++ [y])) = S4 ++ [.lst (acc ++ [y])] := by
      rw [l4, List.set_append_right _ _ (Nat.le_refl _), Nat.sub_self] <;> rfl
    rw [e5] at o4
    exact o4
  refine ⟨by rw [e1]; show (σ.set j (some v)).set j none = σ.set j none; rw [List.set_set], ?_⟩
  rw [e1]
  rcases hi with ⟨t, rfl⟩ | rfl
  · refine .inr ⟨t, rfl, fun s H' C cl fp => ?_⟩
    refine (hT s H' C cl fp).2 t rfl _ G1 _ H1 _ oj (fun b G3 H3 S3 o3 e3 q => ?_) fun C pl dd G' H' S' o' e' x z => z.elim
    cases b with
    | true => exact iteT (elt_ok o3 e3 (q.1 rfl))
    | false =>
      obtain ⟨S4, eS, hN⟩ := q.2 rfl
      subst eS
      have l4 : ps.length = S4.length := by
        have := o3.plen
        rw [List.length_append, List.length_append] at this
        exact Nat.add_right_cancel this
      exact iteF (hM G3 H3 acc S4 (fin o3 e3) l4 e3 hN)
  · exact .inl ⟨rfl, iteT (elt_ok oj (Ex.refl _) fun s H C cl fp => (hT s H C cl fp).1 rfl)⟩
/-- what a comprehension over items does: I by the turn, what is made so far, the cells -/
structure LcOk (c : Cz) (scope : Scope) (elt : Expr) (ifs : List Expr) (ρ : List Sl) (j : Nat) (ds : List D) (S : List Ce) (I : Nat → List D → List Ce → Prop) (Q : List D → List Ce → Prop) : Prop where
  i0 : I 0 [] S
  sz : ds.length < 1000000
  turn : ∀ i x acc S', ds[i]? = some x → I i acc S' → acc.length ≤ i → Turn1 c scope elt ifs (ρ.set j (.dat x)) acc S' fun a S2 => I (i + 1) a S2 ∧ a.length ≤ i + 1
  fin : ∀ acc S', I ds.length acc S' → Q acc S'
def LcInv (c : Cz) (G : Hp) (ps : List Addr) (ρ : List Sl) (σ : L2.St) (Dl : Addr) (I : Nat → List D → List Ce → Prop) (i : Nat) (H' : Hp) : Prop :=
  ∃ G' acc S', SOk c.X.K c.F G' (ps ++ [Dl]) ρ (S' ++ [.lst acc]) σ H' ∧ ps.length = S'.length ∧ Ex G G' ∧ I i acc S' ∧ acc.length ≤ i
section
variable {scope : Scope} {elt iter : Expr} {ifs : List Expr} {own : List (Str × Nat)} {x : Str} {p2 : Pos} {Qf : List D → List Ce → Prop}
theorem lc_fin {G : Hp} {ps : List Addr} {σ : L2.St} {H H' : Hp} {Dl : Addr} {I : Nat → List D → List Ce → Prop} {ds : List D} {k : VK} (o : SOk c.X.K c.F G ps ρ S σ H) (hh : LcInv c G ps ρ σ Dl I ds.length H') (hf : ∀ acc S', I ds.length acc S' → Qf acc S')
    (kn : ∀ p vs G' H' ds S', SOk c.X.K c.F G' ps ρ S' σ H' → Ex G G' → H' p = none → AtDs c.X.K G' vs ds → Qf ds S' → k (.ref p) (upd H' p (.lst vs))) : k (.ref Dl) H' := by
  obtain ⟨G', acc, S', o', l', e', hI, _⟩ := hh
  obtain ⟨vs, h1, h2, h3⟩ := o'.pop l' o.pre (fun i k q => by rw [← l', o.plen]; exact o.ownlt i k q)
  have z := kn Dl vs G' (dele H' Dl) acc S' h3 e' dele_same h2 (hf acc S' hI)
  rw [upd_dele h1] at z
  exact z
theorem ef_lc (j : Nat) (hc : c.X.calm = true) (hN : c.X.N.Nodup) (ok : BlkOk c.X.N c.X.env.scope scope own) (ho : own.map (·.2) = [j]) (hifs : (∃ t, ifs = [t]) ∨ ifs = [])
    (hg : ∀ (s : Shared) (H : Hp) (C : Addr) (cl : List (Str × Addr)) (fp : List Addr), PG (c.X.blk s H scope (compEnvC scope cl C c.X.env) fp) (.Name x p2) (gName j))
    (h : IX c (.Name x p2) iter ρ S Z fun ds S1 => ∃ I, LcOk c scope elt ifs ρ j ds S1 I Qf) (hs : ∀ x, foldedSetIterable iter c.X.env x = pure x := by intro _; rfl) : EF c (.ListComp elt [⟨.Name x p2, iter, ifs, 0⟩] scope pos) ρ S Z Qf := fun σ G ps H k o kn kx => by
  refine ⟨_, pe_lc hc hN wi_pi ok hg (fun s H C cl fp => ttB_pts s H C cl fp) (fun s H C cl fp => teB_pe s H C cl fp) hs, ?_⟩
  rw [ho]
  refine h σ G ps H _ o (fun J G1 H1 ds S1 o1 e1 wk ⟨I, L⟩ => ?_) kx
  intro Dl hD
  refine ⟨fun i m H' => m = ds.length - i ∧ i ≤ ds.length ∧ LcInv c G1 ps ρ σ Dl I i H', ⟨ds.length, by simp, Nat.zero_le _, G1, [], S1, o1.push hD .nil, o1.plen, Ex.refl _, L.i0, Nat.zero_le _⟩, ?_⟩
  rintro i m H' ⟨rfl, hi, hh⟩
  by_cases hlt : i < ds.length
  · obtain ⟨G', acc, S', o', l', e', hI, ha⟩ := hh
    refine .inr ⟨wk.goes i H' hlt (e'.trans o'.sub), fun H2 => LcInv c G1 ps ρ σ Dl I (i + 1) H2, fun H2 p' => ⟨ds.length - (i + 1), by omega, rfl, hlt, p'⟩, fun x H2 y => ?_⟩
    obtain ⟨d, G2, hd1, g, hat⟩ := wk.yields i G' H' x H2 hlt e' o'.sub y
    have o2 := o'.grow g
    have e2 := (g.ex o'.sub).1
    exact turn_ok (j := j) (x := d) o1 o2 l' hat (by have := L.sz; omega) hifs (L.turn i d acc S' hd1 hI ha) fun G3 H3 acc2 S2 o3 l3 e3 q3 => ⟨G3, acc2, S2, o3, l3, (e'.trans e2).trans e3, q3⟩
  · have e : i = ds.length := by omega
    subst e
    exact .inl ⟨wk.stops H' (by obtain ⟨G', acc, S', o', l', e', hI, ha⟩ := hh; exact e'.trans o'.sub), lc_fin o1 hh L.fin fun p vs G' H' ds S' o' e' hp hv q => kn p vs G' H' ds S' o' (e1.trans e') hp hv q⟩
end
end
end Lay

namespace Lay
open PySem PySem.Spec L2
section
variable {P : Program} {w : World} {K : PySem.W.Frag} {mg : Str → Option Value} {base : Heap}
/-- where a def's body stands at its entry -/
abbrev czOf (P : Program) (w : World) (K : PySem.W.Frag) (mg : Str → Option Value) (base : Heap) (N : List Str) (qual : Str) (scope : Scope) (f : Addr) (cd : Value) (A : Around) (outer : List Env) (s : Shared) (H : Hp) (E : XK) (F : Fx) : Cz :=
  ⟨cxOf (L2.CX P w) P w K mg base N qual scope f cd A outer s H E, F, fun cls d _ H => E cls d H, takes_of rfl rfl rfl rfl⟩
theorem start_len {N : List Str} {vs : List V} (h : vs.length ≤ N.length) : (L2.start N vs).length = N.length := by
  unfold L2.start
  rw [List.length_append, List.length_map, List.length_replicate]; omega
theorem start_get {N : List Str} {vs : List V} {i : Nat} {v : V} (h : vs[i]? = some v) : (L2.start N vs)[i]? = some (some v) := by
  unfold L2.start
  have hl := (List.getElem?_eq_some_iff.mp h).1
  rw [List.getElem?_append_left (by rw [List.length_map]; exact hl), List.getElem?_map, h]
  rfl
def slots (ds : List D) (m : Nat) : List Sl := ds.map Sl.dat ++ List.replicate m Sl.no
theorem slots_get {ds : List D} {m i : Nat} {d : D} (h : (slots ds m)[i]? = some (.dat d)) : ds[i]? = some d := by
  unfold slots at h
  by_cases hi : i < ds.length
  · rw [List.getElem?_append_left (by rw [List.length_map]; exact hi), List.getElem?_map] at h
    cases e : ds[i]? with
    | none => rw [e] at h; cases h
    | some x => rw [e] at h; cases h; rfl
  · rw [List.getElem?_append_right (by rw [List.length_map]; omega)] at h
    have z := List.mem_of_getElem? h
    have := List.eq_of_mem_replicate z
    cases this
theorem slots_own {ds : List D} {m i k : Nat} (h : (slots ds m)[i]? = some (.own k)) : False := by
  unfold slots at h
  have z := List.mem_of_getElem? h
  rcases List.mem_append.mp z with y | y
  · obtain ⟨d, _, e⟩ := List.mem_map.mp y
    cases e
  · have := List.eq_of_mem_replicate y
    cases this
theorem slots_len (ds : List D) (m : Nat) : (slots ds m).length = ds.length + m := by
  unfold slots
  rw [List.length_append, List.length_map, List.length_replicate]
/-- THE RULE for a def over data -/
theorem fnD0 {x : Str} {st : Stmt} {f : Addr} {fd : FuncData} {N ps : List Str} {k n : Nat} {R : RP} (F : Fun K x x st f fd) (S : FnScope N ps (defScope st)) (hn : ps.length = n) (hN : n ≤ N.length)
    (body : ∀ (cdv : Value) (A : Around) (outer : List Env) (s : Shared) (H : Hp) (E : XK) (F : Fx), Room k (A.deeper (PyProof.Rows.envOfC x (defScope st) s.heap.objs.size f cdv)) → F.P0 = [] → ∀ (ds : List D) (Pr : D → Prop) (Px : Addr → Option (Str × D) → Prop), R ds Pr Px → ds.length = n →
      SX (czOf P w K mg base N x (defScope st) f cdv A outer s H E F) (defBody st) (slots ds (N.length - n)) [] { nx := fun _ _ => Pr .non, rt := fun d _ => Pr d, ex := fun C pl _ _ => Px C pl }) :
    FnOk P w K mg base (L2.CX P w) (k + 1) f fd ps (spD K n R) := by
  refine F.okX S (fun vs H Q E h => ?_) (fun cdv A outer s H vs Q E hr h => ?_)
  · obtain ⟨G, ds, Pr, Px, hl, _, ha, _⟩ := h
    rw [ha.len, hl, hn]
  · obtain ⟨G, ds, Pr, Px, hl, hs, ha, hR, kn, kx⟩ := h
    refine ⟨_, wss_pss, body cdv A outer s H E ⟨[], H, G⟩ hr rfl ds Pr Px hR hl (L2.start N vs) G [] H _ ?_ ?_⟩
    · refine ⟨hs, Ex.refl G, fun a o _ q => q, fun a o q => .inl q, List.nil_prefix, List.nodup_nil, fun p hp => (nomatch hp), fun p hp => (nomatch hp), rfl, ?_, fun i d q => ?_, fun i k q => (slots_own q).elim, fun k p cl q => (nomatch q)⟩
      · rw [start_len (by rw [ha.len, hl]; exact hN), slots_len, hl]; omega
      · obtain ⟨v, h1, h2⟩ := ha.get (slots_get q)
        exact ⟨v, start_get h1, h2⟩
    · exact ⟨fun σ G' ps H' ρ S o _ q => kn _ G' H' _ o.base o.sub (fun a u e => o.keep a u (fun z => nomatch z) e) o.new .non q,
        fun σ G' ps H' ρ S v d o _ hv q => kn v G' H' d o.base o.sub (fun a u e => o.keep a u (fun z => nomatch z) e) o.new hv q,
        fun σ G' ps H' ρ S o _ q => q.elim, fun σ G' ps H' ρ S o _ q => q.elim,
        fun σ G' ps H' ρ S C pl dd o _ hx q => kx C pl dd G' H' o.base o.sub (fun a u e => o.keep a u (fun z => nomatch z) e) o.new hx q, fun _ _ _ _ _ _ _ _ _ _ q => q.elim⟩
theorem fnD {x : Str} {st : Stmt} {f : Addr} {fd : FuncData} {N ps : List Str} {k n : Nat} {R : RP} (F : Fun K x x st f fd) (S : FnScope N ps (defScope st)) (hn : ps.length = n) (hN : n ≤ N.length) (hm : mg x = some (.ref f)) (hb : Binds K fd ps [])
    (body : ∀ (cdv : Value) (A : Around) (outer : List Env) (s : Shared) (H : Hp) (E : XK) (F : Fx), Room k (A.deeper (PyProof.Rows.envOfC x (defScope st) s.heap.objs.size f cdv)) → F.P0 = [] → ∀ (ds : List D) (Pr : D → Prop) (Px : Addr → Option (Str × D) → Prop), R ds Pr Px → ds.length = n →
      SX (czOf P w K mg base N x (defScope st) f cdv A outer s H E F) (defBody st) (slots ds (N.length - n)) [] { nx := fun _ _ => Pr .non, rt := fun d _ => Pr d, ex := fun C pl _ _ => Px C pl }) :
    Cal P w K mg base (k + 1) x (spD K n R) := ⟨f, fd, ps, fnD0 F S hn hN body, hm, F.kp, hb⟩
/-- .. whose first argument is an owned list -/
theorem fnO {x : Str} {st : Stmt} {f : Addr} {fd : FuncData} {N ps : List Str} {k n : Nat} {R : RP1} (F : Fun K x x st f fd) (S : FnScope N ps (defScope st)) (hn : ps.length = n + 1) (hN : n + 1 ≤ N.length) (hm : mg x = some (.ref f)) (hb : Binds K fd ps [])
    (body : ∀ (cdv : Value) (A : Around) (outer : List Env) (s : Shared) (H : Hp) (E : XK) (F : Fx), Room k (A.deeper (PyProof.Rows.envOfC x (defScope st) s.heap.objs.size f cdv)) → F.P0.length = 1 → ∀ (cs ds : List D) (Pr : D → List D → Prop) (Px : Addr → Option (Str × D) → List D → Prop), R cs ds Pr Px → ds.length = n →
      SX (czOf P w K mg base N x (defScope st) f cdv A outer s H E F) (defBody st) (.own 0 :: slots ds (N.length - (n + 1))) [.lst cs]
        { nx := fun _ S => ∃ cs' J, S = .lst cs' :: J ∧ Pr .non cs', rt := fun d S => ∃ cs' J, S = .lst cs' :: J ∧ Pr d cs', ex := fun C pl _ S => ∃ cs' J, S = .lst cs' :: J ∧ Px C pl cs' }) :
    Cal P w K mg base (k + 1) x (spO K n R) := by
  refine ⟨f, fd, ps, F.okX S (fun vs H Q E h => ?_) (fun cdv A outer s H vs Q E hr h => ?_), hm, F.kp, hb⟩
  · obtain ⟨G, p, us, ws, cs, ds, Pr, Px, e, hl, _, _, _, _, ha, _⟩ := h
    rw [e, List.length_cons, ha.len, hl, hn]
  · obtain ⟨G, p, us, ws, cs, ds, Pr, Px, e, hl, hs, hG, hp, hu, ha, hR, kn, kx⟩ := h
    subst e
    have old : ∀ {H' : Hp} {ρ : List Sl} {S : List Ce} {σ : L2.St} {G' : Hp} {qs : List Addr} {cs' : List D} {J : List Ce}, SOk K ⟨[p], H, G⟩ G' qs ρ S σ H' → S = .lst cs' :: J → (∀ a o, a ≠ p → H a = some o → H' a = some o) ∧ ∃ us', H' p = some (.lst us') ∧ AtDs K G' us' cs' := by
      intro H' ρ S σ G' qs cs' J o eS
      subst eS
      refine ⟨fun a u n e => o.keep a u (fun z => n (by simpa using z)) e, ?_⟩
      obtain ⟨t, ht⟩ := o.pre
      have z : CeAt K G' H' p (.lst cs') := o.cell 0 p _ (by rw [← ht]; rfl) rfl
      exact z.2
    refine ⟨_, wss_pss, body cdv A outer s H E ⟨[p], H, G⟩ hr rfl cs ds Pr Px hR hl (L2.start N (.ref p :: ws)) G [p] H _ ?_ ?_⟩
    · refine ⟨hs, Ex.refl G, fun a o _ q => q, fun a o q => .inl q, List.prefix_refl _, by simp, fun q hq => .inl hq, fun q hq => ?_, rfl, ?_, fun i d q => ?_, fun i k q => ?_, fun k q cl h1 h2 => ?_⟩
      · have : q = p := by simpa using hq
        subst this
        exact ⟨_, hp⟩
      · rw [start_len (by rw [List.length_cons, ha.len, hl]; exact hN), List.length_cons, slots_len, hl]; omega
      · cases i with
        | zero => simp at q
        | succ i =>
          obtain ⟨v, h1, h2⟩ := ha.get (slots_get (by simpa using q))
          exact ⟨v, start_get (by simpa using h1), h2⟩
      · cases i with
        | zero => simp at q; subst q; exact ⟨p, rfl, start_get rfl⟩
        | succ i => exact (slots_own (by simpa using q)).elim
      · cases k with
        | zero => simp at h1 h2; subst h1 h2; exact ⟨hG, us, hp, hu⟩
        | succ k => simp at h1
    · exact ⟨fun σ G' ps H' ρ S o _ ⟨cs', J, eS, q⟩ => by
          obtain ⟨a1, us', a2, a3⟩ := old o eS
          exact kn _ G' H' _ us' cs' o.base o.sub a1 o.new a2 a3 .non q,
        fun σ G' ps H' ρ S v d o _ hv ⟨cs', J, eS, q⟩ => by
          obtain ⟨a1, us', a2, a3⟩ := old o eS
          exact kn _ G' H' _ us' cs' o.base o.sub a1 o.new a2 a3 hv q,
        fun σ G' ps H' ρ S o _ q => q.elim, fun σ G' ps H' ρ S o _ q => q.elim,
        fun σ G' ps H' ρ S C pl dd o _ hx ⟨cs', J, eS, q⟩ => by
          obtain ⟨a1, us', a2, a3⟩ := old o eS
          exact kx C pl dd G' H' us' cs' o.base o.sub a1 o.new a2 a3 hx q, fun _ _ _ _ _ _ _ _ _ _ q => q.elim⟩
end

/-! ### errors -/
/-- an own error class without an __init__ of its own -/
structure OwnE (K : PySem.W.Frag) (mg : Str → Option Value) (x : Str) (C : Addr) : Prop where
  gC : mg x = some (.ref C)
  ex : ∃ (bmB : List Value) (B newId initId : String), ExcBaseFacts B newId initId bmB ∧ PySem.W.excIn K C bmB newId = true
  kC : PySem.W.keepIn K (.ref C) = true
  bC : PySem.W.subIn K (.ref C) (.type "BaseException") = some true
  tC : PySem.W.typeIn K (.ref C) = some (.type "type")
section
variable {c : Cz} {ρ : List Sl} {S : List Ce} {P : Post} {pos p1 p2 p3 : Pos}
theorem s1_raise0 {x m : Str} {j : Nat} {C : Addr} (hc : c.X.calm = true) (T : OwnE c.X.K c.X.mg x C) (q : P.ex C none ρ S) (hg : Gl c.X x := by rfl) (hdb : (x == ("__debug__" : Str)) = false := by decide) : S1 c (.Raise (some (.Call (.Name x p1) [.Constant (.str m) j p2] [] p3)) none pos) ρ S P := fun σ G ps H E o r => by
  obtain ⟨bmB, B, newId, initId, F, hex⟩ := T.ex
  exact ⟨_, ps_raise hc c.tk (pmk_own F hex T.gC T.kC (raises_own T.bC T.tC) hg hdb), r.ex σ G ps H ρ S C none none o (Ex.refl G) rfl q⟩
end
end Lay

namespace Lay
open PySem PySem.Spec L2
section
variable {K : PySem.W.Frag} {S : List Ce} {d d1 d2 : D}
theorem rd_I0 {g : Int → Int → V} {i j : Int} (h : ∀ G, AtD K G (g i j) d) : RD K (rI0 g) (.int i) (.int j) d := fun G H x y k s a b q => by
  cases a; cases b
  exact ⟨i, j, rfl, rfl, q _ G H (.refl _ _) (h G)⟩
theorem rd_I {C : Int → Int → Prop} {g : Int → Int → V} {i j : Int} (hc : C i j) (h : ∀ G, AtD K G (g i j) d) : RD K (rI C g) (.int i) (.int j) d := fun G H x y k s a b q => by
  cases a; cases b
  exact ⟨i, j, rfl, rfl, hc, q _ G H (.refl _ _) (h G)⟩
theorem ud_neg {i : Int} : UD K (rU fun i => .int (-i)) (.int i) (.int (-i)) := fun G H x k s a q => by
  cases a
  exact ⟨i, rfl, q _ G H (.refl _ _) (.int _)⟩
theorem rd_isB {a b : Bool} : RD K rIsB (.bl a) (.bl b) (.bl (decide (a = b))) := fun G H x y k s u v q => by
  cases u; cases v
  exact ⟨a, b, rfl, rfl, q _ G H (.refl _ _) (.bl _)⟩
theorem rd_notB {a b : Bool} : RD K rNotB (.bl a) (.bl b) (.bl (!decide (a = b))) := fun G H x y k s u v q => by
  cases u; cases v
  exact ⟨a, b, rfl, rfl, q _ G H (.refl _ _) (.bl _)⟩
def isNonD : D → Bool
  | .non => true
  | _ => false
theorem isNonD_ok {G : Hp} {v : V} (h : AtD K G v d) : decide (v = .non) = isNonD d := by
  cases h <;> first | rfl | exact decide_eq_false (fun z => nomatch z)
theorem rd_isN : RD K (fun x y H Q => y = .non ∧ Q (.bl (decide (x = .non))) H) d .non (.bl (isNonD d)) := fun G H x y k s u v q => by
  cases v
  refine ⟨rfl, q _ G H (.refl _ _) ?_⟩
  rw [isNonD_ok u]; exact .bl _
theorem rd_notN : RD K (fun x y H Q => y = .non ∧ Q (.bl (!decide (x = .non))) H) d .non (.bl (!isNonD d)) := fun G H x y k s u v q => by
  cases v
  refine ⟨rfl, q _ G H (.refl _ _) ?_⟩
  rw [isNonD_ok u]; exact .bl _
/-- texts -/
theorem rd_cat {a b : Str} (h : a.length + b.length ≤ sizeLine) : RD K (fun x y H Q => ∃ i j, x = .str i ∧ y = .str j ∧ i.length + j.length ≤ sizeLine ∧ Q (.str (i ++ j)) H) (.str a) (.str b) (.str (a ++ b)) := fun G H x y k s u v q => by
  cases u; cases v
  exact ⟨a, b, rfl, rfl, h, q _ G H (.refl _ _) (.str _)⟩
theorem rd_inS {a b : Str} : RD K (fun x y H Q => ∃ i j, x = .str i ∧ y = .str j ∧ Q (.bl (!(Builtin.Str.occurrences j i 0 j.length 1).isEmpty)) H) (.str a) (.str b) (.bl (!(Builtin.Str.occurrences b a 0 b.length 1).isEmpty)) := fun G H x y k s u v q => by
  cases u; cases v
  exact ⟨a, b, rfl, rfl, q _ G H (.refl _ _) (.bl _)⟩
/-- flat data -/
def flatD : D → Option V
  | .non => some .non
  | .bl b => some (.bl b)
  | .int i => some (.int i)
  | .str s => some (.str s)
  | _ => none
theorem flatD_ok {G : Hp} {v u : V} (h : AtD K G v d) (e : flatD d = some u) : v = u ∧ flatV u = true := by
  cases h <;> cases e <;> exact ⟨rfl, rfl⟩
def flatDs : List D → Option (List V)
  | [] => some []
  | d :: r => match flatD d, flatDs r with
    | some v, some vs => some (v :: vs)
    | _, _ => none
theorem flatDs_ok {G : Hp} : ∀ {vs : List V} {ds : List D} {us : List V}, AtDs K G vs ds → flatDs ds = some us → vs = us ∧ us.all flatV = true
  | _, _, _, .nil, e => by cases e; exact ⟨rfl, rfl⟩
  | _ :: vs, d :: ds, us, .cons h hs, e => by
    unfold flatDs at e
    cases e1 : flatD d with
    | none => rw [e1] at e; cases e
    | some u =>
      cases e2 : flatDs ds with
      | none => rw [e1, e2] at e; cases e
      | some ws =>
        rw [e1, e2] at e
        cases e
        obtain ⟨q1, q2⟩ := flatD_ok h e1
        obtain ⟨q3, q4⟩ := flatDs_ok hs e2
        subst q1 q3
        exact ⟨rfl, by rw [List.all_cons, q2, q4] <;> rfl⟩
theorem rd_inT {neg : Bool} {ds : List D} {v : V} {vs : List V} (h1 : flatD d = some v) (h2 : flatDs ds = some vs) : RD K (rIn K neg) d (.tup ds) (.bl (if neg then !inV v vs else inV v vs)) := fun G H x y k s a b q => by
  obtain ⟨e1, f1⟩ := flatD_ok a h1
  cases b with
  | tup h hs =>
    obtain ⟨e2, f2⟩ := flatDs_ok hs h2
    subst e1 e2
    exact ⟨_, _, rfl, .inr (s.st h), f1, f2, q _ G H (.refl _ _) (.bl _)⟩
theorem rd_inL {neg : Bool} {ds : List D} {v : V} {vs : List V} (h1 : flatD d = some v) (h2 : flatDs ds = some vs) : RD K (rIn K neg) d (.lst ds) (.bl (if neg then !inV v vs else inV v vs)) := fun G H x y k s a b q => by
  obtain ⟨e1, f1⟩ := flatD_ok a h1
  cases b with
  | lst h hs =>
    obtain ⟨e2, f2⟩ := flatDs_ok hs h2
    subst e1 e2
    exact ⟨_, _, rfl, .inl (SqL.of (s _ _ h)), f1, f2, q _ G H (.refl _ _) (.bl _)⟩
/-- subscripts -/
theorem atI_of {G : Hp} {vs : List V} {ds : List D} {n : Int} {x : D} (h : AtDs K G vs ds) (e : atI ds n = some x) : ∃ u, atI vs n = some u ∧ AtD K G u x := by
  unfold atI at e ⊢
  rw [h.len]
  cases hi : ixN ds.length n with
  | none => rw [hi] at e; cases e
  | some w =>
    rw [hi] at e
    exact h.get e
theorem rd_ixT {ds : List D} {n : Int} {x : D} (e : atI ds n = some x) : RD K (rIxT K) (.tup ds) (.int n) x := fun G H u v k s a b q => by
  cases b
  cases a with
  | tup h hs =>
    obtain ⟨u, h1, h2⟩ := atI_of hs e
    exact ⟨_, _, n, u, rfl, rfl, s.st h, h1, q _ G H (.refl _ _) h2⟩
theorem rd_ixL {ds : List D} {n : Int} {x : D} (e : atI ds n = some x) : RD K (rIxL K) (.lst ds) (.int n) x := fun G H u v k s a b q => by
  cases b
  cases a with
  | lst h hs =>
    obtain ⟨u, h1, h2⟩ := atI_of hs e
    exact ⟨_, _, n, u, rfl, rfl, SqL.of (s _ _ h), h1, q _ G H (.refl _ _) h2⟩
theorem rd_ixQ {ds : List D} {n : Int} {x : D} (e : atI ds n = some x) : RD K (rIxL K) (.sq ds) (.int n) x := fun G H u v k s a b q => by
  cases b
  cases a with
  | sq h hs =>
    obtain ⟨u, h1, h2⟩ := atI_of hs e
    exact ⟨_, _, n, u, rfl, rfl, s.sl h, h1, q _ G H (.refl _ _) h2⟩
theorem rd_ixS {z : Str} {n : Int} {x : Nat} (hz : z.length ≤ sizeLine) (e : atI z.cps.toList n = some x) : RD K rIxS (.str z) (.int n) (.str ⟨#[x]⟩) := fun G H u v k s a b q => by
  cases a; cases b
  exact ⟨z, n, x, rfl, rfl, hz, e, q _ G H (.refl _ _) (.str _)⟩
/-! data of the library's kind -/
mutual
def toPy : D → Option PyData
  | .non => some .none
  | .bl b => some (.bool b)
  | .int i => some (.int i)
  | .str s => some (.str s)
  | .lst ds => (toPys ds).map PyData.list
  | .sq ds => (toPys ds).map PyData.list
  | .tup ds => (toPys ds).map PyData.tuple
  | _ => none
def toPys : List D → Option (List PyData)
  | [] => some []
  | d :: r => match toPy d, toPys r with
    | some x, some xs => some (x :: xs)
    | _, _ => none
end
mutual
theorem toPy_ok {G : Hp} : ∀ {v : V} {d : D} {p : PyData}, AtD K G v d → toPy d = some p → Dp K G v p
  | _, _, _, .non, e => by simp only [toPy] at e; cases e; exact .non
  | _, _, _, .bl b, e => by simp only [toPy] at e; cases e; exact .bl b
  | _, _, _, .int b, e => by simp only [toPy] at e; cases e; exact .int b
  | _, _, _, .str b, e => by simp only [toPy] at e; cases e; exact .str b
  | _, .lst ds, _, .lst h hs, e => by
    simp only [toPy] at e
    cases q : toPys ds with
    | none => rw [q] at e; cases e
    | some l => rw [q] at e; cases e; exact .lst (SqL.of h) (toPys_ok hs q)
  | _, .sq ds, _, .sq h hs, e => by
    simp only [toPy] at e
    cases q : toPys ds with
    | none => rw [q] at e; cases e
    | some l => rw [q] at e; cases e; exact .lst h (toPys_ok hs q)
  | _, .tup ds, _, .tup h hs, e => by
    simp only [toPy] at e
    cases q : toPys ds with
    | none => rw [q] at e; cases e
    | some l => rw [q] at e; cases e; exact .tup h (toPys_ok hs q)
  | _, _, _, .ty n, e => by simp only [toPy] at e; cases e
  | _, _, _, .err _ _, e => by simp only [toPy] at e; cases e
  | _, _, _, .dct h hs, e => by simp only [toPy] at e; cases e
  | _, _, _, .ins h hs, e => by simp only [toPy] at e; cases e
theorem toPys_ok {G : Hp} : ∀ {v : List V} {d : List D} {p : List PyData}, AtDs K G v d → toPys d = some p → DpAll K G v p
  | _, _, _, .nil, e => by simp only [toPys] at e; cases e; exact .nil
  | _ :: _, d :: ds, _, .cons h hs, e => by
    simp only [toPys] at e
    cases q1 : toPy d with
    | none => rw [q1] at e; cases e
    | some x =>
      cases q2 : toPys ds with
      | none => rw [q1, q2] at e; cases e
      | some xs => rw [q1, q2] at e; cases e; exact .cons (toPy_ok h q1) (toPys_ok hs q2)
end
mutual
theorem dp_mono {G H : Hp} (s : Ex G H) : ∀ {v : V} {p : PyData}, Dp K G v p → Dp K H v p
  | _, _, .non => .non
  | _, _, .bl b => .bl b
  | _, _, .int b => .int b
  | _, _, .str b => .str b
  | _, _, .lst h hs => .lst (s.sl h) (dps_mono s hs)
  | _, _, .tup h hs => .tup (s.st h) (dps_mono s hs)
theorem dps_mono {G H : Hp} (s : Ex G H) : ∀ {v : List V} {p : List PyData}, DpAll K G v p → DpAll K H v p
  | _, _, .nil => .nil
  | _, _, .cons h hs => .cons (dp_mono s h) (dps_mono s hs)
end
theorem rd_eqD {p1 p2 : PyData} (h1 : toPy d1 = some p1) (h2 : toPy d2 = some p2) (s1 : SeqAt.shaped p1 = true) (s2 : SeqAt.shaped p2 = true) : RD K (rEqD K) d1 d2 (.bl (PyData.eqv p1 p2)) := fun G H x y k s a b q =>
  ⟨p1, p2, dp_mono s (toPy_ok a h1), dp_mono s (toPy_ok b h2), s1, s2, q _ G H (.refl _ _) (.bl _)⟩
theorem rd_neD {p1 p2 : PyData} (h1 : toPy d1 = some p1) (h2 : toPy d2 = some p2) (s1 : SeqAt.shaped p1 = true) (s2 : SeqAt.shaped p2 = true) : RD K (rNeD K) d1 d2 (.bl (!PyData.eqv p1 p2)) := fun G H x y k s a b q =>
  ⟨p1, p2, dp_mono s (toPy_ok a h1), dp_mono s (toPy_ok b h2), s1, s2, q _ G H (.refl _ _) (.bl _)⟩

/-! ### built-ins -/
theorem at1 {G : Hp} {ps : List Addr} {vs : List V} (h : AtAs K G ps vs [.dat d]) : ∃ v, vs = [v] ∧ AtD K G v d := by
  cases h with
  | cons a t => cases t; cases a with
    | dat a => exact ⟨_, rfl, a⟩
theorem at2 {G : Hp} {ps : List Addr} {vs : List V} (h : AtAs K G ps vs [.dat d1, .dat d2]) : ∃ v u, vs = [v, u] ∧ AtD K G v d1 ∧ AtD K G u d2 := by
  cases h with
  | cons a t => cases t with
    | cons b t => cases t; cases a with
      | dat a => cases b with
        | dat b => exact ⟨_, _, rfl, a, b⟩
theorem atO {G : Hp} {ps : List Addr} {vs : List V} {j : Nat} (h : AtAs K G ps vs [.own j]) : ∃ p, vs = [.ref p] ∧ ps[j]? = some p := by
  cases h with
  | cons a t => cases t; cases a with
    | own a => exact ⟨_, rfl, a⟩
def rLenD (K : PySem.W.Frag) : List V → Hp → VK → Prop := fun xs H Q => ∃ x n, xs = [x] ∧ LenV K x H n ∧ Q (.int n) H
theorem cr_len {X : Cx} : CallR X (.builtin "len") (rLenD X.K) := call_len
def lenD : D → Option Nat
  | .str s => if s.length ≤ sizeLine then some s.length else none
  | .lst ds => some ds.length
  | .sq ds => some ds.length
  | .tup ds => some ds.length
  | _ => none
theorem cd_len {n : Nat} (h : lenD d = some n) : CD K (rLenD K) [.dat d] S (.int n) := fun F G ps ρ σ H vs k o a0 q => by
  obtain ⟨v, rfl, a⟩ := at1 a0
  refine ⟨v, n, rfl, ?_, q _ G H (.refl _ _) (.int _)⟩
  cases a with
  | str s =>
    have h : (if s.length ≤ sizeLine then some s.length else none) = some n := h
    by_cases hs : s.length ≤ sizeLine
    · rw [if_pos hs] at h; cases h; exact ⟨hs, rfl⟩
    · rw [if_neg hs] at h; cases h
  | lst e hs => cases h; exact .inl ⟨_, SqL.of (o.sub _ _ e), hs.len.symm⟩
  | sq e hs => cases h; exact .inl ⟨_, o.sub.sl e, hs.len.symm⟩
  | tup e hs => cases h; exact .inr ⟨_, o.sub.st e, hs.len.symm⟩
  | non => cases h
  | bl b => cases h
  | int b => cases h
  | ty b => cases h
  | err _ _ => cases h
  | dct e hs => cases h
  | ins e hs => cases h
theorem cd_lenO {j : Nat} {cs : List D} (h : S[j]? = some (.lst cs)) : CD K (rLenD K) [.own j] S (.int cs.length) := fun F G ps ρ σ H vs k o a0 q => by
  obtain ⟨p, rfl, hp⟩ := atO a0
  obtain ⟨_, us, h2, h3⟩ := (o.cell j p _ hp h : CeAt K G H p (.lst cs))
  exact ⟨_, _, rfl, .inl ⟨_, SqL.of h2, h3.len.symm⟩, q _ G H (.refl _ _) (.int _)⟩
def rAbsD : List V → Hp → VK → Prop := fun xs H Q => ∃ i, xs = [.int i] ∧ Q (.int (if i < 0 then -i else i)) H
theorem cr_abs {X : Cx} : CallR X (.builtin "abs") rAbsD := call_abs
theorem cd_abs {i : Int} : CD K rAbsD [.dat (.int i)] S (.int (if i < 0 then -i else i)) := fun F G ps ρ σ H vs k o a0 q => by
  obtain ⟨v, rfl, a⟩ := at1 a0
  cases a
  exact ⟨i, rfl, q _ G H (.refl _ _) (.int _)⟩
def rMax2D : List V → Hp → VK → Prop := fun xs H Q => ∃ i j, xs = [.int i, .int j] ∧ Q (.int (if j > i then j else i)) H
def rMin2D : List V → Hp → VK → Prop := fun xs H Q => ∃ i j, xs = [.int i, .int j] ∧ Q (.int (if j < i then j else i)) H
theorem cr_max2 {X : Cx} (hc : X.calm = true) : CallR X (.builtin "max") rMax2D := call_max2 hc
theorem cr_min2 {X : Cx} (hc : X.calm = true) : CallR X (.builtin "min") rMin2D := call_min2 hc
theorem cd_max2 {i j : Int} : CD K rMax2D [.dat (.int i), .dat (.int j)] S (.int (if j > i then j else i)) := fun F G ps ρ σ H vs k o a0 q => by
  obtain ⟨v, u, rfl, a, b⟩ := at2 a0
  cases a; cases b
  exact ⟨i, j, rfl, q _ G H (.refl _ _) (.int _)⟩
theorem cd_min2 {i j : Int} : CD K rMin2D [.dat (.int i), .dat (.int j)] S (.int (if j < i then j else i)) := fun F G ps ρ σ H vs k o a0 q => by
  obtain ⟨v, u, rfl, a, b⟩ := at2 a0
  cases a; cases b
  exact ⟨i, j, rfl, q _ G H (.refl _ _) (.int _)⟩
def rInt1D : List V → Hp → VK → Prop := fun xs H Q => (∃ i, xs = [.int i] ∧ Q (.int i) H) ∨ ∃ k, xs = [.bl k] ∧ Q (.int (if k then 1 else 0)) H
theorem cr_int1 {X : Cx} : CallR X (.type "int") rInt1D := call_int1
theorem cd_int1 {i : Int} : CD K rInt1D [.dat (.int i)] S (.int i) := fun F G ps ρ σ H vs k o a0 q => by
  obtain ⟨v, rfl, a⟩ := at1 a0
  cases a
  exact .inl ⟨i, rfl, q _ G H (.refl _ _) (.int _)⟩
theorem cd_int1b {b : Bool} : CD K rInt1D [.dat (.bl b)] S (.int (if b then 1 else 0)) := fun F G ps ρ σ H vs k o a0 q => by
  obtain ⟨v, rfl, a⟩ := at1 a0
  cases a
  exact .inr ⟨b, rfl, q _ G H (.refl _ _) (.int _)⟩
theorem intsD {G : Hp} : ∀ {vs : List V} {ns : List Int}, AtDs K G vs (ns.map D.int) → vs = ns.map V.int
  | _, [], .nil => rfl
  | _, _ :: _, .cons (.int i) t => by rw [List.map_cons, intsD t]
theorem blsD {G : Hp} : ∀ {vs : List V} {ns : List Bool}, AtDs K G vs (ns.map D.bl) → vs = ns.map V.bl
  | _, [], .nil => rfl
  | _, _ :: _, .cons (.bl i) t => by rw [List.map_cons, blsD t]
theorem cd_all {bs : List Bool} : CD K (rAll K) [.dat (.lst (bs.map D.bl))] S (.bl (bs.all id)) := fun F G ps ρ σ H vs k o a0 q => by
  obtain ⟨v, rfl, a⟩ := at1 a0
  cases a with
  | lst e hs =>
    have := blsD hs
    subst this
    exact ⟨_, bs, rfl, SqL.of (o.sub _ _ e), q _ G H (.refl _ _) (.bl _)⟩
theorem cd_any {bs : List Bool} : CD K (rAny K) [.dat (.lst (bs.map D.bl))] S (.bl (bs.any id)) := fun F G ps ρ σ H vs k o a0 q => by
  obtain ⟨v, rfl, a⟩ := at1 a0
  cases a with
  | lst e hs =>
    have := blsD hs
    subst this
    exact ⟨_, bs, rfl, SqL.of (o.sub _ _ e), q _ G H (.refl _ _) (.bl _)⟩
/-- the type's name of data -/
def tyD : D → Option String
  | .non => some "NoneType"
  | .bl _ => some "bool"
  | .int _ => some "int"
  | .str _ => some "str"
  | .lst _ => some "list"
  | .tup _ => some "tuple"
  | .dct _ => some "dict"
  | _ => none
theorem tyD_ok {G H : Hp} {v : V} {n : String} (s : Ex G H) (a : AtD K G v d) (e : tyD d = some n) : TyX K H v (.type n) := by
  cases a with
  | non => cases e; exact .base .non
  | bl b => cases e; exact .base (.bl b)
  | int b => cases e; exact .base (.int b)
  | str b => cases e; exact .base (.str b)
  | lst h hs => cases e; exact .base (.lst (s _ _ h))
  | tup h hs =>
    cases e
    rcases h with (h | ⟨o, h⟩) | ⟨o, its, n, h1, h2, _⟩
    · exact .base (.tup (s _ _ h))
    · exact .fTuple (s _ _ h)
    · exact .kTuple h1 h2
  | dct h hs => cases e; exact .base (.dK (s _ _ h))
  | ins h hs => cases e
  | sq h hs => cases e
  | ty n => cases e
  | err _ _ => cases e
theorem cd_isi {m n : String} {b : Bool} (h : tyD d = some m) (hk : kitB m n = some b) : CD K (rIsi K) [.dat d, .dat (.ty n)] S (.bl b) := fun F G ps ρ σ H vs k o a0 q => by
  obtain ⟨v, u, rfl, a, c⟩ := at2 a0
  cases c
  exact ⟨v, .ty n, .type m, .type n, b, rfl, .ty n, tyD_ok o.sub a h, kit_ty hk, q _ G H (.refl _ _) (.bl _)⟩
end
section
variable {c : Cz} {ρ : List Sl} {S : List Ce} {Z : XP} {Q : D → List Ce → Prop} {pos : Pos}
/-- a built-in type as a value -/
theorem ex_ty {x : Str} {n : String} (hm : c.X.mg x = none) (hv : bootBuiltins x = some (.type n)) (q : Q (.ty n) S) (hg : Gl c.X x := by rfl) (hn : x ≠ "__name__" := by decide) (hd : (x == ("__debug__" : Str)) = false := by decide) : EX c (.Name x pos) ρ S Z Q := fun σ G ps H k o kn _ =>
  ⟨_, pe_bltn (v := .ty n) hg hm hv rfl hn hd, kn _ G H _ S o (Ex.refl G) (.ty n) q⟩
end
end Lay

namespace Lay
open PySem PySem.Spec L2
/-! ### operators whose kind shows at the end -/
section
variable {X : Cx} {K : PySem.W.Frag} {S : List Ce} {d d1 d2 : D}
theorem RD.left {r r' : R2} (h : RD K r d1 d2 d) : RD K (fun x y H Q => r x y H Q ∨ r' x y H Q) d1 d2 d := fun G H x y k s a b q => .inl (h G H x y k s a b q)
theorem RD.right {r r' : R2} (h : RD K r' d1 d2 d) : RD K (fun x y H Q => r x y H Q ∨ r' x y H Q) d1 d2 d := fun G H x y k s a b q => .inr (h G H x y k s a b q)
def rStrCat : R2 := fun x y H Q => ∃ i j, x = .str i ∧ y = .str j ∧ i.length + j.length ≤ sizeLine ∧ Q (.str (i ++ j)) H
def rAddN : R2 := rI0 fun i j => .int (i + j)
def rAddA (K : PySem.W.Frag) : R2 := fun x y H Q => rAddN x y H Q ∨ rStrCat x y H Q ∨ rCat x y H Q ∨ rCatA K x y H Q
theorem opAdd : OpR X (binaryOp .Add) (rAddA X.K) := OpR.or op_add (OpR.or op_add_str (OpR.or op_cat op_catA))
theorem rd_addI {i j : Int} : RD K (rAddA K) (.int i) (.int j) (.int (i + j)) := RD.left (rd_I0 fun _ => .int _)
theorem rd_addS {a b : Str} (h : a.length + b.length ≤ sizeLine) : RD K (rAddA K) (.str a) (.str b) (.str (a ++ b)) := RD.right (RD.left (rd_cat h))
theorem rd_addL {a b : List D} (h : a.length + b.length ≤ 100000) : RD K (rAddA K) (.lst a) (.lst b) (.lst (a ++ b)) := RD.right (RD.right (RD.left fun G H x y k s u v q => by
  cases u with
  | lst h1 hs1 =>
    cases v with
    | lst h2 hs2 =>
      refine ⟨_, _, _, _, rfl, rfl, s _ _ h1, s _ _ h2, by rw [hs1.len, hs2.len]; exact Nat.le_trans h (by decide), fun p hp => q _ _ _ (.one hp) ?_⟩
      exact .lst upd_same ((hs1.append hs2).mono (Ex.new (s.back hp)))))
theorem rd_addT {a b : List D} (h : a.length + b.length ≤ 100000) : RD K (rAddA K) (.tup a) (.tup b) (.tup (a ++ b)) := RD.right (RD.right (RD.right fun G H x y k s u v q => by
  cases u with
  | tup h1 hs1 =>
    cases v with
    | tup h2 hs2 =>
      refine ⟨_, _, _, _, rfl, rfl, s.st h1, s.st h2, by rw [hs1.len, hs2.len]; exact Nat.le_trans h (by decide), fun e => ?_, fun n e => ?_, fun n n' p hp => q _ _ _ (.one hp) ?_⟩
      · subst e
        cases hs1
        exact q _ _ _ (.refl _ _) (.tup h2 hs2)
      · subst e
        cases hs2
        rw [List.append_nil] at q
        exact q _ _ _ (.refl _ _) (.tup h1 hs1)
      · exact .tup (SqT.of upd_same) ((hs1.append hs2).mono (Ex.new (s.back hp)))))
def rSubN : R2 := rI0 fun i j => .int (i - j)
theorem opSub : OpR X (binaryOp .Sub) rSubN := op_sub
theorem rd_subI {i j : Int} : RD K rSubN (.int i) (.int j) (.int (i - j)) := rd_I0 fun _ => .int _
def rMulN : R2 := rI CMulW fun i j => .int (i * j)
theorem opMul : OpR X (binaryOp .Mult) rMulN := op_mulW
theorem rd_mulI {i j : Int} (h : CMulW i j) : RD K rMulN (.int i) (.int j) (.int (i * j)) := rd_I h fun _ => .int _
def rDivN : R2 := rI CDivW fun i j => .int (i / j)
theorem opDiv : OpR X (binaryOp .FloorDiv) rDivN := op_fdivW
theorem rd_divI {i j : Int} (h : CDivW i j) : RD K rDivN (.int i) (.int j) (.int (i / j)) := rd_I h fun _ => .int _
def rModN : R2 := rI (fun _ j => 0 < j) fun i j => .int (i % j)
theorem opMod : OpR X (binaryOp .Mod) rModN := op_mod
theorem rd_modI {i j : Int} (h : 0 < j) : RD K rModN (.int i) (.int j) (.int (i % j)) := rd_I (C := fun _ j => 0 < j) h fun _ => .int _
def rPowN : R2 := rI CPow fun i j => .int (i ^ j.toNat)
theorem opPow : OpR X (binaryOp .Pow) rPowN := op_pow
theorem rd_powI {i j : Int} (h : CPow i j) : RD K rPowN (.int i) (.int j) (.int (i ^ j.toNat)) := rd_I h fun _ => .int _
/-! order of ints -/
def rLtN : R2 := rI0 fun i j => .bl (decide (i < j))
def rLeN : R2 := rI0 fun i j => .bl (decide (i ≤ j))
def rGtN : R2 := rI0 fun i j => .bl (decide (j < i))
def rGeN : R2 := rI0 fun i j => .bl (decide (j ≤ i))
theorem opLt : OpR X (compareOp .Lt) rLtN := op_lt
theorem opLe : OpR X (compareOp .LtE) rLeN := op_le
theorem opGt : OpR X (compareOp .Gt) rGtN := op_gt
theorem opGe : OpR X (compareOp .GtE) rGeN := op_ge
theorem rd_ltI {i j : Int} : RD K rLtN (.int i) (.int j) (.bl (decide (i < j))) := rd_I0 fun _ => .bl _
theorem rd_leI {i j : Int} : RD K rLeN (.int i) (.int j) (.bl (decide (i ≤ j))) := rd_I0 fun _ => .bl _
theorem rd_gtI {i j : Int} : RD K rGtN (.int i) (.int j) (.bl (decide (j < i))) := rd_I0 fun _ => .bl _
theorem rd_geI {i j : Int} : RD K rGeN (.int i) (.int j) (.bl (decide (j ≤ i))) := rd_I0 fun _ => .bl _
/-! is -/
def rIsNo : R2 := fun x y H Q => y = .non ∧ Q (.bl (decide (x = .non))) H
def rNotNo : R2 := fun x y H Q => y = .non ∧ Q (.bl (!decide (x = .non))) H
def rIsA : R2 := fun x y H Q => rIsNo x y H Q ∨ rIsB x y H Q
def rNotA : R2 := fun x y H Q => rNotNo x y H Q ∨ rNotB x y H Q
theorem opIs : OpR X (compareOp .Is) rIsA := OpR.or op_isN op_isBl
theorem opNot : OpR X (compareOp .IsNot) rNotA := OpR.or op_notN op_notBl
theorem rd_isNo : RD K rIsA d .non (.bl (isNonD d)) := RD.left rd_isN
theorem rd_notNo : RD K rNotA d .non (.bl (!isNonD d)) := RD.left rd_notN
theorem rd_isBo {a b : Bool} : RD K rIsA (.bl a) (.bl b) (.bl (decide (a = b))) := RD.right rd_isB
theorem rd_notBo {a b : Bool} : RD K rNotA (.bl a) (.bl b) (.bl (!decide (a = b))) := RD.right rd_notB
/-! in -/
def rInStr : R2 := fun x y H Q => ∃ i j, x = .str i ∧ y = .str j ∧ Q (.bl (!(Builtin.Str.occurrences j i 0 j.length 1).isEmpty)) H
def rNinStr : R2 := fun x y H Q => ∃ i j, x = .str i ∧ y = .str j ∧ Q (.bl (!(!(Builtin.Str.occurrences j i 0 j.length 1).isEmpty))) H
def rInA (K : PySem.W.Frag) : R2 := fun x y H Q => rInStr x y H Q ∨ rIn K false x y H Q
def rNinA (K : PySem.W.Frag) : R2 := fun x y H Q => rNinStr x y H Q ∨ rIn K true x y H Q
theorem opIn : OpR X (compareOp .In) (rInA X.K) := OpR.or op_in_str op_in_seq
theorem opNin : OpR X (compareOp .NotIn) (rNinA X.K) := OpR.or op_notin_str op_notIn_seq
def subS (a b : Str) : Bool := !(Builtin.Str.occurrences b a 0 b.length 1).isEmpty
theorem rd_inStr {a b : Str} : RD K (rInA K) (.str a) (.str b) (.bl (subS a b)) := RD.left rd_inS
theorem rd_inTup {ds : List D} {v : V} {vs : List V} (h1 : flatD d = some v) (h2 : flatDs ds = some vs) : RD K (rInA K) d (.tup ds) (.bl (inV v vs)) := RD.right (rd_inT (neg := false) h1 h2)
theorem rd_ninTup {ds : List D} {v : V} {vs : List V} (h1 : flatD d = some v) (h2 : flatDs ds = some vs) : RD K (rNinA K) d (.tup ds) (.bl (!inV v vs)) := RD.right (rd_inT (neg := true) h1 h2)
theorem rd_inLst {ds : List D} {v : V} {vs : List V} (h1 : flatD d = some v) (h2 : flatDs ds = some vs) : RD K (rInA K) d (.lst ds) (.bl (inV v vs)) := RD.right (rd_inL (neg := false) h1 h2)
/-! subscripts -/
theorem ixSeq : IxR X (rIx X.K) := ix_seq
theorem rd_ixTu {ds : List D} {n : Int} {x : D} (e : atI ds n = some x) : RD K (rIx K) (.tup ds) (.int n) x := RD.right (RD.left (rd_ixT e))
theorem rd_ixLi {ds : List D} {n : Int} {x : D} (e : atI ds n = some x) : RD K (rIx K) (.lst ds) (.int n) x := RD.left (rd_ixL e)
theorem rd_ixSq {ds : List D} {n : Int} {x : D} (e : atI ds n = some x) : RD K (rIx K) (.sq ds) (.int n) x := RD.left (rd_ixQ e)
theorem rd_ixSt {z : Str} {n : Int} {x : Nat} (hz : z.length ≤ sizeLine) (e : atI z.cps.toList n = some x) : RD K (rIx K) (.str z) (.int n) (.str ⟨#[x]⟩) := RD.right (RD.right (rd_ixS hz e))
end
end Lay

namespace Lay
open PySem PySem.Spec L2
/-- data of flat kinds and sequences, not too deep, with fair texts -/
def okP : Nat → D → Bool
  | 0, _ => false
  | n + 1, .non => true
  | n + 1, .bl _ => true
  | n + 1, .int _ => true
  | n + 1, .str s => decide (s.length ≤ 100000) && PyData.strOk s
  | n + 1, .lst ds => ds.all (okP n)
  | n + 1, .tup ds => ds.all (okP n)
  | n + 1, _ => false
def pyOf (d : D) : PyData := (toPy d).getD .none
theorem okP_py : ∀ (n : Nat) (d : D), okP n d = true → toPy d = some (pyOf d) ∧ (pyOf d).canLay0 = true ∧ (pyOf d).depth ≤ n := by
  intro n
  induction n with
  | zero => intro d h; unfold okP at h; cases h
  | succ n ih =>
    have all : ∀ ds : List D, ds.all (okP n) = true → ∃ l, toPys ds = some l ∧ PyData.canLayAll0 l = true ∧ PyData.depthAll l ≤ n := by
      intro ds
      induction ds with
      | nil => intro _; exact ⟨[], by simp only [toPys], by simp only [PyData.canLayAll0], by simp only [PyData.depthAll]; omega⟩
      | cons d r ihr =>
        intro h
        rw [List.all_cons, Bool.and_eq_true] at h
        obtain ⟨l, h1, h2, h3⟩ := ihr h.2
        obtain ⟨g1, g2, g3⟩ := ih d h.1
        exact ⟨pyOf d :: l, by simp only [toPys, g1, h1], by simp only [PyData.canLayAll0, g2, h2, Bool.and_self], by simp only [PyData.depthAll]; omega⟩
    intro d h
    cases d with
    | non => exact ⟨rfl, by simp only [pyOf, toPy, Option.getD, PyData.canLay0], by simp only [pyOf, toPy, Option.getD, PyData.depth]; omega⟩
    | bl b => exact ⟨rfl, by simp only [pyOf, toPy, Option.getD, PyData.canLay0], by simp only [pyOf, toPy, Option.getD, PyData.depth]; omega⟩
    | int i => exact ⟨rfl, by simp only [pyOf, toPy, Option.getD, PyData.canLay0], by simp only [pyOf, toPy, Option.getD, PyData.depth]; omega⟩
    | str s =>
      simp only [okP, Bool.and_eq_true] at h
      exact ⟨rfl, by simp only [pyOf, toPy, Option.getD, PyData.canLay0]; exact h.2, by simp only [pyOf, toPy, Option.getD, PyData.depth]; omega⟩
    | lst ds =>
      simp only [okP] at h
      obtain ⟨l, h1, h2, h3⟩ := all ds h
      have e : toPy (.lst ds) = some (.list l) := by simp only [toPy, h1, Option.map]
      refine ⟨by simp only [pyOf, e, Option.getD], ?_, ?_⟩
      · simp only [pyOf, e, Option.getD, PyData.canLay0]; exact h2
      · simp only [pyOf, e, Option.getD, PyData.depth]; omega
    | tup ds =>
      simp only [okP] at h
      obtain ⟨l, h1, h2, h3⟩ := all ds h
      have e : toPy (.tup ds) = some (.tuple l) := by simp only [toPy, h1, Option.map]
      refine ⟨by simp only [pyOf, e, Option.getD], ?_, ?_⟩
      · simp only [pyOf, e, Option.getD, PyData.canLay0]; exact h2
      · simp only [pyOf, e, Option.getD, PyData.depth]; omega
    | dct k => simp only [okP] at h; cases h
    | ins C f => simp only [okP] at h; cases h
    | sq f => simp only [okP] at h; cases h
    | ty f => simp only [okP] at h; cases h
    | err _ _ _ _ => simp only [okP] at h; cases h
def eqD (a b : D) : Bool := PyData.eqv (pyOf a) (pyOf b)
theorem shaped_of {n : Nat} {d : D} (h : okP n d = true) (hn : n ≤ 64) : SeqAt.shaped (pyOf d) = true := by
  obtain ⟨_, h2, h3⟩ := okP_py n d h
  unfold SeqAt.shaped
  rw [h2, decide_eq_true (by omega)] <;> rfl
section
variable {K : PySem.W.Frag} {d1 d2 : D}
theorem rd_eqO {n m : Nat} (h1 : okP n d1 = true) (h2 : okP m d2 = true) (hn : n ≤ 64 := by decide) (hm : m ≤ 64 := by decide) : RD K (rEqD K) d1 d2 (.bl (eqD d1 d2)) :=
  rd_eqD (okP_py n d1 h1).1 (okP_py m d2 h2).1 (shaped_of h1 hn) (shaped_of h2 hm)
theorem rd_neO {n m : Nat} (h1 : okP n d1 = true) (h2 : okP m d2 = true) (hn : n ≤ 64 := by decide) (hm : m ≤ 64 := by decide) : RD K (rNeD K) d1 d2 (.bl (!eqD d1 d2)) :=
  rd_neD (okP_py n d1 h1).1 (okP_py m d2 h2).1 (shaped_of h1 hn) (shaped_of h2 hm)
end
theorem okP_mono : ∀ {n m : Nat} {d : D}, okP n d = true → n ≤ m → okP m d = true := by
  intro n
  induction n with
  | zero => intro m d h; unfold okP at h; cases h
  | succ n ih =>
    intro m d h hm
    obtain ⟨k, rfl⟩ : ∃ k, m = k + 1 := ⟨m - 1, by omega⟩
    cases d with
    | lst ds => simp only [okP] at h ⊢; exact List.all_eq_true.mpr fun x hx => ih (List.all_eq_true.mp h x hx) (by omega)
    | tup ds => simp only [okP] at h ⊢; exact List.all_eq_true.mpr fun x hx => ih (List.all_eq_true.mp h x hx) (by omega)
    | str s => simpa only [okP] using h
    | non => simp only [okP]
    | bl b => simp only [okP]
    | int b => simp only [okP]
    | dct k => simp only [okP] at h; cases h
    | ins C f => simp only [okP] at h; cases h
    | sq f => simp only [okP] at h; cases h
    | ty f => simp only [okP] at h; cases h
    | err _ _ _ _ => simp only [okP] at h; cases h
/-- the kinds that isinstance asks for -/
def isStrD : D → Bool | .str _ => true | _ => false
def isTupD : D → Bool | .tup _ => true | _ => false
def isLstD : D → Bool | .lst _ => true | _ => false
def isDctD : D → Bool | .dct _ => true | _ => false
def isBolD : D → Bool | .bl _ => true | _ => false
def isIntD : D → Bool | .bl _ => true | .int _ => true | _ => false
/-- data whose kind isinstance knows -/
def kindD (d : D) : Prop := tyD d ≠ none
theorem okP_kind {n : Nat} {d : D} (h : okP n d = true) : kindD d := by
  intro e
  cases n with
  | zero => unfold okP at h; cases h
  | succ n => cases d <;> first | (cases e; done) | (simp only [okP] at h; cases h; done)
section
variable {K : PySem.W.Frag} {S : List Ce} {d : D}
theorem cd_isStr (h : kindD d) : CD K (rIsi K) [.dat d, .dat (.ty "str")] S (.bl (isStrD d)) := by
  cases d <;> first | exact cd_isi (b := false) rfl (by decide +kernel) | exact cd_isi (b := true) rfl (by decide +kernel) | exact absurd rfl h
theorem cd_isTup (h : kindD d) : CD K (rIsi K) [.dat d, .dat (.ty "tuple")] S (.bl (isTupD d)) := by
  cases d <;> first | exact cd_isi (b := false) rfl (by decide +kernel) | exact cd_isi (b := true) rfl (by decide +kernel) | exact absurd rfl h
theorem cd_isLst (h : kindD d) : CD K (rIsi K) [.dat d, .dat (.ty "list")] S (.bl (isLstD d)) := by
  cases d <;> first | exact cd_isi (b := false) rfl (by decide +kernel) | exact cd_isi (b := true) rfl (by decide +kernel) | exact absurd rfl h
theorem cd_isDct (h : kindD d) : CD K (rIsi K) [.dat d, .dat (.ty "dict")] S (.bl (isDctD d)) := by
  cases d <;> first | exact cd_isi (b := false) rfl (by decide +kernel) | exact cd_isi (b := true) rfl (by decide +kernel) | exact absurd rfl h
theorem cd_isBol (h : kindD d) : CD K (rIsi K) [.dat d, .dat (.ty "bool")] S (.bl (isBolD d)) := by
  cases d <;> first | exact cd_isi (b := false) rfl (by decide +kernel) | exact cd_isi (b := true) rfl (by decide +kernel) | exact absurd rfl h
theorem cd_isInt (h : kindD d) : CD K (rIsi K) [.dat d, .dat (.ty "int")] S (.bl (isIntD d)) := by
  cases d <;> first | exact cd_isi (b := false) rfl (by decide +kernel) | exact cd_isi (b := true) rfl (by decide +kernel) | exact absurd rfl h
end
end Lay

set_option maxHeartbeats 2000000
/-! errors of the program's own with one field: self.F = F in __init__; any built-in base -/
namespace Lay
open PySem PySem.W PySem.Calls PySem.HandSPX
section
variable {prog : Program} {w : World} {A : Around} {R : Result → Shared → Prop} {hp : Heap} {g : Array GenState} {d : Drawn} {t : Nat} {os : OsState}
/-- the first field of a fresh own error -/
theorem err_store {B : String} {bmB : List Value} {K : Frag} {name : Str} {tk : Tok} {v : Value} {x C t0 : Addr} (SF : StoreFacts B bmB "object.__setattr__" "object") (X : K.In hp) (hx : hp.get? x = some (PySem.W.excObj C t0 none .none))
    (ho : excOver K C bmB = true) (ht : takerIn K C name = some none) (hh : hasDictIn K C = true)
    (hq : ∀ h' tk' dx, (∀ b o, b ≠ x → hp.get? b = some o → h'.get? b = some o) → hp.objs.size ≤ dx → dx ≠ x → h'.get? x = some (PySem.W.excObj C t0 (some dx) .none) →
      h'.Ns1 dx (fun y => if y = name then some v else none) → R (.ok (.ret .none)) ⟨h', g, d, tk', os⟩) :
    codeAny (model prog w) A (.call (.builtin "object.__setattr__") ⟨[.ref x, .str name tk, v], []⟩) R ⟨hp, g, d, t, os⟩ := by
  have hxs : x ≠ hp.objs.size := Nat.ne_of_lt (Heap.lt_size hx)
  refine osa_openX (s := ⟨hp, g, d, t, os⟩) (od := none) SF X ⟨hx, rfl, rfl, trivial⟩ ho ht fun b => ?_
  obtain ⟨cd, hc, hd'⟩ := any_some hh
  refine wpAny_bind (wpAny_pure (wpAny_bind (instanceDict_exc (s := ⟨hp, g, d, t, os⟩) hx (looks_clsIn X hc) hd' ?_)))
  show wpAny _ _ (Builtin.ObjectAttr.storeInDict hp.objs.size (.str name tk) name v) _ _ _
  refine store_in_new (dx := hp.objs.size) ?_ ?_
  · exact ⟨_, #[], _, (Heap.get?_update_ne _ _ _ _ hxs.symm).trans (Heap.get?_push_at rfl rfl), rfl, fun e he => absurd he (by simp), fun _ => rfl⟩
  · intro h' tk' hn' hs
    have old : ∀ b o, hp.get? b = some o → (hp.push (dictOf [] 0)).get? b = some o := fun b o e => Heap.get?_push_of_some _ e
    refine hq h' tk' hp.objs.size (fun b o hb e => ?_) (Nat.le_refl _) hxs.symm ?_ hn'
    · rw [hs.2 b (Nat.ne_of_lt (Heap.lt_size e)), Heap.get?_update_ne _ _ _ _ hb]
      exact old b o e
    · rw [hs.2 x hxs]
      exact Heap.get?_update_self _ (old x _ hx) rfl
end
/-- what the written part says of such a class, at C -/
structure ErrCls (K : Frag) (mg : Str → Option Value) (x fl : Str) (C fI : Addr) : Prop where
  gC : mg x = some (.ref C)
  cls : ∃ (bmB : List Value) (B newId initId : String), ExcBaseFacts B newId initId bmB ∧ StoreFacts B bmB "object.__setattr__" "object" ∧ ∃ nm q N bs bm sn sub ab col dd k0 k1 k2 k3 k5, K.lookup C = some (excClassObj nm q C N bs bm true sn sub ab col dd k0 k1 k2 k3 k5 newId) ∧ excTail bmB bm = true
  sa : findIn K (.ref C) "__setattr__" = some (some (.builtin "object.__setattr__"))
  ga : findIn K (.ref C) "__getattribute__" = some (some (.builtin "BaseException.__getattribute__"))
  gg : findIn K (.ref C) "__getattr__" = some none
  noF : findIn K (.ref C) fl = some none
  iC : findIn K (.ref C) "__init__" = some (some (.ref fI))
  tI : typeIn K (.ref fI) = some (.type "function")
  kC : keepIn K (.ref C) = true
  exC : subIn K (.ref C) (.type "BaseException") = some true
  tyC : typeIn K (.ref C) = some (.type "type")
  hdC : hasDictIn K C = true
/-- what its __init__ does of a fresh error at x -/
def InitDoes (prog : Program) (w : World) (K : Frag) (C fI : Addr) (fl : Str) : Prop :=
  ∀ (A : Around) (R : Result → Shared → Prop) (s : Shared) (x t0 : Addr) (v : Value), K.In s.heap → s.heap.NoLimit → s.heap.get? x = some (PySem.W.excObj C t0 none .none) → K.lookup x = none → A.depth < recursionLimit →
    (∀ h' tk dx, (∀ b o, b ≠ x → s.heap.get? b = some o → h'.get? b = some o) → h'.get? x = some (PySem.W.excObj C t0 (some dx) .none) → s.heap.objs.size ≤ dx → dx ≠ x → h'.Ns1 dx (fun y => if y = fl then some v else none) → R (.ok (.ret .none)) { s with heap := h', toks := tk }) →
    codeAny (model prog w) A (.call (.ref fI) ⟨[.ref x, v], []⟩) R s
theorem kept_out {K : Frag} {h h' : Heap} {x : Addr} (X : K.In h) (hx : K.lookup x = none) (k : ∀ b o, b ≠ x → h.get? b = some o → h'.get? b = some o) : K.In h' := fun a o e =>
  k a o (fun z => by rw [z, hx] at e; cases e) (X a o e)
section
variable {prog : Program} {w : World} {A : Around} {R : Result → Shared → Prop} {s : Shared} {K : Frag} {mg : Str → Option Value} {xn fl : Str} {C fI : Addr}
theorem clsIn_of {nm q : Str} {N : Addr} {bs bm : List Value} {sn : List Str} {sub : List Value} {ab : Bool} {col : Option Bool} {dd : Option Addr} {k0 k1 k2 k3 k5 : Option Value} {newId : String}
    (h : K.lookup C = some (excClassObj nm q C N bs bm true sn sub ab col dd k0 k1 k2 k3 k5 newId)) :
    clsIn K C = some { name := nm, bases := bs, mro := .ref C :: bm, ns := N, qualname := q, hasDict := true, slotNames := sn, subclasses := sub, abstract := ab, collection := col, hasDel := false } := by
  unfold clsIn
  rw [h] <;> rfl
/-- X(v) -/
theorem err_made (T : ErrCls K mg xn fl C fI) (hI : InitDoes prog w K C fI fl) {v : Value} (X : K.In s.heap) (hlim : s.heap.NoLimit) (hroom : A.depth + 1 < recursionLimit)
    (hq : ∀ h' tk e dx t0, (∀ b o, s.heap.get? b = some o → h'.get? b = some o) → s.heap.objs.size ≤ e → h'.get? e = some (PySem.W.excObj C t0 (some dx) .none) → s.heap.objs.size ≤ dx → dx ≠ e → h'.Ns1 dx (fun y => if y = fl then some v else none) → R (.ok (.ret (.ref e))) { s with heap := h', toks := tk }) :
    codeAny (model prog w) A (.call (.ref C) ⟨[v], []⟩) R s := by
  obtain ⟨bmB, B, newId, initId, FB, SF, nm, q, N, bs, bm, sn, sub, ab, col, dd, k0, k1, k2, k3, k5, hC, hbm⟩ := T.cls
  obtain ⟨hp, g, dr, tk, os⟩ := s
  have old : ∀ b o, hp.get? b = some o → ((hp.push (kdv_tup [v])).push (excO C hp.objs.size)).get? b = some o := fun b o e => Heap.get?_push_of_some _ (Heap.get?_push_of_some _ e)
  have at1 : ((hp.push (kdv_tup [v])).push (excO C hp.objs.size)).get? (hp.objs.size + 1) = some (excO C hp.objs.size) := by heap_get
  have out : K.lookup (hp.objs.size + 1) = none := by
    cases e : K.lookup (hp.objs.size + 1) with
    | none => rfl
    | some o =>
      have z : hp.objs.size + 1 < hp.objs.size := Heap.lt_size (X _ _ e)
      omega
  refine call_own FB (fun Y => excTail_contains Y bm hbm) (X _ _ hC) (looks_findIn X T.iC) (fun self => bind_fn X self T.tI) (by show 1 ≤ sizeLine; decide) ?_
  refine hI _ _ ⟨(hp.push (kdv_tup [v])).push (excO C hp.objs.size), g, dr, tk, os⟩ (hp.objs.size + 1) hp.objs.size v (X.keeps old) (hlim.keeps old) at1 out (show A.depth + 1 < recursionLimit from hroom) fun h' tk' dx k' hx dn dne hns => ?_
  have more : hp.objs.size + 2 ≤ dx := by
    have z : ((hp.push (kdv_tup [v])).push (excO C hp.objs.size)).objs.size ≤ dx := dn
    rw [Heap.size_push, Heap.size_push] at z
    exact z
  have b1 : hp.objs.size ≤ hp.objs.size + 1 := Nat.le_succ _
  have b2 : hp.objs.size ≤ dx := by omega
  exact ⟨rfl, hq h' tk' (hp.objs.size + 1) dx hp.objs.size (fun b o e => k' b o (Nat.ne_of_lt (Nat.lt_succ_of_lt (show b < hp.objs.size from Heap.lt_size e))) (old b o e)) b1 hx b2 dne hns⟩
end
end Lay
namespace Lay
open PySem PySem.Spec L2
theorem relO_one {v : V} {v' : Value} (r : RelV v v') (fl f : Str) : RelO (List.lookup f [(fl, v)]) (if f = fl then some v' else none) := by
  by_cases h : f = fl
  · subst h
    have q : List.lookup f [(f, v)] = some v := by simp [List.lookup]
    rw [if_pos rfl, q]
    exact r
  · have z : (f == fl) = false := by simpa using h
    have q : List.lookup f [(fl, v)] = none := by simp [List.lookup, z]
    rw [if_neg h, q]
    trivial
section
variable {X : Cx} {C fI : Addr} {xn fl : Str}
def tMkE (C : Addr) (fl : Str) (ta : TA) : L2.St → Hp → XK → Prop := fun σ H Q => ta σ H fun vs H1 => ∃ v, vs = [v] ∧ ∀ d, H1 d = none → Q (.ref C) (some d) (upd H1 d (.xd [(fl, v)]))
theorem pmk_err {a : Expr} {ta : TA} {p pos : Pos} {k : Nat} (T : ErrCls X.K X.mg xn fl C fI) (hI : InitDoes X.prog X.w X.K C fI fl) (hr : Room k X.A) (ha : PA X [a] ta) (hg : Gl X xn) (hdb : (xn == ("__debug__" : Str)) = false)
    (he : starEach (a :: []) X.env = (false, eval a X.env) :: starEach [] X.env) (hpl : (backTo pos (starEach [] X.env)).any (·.1) = false) : PMk X (.Call (.Name xn p) [a] [] pos) (tMkE C fl ta) := by
  intro pins s σ H Q I h
  refine wpAny_Call_Name_kw (ld_glob I hg T.gC ?_ hdb)
  refine PySem.W.callWith_K (h₀ := X.base) I.ok.mod.kin T.kC (thn (ha.run pos pins s σ H _ I h) fun us s1 hh => ?_) he hpl
  obtain ⟨vs, H1, I1, r1, v, ev, q1⟩ := hh
  subst ev
  refine ⟨I1.kIn, ?_⟩
  cases r1 with
  | cons rv rn =>
    rename_i v' us'
    cases rn
    show wpAny _ _ (call (.ref C) [v']) _ _ _
    have hlim := I1.nolimit
    obtain ⟨hp, g, dr, tk, os⟩ := s1
    refine wpAny_call (err_made T hI I1.kIn hlim (by have := hr.dp; omega) fun h' tk' e d t0 keep new obj dbig dne ns => ?_)
    show MkP X pins σ Q (.ref e) ⟨h', g, dr, tk', os⟩
    obtain ⟨G', g1, g2⟩ := restrict h' fun b => decide (b ≠ e)
    have gk : ∀ b, b ≠ e → G'.get? b = h'.get? b := fun b hb => g1 b (decide_eq_true hb)
    have ge : G'.get? e = none := g2 e (by simp)
    have old : ∀ b o, hp.get? b = some o → G'.get? b = some o := fun b o q => (gk b (Nat.ne_of_lt (Nat.lt_of_lt_of_le (Heap.lt_size q) new))).trans (keep b o q)
    have ob : ObjOk X.prog X.w (upd H1 d (.xd [(fl, v)])) G' d (.xd [(fl, v)]) := ⟨_, ns.at (fun o q => (gk d dne).trans q), fun f => relO_one rv fl f⟩
    have J : Inv X pins σ (upd H1 d (.xd [(fl, v)])) ⟨G', g, dr, tk', os⟩ := I1.laid (t' := tk') old dbig ob
    refine ⟨e, _, _, ⟨G', g, dr, tk', os⟩, _, .ref C, some d, rfl, J, fun b o q => ?_, ge, obj, ⟨rfl, rfl⟩, rfl, rfl, ?_, rfl, I1.bare, raises_own T.exC T.tyC, q1 d (I1.hok.fresh dbig)⟩
    · by_cases hb : b = e
      · have q' : G'.get? b = some o := q
        rw [hb, ge] at q'; cases q'
      · exact (gk b hb).symm.trans q
    · rw [upd_ne (Ne.symm dne)]
      exact I1.hok.fresh new
end
section
variable {c : Cz} {ρ : List Sl} {S : List Ce} {P : Post} {pos p1 p3 : Pos} {e : Expr}
/-- raise X(e) -/
theorem s1_raise1 {x fl : Str} {C fI : Addr} {k : Nat} (hc : c.X.calm = true) (T : ErrCls c.X.K c.X.mg x fl C fI) (hI : InitDoes c.X.prog c.X.w c.X.K C fI fl) (hr : Room k c.X.A) (h : EX c e ρ S P.ex fun d S1 => P.ex C (some (fl, d)) ρ S1)
    (hg : Gl c.X x := by rfl) (hdb : (x == ("__debug__" : Str)) = false := by decide) (he : starEach [e] c.X.env = (false, eval e c.X.env) :: starEach [] c.X.env := by rfl) (hpl : (backTo p3 (starEach [] c.X.env)).any (·.1) = false := by rfl) :
    S1 c (.Raise (some (.Call (.Name x p1) [e] [] p3)) none pos) ρ S P := fun σ G ps H E o r =>
  ⟨_, ps_raise hc c.tk (pmk_err T hI hr (pa_cons we_pe pa_nil he) hg hdb he hpl), h σ G ps H _ o (fun v G1 H1 d S1 o1 e1 a1 q => ⟨v, rfl, fun dd hd => by
    have gd := o1.sub.back hd
    exact r.ex σ _ ps _ ρ S1 C (some (fl, d)) (some dd) (o1.put (.xd [(fl, v)]) hd) (e1.trans (Ex.new gd)) ⟨dd, v, rfl, upd_same, a1.mono (Ex.new gd)⟩ q⟩) fun C pl dd G' H' S' o' e' x z => r.ex σ G' ps H' ρ S' C pl dd o' e' x z⟩
end
end Lay
namespace Lay
open PySem
/-- a local name of a frame -/
theorem err_ld {M : Model} {s : Shared} {name : Str} {scope : Scope} {L a : Addr} {cd : Value} {m : Str → Option Value} {x : Str} {pos : Pos} {v : Value} {Q : Value → Shared → Prop} {A : Around} {E : Value → Shared → Prop} (hn : s.heap.Ns L m) (hv : m x = some v) (h : Q v s)
    (hk : scope.kind = .function := by rfl) (hl : (PyProof.Rows.envOfC name scope L a cd).kindOf x = some .local := by rfl) (hd : (x == ("__debug__" : Str)) = false := by decide) :
    wpAny M A (eval (.Name x pos) (PyProof.Rows.envOfC name scope L a cd)) Q E s := wpAny_Name (wpAny_loadName_local hk hl hn hv h) hd
end Lay

set_option maxHeartbeats 2000000
/-! try with several clauses, each with or without a name -/
namespace Lay
open PySem PySem.Spec L2
open PyProof.Rows (AllBare)
abbrev Suite := Addr → Value → Option Addr → TS
/-- the ends of a suite whose name (slot i) goes behind it -/
def goneE (E : Ends) : Option Nat → Ends
  | none => E
  | some i => { nx := fun σ H => E.nx (σ.set i none) H, rt := E.rt, bk := fun σ H => E.bk (σ.set i none) H, ct := fun σ H => E.ct (σ.set i none) H }
def nameS (a : Addr) (σ : L2.St) : Option Nat → L2.St
  | none => σ
  | some i => σ.set i (some (.ref a))
structure Cla where
  cl : Value
  sl : Option Nat
  su : Suite
def wCla (K : PySem.W.Frag) (W : WX) (E : Ends) : List Cla → WX
  | [] => W
  | k :: r => fun cls d σ H => ∃ b, PySem.W.exmOne K cls k.cl = some b ∧ (b = true → ∀ a, H a = none → k.su a cls d (goneE E k.sl) (nameS a σ k.sl) H) ∧ (b = false → wCla K W E r cls d σ H)
inductive ClaOk (X : Cx) : List ExceptHandler → List Cla → Prop
  | nil : ClaOk X [] []
  | bare {x : Str} {c : Value} {u : Suite} {b : Stmt} {bs : List Stmt} {p q : Pos} {hs : List ExceptHandler} {l : List Cla} : Names X x c →
      (∀ (a : Addr) (oe : Obj) (cls : Value) (d : Option Addr) (pn : List (Addr × Obj)), Zc cls d oe → (∃ vs, oe.data = .fields vs) → PSs (X.suite a ((a, oe) :: pn)) (b :: bs) (u a cls d)) → ClaOk X hs l →
      ClaOk X (.ExceptHandler (some (.Name x p)) none (b :: bs) q :: hs) (⟨c, none, u⟩ :: l)
  | named {x n : Str} {i : Nat} {c : Value} {u : Suite} {b : Stmt} {bs : List Stmt} {p q : Pos} {hs : List ExceptHandler} {l : List Cla} : Names X x c → X.N[i]? = some n → X.env.kindOf n = some .local →
      (∀ (a : Addr) (oe : Obj) (cls : Value) (d : Option Addr) (pn : List (Addr × Obj)), Zc cls d oe → (∃ vs, oe.data = .fields vs) → PSs (X.suite a ((a, oe) :: pn)) (b :: bs) (u a cls d)) → ClaOk X hs l →
      ClaOk X (.ExceptHandler (some (.Name x p)) (some n) (b :: bs) q :: hs) (⟨c, some i, u⟩ :: l)
section
variable {X : Cx} {W : WX} {pos : Pos}
/-- the class test of a clause -/
theorem cla_test {a : Addr} {x : Str} {c : Value} {p : Pos} {pn : List (Addr × Obj)} {σ : L2.St} {H : Hp} {s : Shared} {Q : Value → Shared → Prop} {E : Value → Shared → Prop} (nm : Names X x c) (J : Inv (X.suite a pn) [] σ H s) (q : Q c s) :
    wpAny (model X.prog X.w) (X.A.mark (some (.ref a))) (eval (.Name x p) X.env) Q E s := by
  rcases nm with ⟨g, db, m | ⟨m, bv, ne⟩⟩
  · exact ld_glob (X := X.suite a pn) J g m q db
  · exact ld_blt (X := X.suite a pn) J g m bv q ne db
theorem sp_unsuite {a : Addr} {y : Addr × Obj} {pins : List (Addr × Obj)} {E : Ends} {f : Flow} {s : Shared} (ok : X.Ok) (h : SP (X.suite a (y :: (X.pn ++ pins))) [] E f s) : SP X pins E f s := by
  cases f with
  | next => exact let ⟨σ, H, J, z⟩ := h; ⟨σ, H, J.unsuite ok, z⟩
  | brk => exact let ⟨σ, H, J, z⟩ := h; ⟨σ, H, J.unsuite ok, z⟩
  | cont => exact let ⟨σ, H, J, z⟩ := h; ⟨σ, H, J.unsuite ok, z⟩
  | ret u => exact let ⟨v, σ, H, J, r, z⟩ := h; ⟨v, σ, H, J.unsuite ok, r, z⟩
theorem sp_ofTry {pins : List (Addr × Obj)} {xe : Value → Shared → Prop} {E : Ends} {f : Flow} {s : Shared} (ok : X.Ok) (h : SP (X.tr (X.pn ++ pins) xe) [] E f s) : SP X pins E f s := by
  cases f with
  | next => exact let ⟨σ, H, J, z⟩ := h; ⟨σ, H, J.ofTry ok, z⟩
  | brk => exact let ⟨σ, H, J, z⟩ := h; ⟨σ, H, J.ofTry ok, z⟩
  | cont => exact let ⟨σ, H, J, z⟩ := h; ⟨σ, H, J.ofTry ok, z⟩
  | ret u => exact let ⟨v, σ, H, J, r, z⟩ := h; ⟨v, σ, H, J.ofTry ok, r, z⟩
/-- a caught error on the ground, then the clauses -/
theorem clauses_go (fr : X.env.frame = some X.env.locals) (st : X.stack = X.env :: X.outer) (nd : X.N.Nodup) (tk : Takes X W) {pins : List (Addr × Obj)} {E : Ends} {a : Addr} {B : Heap} {s0 sz : Shared} {σ : L2.St} {H : Hp} {cls : Value} {d : Option Addr}
    (J0 : Inv X pins σ H s0) (nb : ∀ b o, s0.heap.get? b = some o → b ∉ frs X.stack → B.get? b = some o) (fly : HandSPX.FlyingZ B (X.env :: X.outer) a (Zc cls d) sz.heap) (ups : s0.heap.UpToSlots sz.heap) (na : H a = none) (os : sz.os = s0.os) (ag : AllBare sz.gens)
    (nL : a ≠ X.env.locals) (nF : a ∉ X.fs) : ∀ {hs : List ExceptHandler} {l : List Cla}, ClaOk X hs l → wCla X.K W E l cls d σ H → wpAny (model X.prog X.w) X.A (handleBy (.ref a) X.env hs) (SP X pins E) X.xe sz := by
  intro hs l ok
  have okx := J0.ok
  have Jz : Inv X pins σ H sz := by
    have := J0.landed (s' := sz) nb fly.1 ups os ag
    exact this
  obtain ⟨oz, vz, gz, zz, dz⟩ := fly.there
  have Sz := Jz.suite gz dz na nL nF
  have lands : ∀ {Q : Unit → Shared → Prop} {E' : Value → Shared → Prop} {A' : Around}, (∀ h4 o4, HandSPX.FlyingZ B (X.env :: X.outer) a (Zc cls d) h4 → Zc cls d o4 → (∃ vs, o4.data = .fields vs) → Inv (X.suite a ((a, o4) :: (X.pn ++ pins))) [] σ H { sz with heap := h4 } → Q () { sz with heap := h4 }) →
      wpAny (model X.prog X.w) A' (setFlight (.ref a) none) Q E' sz := fun {Q E' A'} hq => HandSPX.lands_againZ fly fun h4 fly4 up4 => by
    obtain ⟨o4, v4, g4, z4, d4⟩ := fly4.there
    exact hq h4 o4 fly4 z4 ⟨_, d4⟩ ((J0.landed (s' := { sz with heap := h4 }) nb fly4.1 (ups.trans up4) os ag).suite g4 d4 na nL nF)
  have look : PySem.W.Looks (model X.prog X.w) sz.heap (typeOf (.ref a)) cls := fun A' Q E' s k q => wpAny_typeOf_ref (k _ _ gz) (by rw [zz.1]; exact q)
  induction ok with
  | nil =>
    intro w
    refine wpAny_handleBy_nil ?_
    obtain ⟨_, _, _, oe, vs, T, oT, ts, he, _, hd, h1, _⟩ := id fly
    unfold PySem.passOn
    refine wpAny_bind (wpAny_field he hd h1 ?_)
    rw [if_neg (by simp : ¬ ((Value.ref T == Value.none) = true))]
    have up1 : wpAny (model X.prog X.w) X.A (setFlight (.ref a) X.env.frame) (fun _ s4 => wpAny (model X.prog X.w) X.A (throw (.ref a) : Sem Flow) (SP X pins E) X.xe s4) X.xe sz := by
      rw [fr]
      exact HandSPX.setFlight_upZ fly fun h4 held up4 => wpAny_throw (tk _ _ ⟨a, B, s0, pins, σ, H, cls, d, rfl, J0, nb, ups.trans up4, .inr (.inr (by rw [st]; exact held)), na, os, ag, w⟩)
    first | exact wpAny_bind (wpAny_pure (wpAny_bind up1)) | exact wpAny_bind up1
  | @bare x c u b bs p q hs l nm su _ ih =>
    rintro ⟨t, e, yes, no⟩
    have LM := PySem.W.exm_one (M := model X.prog X.w) Jz.kIn look e
    refine wpAny_handleBy_cons (codeAny_handlers_test (cla_test nm Sz (LM.here ?_))) (by intro z; cases z)
    cases t with
    | false =>
      show wpAny _ X.A (handleBy (.ref a) X.env hs) _ _ _
      exact ih (no rfl)
    | true =>
      refine codeAny_handlers_suite (lands fun h4 o4 _ z4 d4 S4 => ?_)
      exact wpAny_mono ((su a o4 cls d _ z4 d4).run [] _ _ H _ S4 (yes rfl a na)) (fun f s6 h => sp_unsuite okx h) (fun _ _ z => False.elim z)
  | @named x n i c u b bs p q hs l nm hi hk su _ ih =>
    rintro ⟨t, e, yes, no⟩
    have LM := PySem.W.exm_one (M := model X.prog X.w) Jz.kIn look e
    refine wpAny_handleBy_cons (codeAny_handlers_test (cla_test nm Sz (LM.here ?_))) (by intro z; cases z)
    cases t with
    | false =>
      show wpAny _ X.A (handleBy (.ref a) X.env hs) _ _ _
      exact ih (no rfl)
    | true =>
      refine codeAny_handlers_suite_as (lands fun h4 o4 _ z4 d4 S4 => ?_)
      refine store_ok (X := X.suite a ((a, o4) :: (X.pn ++ pins))) (v := .ref a) S4 nd hi (.inl hk) rfl (fun s5 S5 => ?_) (.inr hk)
      refine wpAny_mono ((su a o4 cls d _ z4 d4).run [] s5 _ H _ S5 (yes rfl a na)) (fun f s6 h => ?_) (fun _ _ z => False.elim z)
      have bye : ∀ {σ6 : L2.St} {H6 : Hp} {Q : Shared → Prop}, Inv (X.suite a ((a, o4) :: (X.pn ++ pins))) [] σ6 H6 s6 → (∀ s7, Inv X pins (σ6.set i none) H6 s7 → Q s7) → wpAny (model X.prog X.w) X.A (do bindName X.env n .none; unbindBehindTheSuite X.env n q) (fun _ s7 => Q s7) X.xe s6 :=
        fun S6 hq => gone_ok (S6.unsuite okx) nd hi hk hq
      cases f with
      | next => exact let ⟨σ6, H6, S6, y⟩ := h; bye S6 fun s7 J7 => ⟨_, _, J7, y⟩
      | brk => exact let ⟨σ6, H6, S6, y⟩ := h; bye S6 fun s7 J7 => ⟨_, _, J7, y⟩
      | cont => exact let ⟨σ6, H6, S6, y⟩ := h; bye S6 fun s7 J7 => ⟨_, _, J7, y⟩
      | ret v => exact let ⟨v6, σ6, H6, S6, r6, y⟩ := h; bye S6 fun s7 J7 => ⟨_, _, _, J7, r6, y⟩
theorem ps_clauses {body : List Stmt} {h0 : ExceptHandler} {hs : List ExceptHandler} {l : List Cla} {tb : WX → TS} (st : X.stack = X.env :: X.outer) (fr : X.env.frame = some X.env.locals) (nd : X.N.Nodup) (tk : Takes X W)
    (hb : ∀ (W : WX) (pn : List (Addr × Obj)) (xe : Value → Shared → Prop), Takes (X.tr pn xe) W → PassesOwn (model X.prog X.w) X.A X.env xe → PSs (X.tr pn xe) body (tb W)) (hh : ClaOk X (h0 :: hs) l) :
    PS X (.Try body (h0 :: hs) [] [] pos) (fun E σ H => tb (wCla X.K W E l) E σ H) := by
  constructor
  intro pins s σ H E I h
  have okx := I.ok
  have afr : X.A.frames = some (X.env :: X.outer) := okx.frames.trans (by rw [st])
  refine wpAny_Try_except (wpAny_mono ((hb (wCla X.K W E l) (X.pn ++ pins) (fun e s₁ => wpAny (model X.prog X.w) X.A (noteFrame e X.env) (fun _ s₂ => wpAny (model X.prog X.w) X.A (setFlight e none) (fun _ s₃ =>
    wpAny (model X.prog X.w) X.A (handleBy e X.env (h0 :: hs)) (SP X pins E) X.xe s₃) X.xe s₂) X.xe s₁) (fun u s' xx => ?_) PassesOwn.looking).run [] s σ H E (I.toTry _) h) (fun f s1 sp => ?_) (fun e s1 he => he))
  · obtain ⟨a, B, s0, pins', σ1, H1, cls, d, eu, J', nb, up, sky, na, os, ag, w⟩ := xx
    subst eu
    have J := J'.ofTry okx
    have sky1 : Sky B (X.env :: X.outer) a (Zc cls d) X.env.locals s'.heap := st ▸ sky
    refine Sky.land Zc.steady afr fr sky1 fun hz fly up2 => ?_
    obtain ⟨oz, vz, gz, zz, dz⟩ := fly.there
    have out : a ∉ frs (X.env :: X.outer) := fun m => by
      obtain ⟨_, o2, g2, no⟩ := fly.2.2.1.mem m
      rw [gz] at g2
      cases g2
      exact no _ dz
    exact clauses_go fr st nd tk (sz := { s' with heap := hz }) J nb fly (up.trans up2) na os ag
      (fun z => out (List.mem_filterMap.mpr ⟨X.env, List.mem_cons_self, by rw [fr, z]⟩))
      (fun m => out (by
        obtain ⟨e, he, q⟩ := List.mem_filterMap.mp m
        exact List.mem_filterMap.mpr ⟨e, List.mem_cons_of_mem _ he, q⟩)) hh w
  · have z := sp_ofTry okx sp
    cases f with
    | next =>
      obtain ⟨σ2, H2, J2, q⟩ := z
      exact wpAny_execs_nil ⟨σ2, H2, J2, q⟩
    | brk => exact z
    | cont => exact z
    | ret u => exact z
end
end Lay

namespace Lay
open PySem PySem.Spec L2
section
variable {c : Cz} {ρ : List Sl} {S : List Ce} {P : Post}
theorem SOk.setN {K : PySem.W.Frag} {F : Fx} {G H : Hp} {ps : List Addr} {σ : L2.St} (o : SOk K F G ps ρ S σ H) (i : Nat) (v : Option V) : SOk K F G ps (ρ.set i .no) S (σ.set i v) H := by
  refine ⟨o.sub, o.base, o.keep, o.new, o.pre, o.nd, o.fresh, o.there, o.plen, by rw [List.length_set, List.length_set]; exact o.slen, fun j x q => ?_, fun j k q => ?_, o.cell⟩
  · by_cases hj : j = i
    · subst hj
      have hlt : j < ρ.length := by
        have z := (List.getElem?_eq_some_iff.mp q).1
        rw [List.length_set] at z; exact z
      rw [List.getElem?_set_self hlt] at q
      cases q
    · rw [List.getElem?_set_ne (Ne.symm hj)] at q ⊢
      exact o.dat j x q
  · by_cases hj : j = i
    · subst hj
      have hlt : j < ρ.length := by
        have z := (List.getElem?_eq_some_iff.mp q).1
        rw [List.length_set] at z; exact z
      rw [List.getElem?_set_self hlt] at q
      cases q
    · rw [List.getElem?_set_ne (Ne.symm hj)] at q ⊢
      exact o.own j k q
/-- within an except suite; within a try's body -/
abbrev Cz.sui (c : Cz) (a : Addr) (oe : Obj) (pn : List (Addr × Obj)) : Cz := ⟨c.X.suite a ((a, oe) :: pn), c.F, fun _ _ _ _ => False, takes0⟩
abbrev Cz.try' (c : Cz) (W : WX) (pn : List (Addr × Obj)) (xe : Value → Shared → Prop) (tk : Takes (c.X.tr pn xe) W) : Cz := ⟨c.X.tr pn xe, c.F, W, tk⟩
/-- what a suite is to reach -/
def Post.sui (P : Post) : Post := { P with ex := X0 }
def Post.gone (P : Post) (i : Nat) : Post := { nx := fun ρ S => P.nx (ρ.set i .no) S, rt := P.rt, bk := fun ρ S => P.bk (ρ.set i .no) S, ct := fun ρ S => P.ct (ρ.set i .no) S, ex := X0, rf := P.rf }
/-- what an error of the body must be, that the clauses take it (or let it on) -/
inductive HX (c : Cz) (P : Post) : List ExceptHandler → XP → Prop
  | nil : HX c P [] P.ex
  | bare {x : Str} {C : Addr} {b : Stmt} {bs : List Stmt} {p q : Pos} {hs : List ExceptHandler} {Z : XP} : Names c.X x (.ref C) → HX c P hs Z →
      HX c P (.ExceptHandler (some (.Name x p)) none (b :: bs) q :: hs) (fun C' pl ρ S => ∃ t, PySem.W.exmOne c.X.K (.ref C') (.ref C) = some t ∧ (t = true → ∀ a oe pn, SX (c.sui a oe pn) (b :: bs) ρ S P.sui) ∧ (t = false → Z C' pl ρ S))
  | named {x n : Str} {i : Nat} {C : Addr} {b : Stmt} {bs : List Stmt} {p q : Pos} {hs : List ExceptHandler} {Z : XP} : Names c.X x (.ref C) → c.X.N[i]? = some n → c.X.env.kindOf n = some .local → HX c P hs Z →
      HX c P (.ExceptHandler (some (.Name x p)) (some n) (b :: bs) q :: hs) (fun C' pl ρ S => ∃ t, PySem.W.exmOne c.X.K (.ref C') (.ref C) = some t ∧
        (t = true → ∃ f x, pl = some (f, x) ∧ ∀ a oe pn dd, Zc (.ref C') (some dd) oe → (∃ vs, oe.data = .fields vs) → SX (c.sui a oe pn) (b :: bs) (ρ.set i (.dat (.err a dd f x))) S (P.gone i)) ∧ (t = false → Z C' pl ρ S))
def suU (c : Cz) (sts : List Stmt) : Suite := fun a cls d E σ H => ∀ (oe : Obj) (pn : List (Addr × Obj)), Zc cls d oe → (∃ vs, oe.data = .fields vs) → WSs (c.X.suite a ((a, oe) :: pn)) sts E σ H
theorem suU_ok {sts : List Stmt} (a : Addr) (oe : Obj) (cls : Value) (d : Option Addr) (pn : List (Addr × Obj)) (hz : Zc cls d oe) (hf : ∃ vs, oe.data = .fields vs) : PSs (c.X.suite a ((a, oe) :: pn)) sts (suU c sts a cls d) :=
  ⟨fun pins s σ H E I h => wss_pss.run pins s σ H E I (h oe pn hz hf)⟩
theorem hx_cla {hs : List ExceptHandler} {Z : XP} (h : HX c P hs Z) : ∃ l, ClaOk c.X hs l ∧ ∀ G E, Real c P G E → ∀ σ G' ps H ρ S C pl dd, SOk c.X.K c.F G' ps ρ S σ H → Ex G G' → ExcAt c.X.K G' dd pl → Z C pl ρ S → wCla c.X.K c.W E l (.ref C) dd σ H := by
  induction h with
  | nil => exact ⟨[], .nil, fun G E r σ G' ps H ρ S C pl dd o e x z => r.ex σ G' ps H ρ S C pl dd o e x z⟩
  | @bare x C b bs p q hs Z nm _ ih =>
    obtain ⟨l, h1, h2⟩ := ih
    refine ⟨⟨.ref C, none, suU c (b :: bs)⟩ :: l, .bare nm (fun a oe cls d pn hz hf => suU_ok a oe cls d pn hz hf) h1, fun G E r σ G' ps H ρ S C' pl dd o e x z => ?_⟩
    obtain ⟨t, ht, yes, no⟩ := z
    refine ⟨t, ht, fun y a na oe pn hz hf => ?_, fun y => h2 G E r σ G' ps H ρ S C' pl dd o e x (no y)⟩
    exact yes y a oe pn σ G' ps H E o ⟨fun σ2 G2 ps2 H2 ρ2 S2 o2 e2 q2 => r.nx σ2 G2 ps2 H2 ρ2 S2 o2 (e.trans e2) q2, fun σ2 G2 ps2 H2 ρ2 S2 v d o2 e2 a2 q2 => r.rt σ2 G2 ps2 H2 ρ2 S2 v d o2 (e.trans e2) a2 q2,
      fun σ2 G2 ps2 H2 ρ2 S2 o2 e2 q2 => r.bk σ2 G2 ps2 H2 ρ2 S2 o2 (e.trans e2) q2, fun σ2 G2 ps2 H2 ρ2 S2 o2 e2 q2 => r.ct σ2 G2 ps2 H2 ρ2 S2 o2 (e.trans e2) q2, fun _ _ _ _ _ _ _ _ _ _ _ _ z => z.elim, fun G2 H2 S2 p2 vs2 ds2 o2 e2 => r.rf G2 H2 S2 p2 vs2 ds2 o2 (e.trans e2)⟩
  | @named x n i C b bs p q hs Z nm hi hk _ ih =>
    obtain ⟨l, h1, h2⟩ := ih
    refine ⟨⟨.ref C, some i, suU c (b :: bs)⟩ :: l, .named nm hi hk (fun a oe cls d pn hz hf => suU_ok a oe cls d pn hz hf) h1, fun G E r σ G' ps H ρ S C' pl dd o e x z => ?_⟩
    obtain ⟨t, ht, yes, no⟩ := z
    refine ⟨t, ht, fun y a na oe pn hz hf => ?_, fun y => h2 G E r σ G' ps H ρ S C' pl dd o e x (no y)⟩
    obtain ⟨f, d, epl, k⟩ := yes y
    subst epl
    obtain ⟨d0, v, ed, g, av⟩ := x
    subst ed
    exact k a oe pn d0 hz hf _ G' ps H _ (o.setD i (.err g av)) ⟨fun σ2 G2 ps2 H2 ρ2 S2 o2 e2 q2 => r.nx _ G2 ps2 H2 _ S2 (o2.setN i none) (e.trans e2) q2, fun σ2 G2 ps2 H2 ρ2 S2 v d o2 e2 a2 q2 => r.rt σ2 G2 ps2 H2 ρ2 S2 v d o2 (e.trans e2) a2 q2,
      fun σ2 G2 ps2 H2 ρ2 S2 o2 e2 q2 => r.bk _ G2 ps2 H2 _ S2 (o2.setN i none) (e.trans e2) q2, fun σ2 G2 ps2 H2 ρ2 S2 o2 e2 q2 => r.ct _ G2 ps2 H2 _ S2 (o2.setN i none) (e.trans e2) q2, fun _ _ _ _ _ _ _ _ _ _ _ _ z => z.elim, fun G2 H2 S2 p2 vs2 ds2 o2 e2 => r.rf G2 H2 S2 p2 vs2 ds2 o2 (e.trans e2)⟩
def tryU (c : Cz) (body : List Stmt) (W : WX) : TS := fun E σ H => ∀ (pn : List (Addr × Obj)) (xe : Value → Shared → Prop), Takes (c.X.tr pn xe) W → PassesOwn (model c.X.prog c.X.w) c.X.A c.X.env xe → WSs (c.X.tr pn xe) body E σ H
/-- try: body except X: .. except Y as n: .. -/
theorem s1_try {body : List Stmt} {h0 : ExceptHandler} {hs : List ExceptHandler} {Z : XP} {pos : Pos} (nd : c.X.N.Nodup) (hx : HX c P (h0 :: hs) Z)
    (h : ∀ (W : WX) (pn : List (Addr × Obj)) (xe : Value → Shared → Prop) (tk : Takes (c.X.tr pn xe) W), PassesOwn (model c.X.prog c.X.w) c.X.A c.X.env xe → SX (c.try' W pn xe tk) body ρ S { P with ex := Z })
    (st : c.X.stack = c.X.env :: c.X.outer := by rfl) (fr : c.X.env.frame = some c.X.env.locals := by rfl) : S1 c (.Try body (h0 :: hs) [] [] pos) ρ S P := fun σ G ps H E o r => by
  obtain ⟨l, h1, h2⟩ := hx_cla hx
  refine ⟨_, ps_clauses (tb := tryU c body) st fr nd c.tk (fun W pn xe tk hp => ⟨fun pins s σ H E I hh => wss_pss.run pins s σ H E I (hh pn xe tk hp)⟩) h1, ?_⟩
  intro pn xe tk hp
  exact h _ pn xe tk hp σ G ps H E o ⟨fun σ2 G2 ps2 H2 ρ2 S2 o2 e2 q2 => r.nx σ2 G2 ps2 H2 ρ2 S2 o2 e2 q2, fun σ2 G2 ps2 H2 ρ2 S2 v d o2 e2 a2 q2 => r.rt σ2 G2 ps2 H2 ρ2 S2 v d o2 e2 a2 q2,
    fun σ2 G2 ps2 H2 ρ2 S2 o2 e2 q2 => r.bk σ2 G2 ps2 H2 ρ2 S2 o2 e2 q2, fun σ2 G2 ps2 H2 ρ2 S2 o2 e2 q2 => r.ct σ2 G2 ps2 H2 ρ2 S2 o2 e2 q2, fun σ2 G2 ps2 H2 ρ2 S2 C pl dd o2 e2 x z => h2 G E r σ2 G2 ps2 H2 ρ2 S2 C pl dd o2 e2 x z, fun G2 H2 S2 p2 vs2 ds2 o2 e2 => r.rf G2 H2 S2 p2 vs2 ds2 o2 e2⟩
/-- n.f, n the caught error -/
theorem ex_eattr (i : Nat) {n f : Str} {C a dd : Addr} {oe : Obj} {pn : List (Addr × Obj)} {x : D} {p1 pos : Pos} {Z : XP} {Q : D → List Ce → Prop} (T : XfC c.X.K C) (no : PySem.W.findIn c.X.K (.ref C) f = some none) (hz : Zc (.ref C) (some dd) oe) (hf : ∃ vs, oe.data = .fields vs)
    (hx : ρ[i]? = some (.dat (.err a dd f x))) (q : Q x S) (hN : c.X.N[i]? = some n := by rfl) (hv : Vis c.X.env.scope n := by first | exact Or.inl rfl | exact Or.inr (Or.inl rfl) | exact Or.inr (Or.inr rfl))
    (h1 : (n == ("__debug__" : Str)) = false := by decide) (h2 : (n == ("__classdict__" : Str)) = false := by decide)
    (hb : attributeBase (.Name n p1) f (c.sui a oe pn).X.env (eval (.Name n p1) (c.sui a oe pn).X.env) = eval (.Name n p1) (c.sui a oe pn).X.env := by rfl) : EX (c.sui a oe pn) (.Attribute (.Name n p1) f pos) ρ S Z Q := fun σ G ps H k o kn _ => by
  obtain ⟨v, hs, hv'⟩ := o.dat i _ hx
  cases hv' with
  | err g av =>
    refine ⟨_, pe_xf (X := c.X) T no hz hf (pe_var (X := c.X.suite a ((a, oe) :: pn)) hN hv h1 h2) hb, _, hs, rfl, rfl, dd, _, _, rfl, o.sub _ _ g, by simp [List.lookup], kn _ G H x S o (Ex.refl G) av q⟩
end
end Lay

namespace Lay
open PySem PySem.Spec L2
/-! defs that hand back a fresh list -/
section
variable {c : Cz} {ρ : List Sl} {S : List Ce} {P : Post} {Z : XP} {a b e : Expr} {es : List Expr} {pos : Pos}
theorem SOk.bare {K : PySem.W.Frag} {F : Fx} {G H : Hp} {ps : List Addr} {σ : L2.St} (o : SOk K F G ps ρ S σ H) : SOk K F G F.P0 [] (S.take F.P0.length) [] H := by
  have hl : F.P0.length ≤ S.length := by rw [← o.plen]; exact o.pre.length_le
  refine ⟨o.sub, o.base, o.keep, o.new, List.prefix_refl _, o.nd.sublist o.pre.sublist, fun p hp => .inl hp, fun p hp => o.there p (o.pre.subset hp), by rw [List.length_take]; omega, rfl, fun i d q => ?_, fun i k q => ?_, fun k p cl h1 h2 => ?_⟩
  · simp at q
  · simp at q
  · have hk := (List.getElem?_eq_some_iff.mp h1).1
    rw [List.getElem?_take_of_lt hk] at h2
    obtain ⟨t, ht⟩ := o.pre
    exact o.cell k p cl (by rw [← ht, List.getElem?_append_left hk]; exact h1) h2
/-- an owned list of this frame is given away -/
theorem SOk.give {K : PySem.W.Frag} {F : Fx} {G H : Hp} {ps : List Addr} {σ : L2.St} {k : Nat} {p : Addr} {cs : List D} (o : SOk K F G ps ρ S σ H) (hk : F.P0.length ≤ k) (hp : ps[k]? = some p) (hS : S[k]? = some (.lst cs)) :
    ∃ us, H p = some (.lst us) ∧ AtDs K G us cs ∧ SOk K F G F.P0 [] (S.take F.P0.length) [] (dele H p) := by
  obtain ⟨y1, us, y2, y3⟩ := (o.cell k p _ hp hS : CeAt K G H p (.lst cs))
  have q := o.bare
  have out : p ∉ F.P0 := fun hm => by
    obtain ⟨t, ht⟩ := o.pre
    obtain ⟨m, hm1, hz⟩ := List.mem_iff_getElem.mp hm
    have h1 : ps[m]? = some p := by rw [← ht, List.getElem?_append_left hm1, List.getElem?_eq_getElem hm1, hz]
    obtain ⟨l1, q1⟩ := List.getElem?_eq_some_iff.mp h1
    obtain ⟨l2, q2⟩ := List.getElem?_eq_some_iff.mp hp
    have := (List.getElem_inj o.nd).mp (q1.trans q2.symm)
    omega
  have n0 : F.H0 p = none := (o.fresh p (List.mem_of_getElem? hp)).resolve_left out
  refine ⟨us, y2, y3, ⟨fun a u e => ?_, q.base, fun a u n e => ?_, q.new, q.pre, q.nd, q.fresh, fun r hr => ?_, q.plen, q.slen, q.dat, q.own, fun i r cl h1 h2 => ?_⟩⟩
  · rw [dele_ne (fun z => by subst z; rw [y1] at e; cases e)]; exact o.sub a u e
  · rw [dele_ne (fun z => by subst z; rw [n0] at e; cases e)]; exact o.keep a u n e
  · obtain ⟨w, hw⟩ := q.there r hr
    exact ⟨w, by rw [dele_ne (show r ≠ p from fun z => out (z ▸ hr))]; exact hw⟩
  · have hr : r ≠ p := fun z => out (z ▸ List.mem_of_getElem? h1)
    have z := q.cell i r cl h1 h2
    cases cl with
    | gone => trivial
    | lst ds => obtain ⟨z1, vs, z2, z3⟩ := z; exact ⟨z1, vs, by rw [dele_ne hr]; exact z2, z3⟩
    | dct ds => obtain ⟨z1, vs, z2, z3⟩ := z; exact ⟨z1, vs, by rw [dele_ne hr]; exact z2, z3⟩
/-- return a fresh list -/
theorem s1_retF (h : EF c e ρ S P.ex fun ds S1 => P.rf ds S1) : S1 c (.Return (some e) pos) ρ S P := fun σ G ps H E o r =>
  ⟨_, ps_ret we_pe, h σ G ps H _ o (fun p vs G1 H1 ds S1 o1 e1 hp a1 q => r.rf G1 H1 S1 p vs ds o1.bare e1 hp a1 q) fun C pl dd G' H' S' o' e' x z => r.ex σ G' ps H' ρ S' C pl dd o' e' x z⟩
/-- return an owned list by its name -/
theorem s1_retO (i : Nat) {x : Str} {k : Nat} {cs : List D} {p1 : Pos} (hx : ρ[i]? = some (.own k)) (hk : c.F.P0.length ≤ k) (hS : S[k]? = some (.lst cs)) (q : P.rf cs S) (hN : c.X.N[i]? = some x := by rfl)
    (hv : Vis c.X.env.scope x := by first | exact Or.inl rfl | exact Or.inr (Or.inl rfl) | exact Or.inr (Or.inr rfl)) (h1 : (x == ("__debug__" : Str)) = false := by decide) (h2 : (x == ("__classdict__" : Str)) = false := by decide) :
    S1 c (.Return (some (.Name x p1)) pos) ρ S P := fun σ G ps H E o r => by
  obtain ⟨p, hp, hs⟩ := o.own i k hx
  obtain ⟨us, g1, g2, g3⟩ := o.give hk hp hS
  refine ⟨_, ps_ret (pe_var hN hv h1 h2), .ref p, hs, ?_⟩
  have z := r.rf G (dele H p) S p us cs g3 (Ex.refl G) dele_same g2 q
  rw [upd_dele g1] at z
  exact z
abbrev RPF := List D → (List D → Prop) → (Addr → Option (Str × D) → Prop) → Prop
def spF (K : PySem.W.Frag) (n : Nat) (R : RPF) : Sp := fun vs H Q E => ∃ (G : Hp) (ds : List D) (Pr : List D → Prop) (Px : Addr → Option (Str × D) → Prop), ds.length = n ∧ Ex G H ∧ AtDs K G vs ds ∧ R ds Pr Px ∧
  (∀ p us G' H' xs, Ex G G' → Ex G' H' → Ex H H' → Nw G H G' → H' p = none → AtDs K G' us xs → Pr xs → Q (.ref p) (upd H' p (.lst us))) ∧ (∀ C pl dd G' H', Ex G G' → Ex G' H' → Ex H H' → Nw G H G' → ExcAt K G' dd pl → Px C pl → E (.ref C) dd H')
abbrev RPF1 := List D → List D → (List D → List D → Prop) → (Addr → Option (Str × D) → List D → Prop) → Prop
def spFO (K : PySem.W.Frag) (n : Nat) (R : RPF1) : Sp := fun vs H Q E => ∃ (G : Hp) (p : Addr) (us : List V) (ws : List V) (cs ds : List D) (Pr : List D → List D → Prop) (Px : Addr → Option (Str × D) → List D → Prop),
  vs = .ref p :: ws ∧ ds.length = n ∧ Ex G H ∧ G p = none ∧ H p = some (.lst us) ∧ AtDs K G us cs ∧ AtDs K G ws ds ∧ R cs ds Pr Px ∧
  (∀ q zs G' H' xs us' cs', Ex G G' → Ex G' H' → (∀ a o, a ≠ p → H a = some o → H' a = some o) → Nw G H G' → H' p = some (.lst us') → AtDs K G' us' cs' → H' q = none → AtDs K G' zs xs → Pr xs cs' → Q (.ref q) (upd H' q (.lst zs))) ∧
  (∀ C pl dd G' H' us' cs', Ex G G' → Ex G' H' → (∀ a o, a ≠ p → H a = some o → H' a = some o) → Nw G H G' → H' p = some (.lst us') → AtDs K G' us' cs' → ExcAt K G' dd pl → Px C pl cs' → E (.ref C) dd H')
/-- f(e, ..), data alone; the value a fresh list -/
theorem ef_call {k n : Nat} {x : Str} {R : RPF} {p1 : Pos} {Q : List D → List Ce → Prop} (F : Cal c.X.prog c.X.w c.X.K c.X.mg c.X.base k x (spF c.X.K n R)) (hr : Room k c.X.A)
    (h : AX c (e :: es) ρ S Z fun as S1 => ∃ ds, datas as = some ds ∧ ds.length = n ∧ R ds (fun d => Q d S1) (fun C pl => Z C pl ρ S1)) (hg : Gl c.X x := by rfl) (hdb : (x == ("__debug__" : Str)) = false := by decide)
    (he : starEach (e :: es) c.X.env = (false, eval e c.X.env) :: starEach es c.X.env := by rfl) (hpl : (backTo pos (starEach es c.X.env)).any (·.1) = false := by rfl) : EF c (.Call (.Name x p1) (e :: es) [] pos) ρ S Z Q := fun σ G ps H kk o kn kx => by
  obtain ⟨f, fd, pn, F, hm, hk, hb⟩ := F
  refine ⟨_, pe_callS F hr hg hm hk hb (fun σ => passAt c.tk σ) wa_pa (hdb := hdb) (he := he) (hpl := hpl), h σ G ps H _ o (fun vs G1 H1 as S1 o1 e1 a1 ⟨ds, hd, hl, hR⟩ => ?_) kx⟩
  exact ⟨G1, ds, _, _, hl, o1.sub, a1.toDs hd, hR, fun p us G' H' xs g1 g2 g3 g4 hp hv q => kn p us G' H' xs S1 (o1.called g1 g2 g3 g4) (e1.trans g1) hp hv q, fun C pl dd G' H' g1 g2 g3 g4 hx q => kx C pl dd G' H' S1 (o1.called g1 g2 g3 g4) (e1.trans g1) hx q⟩
theorem ef_call1 {k n : Nat} {x : Str} {R : RPF1} {p1 : Pos} {Q : List D → List Ce → Prop} (F : Cal c.X.prog c.X.w c.X.K c.X.mg c.X.base k x (spFO c.X.K n R)) (hr : Room k c.X.A)
    (h : AX c (e :: es) ρ S Z fun as S1 => ∃ j as' cs ds, as = .own j :: as' ∧ datas as' = some ds ∧ ds.length = n ∧ S1[j]? = some (.lst cs) ∧ R cs ds (fun d cs' => Q d (S1.set j (.lst cs'))) (fun C pl cs' => Z C pl ρ (S1.set j (.lst cs')))) (hg : Gl c.X x := by rfl) (hdb : (x == ("__debug__" : Str)) = false := by decide)
    (he : starEach (e :: es) c.X.env = (false, eval e c.X.env) :: starEach es c.X.env := by rfl) (hpl : (backTo pos (starEach es c.X.env)).any (·.1) = false := by rfl) : EF c (.Call (.Name x p1) (e :: es) [] pos) ρ S Z Q := fun σ G ps H kk o kn kx => by
  obtain ⟨f, fd, pn, F, hm, hk, hb⟩ := F
  refine ⟨_, pe_callS F hr hg hm hk hb (fun σ => passAt c.tk σ) wa_pa (hdb := hdb) (he := he) (hpl := hpl), h σ G ps H _ o (fun vs G1 H1 as S1 o1 e1 a1 ⟨j, as', cs, ds, ea, hd, hl, hS, hR⟩ => ?_) kx⟩
  subst ea
  cases a1 with
  | cons a0 at' =>
    cases a0 with
    | own hp =>
      have z : CeAt c.X.K G1 H1 _ (.lst cs) := o1.cell j _ _ hp hS
      obtain ⟨zG, us, zH, zd⟩ := z
      exact ⟨G1, _, us, _, cs, ds, _, _, rfl, hl, o1.sub, zG, zH, zd, at'.toDs hd, hR,
        fun q zs G' H' xs us' cs' g1 g2 g3 g4 h1 h2 hq hv qq => kn q zs G' H' xs _ (o1.called1 hp hS g1 g2 g3 g4 h1 h2) (e1.trans g1) hq hv qq,
        fun C pl dd G' H' us' cs' g1 g2 g3 g4 h1 h2 hx q => kx C pl dd G' H' _ (o1.called1 hp hS g1 g2 g3 g4 h1 h2) (e1.trans g1) hx q⟩
end
section
variable {P : Program} {w : World} {K : PySem.W.Frag} {mg : Str → Option Value} {base : Heap}
theorem SOk.entry {N : List Str} {G H : Hp} {vs : List V} {ds : List D} {n : Nat} (hl : ds.length = n) (hN : n ≤ N.length) (hs : Ex G H) (ha : AtDs K G vs ds) : SOk K ⟨[], H, G⟩ G [] (slots ds (N.length - n)) [] (L2.start N vs) H := by
  refine ⟨hs, Ex.refl G, fun a o _ q => q, fun a o q => .inl q, List.nil_prefix, List.nodup_nil, fun p hp => (nomatch hp), fun p hp => (nomatch hp), rfl, ?_, fun i d q => ?_, fun i k q => (slots_own q).elim, fun k p cl q => (nomatch q)⟩
  · rw [start_len (by rw [ha.len, hl]; exact hN), slots_len, hl]; omega
  · obtain ⟨v, h1, h2⟩ := ha.get (slots_get q)
    exact ⟨v, start_get h1, h2⟩
theorem SOk.entry1 {N : List Str} {G H : Hp} {p : Addr} {us ws : List V} {cs ds : List D} {n : Nat} (hl : ds.length = n) (hN : n + 1 ≤ N.length) (hs : Ex G H) (hG : G p = none) (hp : H p = some (.lst us)) (hu : AtDs K G us cs) (ha : AtDs K G ws ds) :
    SOk K ⟨[p], H, G⟩ G [p] (.own 0 :: slots ds (N.length - (n + 1))) [.lst cs] (L2.start N (.ref p :: ws)) H := by
  refine ⟨hs, Ex.refl G, fun a o _ q => q, fun a o q => .inl q, List.prefix_refl _, by simp, fun q hq => .inl hq, fun q hq => ?_, rfl, ?_, fun i d q => ?_, fun i k q => ?_, fun k q cl h1 h2 => ?_⟩
  · have : q = p := by simpa using hq
    subst this
    exact ⟨_, hp⟩
  · rw [start_len (by rw [List.length_cons, ha.len, hl]; exact hN), List.length_cons, slots_len, hl]; omega
  · cases i with
    | zero => simp at q
    | succ i =>
      obtain ⟨v, h1, h2⟩ := ha.get (slots_get (by simpa using q))
      exact ⟨v, start_get (by simpa using h1), h2⟩
  · cases i with
    | zero => simp at q; subst q; exact ⟨p, rfl, start_get rfl⟩
    | succ i => exact (slots_own (by simpa using q)).elim
  · cases k with
    | zero => simp at h1 h2; subst h1 h2; exact ⟨hG, us, hp, hu⟩
    | succ k => simp at h1
theorem fnF {x : Str} {st : Stmt} {f : Addr} {fd : FuncData} {N ps : List Str} {k n : Nat} {R : RPF} (F : Fun K x x st f fd) (S : FnScope N ps (defScope st)) (hn : ps.length = n) (hN : n ≤ N.length) (hm : mg x = some (.ref f)) (hb : Binds K fd ps [])
    (body : ∀ (cdv : Value) (A : Around) (outer : List Env) (s : Shared) (H : Hp) (E : XK) (F : Fx), Room k (A.deeper (PyProof.Rows.envOfC x (defScope st) s.heap.objs.size f cdv)) → F.P0 = [] → ∀ (ds : List D) (Pr : List D → Prop) (Px : Addr → Option (Str × D) → Prop), R ds Pr Px → ds.length = n →
      SX (czOf P w K mg base N x (defScope st) f cdv A outer s H E F) (defBody st) (slots ds (N.length - n)) [] { nx := fun _ _ => False, rt := fun _ _ => False, ex := fun C pl _ _ => Px C pl, rf := fun xs _ => Pr xs }) :
    Cal P w K mg base (k + 1) x (spF K n R) := by
  refine ⟨f, fd, ps, F.okX S (fun vs H Q E h => ?_) (fun cdv A outer s H vs Q E hr h => ?_), hm, F.kp, hb⟩
  · obtain ⟨G, ds, Pr, Px, hl, _, ha, _⟩ := h
    rw [ha.len, hl, hn]
  · obtain ⟨G, ds, Pr, Px, hl, hs, ha, hR, kn, kx⟩ := h
    refine ⟨_, wss_pss, body cdv A outer s H E ⟨[], H, G⟩ hr rfl ds Pr Px hR hl (L2.start N vs) G [] H _ (SOk.entry hl hN hs ha) ?_⟩
    exact ⟨fun _ _ _ _ _ _ _ _ q => q.elim, fun _ _ _ _ _ _ _ _ _ _ _ q => q.elim, fun _ _ _ _ _ _ _ _ q => q.elim, fun _ _ _ _ _ _ _ _ q => q.elim,
      fun σ G' ps H' ρ S C pl dd o _ hx q => kx C pl dd G' H' o.base o.sub (fun a u e => o.keep a u (fun z => nomatch z) e) o.new hx q,
      fun G' H' S p vs ds o _ hp hv q => kn p vs G' H' ds o.base o.sub (fun a u e => o.keep a u (fun z => nomatch z) e) o.new hp hv q⟩
theorem fnFO {x : Str} {st : Stmt} {f : Addr} {fd : FuncData} {N ps : List Str} {k n : Nat} {R : RPF1} (F : Fun K x x st f fd) (S : FnScope N ps (defScope st)) (hn : ps.length = n + 1) (hN : n + 1 ≤ N.length) (hm : mg x = some (.ref f)) (hb : Binds K fd ps [])
    (body : ∀ (cdv : Value) (A : Around) (outer : List Env) (s : Shared) (H : Hp) (E : XK) (F : Fx), Room k (A.deeper (PyProof.Rows.envOfC x (defScope st) s.heap.objs.size f cdv)) → F.P0.length = 1 → ∀ (cs ds : List D) (Pr : List D → List D → Prop) (Px : Addr → Option (Str × D) → List D → Prop), R cs ds Pr Px → ds.length = n →
      SX (czOf P w K mg base N x (defScope st) f cdv A outer s H E F) (defBody st) (.own 0 :: slots ds (N.length - (n + 1))) [.lst cs]
        { nx := fun _ _ => False, rt := fun _ _ => False, ex := fun C pl _ S => ∃ cs' J, S = .lst cs' :: J ∧ Px C pl cs', rf := fun xs S => ∃ cs' J, S = .lst cs' :: J ∧ Pr xs cs' }) :
    Cal P w K mg base (k + 1) x (spFO K n R) := by
  refine ⟨f, fd, ps, F.okX S (fun vs H Q E h => ?_) (fun cdv A outer s H vs Q E hr h => ?_), hm, F.kp, hb⟩
  · obtain ⟨G, p, us, ws, cs, ds, Pr, Px, e, hl, _, _, _, _, ha, _⟩ := h
    rw [e, List.length_cons, ha.len, hl, hn]
  · obtain ⟨G, p, us, ws, cs, ds, Pr, Px, e, hl, hs, hG, hp, hu, ha, hR, kn, kx⟩ := h
    subst e
    have old : ∀ {H' : Hp} {ρ : List Sl} {S : List Ce} {σ : L2.St} {G' : Hp} {qs : List Addr} {cs' : List D} {J : List Ce}, SOk K ⟨[p], H, G⟩ G' qs ρ S σ H' → S = .lst cs' :: J → (∀ a o, a ≠ p → H a = some o → H' a = some o) ∧ ∃ us', H' p = some (.lst us') ∧ AtDs K G' us' cs' := by
      intro H' ρ S σ G' qs cs' J o eS
      subst eS
      refine ⟨fun a u n e => o.keep a u (fun z => n (by simpa using z)) e, ?_⟩
      obtain ⟨t, ht⟩ := o.pre
      have z : CeAt K G' H' p (.lst cs') := o.cell 0 p _ (by rw [← ht]; rfl) rfl
      exact z.2
    refine ⟨_, wss_pss, body cdv A outer s H E ⟨[p], H, G⟩ hr rfl cs ds Pr Px hR hl (L2.start N (.ref p :: ws)) G [p] H _ (SOk.entry1 hl hN hs hG hp hu ha) ?_⟩
    exact ⟨fun _ _ _ _ _ _ _ _ q => q.elim, fun _ _ _ _ _ _ _ _ _ _ _ q => q.elim, fun _ _ _ _ _ _ _ _ q => q.elim, fun _ _ _ _ _ _ _ _ q => q.elim,
      fun σ G' ps H' ρ S C pl dd o _ hx ⟨cs', J, eS, q⟩ => by
        obtain ⟨a1, us', a2, a3⟩ := old o eS
        exact kx C pl dd G' H' us' cs' o.base o.sub a1 o.new a2 a3 hx q,
      fun G' H' S q vs xs o _ hq hv ⟨cs', J, eS, qq⟩ => by
        obtain ⟨a1, us', a2, a3⟩ := old (J := []) (cs' := cs') o (by rw [eS]; rfl)
        exact kn q vs G' H' xs us' cs' o.base o.sub a1 o.new a2 a3 hq hv qq⟩
end
end Lay

set_option maxHeartbeats 1000000
namespace Lay
open PySem PySem.Spec L2
/-! more expressions -/
section
variable {c : Cz} {ρ : List Sl} {S : List Ce} {P : Post} {Z : XP} {Q : D → List Ce → Prop} {a b e : Expr} {es : List Expr} {pos p1 p2 : Pos}
/-- x op= e of ints -/
theorem s1_aug (i : Nat) {x : Str} {op : Operator} {f : Int → Int → Int} {u : Int} (hop : PIp c.X op (ipI f)) (hN : c.X.N.Nodup) (hx : ρ[i]? = some (.dat (.int u))) (h : EX c e ρ S P.ex fun d S1 => ∃ v, d = .int v ∧ P.nx (ρ.set i (.dat (.int (f u v)))) S1) (hi : c.X.N[i]? = some x := by rfl) (hl : Loc c.X.env.scope x := by first | exact Or.inl rfl | exact Or.inr rfl)
    (hf : c.X.fn x = true ∨ c.X.env.scope.names.lookup x = some .local := by first | exact .inl rfl | exact .inr rfl) : S1 c (.AugAssign (.Name x p1) op e pos) ρ S P := fun σ G ps H E o r => by
  obtain ⟨v0, hs, hv⟩ := o.dat i _ hx
  cases hv
  exact ⟨_, ps_aug hN hi hl we_pe hop hf, .int u, hs, h σ G ps H _ o (fun v G1 H1 d S1 o1 e1 a1 ⟨z, ed, q⟩ => by
    subst ed
    cases a1
    exact ⟨u, z, rfl, rfl, r.nx _ G1 ps H1 _ S1 (o1.setD i (.int _)) e1 q⟩) fun C pl dd G' H' S' o' e' x z => r.ex σ G' ps H' ρ S' C pl dd o' e' x z⟩
/-- list(x), x a list or a tuple: a fresh list -/
theorem ef_listOf {Q : List D → List Ce → Prop} (hm : c.X.mg "list" = none) (h : EX c e ρ S Z fun d S1 => ∃ ds, (d = .lst ds ∨ d = .sq ds ∨ d = .tup ds) ∧ Q ds S1) (hg : Gl c.X "list" := by rfl) (hpl : (backTo pos (starEach [] c.X.env)).any (·.1) = false := by rfl)
    (he : starEach [e] c.X.env = (false, eval e c.X.env) :: starEach [] c.X.env := by rfl) : EF c (.Call (.Name "list" p1) [e] [] pos) ρ S Z Q := fun σ G ps H k o kn kx =>
  ⟨_, pe_callTy call_list_of hg hm (by decide +kernel) (pa_cons we_pe pa_nil he) (he := he) (hpl := hpl), h σ G ps H _ o (fun v G1 H1 d S1 o1 e1 a1 ⟨ds, ed, q⟩ => by
    have z : ∃ p vs, v = .ref p ∧ (SqL c.X.K G1 p vs ∨ SqT c.X.K G1 p vs) ∧ AtDs c.X.K G1 vs ds := by
      rcases ed with rfl | rfl | rfl
      · cases a1 with
        | lst h hs => exact ⟨_, _, rfl, .inl (SqL.of h), hs⟩
      · cases a1 with
        | sq h hs => exact ⟨_, _, rfl, .inl h, hs⟩
      · cases a1 with
        | tup h hs => exact ⟨_, _, rfl, .inr h, hs⟩
    obtain ⟨p, vs, rfl, hq, hv⟩ := z
    exact ⟨p, vs, rfl, hq.imp (fun y => o1.sub.sl y) (fun y => o1.sub.st y), fun l hl => kn l vs G1 H1 ds S1 o1 e1 hl hv q⟩) kx⟩
/-- tuple(x) -/
theorem ex_tupOf (hm : c.X.mg "tuple" = none) (h : EX c e ρ S Z fun d S1 => ∃ ds, (d = .lst ds ∨ d = .tup ds) ∧ Q (.tup ds) S1) (hg : Gl c.X "tuple" := by rfl) (he : starEach [e] c.X.env = (false, eval e c.X.env) :: starEach [] c.X.env := by rfl) :
    EX c (.Call (.Name "tuple" p1) [e] [] pos) ρ S Z Q := fun σ G ps H k o kn kx =>
  ⟨_, pe_tupleOf hg hm we_pe he, h σ G ps H _ o (fun v G1 H1 d S1 o1 e1 a1 ⟨ds, ed, q⟩ => by
    rcases ed with rfl | rfl
    · cases a1 with
      | @lst p vs _ h hs =>
        exact .inl ⟨_, _, rfl, SqL.of (o1.sub _ _ h), fun r hr => kn (.ref r) _ _ _ S1 (o1.put (.tup vs) hr) (e1.trans (Ex.new (o1.sub.back hr))) (.tup (SqT.of upd_same) (hs.mono (Ex.new (o1.sub.back hr)))) q⟩
    · cases a1 with
      | tup h hs => exact .inr ⟨_, _, rfl, o1.sub.st h, kn _ G1 H1 _ S1 o1 e1 (.tup h hs) q⟩) kx⟩
/-- {} -/
theorem ex_dict0 (q : Q (.dct []) S) : EX c (.Dict [] [] pos) ρ S Z Q := fun σ G ps H k o kn _ =>
  ⟨_, pe_dnewK, fun p hp => kn _ _ _ _ S (o.put (.dK []) hp) (Ex.new (o.sub.back hp)) (.dct upd_same .nil) q⟩
/-- list(range(a, b)) -/
theorem vals_rgs {K : PySem.W.Frag} {G : Hp} (lo : Int) : ∀ n : Nat, AtDs K G ((List.range n).map fun (i : Nat) => V.int (lo + (i : Int))) (rgs lo n) := by
  intro n
  unfold rgs
  induction List.range n with
  | nil => exact .nil
  | cons i r ih => exact .cons (.int _) ih
theorem ef_listRg2 {Q : List D → List Ce → Prop} {p3 p4 : Pos} (hc : c.X.calm = true) (hl : c.X.mg "list" = none) (hm : c.X.mg "range" = none) (h : EX c a ρ S Z fun d1 S1 => EX c b ρ S1 Z fun d2 S2 => ∃ i j, d1 = .int i ∧ d2 = .int j ∧ RgOk i j ∧ Q (rgs i (j - i).toNat) S2)
    (hg : Gl c.X "list" := by rfl) (hg2 : Gl c.X "range" := by rfl) (na : starEach [a, b] c.X.env = (false, eval a c.X.env) :: starEach [b] c.X.env := by rfl) (nb : starEach [b] c.X.env = (false, eval b c.X.env) :: starEach [] c.X.env := by rfl)
    (hp : (backTo p3 (starEach [b] c.X.env)).any (·.1) = false := by rfl) (nr : starEach [.Call (.Name "range" p4) [a, b] [] p3] c.X.env = (false, eval (.Call (.Name "range" p4) [a, b] [] p3) c.X.env) :: starEach [] c.X.env := by rfl) :
    EF c (.Call (.Name "list" p1) [.Call (.Name "range" p4) [a, b] [] p3] [] pos) ρ S Z Q := fun σ G ps H k o kn kx =>
  ⟨_, pe_listRg hc hg hl (prg_2 hg2 hm we_pe we_pe na nb hp) nr, h σ G ps H _ o (fun v G1 H1 d1 S1 o1 e1 a1 q1 => q1 σ G1 ps H1 _ o1 (fun v2 G2 H2 d2 S2 o2 e2 a2 ⟨i, j, ed1, ed2, ok, q⟩ => by
    subst ed1 ed2
    cases a1; cases a2
    exact ⟨i, j, rfl, rfl, ok, fun r hr => kn r _ G2 H2 _ S2 o2 (e1.trans e2) hr (vals_rgs i _) q⟩) fun C pl dd G' H' S' o' e' => kx C pl dd G' H' S' o' (e1.trans e')) kx⟩
/-- slices -/
def cutD (xs : List D) (lo hi : Option Int) : List D := (xs.drop (HT.sIx xs.length 0 lo)).take (HT.sIx xs.length xs.length hi - HT.sIx xs.length 0 lo)
theorem AtDs.cut {K : PySem.W.Frag} {G : Hp} {vs : List V} {ds : List D} (h : AtDs K G vs ds) (lo hi : Option Int) : AtDs K G (cutV vs lo hi) (cutD ds lo hi) := by
  unfold cutV cutD
  rw [h.len]
  exact (h.drop _).take _
def OXr (c : Cz) (o : Option Expr) (ρ : List Sl) (S : List Ce) (Z : XP) (Q : Option Int → List Ce → Prop) : Prop :=
  (o = none ∧ Q none S) ∨ ∃ e, o = some e ∧ EX c e ρ S Z fun d S1 => ∃ n, d = .int n ∧ Q (some n) S1
def WO (X : Cx) (o : Option Expr) : TO := fun σ H Q => ∃ t, PO X o t ∧ t σ H Q
theorem wo_po {X : Cx} {o : Option Expr} : PO X o (WO X o) := ⟨fun pins s σ H Q I ⟨t, h, q⟩ => h.run pins s σ H Q I q⟩
theorem ox_run {o : Option Expr} {Qo : Option Int → List Ce → Prop} (h : OXr c o ρ S Z Qo) {σ : L2.St} {G : Hp} {ps : List Addr} {H : Hp} {k : Option Int → Hp → Prop} (ok : SOk c.X.K c.F G ps ρ S σ H)
    (kn : ∀ n G' H' S', SOk c.X.K c.F G' ps ρ S' σ H' → Ex G G' → Qo n S' → k n H') (kx : ∀ C pl dd G' H' S', SOk c.X.K c.F G' ps ρ S' σ H' → Ex G G' → ExcAt c.X.K G' dd pl → Z C pl ρ S' → c.W (.ref C) dd σ H') : WO c.X o σ H k := by
  rcases h with ⟨rfl, q⟩ | ⟨e, rfl, h⟩
  · exact ⟨_, po_none, kn none G H S ok (Ex.refl G) q⟩
  · exact ⟨_, po_some we_pe, h σ G ps H _ ok (fun v G1 H1 d S1 o1 e1 a1 ⟨n, ed, q⟩ => by
      subst ed
      cases a1
      exact ⟨n, rfl, kn (some n) G1 H1 S1 o1 e1 q⟩) kx⟩
theorem ex_slT {lo hi : Option Expr} (h : EX c e ρ S Z fun d S1 => ∃ ds, d = .tup ds ∧ OXr c lo ρ S1 Z fun i S2 => OXr c hi ρ S2 Z fun j S3 => Q (.tup (cutD ds i j)) S3) : EX c (.Subscript e (.Slice lo hi none p2) pos) ρ S Z Q := fun σ G ps H k o kn kx =>
  ⟨_, pe_slice sl_tupA we_pe wo_po wo_po, h σ G ps H _ o (fun v G1 H1 d S1 o1 e1 a1 ⟨ds, ed, h2⟩ => by
    subst ed
    cases a1 with
    | @tup p vs _ hl hv =>
      refine ox_run h2 o1 (fun i G2 H2 S2 o2 e2 h3 => ox_run h3 o2 (fun j G3 H3 S3 o3 e3 q => ?_) fun C pl dd G' H' S' o' e' => kx C pl dd G' H' S' o' ((e1.trans e2).trans e')) fun C pl dd G' H' S' o' e' => kx C pl dd G' H' S' o' (e1.trans e')
      have eg := e2.trans e3
      have hl3 := eg.st hl
      have hv3 := hv.mono eg
      refine ⟨p, vs, rfl, o3.sub.st hl3, fun w => ?_, fun _ r hr => ?_⟩
      · have hc : cutD ds i j = ds := by
          unfold cutD
          rw [hv.len] at w
          rw [w.1, w.2, List.drop_zero, Nat.sub_zero, List.take_length]
        rw [hc] at q
        exact kn _ G3 H3 _ S3 o3 (e1.trans eg) (.tup hl3 hv3) q
      · exact kn _ _ _ _ S3 (o3.put (.tup (cutV vs i j)) hr) ((e1.trans eg).trans (Ex.new (o3.sub.back hr))) (.tup (SqT.of upd_same) ((hv3.cut i j).mono (Ex.new (o3.sub.back hr)))) q) kx⟩
end
/-! repr of flat things -/
section
variable {X : Cx} {K : PySem.W.Frag} {S : List Ce}
def reprV : V → Option Str
  | .non => some "None"
  | .bl b => some (if b then "True" else "False")
  | .int i => if i.natAbs.log2 < 1920 then some (toString i) else none
  | .str s => if (PySem.reprText s).length ≤ sizeLine then some (PySem.reprText s) else none
  | _ => none
def rReprV : List V → Hp → VK → Prop := fun xs H Q => ∃ x s, xs = [x] ∧ reprV x = some s ∧ Q (.str s) H
theorem cr_repr : CallR X (.builtin "repr") rReprV := by
  intro pins s σ H xs us Q I r h
  obtain ⟨x, z, e, hz, q⟩ := h
  subst e
  obtain ⟨u, e, rx⟩ := vals1 r
  subst e
  cases x with
  | non =>
    cases hz
    cases (show u = Value.none from rx)
    exact PySem.P.repr_of_none ⟨.str _, H, I.tok _, ⟨_, rfl⟩, q⟩
  | bl b =>
    cases hz
    cases (show u = Value.bool b from rx)
    exact PySem.P.repr_of_bool ⟨.str _, H, I.tok _, ⟨_, rfl⟩, q⟩
  | int i =>
    obtain ⟨t, e⟩ := (show ∃ t, u = Value.int i t from rx)
    subst e
    have hz : (if i.natAbs.log2 < 1920 then some (toString i : Str) else none) = some z := hz
    by_cases h : i.natAbs.log2 < 1920
    · rw [if_pos h] at hz
      cases hz
      exact PySem.P.repr_of_int h ⟨.str _, H, I.tok _, ⟨_, rfl⟩, q⟩
    · rw [if_neg h] at hz; cases hz
  | str y =>
    obtain ⟨t, e⟩ := (show ∃ t, u = Value.str y t from rx)
    subst e
    have hz : (if (PySem.reprText y).length ≤ sizeLine then some (PySem.reprText y) else none) = some z := hz
    by_cases h : (PySem.reprText y).length ≤ sizeLine
    · rw [if_pos h] at hz
      cases hz
      exact PySem.P.repr_of_str ⟨.str _, H, I.tok _, ⟨_, rfl⟩, q⟩ h
    · rw [if_neg h] at hz; cases hz
  | byt b => cases hz
  | flt b => cases hz
  | ref b => cases hz
  | ty b => cases hz
theorem cd_repr {d : D} {v : V} {z : Str} (h : flatD d = some v) (hz : reprV v = some z) : CD K rReprV [.dat d] S (.str z) := fun F G ps ρ σ H vs k o a0 q => by
  obtain ⟨u, rfl, a⟩ := at1 a0
  obtain ⟨e, _⟩ := flatD_ok a h
  subst e
  exact ⟨u, z, rfl, hz, q _ G H (.refl _ _) (.str _)⟩
/-! repetition -/
def repS (s : Str) (n : Int) : Str := ⟨(List.replicate n.toNat s.cps).foldl (· ++ ·) #[]⟩
theorem rep_size (a : Array Nat) : ∀ (m : Nat) (acc : Array Nat), ((List.replicate m a).foldl (· ++ ·) acc).size = acc.size + m * a.size := by
  intro m
  induction m with
  | zero => intro acc; simp
  | succ m ih =>
    intro acc
    rw [List.replicate_succ, List.foldl_cons, ih, Array.size_append, Nat.succ_mul]
    omega
theorem repS_len (s : Str) (n : Int) : (repS s n).length = n.toNat * s.length := by
  show ((List.replicate n.toNat s.cps).foldl (· ++ ·) #[]).size = _
  rw [rep_size]
  show 0 + _ = _
  rw [Nat.zero_add]
  rfl
def rRepS : R2 := fun x y H Q => ∃ s n, x = .str s ∧ y = .int n ∧ 2 ≤ n ∧ n ≤ 100000 ∧ 0 < s.length ∧ s.length ≤ 100 ∧ Q (.str (repS s n)) H
theorem op_repS : OpR X (binaryOp .Mult) rRepS := by
  intro pins s σ H x y v u Q I rx ry h
  obtain ⟨z, n, e1, e2, h1, h2, h3, h4, q⟩ := h
  subst e1 e2
  obtain ⟨t, e⟩ := rx
  obtain ⟨t', e'⟩ := ry
  subst e e'
  have nz : (n == 1 || z.length == 0) = false := by
    have a1 : (n == 1) = false := beq_eq_false_iff_ne.mpr (by omega)
    have a2 : (z.length == 0) = false := beq_eq_false_iff_ne.mpr (by omega)
    rw [a1, a2] <;> rfl
  refine PySem.P.mul_str (by rw [decide_eq_false (by omega), decide_eq_false (by omega)] <;> rfl) (fun _ _ => ?_) (fun _ _ => ?_) ?_
  · have d1 : (92233720368547 : Int) ≤ (2 ^ 63 - 1) / n := (Int.le_ediv_iff_mul_le (by omega)).mpr (by omega)
    omega
  · unfold Builtin.Str.tooLong
    refine decide_eq_false ?_
    have a1 : z.length * n.toNat ≤ 100 * 100000 := Nat.mul_le_mul h4 (by omega)
    rw [sizeLine_eq]
    omega
  · rw [if_neg (by omega), if_neg (by rw [nz]; decide)]
    refine ⟨?_, ⟨.str (repS z n), H, I.tok _, ⟨_, rfl⟩, q⟩⟩
    show (repS z n).length ≤ sizeLine
    rw [repS_len, sizeLine_eq]
    have a1 : n.toNat * z.length ≤ 100000 * 100 := Nat.mul_le_mul (by omega) h4
    omega
def rRepTu (K : PySem.W.Frag) : R2 := fun x y H Q => ∃ (l : Addr) (k : Int) (xs : List V), x = .ref l ∧ y = .int k ∧ SqT K H l xs ∧ xs ≠ [] ∧ 2 ≤ k ∧ k ≤ 100000 ∧ xs.length ≤ 100 ∧ ∀ p, H p = none → Q (.ref p) (upd H p (.tup (List.replicate k.toNat xs).flatten))
theorem op_repTu : OpR X (binaryOp .Mult) (rRepTu X.K) := by
  intro pins s σ H x y v u Q I rx ry h
  obtain ⟨l, k, xs, e1, e2, hT, hne, h1, h2, hz, q⟩ := h
  subst e1 e2
  cases rx
  obtain ⟨t, e⟩ := ry
  subst e
  obtain ⟨its, r, tp, hs⟩ := I.tuple hT
  obtain ⟨⟨cls, dd, data, sl⟩, ho, hc, n, hd⟩ := tp
  dsimp only at hc hd
  subst hc hd
  have len : its.length = xs.length := r.length.symm
  have some1 : its.toArray.isEmpty = false := by
    cases its with
    | nil => exact absurd (List.eq_nil_of_length_eq_zero len.symm) hne
    | cons a b => rfl
  have size : its.toArray.size = xs.length := by rw [List.size_toArray, len]
  have prod : xs.length * k.toNat ≤ 100 * 100000 := Nat.mul_le_mul hz (by omega)
  have prodI : ((its.toArray.size : Nat) : Int) * k ≤ 10000000 := by
    rw [size]
    have e : ((xs.length * k.toNat : Nat) : Int) = (xs.length : Int) * k := by rw [Int.natCast_mul, Int.toNat_of_nonneg (by omega)]
    rw [← e]
    omega
  have flat : (List.replicate k.toNat its).flatten.length ≤ sizeLine := by
    rw [PyProof.Rows.lm_len_rep_flat, len, sizeLine_eq, Nat.mul_comm]
    omega
  have t0 : (decide (k < -(2 ^ 63)) || decide (k ≥ 2 ^ 63)) = false := by rw [decide_eq_false (by omega), decide_eq_false (by omega)] <;> rfl
  have t1 : (its.toArray.isEmpty || k == 1) = false := by rw [some1, Bool.false_or, beq_eq_false_iff_ne]; omega
  have t2 : (decide (k ≤ 0) || its.toArray.isEmpty) = false := by rw [some1, Bool.or_false, decide_eq_false_iff_not]; omega
  have t4 : Builtin.Tuple.tupleTooMany (((its.toArray.size : Nat) : Int) * k) = false := by
    show decide (_ > (sizeLine : Int)) = false
    rw [sizeLine_eq, decide_eq_false_iff_not]
    omega
  have made := tuple_mulW l its.toArray n dd sl k t t0 t1 t2 (by omega) t4 (by rw [size_rep, List.size_toArray]; exact flat)
  refine wpAny_binaryOp_repeat_ref (T := "tuple") (U := "int") (by decide) ⟨_, ho, rfl⟩ (fun s' => typeIs_int s' k t) noFill_tuple_mul F.fills_int_mul F.slot_int_rmul repeat_tuple F.slot_int_index.lookup
    (PySem.call_meets F.slot_int_rmul (typeIs_int s k t) F.entry_int_rmul (F.args_int_rmul_2 _ _) (int_rmul_tuple k t l its.toArray n dd sl) ⟨ho, rfl, ⟨_, ho, rfl⟩, PySem.call_meets F.slot_tuple_mul ⟨_, ho, rfl⟩ F.entry_tuple_mul (F.args_tuple_mul_2 _ _) made ⟨ho, ?_⟩⟩)
  rw [size_rep]
  have new : ObjOk X.prog X.w (upd H s.heap.objs.size (.tup (List.replicate k.toNat xs).flatten)) (s.heap.push { cls := .type "tuple", data := .seq (List.replicate k.toNat its).flatten.toArray }) s.heap.objs.size (.tup (List.replicate k.toNat xs).flatten) :=
    ⟨by rw [PyProof.Rows.lm_len_rep_flat, sizeLine_eq, Nat.mul_comm]; omega, _, r.rep k.toNat, PyProof.Rows.IsTup.new _ _⟩
  exact ⟨.ref s.heap.objs.size, _, I.laid (t' := s.toks) (fun b ob z => Heap.get?_push_of_some _ z) (Nat.le_refl _) new, rfl, q _ (I.hok.fresh (Nat.le_refl _))⟩
theorem AtDs.rep {K : PySem.W.Frag} {G : Hp} {vs : List V} {ds : List D} (h : AtDs K G vs ds) : ∀ m : Nat, AtDs K G (List.replicate m vs).flatten (List.replicate m ds).flatten
  | 0 => .nil
  | m + 1 => by
    rw [List.replicate_succ, List.replicate_succ, List.flatten_cons, List.flatten_cons]
    exact h.append (h.rep m)
/-! all the products -/
def rMulA (K : PySem.W.Frag) : R2 := fun x y H Q => rMulN x y H Q ∨ rRepS x y H Q ∨ rRepTu K x y H Q ∨ rRep x y H Q
theorem opMulA : OpR X (binaryOp .Mult) (rMulA X.K) := OpR.or op_mulW (OpR.or op_repS (OpR.or op_repTu op_rep))
theorem rd_mulII {i j : Int} (h : CMulW i j) : RD K (rMulA K) (.int i) (.int j) (.int (i * j)) := RD.left (rd_mulI h)
theorem rd_mulS {s : Str} {n : Int} (h1 : 2 ≤ n) (h2 : n ≤ 100000) (h3 : 0 < s.length) (h4 : s.length ≤ 100) : RD K (rMulA K) (.str s) (.int n) (.str (repS s n)) := RD.right (RD.left fun G H x y k e a b q => by
  cases a; cases b
  exact ⟨s, n, rfl, rfl, h1, h2, h3, h4, q _ G H (.refl _ _) (.str _)⟩)
theorem rd_mulT {ds : List D} {n : Int} (h1 : 2 ≤ n) (h2 : n ≤ 100000) (h3 : ds ≠ []) (h4 : ds.length ≤ 100) : RD K (rMulA K) (.tup ds) (.int n) (.tup (List.replicate n.toNat ds).flatten) := RD.right (RD.right (RD.left fun G H x y k e a b q => by
  cases b
  cases a with
  | @tup p vs _ h hs =>
    refine ⟨p, n, vs, rfl, rfl, e.st h, fun z => h3 ?_, h1, h2, by rw [hs.len]; exact h4, fun r hr => q _ _ _ (.one hr) (.tup (SqT.of upd_same) ((hs.rep _).mono (Ex.new (e.back hr))))⟩
    subst z
    cases hs
    rfl))
theorem rd_mulL {ds : List D} {n : Int} (h1 : 0 ≤ n) (h2 : n ≤ 100000) (h4 : ds.length ≤ 100) : RD K (rMulA K) (.lst ds) (.int n) (.lst (List.replicate n.toNat ds).flatten) := RD.right (RD.right (RD.right fun G H x y k e a b q => by
  cases b
  cases a with
  | @lst p vs _ h hs =>
    have z : vs.length * n.toNat ≤ 100 * 100000 := Nat.mul_le_mul (by rw [hs.len]; exact h4) (by omega)
    refine ⟨p, n, vs, rfl, rfl, e _ _ h, by omega, by omega, by rw [sizeLine_eq]; omega, fun r hr => q _ _ _ (.one hr) (.lst upd_same ((hs.rep _).mono (Ex.new (e.back hr))))⟩))
end
end Lay

namespace Lay
open PySem PySem.Spec L2
/-! short words -/
section
variable {c : Cz} {ρ : List Sl} {S : List Ce} {P : Post} {Z : XP} {Q : D → List Ce → Prop} {a b e : Expr} {es : List Expr} {pos p1 p2 : Pos} {scope : Scope} {elt iter : Expr} {ifs : List Expr} {own : List (Str × Nat)} {x : Str} {Qf : List D → List Ce → Prop}
/-- and, or of bools that are known as a whole -/
theorem ex_andB (u : Bool) (h : EX c a ρ S Z fun d S1 => ∃ t, d = .bl t ∧ (t = true → EX c (.BoolOp .And (b :: es) pos) ρ S1 Z fun d2 S2 => d2 = .bl u ∧ S2 = S1) ∧ Q (.bl (t && u)) S1) : EX c (.BoolOp .And (a :: b :: es) pos) ρ S Z Q :=
  ex_and (fun σ G ps H k o kn kx => h σ G ps H k o (fun v G' H' d S' o' e' a' ⟨t, ed, h1, q⟩ => kn v G' H' d S' o' e' a' ⟨t, ed, fun ht => fun σ2 G2 ps2 H2 k2 o2 kn2 kx2 => h1 ht σ2 G2 ps2 H2 k2 o2 (fun v G' H' d S'' o' e' a' ⟨q1, q2⟩ => kn2 v G' H' d S'' o' e' a' (by
    subst q1 q2
    subst ht
    exact q)) kx2, fun ht => by
    subst ht
    exact q⟩) kx)
theorem ex_orB (u : Bool) (h : EX c a ρ S Z fun d S1 => ∃ t, d = .bl t ∧ (t = false → EX c (.BoolOp .Or (b :: es) pos) ρ S1 Z fun d2 S2 => d2 = .bl u ∧ S2 = S1) ∧ Q (.bl (t || u)) S1) : EX c (.BoolOp .Or (a :: b :: es) pos) ρ S Z Q :=
  ex_or (fun σ G ps H k o kn kx => h σ G ps H k o (fun v G' H' d S' o' e' a' ⟨t, ed, h1, q⟩ => kn v G' H' d S' o' e' a' ⟨t, ed, fun ht => fun σ2 G2 ps2 H2 k2 o2 kn2 kx2 => h1 ht σ2 G2 ps2 H2 k2 o2 (fun v G' H' d S'' o' e' a' ⟨q1, q2⟩ => kn2 v G' H' d S'' o' e' a' (by
    subst q1 q2
    subst ht
    exact q)) kx2, fun ht => by
    subst ht
    exact q⟩) kx)
/-- a op1 b op2 c, as a whole -/
theorem ex_chainB (u : Bool) {op op' : CmpOp} {r r' : R2} {d : Expr} (ho : OpR c.X (compareOp op) r) (ho' : OpR c.X (compareOp op') r')
    (h : EX c a ρ S Z fun d1 S1 => EX c b ρ S1 Z fun d2 S2 => ∃ t, RD c.X.K r d1 d2 (.bl t) ∧ (t = true → EX c d ρ S2 Z fun d3 S3 => RD c.X.K r' d2 d3 (.bl u) ∧ S3 = S2) ∧ Q (.bl (t && u)) S2)
    (hm : lastMarks [op, op'] [b, d] = false := by with_unfolding_all rfl) : EX c (.Compare a [op, op'] [b, d] pos) ρ S Z Q :=
  ex_chain ho ho' (fun σ G ps H k o kn kx => h σ G ps H k o (fun v G' H' d1 S' o' e' a' h1 => kn v G' H' d1 S' o' e' a' fun σ2 G2 ps2 H2 k2 o2 kn2 kx2 => h1 σ2 G2 ps2 H2 k2 o2 (fun v G' H' d2 S'' o' e' a' ⟨t, hr, h2, q⟩ => kn2 v G' H' d2 S'' o' e' a' ⟨t, hr, fun ht => fun σ3 G3 ps3 H3 k3 o3 kn3 kx3 => h2 ht σ3 G3 ps3 H3 k3 o3 (fun v G' H' d3 S3 o' e' a' ⟨q1, q2⟩ => kn3 v G' H' d3 S3 o' e' a' ⟨_, q1, by
    subst q2
    subst ht
    exact q⟩) kx3, fun ht => by
    subst ht
    exact q⟩) kx2) kx) hm
theorem tx_chainB (u : Bool) {op op' : CmpOp} {r r' : R2} {d : Expr} {Q : Bool → List Ce → Prop} (ho : OpR c.X (compareOp op) r) (ho' : OpR c.X (compareOp op') r')
    (h : EX c a ρ S Z fun d1 S1 => EX c b ρ S1 Z fun d2 S2 => ∃ t, RD c.X.K r d1 d2 (.bl t) ∧ (t = true → EX c d ρ S2 Z fun d3 S3 => RD c.X.K r' d2 d3 (.bl u) ∧ S3 = S2) ∧ Q (t && u) S2)
    (hm : lastMarks [op, op'] [b, d] = false := by with_unfolding_all rfl) : TX c (.Compare a [op, op'] [b, d] pos) ρ S Z Q :=
  tx_chain ho ho' (fun σ G ps H k o kn kx => h σ G ps H k o (fun v G' H' d1 S' o' e' a' h1 => kn v G' H' d1 S' o' e' a' fun σ2 G2 ps2 H2 k2 o2 kn2 kx2 => h1 σ2 G2 ps2 H2 k2 o2 (fun v G' H' d2 S'' o' e' a' ⟨t, hr, h2, q⟩ => kn2 v G' H' d2 S'' o' e' a' ⟨t, hr, fun ht => fun σ3 G3 ps3 H3 k3 o3 kn3 kx3 => h2 ht σ3 G3 ps3 H3 k3 o3 (fun v G' H' d3 S3 o' e' a' ⟨q1, q2⟩ => kn3 v G' H' d3 S3 o' e' a' ⟨_, q1, by
    subst q2
    subst ht
    exact q⟩) kx3, fun ht => by
    subst ht
    exact q⟩) kx2) kx) hm
/-- tests as a whole -/
theorem wx_orB (u : Bool) {Q : Bool → List Ce → Prop} (h : TX c a ρ S Z fun t S1 => (t = false → WX' c (.BoolOp .Or (b :: es) pos) ρ S1 Z fun x S2 => x = u ∧ S2 = S1) ∧ Q (t || u) S1) : WX' c (.BoolOp .Or (a :: b :: es) pos) ρ S Z Q :=
  wx_or (fun σ G ps H k o kn kx => h σ G ps H k o (fun t G' H' S' o' e' ⟨h1, q⟩ => kn t G' H' S' o' e' ⟨fun ht => fun σ2 G2 ps2 H2 k2 o2 kn2 kx2 => h1 ht σ2 G2 ps2 H2 k2 o2 (fun x G' H' S'' o' e' ⟨q1, q2⟩ => kn2 x G' H' S'' o' e' (by
    subst q1 q2
    subst ht
    exact q)) kx2, fun ht => by
    subst ht
    exact q⟩) kx)
theorem wx_andB (u : Bool) {Q : Bool → List Ce → Prop} (h : TX c a ρ S Z fun t S1 => (t = true → WX' c (.BoolOp .And (b :: es) pos) ρ S1 Z fun x S2 => x = u ∧ S2 = S1) ∧ Q (t && u) S1) : WX' c (.BoolOp .And (a :: b :: es) pos) ρ S Z Q :=
  wx_and (fun σ G ps H k o kn kx => h σ G ps H k o (fun t G' H' S' o' e' ⟨h1, q⟩ => kn t G' H' S' o' e' ⟨fun ht => fun σ2 G2 ps2 H2 k2 o2 kn2 kx2 => h1 ht σ2 G2 ps2 H2 k2 o2 (fun x G' H' S'' o' e' ⟨q1, q2⟩ => kn2 x G' H' S'' o' e' (by
    subst q1 q2
    subst ht
    exact q)) kx2, fun ht => by
    subst ht
    exact q⟩) kx)
theorem EX.imp {Q' : D → List Ce → Prop} (h : EX c e ρ S Z Q) (hq : ∀ d S', Q d S' → Q' d S') : EX c e ρ S Z Q' := fun σ G ps H k o kn kx => h σ G ps H k o (fun v G' H' d S' o' e' a' q => kn v G' H' d S' o' e' a' (hq d S' q)) kx
/-- [elt for x in ..], elt a function of the item that changes nothing -/
theorem ef_map (j : Nat) (hc : c.X.calm = true) (hN : c.X.N.Nodup) (ok : BlkOk c.X.N c.X.env.scope scope own) (ho : own.map (·.2) = [j])
    (hg : ∀ (s : Shared) (H : Hp) (C : Addr) (cl : List (Str × Addr)) (fp : List Addr), PG (c.X.blk s H scope (compEnvC scope cl C c.X.env) fp) (.Name x p2) (gName j))
    (h : IX c (.Name x p2) iter ρ S Z fun ds S1 => ds.length < 1000000 ∧ ∃ g : D → D, (∀ x ∈ ds, ∀ acc s H C cl fp, EX (c.blk s H scope cl C fp) elt (ρ.set j (.dat x)) (S1 ++ [.lst acc]) X0 fun y S2 => y = g x ∧ S2 = S1 ++ [.lst acc]) ∧ Qf (ds.map g) S1)
    (hs : ∀ x, foldedSetIterable iter c.X.env x = pure x := by intro _; rfl) : EF c (.ListComp elt [⟨.Name x p2, iter, [], 0⟩] scope pos) ρ S Z Qf :=
  ef_lc j hc hN ok ho (.inr rfl) hg (fun σ G ps H R o kn kx => h σ G ps H R o (fun J G' H' ds S1 o' e' wk ⟨hl, g, hg, q⟩ => kn J G' H' ds S1 o' e' wk ⟨fun i acc S => acc = (ds.take i).map g ∧ S = S1, ⟨⟨rfl, rfl⟩, hl, fun i x acc S' hx ⟨h1, h2⟩ hz s H C cl fp => ⟨fun _ => by
    subst h1 h2
    refine (hg x (List.mem_of_getElem? hx) _ s H C cl fp).imp fun y S2 ⟨e1, e2⟩ => ⟨S', e2, ⟨?_, rfl⟩, ?_⟩
    · rw [e1, List.take_succ, hx, List.map_append] <;> rfl
    · rw [List.length_append, List.length_map] at *
      simp
      omega, fun t ht => (nomatch ht)⟩, fun acc S' ⟨h1, h2⟩ => by
    subst h1 h2
    rw [List.take_length]
    exact q⟩⟩) kx) hs
end
end Lay

set_option maxHeartbeats 1000000
namespace Lay
open PySem PySem.Spec L2
/-! the least of a tuple of ints -/
section
variable {prog : Program} {w : World} {A : Around} {E : Value → Shared → Prop} {s : Shared}
theorem min_tupI {t : Addr} {its : List Value} {ns : List Int} {Q : Value → Shared → Prop} (hh : A.handled = none) (ht : s.heap.IsTuple t its.toArray) (hi : PyProof.Rows.IntsAre its ns) (hne : 0 < ns.length)
    (h : ∀ h' tk M t', (∀ b o, s.heap.get? b = some o → h'.get? b = some o) → M ∈ ns → (∀ a, a ∈ ns → M ≤ a) → Q (.int M t') { s with heap := h', toks := tk }) : wpAny (model prog w) A (call (.builtin "min") [.ref t]) Q E s := by
  obtain ⟨xs, e⟩ := hi.allInts.items
  have hn : numsOf (intItems xs).toList = ns := by rw [← e]; exact hi.numsOf
  rw [nums_intItems] at hn
  subst hn
  rw [e] at ht
  have pos : 0 < xs.size := by simpa using hne
  have tlt : t < s.heap.objs.size := by obtain ⟨_, g, _⟩ := ht; exact Heap.lt_size g
  refine call_min_walk (wpAny_pyIter_tuple ht ?_)
  have old : ∀ b o, s.heap.get? b = some o → (s.heap.push { cls := .type "tuple_iterator", data := .fields #[.ref t, .int 0 0] }).get? b = some o := fun b o g => Heap.get?_push_of_some _ g
  have sz : (s.heap.push { cls := .type "tuple_iterator", data := .fields #[.ref t, .int 0 0] }).objs.size = s.heap.objs.size + 1 := Heap.size_push ..
  refine ⟨s.heap.objs.size, [s.heap.objs.size, t], [s.heap.objs.size], _, _, _, _, rfl, Walks.tuple (A := A.in1) hh _ t (Nat.ne_of_lt tlt) (intItems xs), ⟨⟨_, Heap.get?_push_size _ rfl, rfl, rfl⟩, ht.push _⟩, fun c hc => ?_, by simpa [intItems] using pos, CmpOf.ints_lt (numAt xs) (fun _ _ => intItems_at), fun v h' tk hv hk => ?_⟩
  · show c < (s.heap.push _).objs.size
    rw [sz]
    rcases List.mem_cons.mp hc with rfl | hc
    · exact Nat.lt_succ_self _
    · rcases List.mem_cons.mp hc with rfl | hc
      · exact Nat.lt_succ_of_lt tlt
      · cases hc
  · have keep : ∀ b o, s.heap.get? b = some o → h'.get? b = some o := fun b o g => hk b o (fun hm => by
      have z := Heap.lt_size g
      rcases List.mem_cons.mp hm with e1 | hm
      · rw [e1] at z
        exact Nat.lt_irrefl _ z
      · cases hm) (old b o g)
    have n1 : (intItems xs).size = xs.size := by simp [intItems]
    rw [n1] at hv
    obtain ⟨u, rfl⟩ := intItems_at hv
    obtain ⟨b1, b2⟩ := argBest_lt (numAt xs) (xs.size - 1)
    refine h h' tk _ u keep ?_ fun a ha => ?_
    · rw [numAt_eq]
      exact PySem.getD_mem (by rw [List.length_map, Array.length_toList]; omega)
    · obtain ⟨j, hj, rfl⟩ := mem_getD ha
      rw [List.length_map, Array.length_toList] at hj
      rw [← numAt_eq]
      exact b2 j (by omega)
end
def minL : List Int → Int
  | [] => 0
  | x :: xs => xs.foldl (fun a b => if b < a then b else a) x
theorem minL_fold : ∀ (xs : List Int) (x : Int), (xs.foldl (fun a b => if b < a then b else a) x ∈ x :: xs) ∧ ∀ y ∈ x :: xs, xs.foldl (fun a b => if b < a then b else a) x ≤ y
  | [], x => ⟨by simp, by simp⟩
  | z :: xs, x => by
    obtain ⟨h1, h2⟩ := minL_fold xs (if z < x then z else x)
    rw [List.foldl_cons]
    refine ⟨?_, fun y hy => ?_⟩
    · rcases List.mem_cons.mp h1 with e | e
      · rw [e]
        by_cases c : z < x
        · rw [if_pos c]; simp
        · rw [if_neg c]; simp
      · simp [e]
    · have h3 := h2 (if z < x then z else x) (by simp)
      have h4 : (if z < x then z else x) ≤ x ∧ (if z < x then z else x) ≤ z := by
        by_cases c : z < x
        · rw [if_pos c]; omega
        · rw [if_neg c]; omega
      simp only [List.mem_cons] at hy
      rcases hy with rfl | rfl | hy
      · omega
      · omega
      · exact h2 y (by simp [hy])
theorem minL_is {ns : List Int} {m : Int} (h1 : m ∈ ns) (h2 : ∀ y, y ∈ ns → m ≤ y) : m = minL ns := by
  cases ns with
  | nil => cases h1
  | cons x xs =>
    obtain ⟨h3, h4⟩ := minL_fold xs x
    exact Int.le_antisymm (h2 _ h3) (h4 m h1)
section
variable {X : Cx} {K : PySem.W.Frag} {S : List Ce}
def rMinT (K : PySem.W.Frag) : List V → Hp → VK → Prop := fun vs H Q => ∃ (a : Addr) (ns : List Int), vs = [V.ref a] ∧ SqT K H a (ns.map V.int) ∧ 0 < ns.length ∧ Q (.int (minL ns)) H
theorem cr_minT (hc : X.calm = true) : CallR X (.builtin "min") (rMinT X.K) := by
  intro pins s σ H vs us Q I r h
  obtain ⟨a, ns, e, hs, hn, q⟩ := h
  subst e
  obtain ⟨its, rv, ht, _⟩ := I.tuple hs
  rw [Vals.ref1 r]
  refine min_tupI (I.ok.hd hc) ht (Vals.ints rv) hn fun h' tk M t' hk hm hl => ?_
  rw [← minL_is hm hl] at q
  exact ⟨.int M, H, I.kept hk, ⟨t', rfl⟩, q⟩
theorem cd_minT {ns : List Int} (h : 0 < ns.length) : CD K (rMinT K) [.dat (.tup (ns.map D.int))] S (.int (minL ns)) := fun F G ps ρ σ H vs k o a0 q => by
  obtain ⟨v, rfl, a⟩ := at1 a0
  cases a with
  | tup e hs =>
    have := intsD hs
    subst this
    exact ⟨_, ns, rfl, o.sub.st e, h, q _ G H (.refl _ _) (.int _)⟩
theorem cd_minLst {ns : List Int} (h : 0 < ns.length) : CD K (rMin K) [.dat (.lst (ns.map D.int))] S (.int (minL ns)) := fun F G ps ρ σ H vs k o a0 q => by
  obtain ⟨v, rfl, a⟩ := at1 a0
  cases a with
  | lst e hs =>
    have := intsD hs
    subst this
    refine ⟨_, ns, rfl, SqL.of (o.sub _ _ e), h, fun m h1 h2 => ?_⟩
    rw [minL_is h1 h2]
    exact q _ G H (.refl _ _) (.int _)
end
end Lay

namespace L2
open PySem PySem.Spec PyProof.Rows
def rgCV (i c : Int) (n : Nat) : List V := (List.range n).map fun k => V.int (i + (k : Nat) * c)
theorem vals_rgC {i c : Int} {n : Nat} {acc : Array Value} (h : ItemsOf (fun k v => ∃ t, v = .int (i + k * c) t) acc n) : Vals (rgCV i c n) acc.toList := by
  have e : acc.toList.length = n := by rw [Array.length_toList]; exact h.1
  unfold rgCV
  rw [← e]
  refine vals_of_get acc.toList _ fun j u hj => ?_
  obtain ⟨t, rfl⟩ := h.2 j u (by rw [← hj, Array.getElem?_toList])
  exact ⟨t, rfl⟩
def tLstR3 (ta : TA) : TE := fun σ H Q => ta σ H fun vs H1 => ∃ (i j c : Int) (n : Nat), vs = [.int i, .int j, .int c] ∧ RgC i j c n ∧ n ≤ 2 ^ 24 ∧ ∀ q, H1 q = none → Q (.ref q) (upd H1 q (.lst (rgCV i c n)))
/-- list(range(a, b, c)) -/
theorem pe_listR3 {X : Cx} {a b c : Expr} {ta : TA} {p pos p3 p4 : Pos} (hc : X.calm = true) (hg : Gl X "list") (hm : X.mg "list" = none) (hg2 : Gl X "range") (hm2 : X.mg "range" = none) (ha : PA X [a, b, c] ta)
    (na : starEach [.Call (.Name "range" p4) [a, b, c] [] p3] X.env = (false, eval (.Call (.Name "range" p4) [a, b, c] [] p3) X.env) :: starEach [] X.env := by rfl)
    (hs : starEach [a, b, c] X.env = (false, eval a X.env) :: starEach [b, c] X.env := by rfl) (hpl : (backTo p3 (starEach [b, c] X.env)).any (·.1) = false := by rfl) :
    PE X (.Call (.Name "list" p) [.Call (.Name "range" p4) [a, b, c] [] p3] [] pos) (tLstR3 ta) := by
  refine ⟨fun pins s σ H Q I h => ?_⟩
  refine Call_ (ld_blt I hg hm boot_list (PyProof.Rows.callWith_type1 (args_cons (thn (Q := fun x s1 => ∃ r i j c n t u v H', x = .ref r ∧ IsRange s1.heap r i j c t u v ∧ Inv X pins σ H' s1 ∧ RgC i j c n ∧ n ≤ 2 ^ 24 ∧ ∀ q, H' q = none → Q (.ref q) (upd H' q (.lst (rgCV i c n)))) ?_ fun x s1 ⟨r, i, j, k, n, t, u, v, H1, ex, hr, I1, ok, nn, q⟩ => args_nil ?_) na) na))
  · refine Call_ (ld_blt I hg2 hm2 boot_range (PyProof.Rows.callWith_type1 (thn (ha.run p3 pins s σ H _ I h) fun us s1 ⟨vs, H1, I1, r1, q1⟩ => ?_) hs hpl))
    obtain ⟨i, j, k, n, e, ⟨c0, c1, c2, c3⟩, nn, q⟩ := q1
    subst e
    cases r1 with
    | cons r rr =>
      cases rr with
      | cons r' rr =>
        cases rr with
        | cons r'' rr =>
          cases rr
          obtain ⟨t, rfl⟩ := r
          obtain ⟨t', rfl⟩ := r'
          obtain ⟨t'', rfl⟩ := r''
          refine call_range_3 c0 ?_ (.inl (PyProof.noPylong_small c1))
          exact ⟨_, i, j, k, n, _, _, _, H1, rfl, IsRange.new _ _ _ _ _ _ _, I1.kept fun b u e => Heap.get?_push_of_some _ e, ⟨c0, c1, c2, c3⟩, nn, q⟩
  · subst ex
    obtain ⟨c0, c1, c2, c3⟩ := ok
    refine call_list_range (n := n) (I1.ok.hd hc) hr c2 c3 nn fun h' tk acc c' hk e' hi => ?_
    refine ⟨.ref s1.heap.objs.size, upd H1 s1.heap.objs.size (.lst (rgCV i k n)), I1.laid hk (Nat.le_refl _) (show ObjOk X.prog X.w _ _ _ (.lst (rgCV i k n)) from ⟨?_, acc.toList, c', vals_rgC hi, ?_⟩), rfl, q _ (I1.hok.fresh (Nat.le_refl _))⟩
    · unfold rgCV; rw [List.length_map, List.length_range, sizeLine_eq]; omega
    · rw [Array.toArray_toList]; exact e'
end L2
namespace Lay
open PySem PySem.Spec L2
section
variable {c : Cz} {ρ : List Sl} {S : List Ce} {a b e : Expr} {pos p1 : Pos} {Z : XP}
def rgsC (lo s : Int) (n : Nat) : List D := (List.range n).map fun k => .int (lo + (k : Nat) * s)
theorem rgsC_ok {K : PySem.W.Frag} {G : Hp} (lo s : Int) (n : Nat) : AtDs K G (rgCV lo s n) (rgsC lo s n) := by
  unfold rgCV rgsC
  induction List.range n with
  | nil => exact .nil
  | cons i r ih => exact .cons (.int _) ih
theorem ef_listRg3 {Q : List D → List Ce → Prop} {d : Expr} {p3 p4 : Pos} (hc : c.X.calm = true) (hl : c.X.mg "list" = none) (hm : c.X.mg "range" = none)
    (h : AX c [a, b, d] ρ S Z fun as S1 => ∃ i j k n, as = [.dat (.int i), .dat (.int j), .dat (.int k)] ∧ RgC i j k n ∧ n ≤ 2 ^ 24 ∧ Q (rgsC i k n) S1)
    (hg : Gl c.X "list" := by rfl) (hg2 : Gl c.X "range" := by rfl) (nr : starEach [.Call (.Name "range" p4) [a, b, d] [] p3] c.X.env = (false, eval (.Call (.Name "range" p4) [a, b, d] [] p3) c.X.env) :: starEach [] c.X.env := by rfl)
    (na : starEach [a, b, d] c.X.env = (false, eval a c.X.env) :: starEach [b, d] c.X.env := by rfl) (hp : (backTo p3 (starEach [b, d] c.X.env)).any (·.1) = false := by rfl) :
    EF c (.Call (.Name "list" p1) [.Call (.Name "range" p4) [a, b, d] [] p3] [] pos) ρ S Z Q := fun σ G ps H k o kn kx =>
  ⟨_, pe_listR3 hc hg hl hg2 hm wa_pa nr na hp, h σ G ps H _ o (fun vs G1 H1 as S1 o1 e1 a1 ⟨i, j, m, n, eas, ok, nn, q⟩ => by
    subst eas
    have z := a1.toDs (ds := [.int i, .int j, .int m]) rfl
    cases z with
    | cons z1 z =>
      cases z with
      | cons z2 z =>
        cases z with
        | cons z3 z =>
          cases z
          cases z1; cases z2; cases z3
          exact ⟨i, j, m, n, rfl, ok, nn, fun r hr => kn r _ G1 H1 _ S1 o1 e1 hr (rgsC_ok i m n) q⟩) kx⟩
end
end Lay

/-! Promises of defs that are called with no guards about (repr of lists and tuples wants that). -/
namespace Lay
open PySem PySem.Spec L2
def RunG (P : Program) (w : World) (K : PySem.W.Frag) (mg : Str → Option Value) (base : Heap) (k : Nat) (f : Addr) (sp : Sp) : Prop :=
  ∀ (A : Around) (outer : List Env) (s : Shared) (H : Hp) (us : List Value) (vs : List V) (Q : VK) (E : XK), Room k A → A.guards = some [] → Env0 P w K mg base A outer s H → Vals vs us → sp vs H Q E →
    codeAny (model P w) A (.call (.ref f) ⟨us, []⟩) (CR (L2.CX P w) outer P w H s Q E) s
section
variable {P : Program} {w : World} {K : PySem.W.Frag} {mg : Str → Option Value} {base : Heap}
theorem RunG.of {k : Nat} {f : Addr} {fd : FuncData} {ps : List Str} {sp : Sp} (F : FnOk P w K mg base (L2.CX P w) k f fd ps sp) (hb : Binds K fd ps []) : RunG P w K mg base k f sp := fun A outer s H us vs Q E hr _ e0 r hs => by
  have KX : K.In s.heap := PySem.W.Frag.In.keeps e0.mod.kin fun b o e => (e0.bs b o e).1
  have n : us.length = ps.length := r.length.symm.trans (F.len _ _ _ _ hs)
  have bb := hb s us KX (by rw [List.append_nil]; exact n)
  rw [List.append_nil] at bb
  exact F.run A outer s H ⟨us, []⟩ us vs Q E hr e0 bb r hs
theorem runG_mk {x : Str} {st : Stmt} {f : Addr} {fd : FuncData} {N ps : List Str} {k : Nat} {sp : Sp} (F : Fun K x x st f fd) (hb : Binds K fd ps []) (S : FnScope N ps (defScope st)) (len : ∀ vs H Q E, sp vs H Q E → vs.length = ps.length)
    (body : ∀ (cdv : Value) (A : Around) (outer : List Env) (s : Shared) (H : Hp) (vs : List V) (Q : VK) (E : XK), Room k (A.deeper (PyProof.Rows.envOfC x (defScope st) s.heap.objs.size f cdv)) → A.guards = some [] → sp vs H Q E →
      ∃ t, PSs (cxOf (L2.CX P w) P w K mg base N x (defScope st) f cdv A outer s H E) (defBody st) t ∧ t { nx := fun _ H' => Q .non H', rt := Q } (L2.start N vs) H) : RunG P w K mg base (k + 1) f sp := fun A outer s H us vs Q E hr hG e0 r hsp => by
  obtain ⟨oc, od, kV, doc, pm, an, cdv, ct, osl, rfl, lk, hcd⟩ := F.ex
  have old := fun (b : Addr) (o : Obj) (e : base.get? b = some o) => (e0.bs b o e).1
  have inK := PySem.W.Frag.In.keeps e0.mod.kin old
  have n := len _ _ _ _ hsp
  have bb := hb s us inK (by rw [List.append_nil]; exact r.length.symm.trans n)
  rw [List.append_nil] at bb
  have places : ∀ z ∈ ps.zip us, (defScope st).names.lookup z.1 = some .local ∨ ((defScope st).names.lookup z.1 = some .cell ∧ ((cellsFrom (s.heap.objs.size + 1) (defScope st).names []).lookup z.1).isSome = true) := by
    rintro ⟨y, u⟩ hz
    exact (S.par y (List.of_mem_zip hz).1).imp id fun c => ⟨c, PySem.W.cellsFrom_some _ _ _ (.inl c)⟩
  refine codeAny_call_function hr.depth (inK _ _ lk) rfl S.co S.gen rfl (PySem.W.codeRec_of inK hcd) (bb _ _ _ _ (wpAny_newFunctionEnv_cells S.kind places fun env he s1 ic => ?_))
  cases he
  refine ⟨(e0.mod.nolimit.keeps old).keeps ic.toInCall.keep, codeAny_func ?_⟩
  obtain ⟨t, ht, q⟩ := body cdv A outer s H vs Q E (hr.deeper _) hG hsp
  refine wpAny_mono (ht.run [] s1 (L2.start N vs) H _ (inv_start S hr.hd e0 n r ic) q) ?_ fun _ _ z => z
  intro fl s' z
  cases fl with
  | brk => obtain ⟨_, _, _, y⟩ := z; exact y.elim
  | cont => obtain ⟨_, _, _, y⟩ := z; exact y.elim
  | next =>
    obtain ⟨_, H', J, y⟩ := z
    exact ⟨.non, H', J.os, J.bare, J.base, J.hok, rfl, y⟩
  | ret u =>
    obtain ⟨v, _, H', J, rv, y⟩ := z
    exact ⟨v, H', J.os, J.bare, J.base, J.hok, rv, y⟩
/-- a def that is called with no guards about, and keeps a promise -/
def CalG (P : Program) (w : World) (K : PySem.W.Frag) (mg : Str → Option Value) (base : Heap) (k : Nat) (x : Str) (sp : Sp) : Prop :=
  ∃ f : Addr, RunG P w K mg base k f sp ∧ mg x = some (.ref f) ∧ PySem.W.keepIn K (.ref f) = true
theorem Cal.toG {k : Nat} {x : Str} {sp : Sp} (h : Cal P w K mg base k x sp) : CalG P w K mg base k x sp := by
  obtain ⟨f, fd, ps, h1, h2, h3, h4⟩ := h
  exact ⟨f, .of h1 h4, h2, h3⟩
theorem fnDG0 {x : Str} {st : Stmt} {f : Addr} {fd : FuncData} {N ps : List Str} {k n : Nat} {R : RP} (F : Fun K x x st f fd) (S : FnScope N ps (defScope st)) (hn : ps.length = n) (hN : n ≤ N.length) (hb : Binds K fd ps [])
    (body : ∀ (cdv : Value) (A : Around) (outer : List Env) (s : Shared) (H : Hp) (E : XK) (F : Fx), Room k (A.deeper (PyProof.Rows.envOfC x (defScope st) s.heap.objs.size f cdv)) → A.guards = some [] → F.P0 = [] → ∀ (ds : List D) (Pr : D → Prop) (Px : Addr → Option (Str × D) → Prop), R ds Pr Px → ds.length = n →
      SX (czOf P w K mg base N x (defScope st) f cdv A outer s H E F) (defBody st) (slots ds (N.length - n)) [] { nx := fun _ _ => Pr .non, rt := fun d _ => Pr d, ex := fun C pl _ _ => Px C pl }) :
    RunG P w K mg base (k + 1) f (spD K n R) := by
  refine runG_mk F hb S (fun vs H Q E h => ?_) (fun cdv A outer s H vs Q E hr hGu h => ?_)
  · obtain ⟨G, ds, Pr, Px, hl, _, ha, _⟩ := h
    rw [ha.len, hl, hn]
  · obtain ⟨G, ds, Pr, Px, hl, hs, ha, hR, kn, kx⟩ := h
    refine ⟨_, wss_pss, body cdv A outer s H E ⟨[], H, G⟩ hr hGu rfl ds Pr Px hR hl (L2.start N vs) G [] H _ ?_ ?_⟩
    · refine ⟨hs, Ex.refl G, fun a o _ q => q, fun a o q => .inl q, List.nil_prefix, List.nodup_nil, fun p hp => (nomatch hp), fun p hp => (nomatch hp), rfl, ?_, fun i d q => ?_, fun i k q => (slots_own q).elim, fun k p cl q => (nomatch q)⟩
      · rw [start_len (by rw [ha.len, hl]; exact hN), slots_len, hl]; omega
      · obtain ⟨v, h1, h2⟩ := ha.get (slots_get q)
        exact ⟨v, start_get h1, h2⟩
    · exact ⟨fun σ G' ps H' ρ S o _ q => kn _ G' H' _ o.base o.sub (fun a u e => o.keep a u (fun z => nomatch z) e) o.new .non q,
        fun σ G' ps H' ρ S v d o _ hv q => kn v G' H' d o.base o.sub (fun a u e => o.keep a u (fun z => nomatch z) e) o.new hv q,
        fun σ G' ps H' ρ S o _ q => q.elim, fun σ G' ps H' ρ S o _ q => q.elim,
        fun σ G' ps H' ρ S C pl dd o _ hx q => kx C pl dd G' H' o.base o.sub (fun a u e => o.keep a u (fun z => nomatch z) e) o.new hx q, fun _ _ _ _ _ _ _ _ _ _ q => q.elim⟩
theorem fnOG0 {x : Str} {st : Stmt} {f : Addr} {fd : FuncData} {N ps : List Str} {k n : Nat} {R : RP1} (F : Fun K x x st f fd) (S : FnScope N ps (defScope st)) (hn : ps.length = n + 1) (hN : n + 1 ≤ N.length) (hb : Binds K fd ps [])
    (body : ∀ (cdv : Value) (A : Around) (outer : List Env) (s : Shared) (H : Hp) (E : XK) (F : Fx), Room k (A.deeper (PyProof.Rows.envOfC x (defScope st) s.heap.objs.size f cdv)) → A.guards = some [] → F.P0.length = 1 → ∀ (cs ds : List D) (Pr : D → List D → Prop) (Px : Addr → Option (Str × D) → List D → Prop), R cs ds Pr Px → ds.length = n →
      SX (czOf P w K mg base N x (defScope st) f cdv A outer s H E F) (defBody st) (.own 0 :: slots ds (N.length - (n + 1))) [.lst cs]
        { nx := fun _ S => ∃ cs' J, S = .lst cs' :: J ∧ Pr .non cs', rt := fun d S => ∃ cs' J, S = .lst cs' :: J ∧ Pr d cs', ex := fun C pl _ S => ∃ cs' J, S = .lst cs' :: J ∧ Px C pl cs' }) :
    RunG P w K mg base (k + 1) f (spO K n R) := by
  refine runG_mk F hb S (fun vs H Q E h => ?_) (fun cdv A outer s H vs Q E hr hGu h => ?_)
  · obtain ⟨G, p, us, ws, cs, ds, Pr, Px, e, hl, _, _, _, _, ha, _⟩ := h
    rw [e, List.length_cons, ha.len, hl, hn]
  · obtain ⟨G, p, us, ws, cs, ds, Pr, Px, e, hl, hs, hG, hp, hu, ha, hR, kn, kx⟩ := h
    subst e
    have old : ∀ {H' : Hp} {ρ : List Sl} {S : List Ce} {σ : L2.St} {G' : Hp} {qs : List Addr} {cs' : List D} {J : List Ce}, SOk K ⟨[p], H, G⟩ G' qs ρ S σ H' → S = .lst cs' :: J → (∀ a o, a ≠ p → H a = some o → H' a = some o) ∧ ∃ us', H' p = some (.lst us') ∧ AtDs K G' us' cs' := by
      intro H' ρ S σ G' qs cs' J o eS
      subst eS
      refine ⟨fun a u n e => o.keep a u (fun z => n (by simpa using z)) e, ?_⟩
      obtain ⟨t, ht⟩ := o.pre
      have z : CeAt K G' H' p (.lst cs') := o.cell 0 p _ (by rw [← ht]; rfl) rfl
      exact z.2
    refine ⟨_, wss_pss, body cdv A outer s H E ⟨[p], H, G⟩ hr hGu rfl cs ds Pr Px hR hl (L2.start N (.ref p :: ws)) G [p] H _ ?_ ?_⟩
    · refine ⟨hs, Ex.refl G, fun a o _ q => q, fun a o q => .inl q, List.prefix_refl _, by simp, fun q hq => .inl hq, fun q hq => ?_, rfl, ?_, fun i d q => ?_, fun i k q => ?_, fun k q cl h1 h2 => ?_⟩
      · have : q = p := by simpa using hq
        subst this
        exact ⟨_, hp⟩
      · rw [start_len (by rw [List.length_cons, ha.len, hl]; exact hN), List.length_cons, slots_len, hl]; omega
      · cases i with
        | zero => simp at q
        | succ i =>
          obtain ⟨v, h1, h2⟩ := ha.get (slots_get (by simpa using q))
          exact ⟨v, start_get (by simpa using h1), h2⟩
      · cases i with
        | zero => simp at q; subst q; exact ⟨p, rfl, start_get rfl⟩
        | succ i => exact (slots_own (by simpa using q)).elim
      · cases k with
        | zero => simp at h1 h2; subst h1 h2; exact ⟨hG, us, hp, hu⟩
        | succ k => simp at h1
    · exact ⟨fun σ G' ps H' ρ S o _ ⟨cs', J, eS, q⟩ => by
          obtain ⟨a1, us', a2, a3⟩ := old o eS
          exact kn _ G' H' _ us' cs' o.base o.sub a1 o.new a2 a3 .non q,
        fun σ G' ps H' ρ S v d o _ hv ⟨cs', J, eS, q⟩ => by
          obtain ⟨a1, us', a2, a3⟩ := old o eS
          exact kn _ G' H' _ us' cs' o.base o.sub a1 o.new a2 a3 hv q,
        fun σ G' ps H' ρ S o _ q => q.elim, fun σ G' ps H' ρ S o _ q => q.elim,
        fun σ G' ps H' ρ S C pl dd o _ hx ⟨cs', J, eS, q⟩ => by
          obtain ⟨a1, us', a2, a3⟩ := old o eS
          exact kx C pl dd G' H' us' cs' o.base o.sub a1 o.new a2 a3 hx q, fun _ _ _ _ _ _ _ _ _ _ q => q.elim⟩
end
section
variable {X : Cx} {k : Nat} {f : Addr} {sp : Sp} {E : L2.St → XK} {x : Str} {p pos : Pos} {e : Expr} {es : List Expr} {t : TA}
theorem pe_callG (F : RunG X.prog X.w X.K X.mg X.base k f sp) (hr : Room k X.A) (hGu : X.A.guards = some []) (hg : Gl X x) (hm : X.mg x = some (.ref f)) (hk : PySem.W.keepIn X.K (.ref f) = true) (hx : ∀ σ, PassesAt (L2.CX X.prog X.w) X σ (E σ)) (ha : PA X (e :: es) t)
    (hdb : (x == ("__debug__" : Str)) = false := by decide) (he : starEach (e :: es) X.env = (false, eval e X.env) :: starEach es X.env := by rfl) (hpl : (backTo pos (starEach es X.env)).any (·.1) = false := by rfl) : PE X (.Call (.Name x p) (e :: es) [] pos) (tCallS sp E t) :=
  ⟨fun pins s σ H Q I h => wpAny_Call_Name_kw (ld_glob I hg hm (PySem.W.callWith_K (h₀ := X.base) I.ok.mod.kin hk (thn (ha.run pos pins s σ H _ I h) fun us s1 ⟨vs, H1, I1, r, q⟩ => ⟨I1.kIn,
    wpAny_call (codeAny_mono (F X.A X.stack s1 H1 us vs Q (E σ) hr hGu I1.env0 r q) fun y s' z => by
      cases y with
      | error u => exact hx σ pins H1 s1 u s' I1 z
      | ok fl => cases fl <;> first | exact I1.after z | exact (show False from z).elim)⟩) he hpl) hdb)⟩
end
section
variable {c : Cz} {ρ : List Sl} {S : List Ce} {Z : XP} {Q : D → List Ce → Prop} {e : Expr} {es : List Expr} {pos : Pos}
theorem ex_callG {k n : Nat} {x : Str} {R : RP} {p1 : Pos} (F : CalG c.X.prog c.X.w c.X.K c.X.mg c.X.base k x (spD c.X.K n R)) (hr : Room k c.X.A) (hGu : c.X.A.guards = some [])
    (h : AX c (e :: es) ρ S Z fun as S1 => ∃ ds, datas as = some ds ∧ ds.length = n ∧ R ds (fun d => Q d S1) (fun C pl => Z C pl ρ S1)) (hg : Gl c.X x := by rfl) (hdb : (x == ("__debug__" : Str)) = false := by decide)
    (he : starEach (e :: es) c.X.env = (false, eval e c.X.env) :: starEach es c.X.env := by rfl) (hpl : (backTo pos (starEach es c.X.env)).any (·.1) = false := by rfl) : EX c (.Call (.Name x p1) (e :: es) [] pos) ρ S Z Q := fun σ G ps H kk o kn kx => by
  obtain ⟨f, F, hm, hk⟩ := F
  refine ⟨_, pe_callG F hr hGu hg hm hk (fun σ => passAt c.tk σ) wa_pa (hdb := hdb) (he := he) (hpl := hpl), h σ G ps H _ o (fun vs G1 H1 as S1 o1 e1 a1 ⟨ds, hd, hl, hR⟩ => ?_) kx⟩
  exact ⟨G1, ds, _, _, hl, o1.sub, a1.toDs hd, hR, fun v G' H' d g1 g2 g3 g4 hv q => kn v G' H' d S1 (o1.called g1 g2 g3 g4) (e1.trans g1) hv q, fun C pl dd G' H' g1 g2 g3 g4 hx q => kx C pl dd G' H' S1 (o1.called g1 g2 g3 g4) (e1.trans g1) hx q⟩
theorem ex_call1G {k n : Nat} {x : Str} {R : RP1} {p1 : Pos} (F : CalG c.X.prog c.X.w c.X.K c.X.mg c.X.base k x (spO c.X.K n R)) (hr : Room k c.X.A) (hGu : c.X.A.guards = some [])
    (h : AX c (e :: es) ρ S Z fun as S1 => ∃ j as' cs ds, as = .own j :: as' ∧ datas as' = some ds ∧ ds.length = n ∧ S1[j]? = some (.lst cs) ∧ R cs ds (fun d cs' => Q d (S1.set j (.lst cs'))) (fun C pl cs' => Z C pl ρ (S1.set j (.lst cs')))) (hg : Gl c.X x := by rfl) (hdb : (x == ("__debug__" : Str)) = false := by decide)
    (he : starEach (e :: es) c.X.env = (false, eval e c.X.env) :: starEach es c.X.env := by rfl) (hpl : (backTo pos (starEach es c.X.env)).any (·.1) = false := by rfl) : EX c (.Call (.Name x p1) (e :: es) [] pos) ρ S Z Q := fun σ G ps H kk o kn kx => by
  obtain ⟨f, F, hm, hk⟩ := F
  refine ⟨_, pe_callG F hr hGu hg hm hk (fun σ => passAt c.tk σ) wa_pa (hdb := hdb) (he := he) (hpl := hpl), h σ G ps H _ o (fun vs G1 H1 as S1 o1 e1 a1 ⟨j, as', cs, ds, ea, hd, hl, hS, hR⟩ => ?_) kx⟩
  subst ea
  cases a1 with
  | cons a0 at' =>
    cases a0 with
    | own hp =>
      have z : CeAt c.X.K G1 H1 _ (.lst cs) := o1.cell j _ _ hp hS
      obtain ⟨zG, us, zH, zd⟩ := z
      exact ⟨G1, _, us, _, cs, ds, _, _, rfl, hl, o1.sub, zG, zH, zd, at'.toDs hd, hR,
        fun v G' H' d us' cs' g1 g2 g3 g4 h1 h2 hv q => kn v G' H' d _ (o1.called1 hp hS g1 g2 g3 g4 h1 h2) (e1.trans g1) hv q,
        fun C pl dd G' H' us' cs' g1 g2 g3 g4 h1 h2 hx q => kx C pl dd G' H' _ (o1.called1 hp hS g1 g2 g3 g4 h1 h2) (e1.trans g1) hx q⟩

/-- repr(e), of any data with a text -/
def rReprG (K : PySem.W.Frag) : List V → Hp → VK → Prop := fun xs H Q => ∃ (a : Addr) (d : PyData), xs = [.ref a] ∧ Dp K H (.ref a) d ∧ d.showable = true ∧ d.hasDict = false ∧ d.depth ≤ 60 ∧ d.shown.length ≤ sizeLine ∧ Q (.str d.shown) H
theorem cr_reprG {X : Cx} (hGu : X.A.guards = some []) (hu : X.A.units + 64 < cLine) : CallR X (.builtin "repr") (rReprG X.K) := by
  intro pins s σ H xs us Q I r h
  obtain ⟨a, d, e, hd, h1, h2, h3, h4, q⟩ := h
  subst e
  obtain ⟨u, e, rx⟩ := vals1 r
  subst e
  cases (show u = Value.ref a from rx)
  obtain ⟨as, R⟩ := Dp.reads I d (.ref a) (.ref a) hd rfl
  refine repr_of_reads' R h1 (fun z => by rw [h2] at z; cases z) hGu (by omega) (fun _ _ z => z) (fun h' u tk hk => ?_) h4
  exact ⟨.str _, H, I.kept hk, ⟨_, rfl⟩, q⟩
theorem cd_reprG {K : PySem.W.Frag} {S : List Ce} {d : D} {p : PyData} {n : Nat} (ho : okP n d = true) (hn : n ≤ 60) (hr : (isTupD d || isLstD d) = true) (hp : pyOf d = p) (h1 : p.showable = true) (h2 : p.hasDict = false) (h4 : p.shown.length ≤ sizeLine) : CD K (rReprG K) [.dat d] S (.str p.shown) := fun F G ps ρ σ H vs k o a0 q => by
  obtain ⟨v, rfl, a⟩ := at1 a0
  have z := okP_py n d ho
  have hd := dp_mono o.sub (toPy_ok a z.1)
  subst hp
  have : ∃ b, v = .ref b := by
    cases a with
    | tup h hs => exact ⟨_, rfl⟩
    | lst h hs => exact ⟨_, rfl⟩
    | _ => cases hr
  obtain ⟨b, rfl⟩ := this
  exact ⟨b, _, rfl, hd, h1, h2, Nat.le_trans z.2.2 hn, h4, q _ G H (.refl _ _) (.str _)⟩
end
end Lay

/-! The end of a law whose def keeps its promise with no guards about. -/
namespace Lay
open PySem PySem.Spec L2
section
variable {P : Program} {w : World} {K : PySem.W.Frag} {mg mb : Str → Option Value} {k : Nat} {fa a : Addr} {sp : Sp} {s1 : Shared} {vs : List Value} {ns : List Int}
/-- the script, and nothing else, is in sight -/
def onlyS (K : PySem.W.Frag) (a : Addr) (ob : Obj) (ns : List Int) : Hp := fun b => if b = a ∧ K.lookup a = none then some (.frz ob (.lst (ns.map V.int))) else none
theorem onlyS_at {ob : Obj} {b : Addr} {u : HO} (h : onlyS K a ob ns b = some u) : b = a ∧ K.lookup a = none ∧ u = .frz ob (.lst (ns.map V.int)) := by
  unfold onlyS at h
  by_cases z : b = a ∧ K.lookup a = none
  · rw [if_pos z] at h
    exact ⟨z.1, z.2, (Option.some.inj h).symm⟩
  · rw [if_neg z] at h
    cases h
theorem topG (inK : K.In s1.heap) (nsM : s1.heap.Ns mainGlobals mg) (nsB : s1.heap.Ns builtinsNs mb) (boot : ∀ x : Str, x ≠ "__name__" → mb x = bootBuiltins x) (nl : s1.heap.NoLimit) (gens : s1.gens = #[])
    (scr : s1.heap.get? a = some { cls := .type "list", data := .seq vs.toArray }) (hin : PyProof.Rows.IntsAre vs ns) (len : ns.length ≤ sizeLine) (hr : Room k callerA)
    (F : ∀ b : Heap, K.In b → b.Ns mainGlobals mg → RunG P w K mg b k fa sp)
    (hsp : ∀ H : Hp, SqL K H a (ns.map V.int) → sp [.ref a] H (fun v _ => v = .bl true) fun _ _ _ => False) :
    codeAny (model P w) callerA (.call (.ref fa) ⟨[.ref a], []⟩) (fun r s' => r = .ok (.ret (.bool true)) ∧ OldK s1.heap s'.heap ∧ s'.os = s1.os ∧ PyProof.Rows.AllBare s'.gens) s1 := by
  let ob : Obj := { cls := .type "list", data := .seq vs.toArray }
  let H : Hp := onlyS K a ob ns
  have rel := vals_ints hin
  have many := hin.length
  have seq : SqL K H a (ns.map V.int) := by
    cases z : K.lookup a with
    | none => exact .inl (.inr ⟨ob, if_pos ⟨rfl, z⟩⟩)
    | some o =>
      cases (inK _ _ z).symm.trans scr
      exact .inr ⟨_, vs.toArray, _, z, rfl, rfl, rfl, by rw [List.size_toArray, many]; exact len, rel⟩
  have ok : HOk P w H s1.heap := fun b u z => by
    obtain ⟨rfl, _, rfl⟩ := onlyS_at z
    exact ⟨scr, by rw [List.length_map]; exact len, vs, _, rel, scr⟩
  have clear : ∀ {b : Addr} {o : Obj} {es : Array DictEntry} {n : Nat}, s1.heap.get? b = some o → o.data = .dict es n → H b = none := fun {b o es n} e d => by
    cases z : H b with
    | none => rfl
    | some u =>
      obtain ⟨rfl, _, _⟩ := onlyS_at z
      cases e.symm.trans scr
      cases d
  have nsH : ∀ {b : Addr} {m : Str → Option Value}, s1.heap.Ns b m → (hidT s1.heap H).Ns b m := fun ⟨o, es, n, e, d, z⟩ => ⟨o, es, n, hidT_get e (clear e d), d, z⟩
  have inH : K.In (hidT s1.heap H) := fun b o e => hidT_get (inK b o e) (by
    cases z : H b with
    | none => rfl
    | some u =>
      obtain ⟨rfl, y, _⟩ := onlyS_at z
      cases e.symm.trans y)
  obtain ⟨mc, c1, c2⟩ := nl
  have e0 : Env0 P w K mg (hidT s1.heap H) callerA [] s1 H := ⟨rfl, ⟨inH, nsH nsM, ⟨mb, nsH nsB, boot⟩, mc, nsH c1, c2⟩, fun b o e => of_hidT e, Nat.le_of_eq (hidT_size _ _), trivial, fun b hb => (nomatch hb), ok, .of_eq gens⟩
  refine codeAny_mono (F _ inH (nsH nsM) callerA [] s1 H [.ref a] [.ref a] _ _ hr rfl e0 (.cons rfl .nil) (hsp H seq)) fun r s' z => ?_
  match r, z with
  | .error _, z =>
    obtain ⟨_, _, _, _, _, _, _, _, _, _, _, _, no⟩ := z
    exact no.elim
  | .ok (.ret u), ⟨v, H', os, bare, un, ok', ru, hv⟩ =>
    cases (show v = .bl true from hv)
    cases (show u = Value.bool true from ru)
    refine ⟨rfl, OldK.of_keep fun b o e => ?_, os, bare⟩
    cases z : H b with
    | none => exact un.keep b o e z (fun y => nomatch y) (fun y => nomatch y)
    | some u =>
      obtain ⟨rfl, _, rfl⟩ := onlyS_at z
      have new := (ok' _ _ (un.frzs _ _ _ z)).1
      have was := (ok _ _ z).1
      cases e.symm.trans was
      exact new
theorem walk_ofG {l : PySem.W.OpenLaw} {n k : Nat} {q : Program} {loose : List Str} {XP : (Str → Option Value) → Heap → Prop} {YP : World → Heap → Prop} {d : DefRec} {K : Params → PySem.W.Frag} {sp : World → Sp}
    (hn : l.most = some n) (hn2 : n ≤ sizeLine) (hdf : d.params.defaults = []) (hr : Room k callerA) (hY : ∀ (w : World) (h : Heap), YP w h → (K w.params).In h)
    (F : ∀ (w : World) (mg : Str → Option Value) (fa : Addr) (h : Heap), (K w.params).In h → h.Ns mainGlobals mg → mg d.name = some (.ref fa) → ∀ b : Heap, (K w.params).In b → b.Ns mainGlobals mg → RunG l.prog w (K w.params) mg b k fa (sp w))
    (hsp : ∀ (w : World) (H : Hp) (a : Addr) (ns : List Int), ns.length ≤ n → SqL (K w.params) H a (ns.map V.int) → sp w [.ref a] H (fun v _ => v = .bl true) fun _ _ _ => False) :
    PySem.W.WalkO q loose XP YP l.row.toRowW d [] (fun f vs => PySem.call f vs) :=
  Att.attach_call hn hdf fun w s₀ s₁ mg mb fa o pm cd doc a vs ns G Y ho hd hcd hmg hobj hints hlen hg =>
    topG (hY w _ Y) G.T.g G.T.b G.T.builtins G.T.nolimit hg hobj hints (Nat.le_trans hlen hn2) hr (F w mg fa _ (hY w _ Y) G.T.g hmg) fun H => hsp w H a ns hlen
end
end Lay

namespace Lay
open PySem PySem.Spec L2
section
variable {c : Cz} {ρ : List Sl} {S : List Ce} {P : Post} {st : Stmt} {sts : List Stmt}
/-- all ways through the first statement meet at J -/
theorem sx_join (J : List Sl → List Ce → Prop) (h1 : S1 c st ρ S (P.to J)) (h2 : ∀ ρ S, J ρ S → SX c sts ρ S P) : SX c (st :: sts) ρ S P :=
  sx_cons fun σ G ps H E o r => h1 σ G ps H E o ⟨fun σ' G' ps' H' ρ' S' o' e' q => r.nx σ' G' ps' H' ρ' S' o' e' (h2 ρ' S' q), r.rt, r.bk, r.ct, r.ex, r.rf⟩
end
section
variable {K : PySem.W.Frag}
theorem rd_neF {d1 d2 : D} {v u : V} (h1 : flatD d1 = some v) (h2 : flatD d2 = some u) (hs : scal v u = true) : RD K rNe d1 d2 (.bl (!decide (v = u))) := fun G H x y k s a b q => by
  obtain ⟨rfl, _⟩ := flatD_ok a h1
  obtain ⟨rfl, _⟩ := flatD_ok b h2
  exact ⟨hs, q _ G H (.refl _ _) (.bl _)⟩
theorem rd_eqF {d1 d2 : D} {v u : V} (h1 : flatD d1 = some v) (h2 : flatD d2 = some u) (hs : scal v u = true) : RD K rEq d1 d2 (.bl (decide (v = u))) := fun G H x y k s a b q => by
  obtain ⟨rfl, _⟩ := flatD_ok a h1
  obtain ⟨rfl, _⟩ := flatD_ok b h2
  exact ⟨hs, q _ G H (.refl _ _) (.bl _)⟩
def rRepA (K : PySem.W.Frag) : List V → Hp → VK → Prop := fun xs H Q => rReprV xs H Q ∨ rReprG K xs H Q
theorem cr_repA {X : Cx} (hGu : X.A.guards = some []) (hu : X.A.units + 64 < cLine) : CallR X (.builtin "repr") (rRepA X.K) := fun pins s σ H xs us Q I r h => h.elim (cr_repr pins s σ H xs us Q I r) (cr_reprG hGu hu pins s σ H xs us Q I r)
/-- z is the text of d -/
def RepOk (d : D) (z : Str) : Prop := (∃ v, flatD d = some v ∧ reprV v = some z) ∨
  (okP 60 d = true ∧ (isTupD d || isLstD d) = true ∧ (pyOf d).showable = true ∧ (pyOf d).hasDict = false ∧ (pyOf d).shown.length ≤ sizeLine ∧ z = (pyOf d).shown)
theorem cd_repA {S : List Ce} {d : D} {z : Str} (h : RepOk d z) : CD K (rRepA K) [.dat d] S (.str z) := fun F G ps ρ σ H vs k o a0 q => by
  rcases h with ⟨v, h1, h2⟩ | ⟨h1, h2, h3, h4, h5, rfl⟩
  · exact .inl (cd_repr h1 h2 F G ps ρ σ H vs k o a0 q)
  · exact .inr (cd_reprG h1 (Nat.le_refl _) h2 rfl h3 h4 h5 F G ps ρ σ H vs k o a0 q)
end
end Lay

namespace Lay
open PySem PySem.Spec L2
local macro_rules | `(tactic| walk_at "rd") => `(tactic| first
  | exact rd_addI | exact rd_subI | exact rd_ltI | exact rd_leI | exact rd_gtI | exact rd_geI | exact rd_isNo | exact rd_notNo | exact rd_isBo | exact rd_notBo | exact rd_inStr
  | exact rd_ixTu rfl | exact rd_ixLi rfl | exact rd_inTup rfl rfl | exact rd_eqO (n := 1) (m := 1) rfl rfl | exact rd_neO (n := 1) (m := 1) rfl rfl)
local macro_rules | `(tactic| walk_at "cd") => `(tactic| first | exact cd_int1 | exact cd_int1b | exact cd_abs | exact cd_len rfl | exact cd_max2 | exact cd_min2 | exact cd_lenO rfl)
def topS (i : Nat) : Stmt := PySem.Challenge.pw_pagewright_k02_scaled_lengths_and_errors.main.body.getD i (.Pass ⟨0, 0, 0, 0⟩)
abbrev s_is_int : Stmt := topS 6
theorem sc_is_int : FnScope ["value"] ["value"] (defScope s_is_int) := ⟨rfl, rfl, rfl, by decide +kernel, rfl, by decide +kernel, by decide +kernel⟩
abbrev s_rounded : Stmt := topS 7
theorem sc_rounded : FnScope ["over", "under", "size"] ["over", "under"] (defScope s_rounded) := ⟨rfl, rfl, rfl, by decide +kernel, rfl, by decide +kernel, by decide +kernel⟩
abbrev s_is_length : Stmt := topS 11
theorem sc_is_length : FnScope ["value"] ["value"] (defScope s_is_length) := ⟨rfl, rfl, rfl, by decide +kernel, rfl, by decide +kernel, by decide +kernel⟩
abbrev s_check_length : Stmt := topS 12
theorem sc_check_length : FnScope ["value"] ["value"] (defScope s_check_length) := ⟨rfl, rfl, rfl, by decide +kernel, rfl, by decide +kernel, by decide +kernel⟩
abbrev s_text_of_length : Stmt := topS 13
theorem sc_text_of_length : FnScope ["length", "size", "decimals", "power", "number", "text"] ["length"] (defScope s_text_of_length) := ⟨rfl, rfl, rfl, by decide +kernel, rfl, by decide +kernel, by decide +kernel⟩
abbrev s_nearest_number : Stmt := topS 14
theorem sc_nearest_number : FnScope ["size", "power"] ["size", "power"] (defScope s_nearest_number) := ⟨rfl, rfl, rfl, by decide +kernel, rfl, by decide +kernel, by decide +kernel⟩
abbrev s_decimal_text : Stmt := topS 15
theorem sc_decimal_text : FnScope ["number", "decimals", "power", "whole", "rest", "behind_dot"] ["number", "decimals", "power"] (defScope s_decimal_text) := ⟨rfl, rfl, rfl, by decide +kernel, rfl, by decide +kernel, by decide +kernel⟩
abbrev s_scaled : Stmt := topS 16
theorem sc_scaled : FnScope ["length", "times", "by", "result"] ["length", "times", "by"] (defScope s_scaled) := ⟨rfl, rfl, rfl, by decide +kernel, rfl, by decide +kernel, by decide +kernel⟩
abbrev s__law_dice : Stmt := topS 18
theorem sc__law_dice : FnScope ["_law_script", "_law_spot", "_law_cell", "_law_left"] ["_law_script", "_law_spot"] (defScope s__law_dice) := ⟨rfl, rfl, rfl, by decide +kernel, rfl, by decide +kernel, by decide +kernel⟩
abbrev s__law_roll : Stmt := topS 19
theorem sc__law_roll : FnScope ["_law_dice_here", "_law_total", "_law_found", "_law_one", "_law_two"] ["_law_dice_here", "_law_total"] (defScope s__law_roll) := ⟨rfl, rfl, rfl, by decide +kernel, rfl, by decide +kernel, by decide +kernel⟩
abbrev s__law_pick : Stmt := topS 20
theorem sc__law_pick : FnScope ["_law_dice_here", "_law_items"] ["_law_dice_here", "_law_items"] (defScope s__law_pick) := ⟨rfl, rfl, rfl, by decide +kernel, rfl, by decide +kernel, by decide +kernel⟩
abbrev s__law_nearest : Stmt := topS 21
theorem sc__law_nearest : FnScope ["_law_number", "_law_by", "_law_found"] ["_law_number", "_law_by"] (defScope s__law_nearest) := ⟨rfl, rfl, rfl, by decide +kernel, rfl, by decide +kernel, by decide +kernel⟩
abbrev s__law_drawn_length : Stmt := topS 22
theorem sc__law_drawn_length : FnScope ["_law_dice_here", "_law_way", "_law_found"] ["_law_dice_here"] (defScope s__law_drawn_length) := ⟨rfl, rfl, rfl, by decide +kernel, rfl, by decide +kernel, by decide +kernel⟩
abbrev s__law_told : Stmt := topS 23
theorem sc__law_told : FnScope ["_law_length", "_law_times", "_law_by", "e"] ["_law_length", "_law_times", "_law_by"] (defScope s__law_told) := ⟨rfl, rfl, rfl, by decide +kernel, rfl, by decide +kernel, by decide +kernel⟩
abbrev s__law_due : Stmt := topS 24
theorem sc__law_due : FnScope ["_law_length", "_law_times", "_law_by", "_law_found"] ["_law_length", "_law_times", "_law_by"] (defScope s__law_due) := ⟨rfl, rfl, rfl, by decide +kernel, rfl, by decide +kernel, by decide +kernel⟩
abbrev s__law_is_refused : Stmt := topS 25
theorem sc__law_is_refused : FnScope ["_law_value"] ["_law_value"] (defScope s__law_is_refused) := ⟨rfl, rfl, rfl, by decide +kernel, rfl, by decide +kernel, by decide +kernel⟩
abbrev s__law_right : Stmt := topS 26
theorem sc__law_right : FnScope ["_law_dice_here", "_law_length", "_law_times", "_law_by", "_law_one", "_law_other", "_law_bad"] ["_law_dice_here"] (defScope s__law_right) := ⟨rfl, rfl, rfl, by decide +kernel, rfl, by decide +kernel, by decide +kernel⟩
abbrev s_law : Stmt := topS 27
theorem sc_law : FnScope ["_law_script", "_law_spot", "_law_dice_here", "_law_turn", "_law_told_here"] ["_law_script"] (defScope s_law) := ⟨rfl, rfl, rfl, by decide +kernel, rfl, by decide +kernel, by decide +kernel⟩
abbrev s_InvalidNumber_init : Stmt := inClass (topS 3) 0
def isInt60 : D → Bool | .int i => decide (i.natAbs < 10 ^ 60) | _ => false
section
variable {P : Program} {w : World} {K : PySem.W.Frag} {mg : Str → Option Value} {base : Heap}
variable {cIL cIN fI : Addr} {f : Addr} {fd : FuncData}
structure LibP (mg : Str → Option Value) : Prop where
  b_len : mg "len" = none
  b_abs : mg "abs" = none
  b_min : mg "min" = none
  b_max : mg "max" = none
  b_tuple : mg "tuple" = none
  b_list : mg "list" = none
  b_int : mg "int" = none
  b_range : mg "range" = none
  b_repr : mg "repr" = none
  b_bool : mg "bool" = none
  b_isinstance : mg "isinstance" = none
structure TxtP (K : PySem.W.Frag) (mg : Str → Option Value) (cIL cIN fI : Addr) : Prop where
  g_INTEGER_END : KonD K mg "INTEGER_END" (.int (10 ^ 60))
  g_MAX_LENGTH : KonD K mg "MAX_LENGTH" (.int 1073741823)
  e_InvalidLength : OwnE K mg "InvalidLength" cIL
  e_InvalidNumber : ErrCls K mg "InvalidNumber" "value" cIN fI
def R_is_int : RP := fun ds Pr _ => ∃ d, ds = [d] ∧ kindD d ∧ Pr (.bl (isInt60 d))
theorem cal_is_int (T : TxtP K mg cIL cIN fI) (L : LibP mg) (F : Fun K "is_int" "is_int" s_is_int f fd) (hm : mg "is_int" = some (.ref f)) (hb : Binds K fd ["value"] []) : Cal P w K mg base 1 "is_int" (spD K 1 R_is_int) := by
  refine fnD F sc_is_int rfl (by decide) hm hb (fun cdv A outer s H E Fx hr hP ds Pr Px hR hl => ?_)
  obtain ⟨d, rfl, hd, q⟩ := hR
  refine sx_one (s1_ret ?_)
  refine ex_andB (isInt60 d) ?_
  refine ex_callB call_isi L.b_isinstance (by decide +kernel) ?_
  refine ax_cons ?_
  refine ex_var 0 rfl ?_
  refine ax_cons ?_
  refine ex_ty (n := "int") L.b_int (by decide +kernel) ?_
  refine ax_nil ?_
  refine ⟨_, cd_isInt hd, _, rfl, fun ht => ?_, ?_⟩
  · refine ex_andB (isInt60 d) ?_
    refine ex_not ?_
    refine ex_callB call_isi L.b_isinstance (by decide +kernel) ?_
    refine ax_cons ?_
    refine ex_var 0 rfl ?_
    refine ax_cons ?_
    refine ex_ty (n := "bool") L.b_bool (by decide +kernel) ?_
    refine ax_nil ?_
    refine ⟨_, cd_isBol hd, _, rfl, ?_⟩
    refine ⟨_, rfl, fun ht2 => ?_, ?_⟩
    · obtain ⟨i, rfl⟩ : ∃ i, d = .int i := by
        cases d <;> first | exact ⟨_, rfl⟩ | (cases ht; done) | (cases ht2; done)
      refine ex_and1 ?_
      refine ex_cmp opLt ?_
      refine ex_callB cr_abs L.b_abs (by decide +kernel) ?_
      refine ax_cons ?_
      refine ex_var 0 rfl ?_
      refine ax_nil ?_
      refine ⟨_, by walk_at "cd", ?_⟩
      refine ex_glob T.g_INTEGER_END ?_
      refine ⟨_, by walk_at "rd", ?_, rfl⟩
      have : decide ((if i < 0 then -i else i) < 10 ^ 60) = decide (i.natAbs < 10 ^ 60) := by
        by_cases h : i < 0
        · rw [if_pos h]; exact decide_eq_decide.mpr (by omega)
        · rw [if_neg h]; exact decide_eq_decide.mpr (by omega)
      rw [this]
      rfl
    · cases d <;> exact ⟨rfl, rfl⟩
  · cases d <;> exact q
set_option exponentiation.threshold 2000 in
theorem cmul {i j : Int} (h1 : i.natAbs < 2 ^ 1000) (h2 : j.natAbs < 2 ^ 1000) : CMulW i j := by
  have lg : ∀ n : Nat, n < 2 ^ 1000 → n.log2 < 1001 := fun n hn => by
    by_cases h0 : n = 0
    · subst h0; decide
    · exact Nat.lt_succ_of_lt ((Nat.log2_lt h0).mpr hn)
  have a := lg _ h1
  have b := lg _ h2
  unfold CMulW
  omega
theorem big1000 : (2 : Nat) ^ 256 < 2 ^ 1000 := Nat.pow_lt_pow_right (by decide) (by decide)
theorem small {n m : Nat} (h : n < m) (hm : m < 2 ^ 256 := by decide +kernel) : n < 2 ^ 1000 := Nat.lt_trans h (Nat.lt_trans hm big1000)
theorem cdivw {i j : Int} (h0 : 0 < j) (h : j < 2 ^ 80) : CDivW i j := by
  refine ⟨h0, ?_⟩
  have : j.natAbs < 2 ^ 80 := by omega
  have : j.natAbs.log2 < 80 := (Nat.log2_lt (by omega)).mpr this
  omega
/-! ### dice -/
def DiceL (cs : List D) (N : Nat) : Prop := ∃ a b n : Int, cs = [.int a, .int b, .int n] ∧ 0 ≤ n ∧ n ≤ N
def scriptD (xs : List Int) : D := .sq (xs.map .int)
def R_dice : RPF := fun ds Pr _ => ∃ (xs : List Int) (n : Nat), ds = [scriptD xs, .int n] ∧ n < 1000 ∧ xs.length < 1000 ∧ ∀ cs, DiceL cs 0 → Pr cs
theorem cal__law_dice (L : LibP mg) (F : Fun K "_law_dice" "_law_dice" s__law_dice f fd) (hm : mg "_law_dice" = some (.ref f)) (hb : Binds K fd ["_law_script", "_law_spot"] []) : Cal P w K mg base 1 "_law_dice" (spF K 2 R_dice) := by
  refine fnF F sc__law_dice rfl (by decide) hm hb (fun cdv A outer s H E Fx hr hP ds Pr Px hR hl => ?_)
  obtain ⟨xs, n, rfl, hn, hx, q⟩ := hR
  have hlen : lenD (scriptD xs) = some xs.length := congrArg some (List.length_map ..)
  refine sx_cons ?_
  refine s1_set 2 sc__law_dice.nd ?_
  refine EX.imp (Q := fun d S => (∃ i, d = .int i) ∧ S = []) ?_ ?_
  · refine ex_if ?_
    refine tx_cmp opLt ?_
    refine ex_var 1 rfl ?_
    refine ex_callB cr_len L.b_len (by decide +kernel) ?_
    refine ax_cons ?_
    refine ex_var 0 rfl ?_
    refine ax_nil ?_
    refine ⟨_, cd_len hlen, ?_⟩
    refine ⟨_, by walk_at "rd", ?_⟩
    refine ⟨fun ht => ?_, fun ht => ?_⟩
    · have hn' : n < xs.length := by
        have := of_decide_eq_true ht
        omega
      refine ex_callTy cr_int1 L.b_int (by decide +kernel) ?_
      refine ax_cons ?_
      refine ex_ix ixSeq ?_
      refine ex_var 0 rfl ?_
      refine ex_var 1 rfl ?_
      refine ⟨_, rd_ixSq (x := .int (xs[n]'hn')) (atI_nat (by rw [List.getElem?_map, List.getElem?_eq_getElem hn']; rfl)), ?_⟩
      refine ax_nil ?_
      exact ⟨_, by walk_at "cd", ⟨_, rfl⟩, rfl⟩
    · refine ex_op opAdd ?_
      refine ex_op opMulA ?_
      refine ex_int ?_
      refine ex_var 1 rfl ?_
      refine ⟨_, rd_mulII (cmul (small (m := 60) (by decide)) (small (m := 1000) (by omega))), ?_⟩
      refine ex_int ?_
      exact ⟨_, by walk_at "rd", ⟨_, rfl⟩, rfl⟩
  rintro _ _ ⟨⟨i, rfl⟩, rfl⟩
  refine sx_cons ?_
  refine s1_set 3 sc__law_dice.nd ?_
  refine ex_op opMod ?_
  refine ex_callB (cr_max2 rfl) L.b_max (by decide +kernel) ?_
  refine ax_cons ?_
  refine ex_int ?_
  refine ax_cons ?_
  refine ex_op opSub ?_
  refine ex_callB cr_abs L.b_abs (by decide +kernel) ?_
  refine ax_cons ?_
  refine ex_var 2 rfl ?_
  refine ax_nil ?_
  refine ⟨_, by walk_at "cd", ?_⟩  -- abs(_law_cell)
  refine ex_op opPow ?_
  refine ex_int ?_
  refine ex_int ?_
  refine ⟨_, rd_powI ⟨by decide, by decide, by decide⟩, ?_⟩  -- 10 ** 16
  refine ⟨_, by walk_at "rd", ?_⟩  -- abs(_law_cell) - 10 ** 16
  refine ax_nil ?_
  refine ⟨_, by walk_at "cd", ?_⟩  -- max(0, abs(_law_cell) - 10 ** 16)
  refine ex_op opMulA ?_
  refine ex_op opPow ?_
  refine ex_int ?_
  refine ex_int ?_
  refine ⟨_, rd_powI ⟨by decide, by decide, by decide⟩, ?_⟩  -- 10 ** 60
  refine ex_op opPow ?_
  refine ex_int ?_
  refine ex_int ?_
  refine ⟨_, rd_powI ⟨by decide, by decide, by decide⟩, ?_⟩  -- 10 ** 60
  refine ⟨_, rd_mulII (cmul (small (m := 2 ^ 250) (by decide +kernel)) (small (m := 2 ^ 250) (by decide +kernel))), ?_⟩  -- 10 ** 60 * 10 ** 60
  refine ⟨_, rd_modI (by decide +kernel), ?_⟩
  refine sx_one ?_
  refine s1_retF (ef_lst ?_)
  refine ax_cons ?_
  refine ex_var 3 rfl ?_
  refine ax_cons ?_
  refine ex_op opAdd ?_
  refine ex_op opAdd ?_
  refine ex_op opAdd ?_
  refine ex_op opMulA ?_
  refine ex_op opMod ?_
  refine ex_callB cr_abs L.b_abs (by decide +kernel) ?_
  refine ax_cons ?_
  refine ex_var 2 rfl ?_
  refine ax_nil ?_
  refine ⟨_, by walk_at "cd", ?_⟩  -- abs(_law_cell)
  refine ex_int ?_
  refine ⟨_, rd_modI (by decide +kernel), ?_⟩
  refine ex_int ?_
  refine ⟨_, rd_mulII (cmul (small (m := 2 ^ 250) ?_) (small (m := 2 ^ 250) (by decide +kernel))), ?_⟩
  · omega
  refine ex_op opMulA ?_
  refine ex_int ?_
  refine ex_var 1 rfl ?_
  refine ⟨_, rd_mulII (cmul (small (m := 1000) (by decide)) (small (m := 1000) (by omega))), ?_⟩
  refine ⟨_, by walk_at "rd", ?_⟩
  refine ex_op opMulA ?_
  refine ex_int ?_
  refine ex_callTy cr_int1 L.b_int (by decide +kernel) ?_
  refine ax_cons ?_
  refine ex_cmp opLt ?_
  refine ex_var 2 rfl ?_
  refine ex_int ?_
  refine ⟨_, by walk_at "rd", ?_⟩  -- _law_cell < 0
  refine ax_nil ?_
  refine ⟨_, by walk_at "cd", ?_⟩  -- int(_law_cell < 0)
  refine ⟨_, rd_mulII (cmul (small (m := 1000) (by decide)) (small (m := 2) (by split <;> decide))), ?_⟩
  refine ⟨_, by walk_at "rd", ?_⟩
  refine ex_int ?_
  refine ⟨_, by walk_at "rd", ?_⟩
  refine ax_cons ?_
  refine ex_int ?_
  refine ax_nil ?_
  exact ⟨_, rfl, show 3 ≤ 1000 by decide, q _ ⟨_, _, _, rfl, by decide, by decide⟩⟩
def R_roll : RP1 := fun cs ds Pr _ => ∃ (N : Nat) (tot : Int), DiceL cs N ∧ N < 10 ^ 9 ∧ ds = [.int tot] ∧ 0 < tot ∧ tot < 2 ^ 80 ∧ ∀ r cs', 0 ≤ r → r < tot → DiceL cs' (N + 1) → Pr (.int r) cs'
theorem cal__law_roll (L : LibP mg) (F : Fun K "_law_roll" "_law_roll" s__law_roll f fd) (hm : mg "_law_roll" = some (.ref f)) (hb : Binds K fd ["_law_dice_here", "_law_total"] []) : Cal P w K mg base 1 "_law_roll" (spO K 1 R_roll) := by
  refine fnO F sc__law_roll rfl (by decide) hm hb (fun cdv A outer s H E Fx hr hP cs ds Pr Px hR hl => ?_)
  obtain ⟨N, tot, ⟨a, b, n, rfl, n0, nN⟩, hN, rfl, t0, t1, q⟩ := hR
  refine sx_cons ?_
  refine s1_if ?_
  refine tx_cmp opGt ?_
  refine ex_ixO 0 (ds := []) rfl ?_
  refine ex_int ?_
  refine ⟨_, _, _, rfl, rfl, rfl, ?_⟩  -- _law_dice_here[0]
  refine ex_int ?_
  refine ⟨_, by walk_at "rd", ?_⟩  -- _law_dice_here[0] > 0
  refine ⟨fun ht => ?_, fun ht => ?_⟩
  · refine sx_cons ?_
    refine s1_set 2 sc__law_roll.nd ?_
    refine ex_op opMod ?_
    refine ex_callTy cr_int1 L.b_int (by decide +kernel) ?_
    refine ax_cons ?_
    refine ex_ixO 0 (ds := []) rfl ?_
    refine ex_int ?_
    refine ⟨_, _, _, rfl, rfl, rfl, ?_⟩  -- _law_dice_here[0]
    refine ax_nil ?_
    refine ⟨_, by walk_at "cd", ?_⟩  -- int(_law_dice_here[0])
    refine ex_var 1 rfl ?_
    refine ⟨_, rd_modI t0, ?_⟩  -- int(_law_dice_here[0]) % _law_total
    refine sx_cons ?_
    refine s1_sto 0 rfl ?_
    refine ex_op opDiv ?_
    refine ex_ixO 0 (ds := []) rfl ?_
    refine ex_int ?_
    refine ⟨_, _, _, rfl, rfl, rfl, ?_⟩  -- _law_dice_here[0]
    refine ex_var 1 rfl ?_
    refine ⟨_, rd_divI (cdivw t0 t1), ?_⟩  -- _law_dice_here[0] // _law_total
    refine ex_int ?_
    refine ⟨_, _, _, rfl, rfl, rfl, ?_⟩
    refine sx_one ?_
    refine s1_ret ?_
    refine ex_var 2 rfl ?_
    exact ⟨_, _, rfl, q _ _ (Int.emod_nonneg _ (by omega)) (Int.emod_lt_of_pos _ t0) ⟨_, _, _, rfl, n0, by omega⟩⟩
  · refine sx_nil ?_
    refine sx_cons ?_
    refine s1_sto 0 rfl ?_
    refine ex_op opAdd ?_
    refine ex_ixO 0 (ds := []) rfl ?_
    refine ex_int ?_
    refine ⟨_, _, _, rfl, rfl, rfl, ?_⟩  -- _law_dice_here[2]
    refine ex_int ?_
    refine ⟨_, by walk_at "rd", ?_⟩  -- _law_dice_here[2] + 1
    refine ex_int ?_
    refine ⟨_, _, _, rfl, rfl, rfl, ?_⟩
    refine sx_cons ?_
    refine s1_set 3 sc__law_roll.nd ?_
    refine ex_op opMod ?_
    refine ex_callTy cr_int1 L.b_int (by decide +kernel) ?_
    refine ax_cons ?_
    refine ex_op opAdd ?_
    refine ex_ixO 0 (ds := []) rfl ?_
    refine ex_int ?_
    refine ⟨_, _, _, rfl, rfl, rfl, ?_⟩  -- _law_dice_here[1]
    refine ex_op opMulA ?_
    refine ex_int ?_
    refine ex_ixO 0 (ds := []) rfl ?_
    refine ex_int ?_
    refine ⟨_, _, _, rfl, rfl, rfl, ?_⟩  -- _law_dice_here[2]
    have nb : (n + 1).natAbs < 2 ^ 40 := by omega
    refine ⟨_, rd_mulII (cmul (small (m := 2 ^ 40) (by decide)) (small (m := 2 ^ 40) nb)), ?_⟩
    refine ⟨_, by walk_at "rd", ?_⟩
    refine ax_nil ?_
    refine ⟨_, by walk_at "cd", ?_⟩
    refine ex_int ?_
    refine ⟨_, rd_modI (by decide +kernel), ?_⟩
    generalize b + 49979737 * (n + 1) = z
    have ob : (z % 2305843009213693577).natAbs < 2 ^ 62 := by omega
    generalize z % 2305843009213693577 = one at ob
    refine sx_cons ?_
    refine s1_set 4 sc__law_roll.nd ?_
    refine ex_op opAdd ?_
    refine ex_op opMulA ?_
    refine ex_op opMod ?_
    refine ex_callTy cr_int1 L.b_int (by decide +kernel) ?_
    refine ax_cons ?_
    refine ex_op opAdd ?_
    refine ex_op opMulA ?_
    refine ex_var 3 rfl ?_
    refine ex_var 3 rfl ?_
    refine ⟨_, rd_mulII (cmul (small (m := 2 ^ 62) ob) (small (m := 2 ^ 62) ob)), ?_⟩
    refine ex_op opMulA ?_
    refine ex_int ?_
    refine ex_ixO 0 (ds := []) rfl ?_
    refine ex_int ?_
    refine ⟨_, _, _, rfl, rfl, rfl, ?_⟩  -- _law_dice_here[2]
    refine ⟨_, rd_mulII (cmul (small (m := 2 ^ 40) (by decide)) (small (m := 2 ^ 40) nb)), ?_⟩
    refine ⟨_, by walk_at "rd", ?_⟩
    refine ax_nil ?_
    refine ⟨_, by walk_at "cd", ?_⟩
    refine ex_int ?_
    refine ⟨_, rd_modI (by decide +kernel), ?_⟩
    generalize one * one + 97 * (n + 1) = z2
    have ob2 : (z2 % 2305843009213693921).natAbs < 2 ^ 62 := by omega
    generalize z2 % 2305843009213693921 = z3 at ob2
    refine ex_int ?_
    refine ⟨_, rd_mulII (cmul (small (m := 2 ^ 62) ob2) (small (m := 2 ^ 40) (by decide))), ?_⟩
    refine ex_var 3 rfl ?_
    refine ⟨_, by walk_at "rd", ?_⟩
    refine sx_one ?_
    refine s1_ret ?_
    refine ex_op opMod ?_
    refine ex_callTy cr_int1 L.b_int (by decide +kernel) ?_
    refine ax_cons ?_
    refine ex_op opDiv ?_
    refine ex_var 4 rfl ?_
    refine ex_int ?_
    refine ⟨_, rd_divI (cdivw (by decide) (by decide)), ?_⟩
    refine ax_nil ?_
    refine ⟨_, by walk_at "cd", ?_⟩
    refine ex_var 1 rfl ?_
    refine ⟨_, rd_modI t0, ?_⟩
    exact ⟨_, _, rfl, q _ _ (Int.emod_nonneg _ (by omega)) (Int.emod_lt_of_pos _ t0) ⟨_, _, _, rfl, by omega, by omega⟩⟩
def R_pick : RP1 := fun cs ds Pr _ => ∃ (N : Nat) (items : List D), DiceL cs N ∧ N < 10 ^ 9 ∧ ds = [.lst items] ∧ items ≠ [] ∧ items.length < 1000000 ∧ ∀ x ∈ items, ∀ cs', DiceL cs' (N + 1) → Pr x cs'
theorem cal__law_pick (L : LibP mg) (C__law_roll : Cal P w K mg base 1 "_law_roll" (spO K 1 R_roll)) (F : Fun K "_law_pick" "_law_pick" s__law_pick f fd) (hm : mg "_law_pick" = some (.ref f)) (hb : Binds K fd ["_law_dice_here", "_law_items"] []) : Cal P w K mg base 2 "_law_pick" (spO K 1 R_pick) := by
  refine fnO F sc__law_pick rfl (by decide) hm hb (fun cdv A outer s H E Fx hr hP cs ds Pr Px hR hl => ?_)
  obtain ⟨N, items, hd, hN, rfl, ne, hi, q⟩ := hR
  have il : 0 < items.length := List.length_pos_iff.mpr ne
  refine sx_one ?_
  refine s1_ret ?_
  refine ex_ix ixSeq ?_
  refine ex_var 1 rfl ?_
  refine ex_call1 C__law_roll hr ?_
  refine ax_own 0 rfl ?_
  refine ax_cons ?_
  refine ex_callB cr_len L.b_len (by decide +kernel) ?_
  refine ax_cons ?_
  refine ex_var 1 rfl ?_
  refine ax_nil ?_
  refine ⟨_, cd_len rfl, ?_⟩  -- len(_law_items)
  refine ax_nil ?_
  refine ⟨_, _, _, _, rfl, rfl, rfl, rfl, ?_⟩
  refine ⟨N, _, hd, hN, rfl, by omega, by omega, fun r cs' r0 r1 hd' => ?_⟩
  obtain ⟨k, rfl⟩ := Int.eq_ofNat_of_zero_le r0
  have hk : k < items.length := by omega
  refine ⟨_, rd_ixLi (atI_nat (List.getElem?_eq_getElem hk)), ?_⟩
  exact ⟨_, _, rfl, q _ (List.getElem_mem hk) _ hd'⟩
end
end Lay

namespace Lay
open PySem PySem.Spec L2
local macro_rules | `(tactic| walk_at "rd") => `(tactic| first
  | exact rd_addI | exact rd_subI | exact rd_ltI | exact rd_leI | exact rd_gtI | exact rd_geI | exact rd_isNo | exact rd_notNo | exact rd_isBo | exact rd_notBo | exact rd_inStr
  | exact rd_ixTu rfl | exact rd_ixLi rfl | exact rd_inTup rfl rfl | exact rd_eqO (n := 1) (m := 1) rfl rfl | exact rd_neO (n := 1) (m := 1) rfl rfl)
local macro_rules | `(tactic| walk_at "cd") => `(tactic| first | exact cd_int1 | exact cd_int1b | exact cd_abs | exact cd_len rfl | exact cd_max2 | exact cd_min2 | exact cd_lenO rfl)
section
variable {P : Program} {w : World} {K : PySem.W.Frag} {mg : Str → Option Value} {base : Heap}
variable {cIL cIN fI : Addr} {f : Addr} {fd : FuncData}
theorem bnt {x : Bool} (h : (!x) = true) : x = false := by
  cases x
  · rfl
  · cases h
theorem bnf {x : Bool} (h : (!x) = false) : x = true := by
  cases x
  · cases h
  · rfl
theorem int_kind {i : Int} : kindD (.int i) := fun e => (nomatch e)
def intD : D → Int | .int i => i | _ => 0
def sizeI (o u : Int) : Int := (2 * (if o < 0 then -o else o) + u) / (2 * u)
def roundI (o u : Int) : Int := if o < 0 then -(sizeI o u) else sizeI o u
theorem p200 : (10 : Nat) ^ 60 < 2 ^ 200 := by decide +kernel
theorem cdivw2 {i j : Int} (h0 : 0 < j) (h : j.natAbs < 2 ^ 250) : CDivW i j := by
  refine ⟨h0, ?_⟩
  have : j.natAbs.log2 < 250 := (Nat.log2_lt (by omega)).mpr h
  omega
def R_rounded : RP := fun ds Pr _ => ∃ o u : Int, ds = [.int o, .int u] ∧ o.natAbs < 2 ^ 235 ∧ 0 < u ∧ u.natAbs < 2 ^ 200 ∧ Pr (.int (roundI o u))
theorem cal_rounded (L : LibP mg) (F : Fun K "rounded" "rounded" s_rounded f fd) (hm : mg "rounded" = some (.ref f)) (hb : Binds K fd ["over", "under"] []) : Cal P w K mg base 1 "rounded" (spD K 2 R_rounded) := by
  refine fnD F sc_rounded rfl (by decide) hm hb (fun cdv A outer s H E Fx hr hP ds Pr Px hR hl => ?_)
  obtain ⟨o, u, rfl, ho, u0, hu, q⟩ := hR
  have two : (2 : Int).natAbs < 2 ^ 1000 := small (m := 3) (by decide)
  have hz : (if o < 0 then -o else o).natAbs < 2 ^ 235 := by split <;> omega
  refine sx_cons ?_
  refine s1_set 2 sc_rounded.nd ?_
  refine ex_op opDiv ?_
  refine ex_op opAdd ?_
  refine ex_op opMulA ?_
  refine ex_int ?_
  refine ex_callB cr_abs L.b_abs (by decide +kernel) ?_
  refine ax_cons ?_
  refine ex_var 0 rfl ?_
  refine ax_nil ?_
  refine ⟨_, by walk_at "cd", ?_⟩
  refine ⟨_, rd_mulII (cmul two (small (m := 2 ^ 235) hz)), ?_⟩
  refine ex_var 1 rfl ?_
  refine ⟨_, by walk_at "rd", ?_⟩
  refine ex_op opMulA ?_
  refine ex_int ?_
  refine ex_var 1 rfl ?_
  refine ⟨_, rd_mulII (cmul two (small (m := 2 ^ 200) hu)), ?_⟩
  refine ⟨_, rd_divI (cdivw2 (by omega) (by omega)), ?_⟩
  refine sx_cons ?_
  refine s1_if ?_
  refine tx_cmp opLt ?_
  refine ex_var 0 rfl ?_
  refine ex_int ?_
  refine ⟨_, by walk_at "rd", fun h => ?_, fun h => ?_⟩
  · refine sx_one ?_
    refine s1_ret ?_
    refine ex_un un_neg ?_
    refine ex_var 2 rfl ?_
    refine ⟨_, ud_neg, ?_⟩
    have e : roundI o u = -(sizeI o u) := if_pos (of_decide_eq_true h)
    rw [e] at q
    exact q
  · refine sx_nil ?_
    refine sx_one ?_
    refine s1_ret ?_
    refine ex_var 2 rfl ?_
    have e : roundI o u = sizeI o u := if_neg (of_decide_eq_false h)
    rw [e] at q
    exact q
def isLenD (d : D) : Bool := isInt60 d && (decide (-1073741823 ≤ intD d) && decide (intD d ≤ 1073741823))
theorem int60_int {d : D} (h : isInt60 d = true) : ∃ i : Int, d = .int i ∧ i.natAbs < 10 ^ 60 := by
  cases d with
  | int i => exact ⟨i, rfl, of_decide_eq_true h⟩
  | _ => cases h
def R_is_length : RP := fun ds Pr _ => ∃ d, ds = [d] ∧ kindD d ∧ Pr (.bl (isLenD d))
theorem cal_is_length (T : TxtP K mg cIL cIN fI) (L : LibP mg) (C_is_int : Cal P w K mg base 1 "is_int" (spD K 1 R_is_int)) (F : Fun K "is_length" "is_length" s_is_length f fd) (hm : mg "is_length" = some (.ref f)) (hb : Binds K fd ["value"] []) : Cal P w K mg base 2 "is_length" (spD K 1 R_is_length) := by
  refine fnD F sc_is_length rfl (by decide) hm hb (fun cdv A outer s H E Fx hr hP ds Pr Px hR hl => ?_)
  obtain ⟨d, rfl, hd, q⟩ := hR
  refine sx_one (s1_ret ?_)
  refine ex_andB (decide (-1073741823 ≤ intD d) && decide (intD d ≤ 1073741823)) ?_
  refine ex_call C_is_int hr ?_
  refine ax_cons ?_
  refine ex_var 0 rfl ?_
  refine ax_nil ?_
  refine ⟨_, rfl, rfl, d, rfl, hd, _, rfl, fun h => ?_, q⟩
  obtain ⟨i, rfl, _⟩ := int60_int h
  refine ex_and1 ?_
  refine ex_chainB (decide (i ≤ 1073741823)) opLe opLe ?_
  refine ex_un un_neg ?_
  refine ex_glob T.g_MAX_LENGTH ?_
  refine ⟨_, ud_neg, ?_⟩
  refine ex_var 0 rfl ?_
  refine ⟨_, by walk_at "rd", fun _ => ?_, rfl, rfl⟩
  refine ex_glob T.g_MAX_LENGTH ?_
  exact ⟨by walk_at "rd", rfl⟩
def R_check_length (cIL : Addr) : RP := fun ds Pr Px => ∃ d, ds = [d] ∧ kindD d ∧ (isLenD d = true → Pr .non) ∧ (isLenD d = false → Px cIL none)
theorem cal_check_length (T : TxtP K mg cIL cIN fI) (C_is_length : Cal P w K mg base 2 "is_length" (spD K 1 R_is_length)) (F : Fun K "check_length" "check_length" s_check_length f fd) (hm : mg "check_length" = some (.ref f)) (hb : Binds K fd ["value"] []) :
    Cal P w K mg base 3 "check_length" (spD K 1 (R_check_length cIL)) := by
  refine fnD F sc_check_length rfl (by decide) hm hb (fun cdv A outer s H E Fx hr hP ds Pr Px hR hl => ?_)
  obtain ⟨d, rfl, hd, q1, q2⟩ := hR
  refine sx_one (s1_if (tx_not (tx_val ?_)))
  refine ex_call C_is_length hr ?_
  refine ax_cons ?_
  refine ex_var 0 rfl ?_
  refine ax_nil ?_
  refine ⟨_, rfl, rfl, _, rfl, hd, _, rfl, fun ht => ?_, fun ht => ?_⟩
  · exact sx_one (s1_raise0 rfl T.e_InvalidLength (q2 (by simpa using ht)))
  · exact sx_nil (q1 (by simpa using ht))
def R_text_refused (cIL : Addr) : RP := fun ds _ Px => ∃ d, ds = [d] ∧ kindD d ∧ isLenD d = false ∧ Px cIL none
theorem cal_text_of_length (C_check_length : Cal P w K mg base 3 "check_length" (spD K 1 (R_check_length cIL))) (F : Fun K "text_of_length" "text_of_length" s_text_of_length f fd) (hm : mg "text_of_length" = some (.ref f)) (hb : Binds K fd ["length"] []) :
    Cal P w K mg base 4 "text_of_length" (spD K 1 (R_text_refused cIL)) := by
  refine fnD F sc_text_of_length rfl (by decide) hm hb (fun cdv A outer s H E Fx hr hP ds Pr Px hR hl => ?_)
  obtain ⟨d, rfl, hd, h, q⟩ := hR
  refine sx_cons (s1_expr ?_)
  refine ex_call C_check_length hr ?_
  refine ax_cons ?_
  refine ex_var 0 rfl ?_
  refine ax_nil ?_
  exact ⟨_, rfl, rfl, d, rfl, hd, fun z => absurd z (by rw [h]; decide), fun _ => q⟩
inductive Out where
  | len | num (d : D) | ok (i : Int)
def scaledO (l t b : D) : Out :=
  if isLenD l = false then .len else if isInt60 t = false then .num t else if (isInt60 b && decide (1 ≤ intD b)) = false then .num b else
    if isLenD (.int (roundI (intD l * intD t) (intD b))) = true then .ok (roundI (intD l * intD t) (intD b)) else .len
def R_scaled (cIL cIN : Addr) : RP := fun ds Pr Px => ∃ l t b, ds = [l, t, b] ∧ kindD l ∧ kindD t ∧ kindD b ∧ (scaledO l t b = .len → Px cIL none) ∧ (∀ d, scaledO l t b = .num d → Px cIN (some ("value", d))) ∧ ∀ i, scaledO l t b = .ok i → Pr (.int i)
theorem len_bound {l : D} (h : isLenD l = true) : ∃ i : Int, l = .int i ∧ i.natAbs ≤ 1073741823 := by
  unfold isLenD at h
  rw [Bool.and_eq_true, Bool.and_eq_true, decide_eq_true_eq, decide_eq_true_eq] at h
  obtain ⟨i, rfl, _⟩ := int60_int h.1
  have h1 : -1073741823 ≤ i := h.2.1
  have h2 : i ≤ 1073741823 := h.2.2
  exact ⟨i, rfl, by omega⟩
theorem prod_bound {i j : Int} (h1 : i.natAbs ≤ 1073741823) (h2 : j.natAbs < 10 ^ 60) : (i * j).natAbs < 2 ^ 235 := by
  rw [Int.natAbs_mul]
  have : j.natAbs < 2 ^ 200 := Nat.lt_trans h2 p200
  calc i.natAbs * j.natAbs ≤ 2 ^ 30 * 2 ^ 200 := Nat.mul_le_mul (by omega) (by omega)
    _ < 2 ^ 235 := by decide +kernel
theorem cal_scaled (T : TxtP K mg cIL cIN fI) (TI : InitDoes P w K cIN fI "value") (C_is_int : Cal P w K mg base 1 "is_int" (spD K 1 R_is_int)) (C_check_length : Cal P w K mg base 3 "check_length" (spD K 1 (R_check_length cIL))) (C_rounded : Cal P w K mg base 1 "rounded" (spD K 2 R_rounded))
    (F : Fun K "scaled" "scaled" s_scaled f fd) (hm : mg "scaled" = some (.ref f)) (hb : Binds K fd ["length", "times", "by"] []) : Cal P w K mg base 4 "scaled" (spD K 3 (R_scaled cIL cIN)) := by
  refine fnD F sc_scaled rfl (by decide) hm hb (fun cdv A outer s H E Fx hr hP ds Pr Px hR hl => ?_)
  obtain ⟨l, t, b, rfl, hl', ht', hb', q1, q2, q3⟩ := hR
  unfold scaledO at q1 q2 q3
  refine sx_cons (s1_expr ?_)
  refine ex_call C_check_length hr ?_
  refine ax_cons ?_
  refine ex_var 0 rfl ?_
  refine ax_nil ?_
  refine ⟨_, rfl, rfl, l, rfl, hl', fun h1 => ?_, fun h1 => q1 (by rw [if_pos h1])⟩
  rw [if_neg (by rw [h1]; decide)] at q1 q2 q3
  refine sx_cons ?_
  refine s1_if (tx_not (tx_val ?_))
  refine ex_call C_is_int (hr.mono (by decide)) ?_
  refine ax_cons ?_
  refine ex_var 1 rfl ?_
  refine ax_nil ?_
  refine ⟨_, rfl, rfl, t, rfl, ht', _, rfl, fun h2 => ?_, fun h2 => sx_nil ?_⟩
  · have h2' : isInt60 t = false := by simpa using h2
    rw [if_pos h2'] at q2
    refine sx_one ?_
    refine s1_raise1 (k := 0) rfl T.e_InvalidNumber TI (hr.mono (by decide)) ?_
    refine ex_var 1 rfl ?_
    exact q2 t rfl
  have h2' : isInt60 t = true := by simpa using h2
  rw [if_neg (by rw [h2']; decide)] at q1 q2 q3
  refine sx_cons ?_
  refine s1_if (tx_w (wx_orB (decide (intD b < 1)) ?_))
  refine tx_not (tx_val ?_)
  refine ex_call C_is_int (hr.mono (by decide)) ?_
  refine ax_cons ?_
  refine ex_var 2 rfl ?_
  refine ax_nil ?_
  refine ⟨_, rfl, rfl, b, rfl, hb', _, rfl, fun h3 => ?_, ?_⟩
  · obtain ⟨j, rfl, _⟩ := int60_int (d := b) (by simpa using h3)
    refine wx_or1 ?_
    refine tx_cmp opLt ?_
    refine ex_var 2 rfl ?_
    refine ex_int ?_
    exact ⟨_, by walk_at "rd", rfl, rfl⟩
  have e3 : (!isInt60 b || decide (intD b < 1)) = !(isInt60 b && decide (1 ≤ intD b)) := by
    rw [Bool.not_and]
    congr 1
    by_cases h : intD b < 1
    · rw [decide_eq_true h, decide_eq_false (by omega)] <;> rfl
    · rw [decide_eq_false h, decide_eq_true (by omega)] <;> rfl
  rw [e3]
  refine ⟨fun h3 => ?_, fun h3 => sx_nil ?_⟩
  · rw [if_pos (bnt h3)] at q2
    refine sx_one ?_
    refine s1_raise1 (k := 0) rfl T.e_InvalidNumber TI (hr.mono (by decide)) ?_
    refine ex_var 2 rfl ?_
    exact q2 b rfl
  have h3' : (isInt60 b && decide (1 ≤ intD b)) = true := bnf h3
  rw [if_neg (by rw [h3']; decide)] at q1 q3
  rw [Bool.and_eq_true, decide_eq_true_eq] at h3'
  obtain ⟨i, rfl, hi⟩ := len_bound h1
  obtain ⟨j, rfl, hj⟩ := int60_int h2'
  obtain ⟨k, rfl, hk⟩ := int60_int h3'.1
  have k1 : 1 ≤ k := h3'.2
  refine sx_cons ?_
  refine s1_set 3 sc_scaled.nd ?_
  refine ex_call C_rounded (hr.mono (by decide)) ?_
  refine ax_cons ?_
  refine ex_op opMulA ?_
  refine ex_var 0 rfl ?_
  refine ex_var 1 rfl ?_
  refine ⟨_, rd_mulII (cmul (small (m := 2 ^ 31) (by omega)) (small (m := 2 ^ 200) (Nat.lt_trans hj p200))), ?_⟩
  refine ax_cons ?_
  refine ex_var 2 rfl ?_
  refine ax_nil ?_
  refine ⟨_, rfl, rfl, i * j, k, rfl, prod_bound hi hj, by omega, Nat.lt_trans hk p200, ?_⟩
  refine sx_cons (s1_expr ?_)
  refine ex_call C_check_length hr ?_
  refine ax_cons ?_
  refine ex_var 3 rfl ?_
  refine ax_nil ?_
  refine ⟨_, rfl, rfl, _, rfl, int_kind, fun h4 => ?_, fun h4 => q1 (if_neg (by rw [show isLenD (.int (roundI (intD (.int i) * intD (.int j)) (intD (.int k)))) = false from h4]; decide))⟩
  refine sx_one ?_
  refine s1_ret ?_
  refine ex_var 3 rfl ?_
  exact q3 _ (if_pos h4)
def R_nearest : RP := R_rounded
theorem cal__law_nearest (L : LibP mg) (F : Fun K "_law_nearest" "_law_nearest" s__law_nearest f fd) (hm : mg "_law_nearest" = some (.ref f)) (hb : Binds K fd ["_law_number", "_law_by"] []) : Cal P w K mg base 1 "_law_nearest" (spD K 2 R_rounded) := by
  refine fnD F sc__law_nearest rfl (by decide) hm hb (fun cdv A outer s H E Fx hr hP ds Pr Px hR hl => ?_)
  obtain ⟨o, u, rfl, ho, u0, hu, q⟩ := hR
  have two : (2 : Int).natAbs < 2 ^ 1000 := small (m := 3) (by decide)
  have hz : (if o < 0 then -o else o).natAbs < 2 ^ 235 := by split <;> omega
  refine sx_cons ?_
  refine s1_set 2 sc__law_nearest.nd ?_
  refine ex_op opDiv ?_
  refine ex_op opAdd ?_
  refine ex_op opMulA ?_
  refine ex_int ?_
  refine ex_callB cr_abs L.b_abs (by decide +kernel) ?_
  refine ax_cons ?_
  refine ex_var 0 rfl ?_
  refine ax_nil ?_
  refine ⟨_, by walk_at "cd", ?_⟩
  refine ⟨_, rd_mulII (cmul two (small (m := 2 ^ 235) hz)), ?_⟩
  refine ex_var 1 rfl ?_
  refine ⟨_, by walk_at "rd", ?_⟩
  refine ex_op opMulA ?_
  refine ex_int ?_
  refine ex_var 1 rfl ?_
  refine ⟨_, rd_mulII (cmul two (small (m := 2 ^ 200) hu)), ?_⟩
  refine ⟨_, rd_divI (cdivw2 (by omega) (by omega)), ?_⟩
  refine sx_one ?_
  refine s1_ret ?_
  refine ex_if ?_
  refine tx_cmp opGe ?_
  refine ex_var 0 rfl ?_
  refine ex_int ?_
  refine ⟨_, by walk_at "rd", fun h => ?_, fun h => ?_⟩
  · refine ex_var 2 rfl ?_
    have e : roundI o u = sizeI o u := if_neg (by have := of_decide_eq_true h; omega)
    rw [e] at q
    exact q
  · refine ex_op opSub ?_
    refine ex_int ?_
    refine ex_var 2 rfl ?_
    refine ⟨_, by walk_at "rd", ?_⟩
    have e : roundI o u = 0 - sizeI o u := by
      have z : o < 0 := by have := of_decide_eq_false h; omega
      unfold roundI
      rw [if_pos z]; omega
    rw [e] at q
    exact q
end
end Lay

namespace Lay
open PySem PySem.Spec L2
local macro_rules | `(tactic| walk_at "rd") => `(tactic| first
  | exact rd_addI | exact rd_subI | exact rd_ltI | exact rd_leI | exact rd_gtI | exact rd_geI | exact rd_isNo | exact rd_notNo | exact rd_isBo | exact rd_notBo | exact rd_inStr
  | exact rd_ixTu rfl | exact rd_ixLi rfl | exact rd_inTup rfl rfl | exact rd_eqO (n := 1) (m := 1) rfl rfl | exact rd_neO (n := 1) (m := 1) rfl rfl)
local macro_rules | `(tactic| walk_at "cd") => `(tactic| first | exact cd_int1 | exact cd_int1b | exact cd_abs | exact cd_len rfl | exact cd_max2 | exact cd_min2 | exact cd_lenO rfl)
section
variable {P : Program} {w : World} {K : PySem.W.Frag} {mg : Str → Option Value} {base : Heap}
variable {cIL cIN fI : Addr} {f : Addr} {fd : FuncData}
theorem DiceL.mono {cs : List D} {N M : Nat} (h : DiceL cs N) (l : N ≤ M) : DiceL cs M := by
  obtain ⟨a, b, n, rfl, h1, h2⟩ := h
  exact ⟨a, b, n, rfl, h1, by omega⟩
def R_dlen : RP1 := fun cs ds Pr _ => ∃ N : Nat, DiceL cs N ∧ N < 10 ^ 8 ∧ ds = [] ∧ ∀ (i : Int) cs', i.natAbs ≤ 1073741823 → DiceL cs' (N + 3) → Pr (.int i) cs'
theorem cal__law_drawn_length (L : LibP mg) (C__law_roll : Cal P w K mg base 1 "_law_roll" (spO K 1 R_roll)) (F : Fun K "_law_drawn_length" "_law_drawn_length" s__law_drawn_length f fd) (hm : mg "_law_drawn_length" = some (.ref f)) (hb : Binds K fd ["_law_dice_here"] []) :
    Cal P w K mg base 2 "_law_drawn_length" (spO K 0 R_dlen) := by
  refine fnO F sc__law_drawn_length rfl (by decide) hm hb (fun cdv A outer s H E Fx hr hP cs ds Pr Px hR hl => ?_)
  obtain ⟨N, hd, hN, rfl, q⟩ := hR
  refine sx_cons ?_
  refine s1_set 1 sc__law_drawn_length.nd ?_
  refine ex_call1 C__law_roll hr ?_
  refine ax_own 0 rfl ?_
  refine ax_cons ?_
  refine ex_int ?_
  refine ax_nil ?_
  refine ⟨_, _, _, _, rfl, rfl, rfl, rfl, N, _, hd, by omega, rfl, by decide, by decide, fun r cs1 r0 r1 hd1 => ?_⟩
  refine sx_join (fun ρ S => ∃ (i : Int) (cs2 : List D), ρ = [.own 0, .dat (.int r), .dat (.int i)] ∧ S = [.lst cs2] ∧ 0 ≤ i ∧ i ≤ 1073741823 ∧ DiceL cs2 (N + 2)) ?_ ?_
  · refine s1_if ?_
    refine tx_cmp (op_eqD hr.units) ?_
    refine ex_var 1 rfl ?_
    refine ex_int ?_
    refine ⟨_, by walk_at "rd", fun ht => ?_, fun ht => ?_⟩
    · refine sx_one ?_
      refine s1_set 2 sc__law_drawn_length.nd ?_
      refine ex_call1 C__law_roll hr ?_
      refine ax_own 0 rfl ?_
      refine ax_cons ?_
      refine ex_int ?_
      refine ax_nil ?_
      refine ⟨_, _, _, _, rfl, rfl, rfl, rfl, N + 1, _, hd1, by omega, rfl, by decide, by decide, fun r cs1 r0 r1 hd1 => ?_⟩
      exact ⟨_, _, rfl, rfl, r0, by omega, hd1⟩
    · refine sx_one ?_
      refine s1_if ?_
      refine tx_cmp (op_eqD hr.units) ?_
      refine ex_var 1 rfl ?_
      refine ex_int ?_
      refine ⟨_, by walk_at "rd", fun ht => ?_, fun ht => ?_⟩
      · refine sx_one ?_
        refine s1_set 2 sc__law_drawn_length.nd ?_
        refine ex_op opMulA ?_
        refine ex_call1 C__law_roll hr ?_
        refine ax_own 0 rfl ?_
        refine ax_cons ?_
        refine ex_int ?_
        refine ax_nil ?_
        refine ⟨_, _, _, _, rfl, rfl, rfl, rfl, N + 1, _, hd1, by omega, rfl, by decide, by decide, fun r cs1 r0 r1 hd1 => ?_⟩
        refine ex_int ?_
        refine ⟨_, rd_mulII (cmul (small (m := 400) (by omega)) (small (m := 10000) (by decide))), ?_⟩
        exact ⟨_, _, rfl, rfl, by omega, by omega, hd1⟩
      · refine sx_one ?_
        refine s1_if ?_
        refine tx_cmp (op_eqD hr.units) ?_
        refine ex_var 1 rfl ?_
        refine ex_int ?_
        refine ⟨_, by walk_at "rd", fun ht => ?_, fun ht => ?_⟩
        · refine sx_one ?_
          refine s1_set 2 sc__law_drawn_length.nd ?_
          refine ex_op opSub ?_
          refine ex_op opSub ?_
          refine ex_op opPow ?_
          refine ex_int ?_
          refine ex_int ?_
          refine ⟨_, rd_powI ⟨by decide, by decide, by decide⟩, ?_⟩
          refine ex_int ?_
          refine ⟨_, by walk_at "rd", ?_⟩
          refine ex_call1 C__law_roll hr ?_
          refine ax_own 0 rfl ?_
          refine ax_cons ?_
          refine ex_int ?_
          refine ax_nil ?_
          refine ⟨_, _, _, _, rfl, rfl, rfl, rfl, N + 1, _, hd1, by omega, rfl, by decide, by decide, fun r cs1 r0 r1 hd1 => ?_⟩
          refine ⟨_, by walk_at "rd", ?_⟩
          have e : (2 : Int) ^ (30 : Int).toNat = 1073741824 := by decide
          rw [e]
          exact ⟨_, _, rfl, rfl, by omega, by omega, hd1⟩
        · refine sx_one ?_
          refine s1_set 2 sc__law_drawn_length.nd ?_
          refine ex_call1 C__law_roll hr ?_
          refine ax_own 0 rfl ?_
          refine ax_cons ?_
          refine ex_op opMulA ?_
          refine ex_int ?_
          refine ex_int ?_
          refine ⟨_, rd_mulII (cmul (small (m := 100000) (by decide)) (small (m := 10000) (by decide))), ?_⟩
          refine ax_nil ?_
          refine ⟨_, _, _, _, rfl, rfl, rfl, rfl, N + 1, _, hd1, by omega, rfl, by decide, by decide, fun r cs1 r0 r1 hd1 => ?_⟩
          exact ⟨_, _, rfl, rfl, by omega, by omega, hd1⟩
  · rintro ρ S ⟨i, cs2, rfl, rfl, i0, i1, hd2⟩
    refine sx_one ?_
    refine s1_ret ?_
    refine ex_if ?_
    refine tx_cmp opGt ?_
    refine ex_call1 C__law_roll hr ?_
    refine ax_own 0 rfl ?_
    refine ax_cons ?_
    refine ex_int ?_
    refine ax_nil ?_
    refine ⟨_, _, _, _, rfl, rfl, rfl, rfl, N + 2, _, hd2, by omega, rfl, by decide, by decide, fun r cs1 r0 r1 hd1 => ?_⟩
    refine ex_int ?_
    refine ⟨_, by walk_at "rd", fun ht => ?_, fun ht => ?_⟩
    · refine ex_var 2 rfl ?_
      exact ⟨_, _, rfl, q _ _ (by omega) hd1⟩
    · refine ex_op opSub ?_
      refine ex_int ?_
      refine ex_var 2 rfl ?_
      refine ⟨_, by walk_at "rd", ?_⟩
      exact ⟨_, _, rfl, q _ _ (by omega) hd1⟩
def outD (o : Out) (z : Str) : D := match o with | .len => .str "length" | .num _ => .str (("number " : Str) ++ z) | .ok i => .int i
structure ExcP (K : PySem.W.Frag) (cIL cIN : Addr) : Prop where
  ll : PySem.W.exmOne K (.ref cIL) (.ref cIL) = some true
  nl : PySem.W.exmOne K (.ref cIN) (.ref cIL) = some false
  nn : PySem.W.exmOne K (.ref cIN) (.ref cIN) = some true
def smallZ (z : Str) : Prop := ("number " : Str).length + z.length ≤ 1000
def R_told : RP := fun ds Pr _ => ∃ l t b z, ds = [l, t, b] ∧ kindD l ∧ kindD t ∧ kindD b ∧ (∀ d, scaledO l t b = .num d → RepOk d z ∧ smallZ z) ∧ Pr (outD (scaledO l t b) z)
theorem cal__law_told (T : TxtP K mg cIL cIN fI) (L : LibP mg) (X : ExcP K cIL cIN) (C_scaled : Cal P w K mg base 4 "scaled" (spD K 3 (R_scaled cIL cIN))) (F : Fun K "_law_told" "_law_told" s__law_told f fd) (hm : mg "_law_told" = some (.ref f)) (hb : Binds K fd ["_law_length", "_law_times", "_law_by"] []) :
    CalG P w K mg base 5 "_law_told" (spD K 3 R_told) := by
  refine ⟨f, fnDG0 F sc__law_told rfl (by decide) hb (fun cdv A outer s H E Fx hr hGu hP ds Pr Px hR hl => ?_), hm, F.kp⟩
  obtain ⟨l, t, b, z, rfl, hl', ht', hb', hz, q⟩ := hR
  refine sx_one ?_
  refine s1_try sc__law_told.nd (.bare ⟨rfl, rfl, .inl T.e_InvalidLength.gC⟩ (.named (i := 3) ⟨rfl, rfl, .inl T.e_InvalidNumber.gC⟩ rfl rfl .nil)) (fun W pn xe tk hp => ?_)
  refine sx_one ?_
  refine s1_ret ?_
  refine ex_call C_scaled hr ?_
  refine ax_cons ?_
  refine ex_var 0 rfl ?_
  refine ax_cons ?_
  refine ex_var 1 rfl ?_
  refine ax_cons ?_
  refine ex_var 2 rfl ?_
  refine ax_nil ?_
  refine ⟨_, rfl, rfl, l, t, b, rfl, hl', ht', hb', fun e => ?_, fun d e => ?_, fun i e => ?_⟩
  · refine ⟨_, X.ll, fun _ a oe pn => ?_, fun h => (nomatch h)⟩
    refine sx_one ?_
    refine s1_ret ?_
    refine ex_str ?_
    rw [e] at q
    exact q
  · refine ⟨_, X.nl, fun h => (nomatch h), fun _ => ⟨_, X.nn, fun _ => ⟨_, _, rfl, fun a oe pn dd hzc hf => ?_⟩, fun h => (nomatch h)⟩⟩
    obtain ⟨h1, h2⟩ := hz d e
    refine sx_one ?_
    refine s1_ret ?_
    refine ex_op opAdd ?_
    refine ex_str ?_
    refine ex_callB (cr_repA hGu hr.units) L.b_repr (by decide +kernel) ?_
    refine ax_cons ?_
    refine ex_eattr 3 ⟨T.e_InvalidNumber.ga, T.e_InvalidNumber.gg, T.e_InvalidNumber.exC, T.e_InvalidNumber.hdC⟩ T.e_InvalidNumber.noF hzc hf rfl ?_
    refine ax_nil ?_
    refine ⟨_, cd_repA h1, ?_⟩
    rw [e] at q
    exact ⟨_, rd_addS (Nat.le_trans h2 (by decide)), q⟩
  · rw [e] at q
    exact q
def R_refused : RP := fun ds Pr _ => ∃ d, ds = [d] ∧ kindD d ∧ isLenD d = false ∧ Pr (.bl true)
theorem cal__law_is_refused (T : TxtP K mg cIL cIN fI) (X : ExcP K cIL cIN) (C_text_of_length : Cal P w K mg base 4 "text_of_length" (spD K 1 (R_text_refused cIL))) (F : Fun K "_law_is_refused" "_law_is_refused" s__law_is_refused f fd) (hm : mg "_law_is_refused" = some (.ref f)) (hb : Binds K fd ["_law_value"] []) :
    Cal P w K mg base 5 "_law_is_refused" (spD K 1 R_refused) := by
  refine fnD F sc__law_is_refused rfl (by decide) hm hb (fun cdv A outer s H E Fx hr hP ds Pr Px hR hl => ?_)
  obtain ⟨d, rfl, hd, h, q⟩ := hR
  refine sx_cons ?_
  refine s1_try sc__law_is_refused.nd (.bare ⟨rfl, rfl, .inl T.e_InvalidLength.gC⟩ .nil) (fun W pn xe tk hp => ?_)
  refine sx_one ?_
  refine s1_expr ?_
  refine ex_call C_text_of_length hr ?_
  refine ax_cons ?_
  refine ex_var 0 rfl ?_
  refine ax_nil ?_
  refine ⟨_, rfl, rfl, d, rfl, hd, h, ?_⟩
  refine ⟨_, X.ll, fun _ a oe pn => ?_, fun h => (nomatch h)⟩
  refine sx_one ?_
  refine s1_ret ?_
  refine ex_bl ?_
  exact q
end
end Lay

namespace Lay
open PySem PySem.Spec L2
local macro_rules | `(tactic| walk_at "rd") => `(tactic| first
  | exact rd_addI | exact rd_subI | exact rd_ltI | exact rd_leI | exact rd_gtI | exact rd_geI | exact rd_isNo | exact rd_notNo | exact rd_isBo | exact rd_notBo | exact rd_inStr
  | exact rd_ixTu rfl | exact rd_ixLi rfl | exact rd_inTup rfl rfl | exact rd_eqO (n := 1) (m := 1) rfl rfl | exact rd_neO (n := 1) (m := 1) rfl rfl)
local macro_rules | `(tactic| walk_at "cd") => `(tactic| first | exact cd_int1 | exact cd_int1b | exact cd_abs | exact cd_len rfl | exact cd_max2 | exact cd_min2 | exact cd_lenO rfl)
section
variable {P : Program} {w : World} {K : PySem.W.Frag} {mg : Str → Option Value} {base : Heap}
variable {cIL cIN fI : Addr} {f : Addr} {fd : FuncData}
def smD (d : D) : Prop := ∀ i : Int, d = .int i → i.natAbs < 10 ^ 60
def absD (d : D) : Int := if intD d < 0 then -(intD d) else intD d
theorem int_ok {d : D} (h1 : isBolD d = false) (h2 : isIntD d = true) : ∃ i : Int, d = .int i := by
  cases d with
  | int i => exact ⟨i, rfl⟩
  | bl b => cases h1
  | _ => cases h2
theorem int60_sm {d : D} (h : smD d) : isInt60 d = !(isBolD d || !isIntD d) := by
  cases d with
  | int i => exact decide_eq_true (h i rfl)
  | _ => rfl
theorem len_sm {d : D} (h : smD d) : isLenD d = !(isBolD d || (!isIntD d || decide (1073741824 ≤ absD d))) := by
  cases d with
  | int i =>
    show (decide (i.natAbs < 10 ^ 60) && (decide (-1073741823 ≤ i) && decide (i ≤ 1073741823))) = !(false || (false || decide (1073741824 ≤ (if i < 0 then -i else i))))
    rw [decide_eq_true (h i rfl), Bool.true_and, Bool.false_or, Bool.false_or, ← Bool.decide_and]
    by_cases z : -1073741823 ≤ i ∧ i ≤ 1073741823
    · rw [decide_eq_true z, decide_eq_false (by split <;> omega)] <;> rfl
    · rw [decide_eq_false z, decide_eq_true (by split <;> omega)] <;> rfl
  | _ => rfl
theorem by_sm {d : D} (h : smD d) : (isInt60 d && decide (1 ≤ intD d)) = !(isBolD d || (!isIntD d || decide (intD d < 1))) := by
  cases d with
  | int i =>
    show (decide (i.natAbs < 10 ^ 60) && decide (1 ≤ i)) = !(false || (false || decide (i < 1)))
    rw [decide_eq_true (h i rfl), Bool.true_and, Bool.false_or, Bool.false_or]
    by_cases z : 1 ≤ i
    · rw [decide_eq_true z, decide_eq_false (by omega)] <;> rfl
    · rw [decide_eq_false z, decide_eq_true (by omega)] <;> rfl
  | _ => rfl
theorem len_int (r : Int) : isLenD (.int r) = decide ((if r < 0 then -r else r) < 1073741824) := by
  show (decide (r.natAbs < 10 ^ 60) && (decide (-1073741823 ≤ r) && decide (r ≤ 1073741823))) = _
  by_cases z : (if r < 0 then -r else r) < 1073741824
  · have z1 : r.natAbs ≤ 1073741823 := by split at z <;> omega
    rw [decide_eq_true z, decide_eq_true (show r.natAbs < 10 ^ 60 from Nat.lt_of_le_of_lt z1 (by decide)), decide_eq_true (by omega), decide_eq_true (by omega)] <;> rfl
  · rw [decide_eq_false z]
    have : ¬(-1073741823 ≤ r ∧ r ≤ 1073741823) := by split at z <;> omega
    rw [← Bool.decide_and, decide_eq_false this, Bool.and_false]
def R_due : RP := fun ds Pr _ => ∃ l t b z, ds = [l, t, b] ∧ kindD l ∧ kindD t ∧ kindD b ∧ smD l ∧ smD t ∧ smD b ∧ (∀ d, scaledO l t b = .num d → RepOk d z ∧ smallZ z) ∧ Pr (outD (scaledO l t b) z)
theorem cal__law_due (L : LibP mg) (C__law_nearest : Cal P w K mg base 1 "_law_nearest" (spD K 2 R_rounded)) (F : Fun K "_law_due" "_law_due" s__law_due f fd) (hm : mg "_law_due" = some (.ref f)) (hb : Binds K fd ["_law_length", "_law_times", "_law_by"] []) :
    CalG P w K mg base 2 "_law_due" (spD K 3 R_due) := by
  refine ⟨f, fnDG0 F sc__law_due rfl (by decide) hb (fun cdv A outer s H E Fx hr hGu hP ds Pr Px hR hl => ?_), hm, F.kp⟩
  obtain ⟨l, t, b, z, rfl, hl', ht', hb', sl, st, sb, hz, q⟩ := hR
  unfold scaledO at hz q
  refine sx_cons (s1_if (tx_w (wx_orB (!isIntD l || decide (1073741824 ≤ absD l)) ?_)))
  refine tx_val ?_
  refine ex_callB call_isi L.b_isinstance (by decide +kernel) ?_
  refine ax_cons ?_
  refine ex_var 0 rfl ?_
  refine ax_cons ?_
  refine ex_ty (n := "bool") L.b_bool (by decide +kernel) ?_
  refine ax_nil ?_
  refine ⟨_, cd_isBol hl', _, rfl, fun h1 => ?_, ?_⟩
  · refine wx_orB (decide (1073741824 ≤ absD l)) ?_
    refine tx_not (tx_val ?_)
    refine ex_callB call_isi L.b_isinstance (by decide +kernel) ?_
    refine ax_cons ?_
    refine ex_var 0 rfl ?_
    refine ax_cons ?_
    refine ex_ty (n := "int") L.b_int (by decide +kernel) ?_
    refine ax_nil ?_
    refine ⟨_, cd_isInt hl', _, rfl, fun h2 => ?_, rfl, rfl⟩
    obtain ⟨i, rfl⟩ := int_ok h1 (bnf h2)
    refine wx_or1 ?_
    refine tx_cmp opGe ?_
    refine ex_callB cr_abs L.b_abs (by decide +kernel) ?_
    refine ax_cons ?_
    refine ex_var 0 rfl ?_
    refine ax_nil ?_
    refine ⟨_, by walk_at "cd", ?_⟩
    refine ex_op opPow ?_
    refine ex_int ?_
    refine ex_int ?_
    refine ⟨_, rd_powI ⟨by decide, by decide, by decide⟩, ?_⟩
    exact ⟨_, by walk_at "rd", rfl, rfl⟩
  have el := len_sm sl
  refine ⟨fun h1 => ?_, fun h1 => sx_nil ?_⟩
  · rw [h1] at el
    have el0 : isLenD l = false := el
    rw [if_pos el0] at q
    refine sx_one ?_
    refine s1_ret ?_
    refine ex_str ?_
    exact q
  rw [h1] at el
  have el' : ¬ isLenD l = false := by rw [el]; decide
  rw [if_neg el'] at q hz
  refine sx_cons (s1_if (tx_w (wx_orB (!isIntD t) ?_)))
  refine tx_val ?_
  refine ex_callB call_isi L.b_isinstance (by decide +kernel) ?_
  refine ax_cons ?_
  refine ex_var 1 rfl ?_
  refine ax_cons ?_
  refine ex_ty (n := "bool") L.b_bool (by decide +kernel) ?_
  refine ax_nil ?_
  refine ⟨_, cd_isBol ht', _, rfl, fun h1 => ?_, ?_⟩
  · refine wx_or1 ?_
    refine tx_not (tx_val ?_)
    refine ex_callB call_isi L.b_isinstance (by decide +kernel) ?_
    refine ax_cons ?_
    refine ex_var 1 rfl ?_
    refine ax_cons ?_
    refine ex_ty (n := "int") L.b_int (by decide +kernel) ?_
    refine ax_nil ?_
    exact ⟨_, cd_isInt ht', _, rfl, rfl, rfl⟩
  have et := int60_sm st
  refine ⟨fun h2 => ?_, fun h2 => sx_nil ?_⟩
  · rw [h2] at et
    have et' : isInt60 t = false := et
    rw [if_pos et'] at q hz
    obtain ⟨z1, z2⟩ := hz t rfl
    refine sx_one ?_
    refine s1_ret ?_
    refine ex_op opAdd ?_
    refine ex_str ?_
    refine ex_callB (cr_repA hGu hr.units) L.b_repr (by decide +kernel) ?_
    refine ax_cons ?_
    refine ex_var 1 rfl ?_
    refine ax_nil ?_
    refine ⟨_, cd_repA z1, ?_⟩
    exact ⟨_, rd_addS (Nat.le_trans z2 (by decide)), q⟩
  rw [h2] at et
  have et' : ¬ isInt60 t = false := by rw [et]; decide
  rw [if_neg et'] at q hz
  refine sx_cons (s1_if (tx_w (wx_orB (!isIntD b || decide (intD b < 1)) ?_)))
  refine tx_val ?_
  refine ex_callB call_isi L.b_isinstance (by decide +kernel) ?_
  refine ax_cons ?_
  refine ex_var 2 rfl ?_
  refine ax_cons ?_
  refine ex_ty (n := "bool") L.b_bool (by decide +kernel) ?_
  refine ax_nil ?_
  refine ⟨_, cd_isBol hb', _, rfl, fun h1 => ?_, ?_⟩
  · refine wx_orB (decide (intD b < 1)) ?_
    refine tx_not (tx_val ?_)
    refine ex_callB call_isi L.b_isinstance (by decide +kernel) ?_
    refine ax_cons ?_
    refine ex_var 2 rfl ?_
    refine ax_cons ?_
    refine ex_ty (n := "int") L.b_int (by decide +kernel) ?_
    refine ax_nil ?_
    refine ⟨_, cd_isInt hb', _, rfl, fun h2 => ?_, rfl, rfl⟩
    obtain ⟨i, rfl⟩ := int_ok h1 (bnf h2)
    refine wx_or1 ?_
    refine tx_cmp opLt ?_
    refine ex_var 2 rfl ?_
    refine ex_int ?_
    exact ⟨_, by walk_at "rd", rfl, rfl⟩
  have eb := by_sm sb
  refine ⟨fun h3 => ?_, fun h3 => sx_nil ?_⟩
  · rw [h3] at eb
    have eb' : (isInt60 b && decide (1 ≤ intD b)) = false := eb
    rw [if_pos eb'] at q hz
    obtain ⟨z1, z2⟩ := hz b rfl
    refine sx_one ?_
    refine s1_ret ?_
    refine ex_op opAdd ?_
    refine ex_str ?_
    refine ex_callB (cr_repA hGu hr.units) L.b_repr (by decide +kernel) ?_
    refine ax_cons ?_
    refine ex_var 2 rfl ?_
    refine ax_nil ?_
    refine ⟨_, cd_repA z1, ?_⟩
    exact ⟨_, rd_addS (Nat.le_trans z2 (by decide)), q⟩
  rw [h3] at eb
  have eb1 : (isInt60 b && decide (1 ≤ intD b)) = true := eb
  have eb' : ¬ (isInt60 b && decide (1 ≤ intD b)) = false := by rw [eb1]; decide
  rw [if_neg eb'] at q
  rw [Bool.and_eq_true, decide_eq_true_eq] at eb1
  obtain ⟨i, rfl, hi⟩ := len_bound (l := l) (by simpa using el')
  obtain ⟨j, rfl, hj⟩ := int60_int (d := t) (by simpa using et')
  obtain ⟨k, rfl, hk⟩ := int60_int eb1.1
  have k1 : 1 ≤ k := eb1.2
  refine sx_cons ?_
  refine s1_set 3 sc__law_due.nd ?_
  refine ex_call C__law_nearest hr ?_
  refine ax_cons ?_
  refine ex_op opMulA ?_
  refine ex_var 0 rfl ?_
  refine ex_var 1 rfl ?_
  refine ⟨_, rd_mulII (cmul (small (m := 2 ^ 31) (by omega)) (small (m := 2 ^ 200) (Nat.lt_trans hj p200))), ?_⟩
  refine ax_cons ?_
  refine ex_var 2 rfl ?_
  refine ax_nil ?_
  refine ⟨_, rfl, rfl, i * j, k, rfl, prod_bound hi hj, by omega, Nat.lt_trans hk p200, ?_⟩
  have er : roundI (intD (.int i) * intD (.int j)) (intD (.int k)) = roundI (i * j) k := rfl
  rw [er] at q
  generalize roundI (i * j) k = r at q
  refine sx_one ?_
  refine s1_ret ?_
  refine ex_if ?_
  refine tx_cmp opLt ?_
  refine ex_callB cr_abs L.b_abs (by decide +kernel) ?_
  refine ax_cons ?_
  refine ex_var 3 rfl ?_
  refine ax_nil ?_
  refine ⟨_, by walk_at "cd", ?_⟩
  refine ex_op opPow ?_
  refine ex_int ?_
  refine ex_int ?_
  refine ⟨_, rd_powI ⟨by decide, by decide, by decide⟩, ?_⟩
  have e30 : (2 : Int) ^ (30 : Int).toNat = 1073741824 := by decide
  rw [e30]
  refine ⟨_, by walk_at "rd", fun h => ?_, fun h => ?_⟩
  · rw [if_pos ((len_int r).trans h)] at q
    refine ex_var 3 rfl ?_
    exact q
  · rw [if_neg (by rw [(len_int r).trans h]; decide)] at q
    refine ex_str ?_
    exact q
end
end Lay

namespace Lay
open PySem PySem.Spec L2
/-! what the drawn values are, as data -/
def repZ : D → Str
  | .non => "None"
  | .bl b => if b then "True" else "False"
  | .int i => (toString i : String)
  | .str s => PySem.reprText s
  | d => (pyOf d).shown
def repB (d : D) : Bool := match d with
  | .non => true | .bl _ => true | .int i => decide (i.natAbs.log2 < 1920) | .str s => decide ((PySem.reprText s).length ≤ sizeLine)
  | d => okP 60 d && ((isTupD d || isLstD d) && ((pyOf d).showable && (!(pyOf d).hasDict && decide ((pyOf d).shown.length ≤ sizeLine))))
def goodB (d : D) : Bool := repB d && (decide (("number " : Str).length + (repZ d).length ≤ 1000) && decide ((PySem.reprText (("number " : Str) ++ repZ d)).length ≤ sizeLine))
theorem repB_ok {d : D} (h : repB d = true) : RepOk d (repZ d) := by
  cases d with
  | non => exact .inl ⟨_, rfl, rfl⟩
  | bl b => exact .inl ⟨_, rfl, rfl⟩
  | int i => exact .inl ⟨_, rfl, if_pos (of_decide_eq_true h)⟩
  | str s => exact .inl ⟨_, rfl, if_pos (of_decide_eq_true h)⟩
  | _ =>
    simp only [repB, Bool.and_eq_true, Bool.not_eq_true', decide_eq_true_eq] at h
    exact .inr ⟨h.1, h.2.1, h.2.2.1, h.2.2.2.1, h.2.2.2.2, rfl⟩
theorem good_ok {d : D} (h : goodB d = true) : RepOk d (repZ d) ∧ smallZ (repZ d) ∧ (PySem.reprText (("number " : Str) ++ repZ d)).length ≤ sizeLine := by
  unfold goodB at h
  rw [Bool.and_eq_true, Bool.and_eq_true, decide_eq_true_eq, decide_eq_true_eq] at h
  exact ⟨repB_ok h.1, h.2.1, h.2.2⟩
def smB (d : D) : Bool := match d with | .int i => decide (i.natAbs < 10 ^ 60) | _ => true
theorem smB_ok {d : D} (h : smB d = true) : smD d := by
  rintro i rfl
  exact of_decide_eq_true h
def timesD : List D := [.int 3, .int 4, .non, .bl true, .str "2", .tup [.int 1]]
def bysD : List D := [.int 5, .int 2, .int 0, .int (-1), .bl true, .non, .str "1", .lst []]
def refD : List D := [.non, .str "1pt", .bl true, .int (2 ^ (30 : Int).toNat), .int (0 - 2 ^ (30 : Int).toNat), .tup [.int 1], .int (10 ^ (50 : Int).toNat), .lst []]
def isKind (d : D) : Bool := (tyD d).isSome
theorem kind_ok {d : D} (h : isKind d = true) : kindD d := fun e => by
  unfold isKind at h
  rw [e] at h
  cases h
theorem times_ok {d : D} (h : d ∈ timesD) : goodB d = true ∧ smD d ∧ kindD d := by
  have z : (timesD.all fun d => goodB d && (smB d && isKind d)) = true := by decide +kernel
  have y := List.all_eq_true.mp z d h
  rw [Bool.and_eq_true, Bool.and_eq_true] at y
  exact ⟨y.1, smB_ok y.2.1, kind_ok y.2.2⟩
theorem bys_ok {d : D} (h : d ∈ bysD) : goodB d = true ∧ smD d ∧ kindD d := by
  have z : (bysD.all fun d => goodB d && (smB d && isKind d)) = true := by decide +kernel
  have y := List.all_eq_true.mp z d h
  rw [Bool.and_eq_true, Bool.and_eq_true] at y
  exact ⟨y.1, smB_ok y.2.1, kind_ok y.2.2⟩
theorem ref_ok {d : D} (h : d ∈ refD) : isLenD d = false ∧ kindD d := by
  have z : (refD.all fun d => !isLenD d && isKind d) = true := by decide +kernel
  have y := List.all_eq_true.mp z d h
  rw [Bool.and_eq_true] at y
  exact ⟨bnt y.1, kind_ok y.2⟩
def lensD (i : Int) : List D := [.int i, .int i, .non, .str "1pt", .tup [.int 5], .bl true, .int (2 ^ (30 : Int).toNat), .lst [], .dct [], .int (10 ^ (59 : Int).toNat)]
theorem lens_ok {i : Int} {d : D} (hi : i.natAbs ≤ 1073741823) (h : d ∈ lensD i) : smD d ∧ kindD d := by
  have hs : smD (.int i) := by
    rintro j e
    cases e
    exact Nat.lt_of_le_of_lt hi (by decide)
  unfold lensD at h
  rcases List.mem_cons.mp h with rfl | h
  · exact ⟨hs, int_kind⟩
  rcases List.mem_cons.mp h with rfl | h
  · exact ⟨hs, int_kind⟩
  have z : (([.non, .str "1pt", .tup [.int 5], .bl true, .int (2 ^ (30 : Int).toNat), .lst [], .dct [], .int (10 ^ (59 : Int).toNat)] : List D).all fun d => smB d && isKind d) = true := by decide +kernel
  have y := List.all_eq_true.mp z d h
  rw [Bool.and_eq_true] at y
  exact ⟨smB_ok y.1, kind_ok y.2⟩
theorem scaled_num {l t b d : D} (h : scaledO l t b = .num d) : d = t ∨ d = b := by
  unfold scaledO at h
  split at h
  · cases h
  · split at h
    · cases h; exact .inl rfl
    · split at h
      · cases h; exact .inr rfl
      · split at h <;> cases h
theorem scaled_len {l t b : D} {i : Int} (h : scaledO l t b = .ok i) : isLenD (.int i) = true := by
  unfold scaledO at h
  split at h
  · cases h
  · split at h
    · cases h
    · split at h
      · cases h
      · split at h
        · rename_i z
          cases h
          exact z
        · cases h
def numZ (o : Out) : Str := match o with | .num d => repZ d | _ => ""
/-- what is told has a text -/
theorem told_rep {o : Out} (h : ∀ d, o = .num d → (PySem.reprText (("number " : Str) ++ repZ d)).length ≤ sizeLine) (hl : ∀ i, o = .ok i → isLenD (.int i) = true) : ∃ z, RepOk (outD o (numZ o)) z := by
  cases o with
  | len => exact ⟨_, .inl ⟨_, rfl, if_pos (by decide +kernel)⟩⟩
  | num d => exact ⟨_, .inl ⟨_, rfl, if_pos (h d rfl)⟩⟩
  | ok i =>
    refine ⟨_, .inl ⟨_, rfl, if_pos ?_⟩⟩
    obtain ⟨j, e, hj⟩ := len_bound (hl i rfl)
    cases e
    by_cases h0 : i.natAbs = 0
    · rw [h0]; decide
    · exact Nat.lt_trans ((Nat.log2_lt h0).mpr (show i.natAbs < 2 ^ 30 by omega)) (by decide)
theorem scaled_good {i j k : Int} (hi : i.natAbs ≤ 1073741823) (hj : j.natAbs < 10 ^ 60) (hk : k.natAbs < 10 ^ 60) (k1 : 1 ≤ k) : scaledO (.int i) (.int j) (.int k) = if isLenD (.int (roundI (i * j) k)) = true then .ok (roundI (i * j) k) else .len := by
  have e1 : isLenD (.int i) = true := by rw [len_int]; exact decide_eq_true (by split <;> omega)
  have e2 : isInt60 (.int j) = true := decide_eq_true hj
  have e3 : (isInt60 (.int k) && decide (1 ≤ intD (.int k))) = true := by
    rw [Bool.and_eq_true]
    exact ⟨decide_eq_true hk, decide_eq_true k1⟩
  unfold scaledO
  rw [if_neg (by rw [e1]; decide), if_neg (by rw [e2]; decide), if_neg (by rw [e3]; decide)] <;> rfl
theorem round_neg (o u : Int) (hu : 1 ≤ u) : roundI (-o) u = -roundI o u := by
  have e : sizeI (-o) u = sizeI o u := by
    unfold sizeI
    congr 2
    by_cases h : o < 0
    · rw [if_neg (by omega), if_pos h]
    · by_cases h0 : o = 0
      · subst h0; rfl
      · rw [if_pos (by omega), if_neg h]; omega
  unfold roundI
  rw [e]
  by_cases h : o < 0
  · rw [if_neg (by omega), if_pos h]; omega
  · by_cases h0 : o = 0
    · subst h0
      have z : sizeI 0 u = 0 := by
        show (2 * 0 + u) / (2 * u) = 0
        exact Int.ediv_eq_zero_of_lt (by omega) (by omega)
      rw [z] <;> rfl
    · rw [if_pos (by omega), if_neg h]
theorem len_neg (r : Int) : isLenD (.int (-r)) = isLenD (.int r) := by
  rw [len_int, len_int]
  congr 2
  split <;> split <;> omega
end Lay

namespace Lay
open PySem PySem.Spec L2
local macro_rules | `(tactic| walk_at "rd") => `(tactic| first
  | exact rd_addI | exact rd_subI | exact rd_ltI | exact rd_leI | exact rd_gtI | exact rd_geI | exact rd_isNo | exact rd_notNo | exact rd_isBo | exact rd_notBo | exact rd_inStr
  | exact rd_ixTu rfl | exact rd_ixLi rfl | exact rd_inTup rfl rfl | exact rd_eqO (n := 1) (m := 1) rfl rfl | exact rd_neO (n := 1) (m := 1) rfl rfl)
local macro_rules | `(tactic| walk_at "cd") => `(tactic| first | exact cd_int1 | exact cd_int1b | exact cd_abs | exact cd_len rfl | exact cd_max2 | exact cd_min2 | exact cd_lenO rfl)
section
variable {P : Program} {w : World} {K : PySem.W.Frag} {mg : Str → Option Value} {base : Heap}
variable {cIL cIN fI : Addr} {f : Addr} {fd : FuncData}
def timesI (r : Int) : List Int := [0, 1, 2, -3, 7, 1000, 10 ^ (9 : Int).toNat, r, 10 ^ (50 : Int).toNat]
def bysI (r : Int) : List Int := [1, 2, 3, 4, 6, 1000, 10 ^ (9 : Int).toNat, 1 + r, 10 ^ (55 : Int).toNat]
theorem timesI_ok {r : Int} (h0 : 0 ≤ r) (h1 : r < 500) {d : D} (h : d ∈ (timesI r).map D.int) : ∃ j : Int, d = .int j ∧ j.natAbs < 10 ^ 60 := by
  obtain ⟨j, hj, rfl⟩ := List.mem_map.mp h
  refine ⟨j, rfl, ?_⟩
  simp only [timesI, List.mem_cons, List.not_mem_nil, or_false] at hj
  rcases hj with h | h | h | h | h | h | h | h | h <;> first | (rw [h]; decide +kernel) | exact Nat.lt_trans (show j.natAbs < 500 by omega) (by decide)
theorem bysI_ok {r : Int} (h0 : 0 ≤ r) (h1 : r < 500) {d : D} (h : d ∈ (bysI r).map D.int) : ∃ j : Int, d = .int j ∧ j.natAbs < 10 ^ 60 ∧ 1 ≤ j := by
  obtain ⟨j, hj, rfl⟩ := List.mem_map.mp h
  refine ⟨j, rfl, ?_⟩
  simp only [bysI, List.mem_cons, List.not_mem_nil, or_false] at hj
  rcases hj with h | h | h | h | h | h | h | h | h <;> first | (rw [h]; decide +kernel) | exact ⟨Nat.lt_trans (show j.natAbs < 502 by omega) (by decide), by omega⟩
def R_right : RP1 := fun cs ds Pr _ => ∃ N : Nat, DiceL cs N ∧ N < 10 ^ 8 ∧ ds = [] ∧ ∀ cs', DiceL cs' (N + 20) → Pr (.bl true) cs'
def oD (r : Int) : D := if isLenD (.int r) = true then .int r else .str "length"
theorem out_good (r : Int) (z : Str) : outD (if isLenD (.int r) = true then .ok r else .len) z = oD r := by
  unfold oD
  split <;> rfl
theorem cal__law_right (L : LibP mg) (C__law_roll : Cal P w K mg base 1 "_law_roll" (spO K 1 R_roll)) (C__law_pick : Cal P w K mg base 2 "_law_pick" (spO K 1 R_pick)) (C__law_drawn_length : Cal P w K mg base 2 "_law_drawn_length" (spO K 0 R_dlen))
    (C__law_told : CalG P w K mg base 5 "_law_told" (spD K 3 R_told)) (C__law_due : CalG P w K mg base 2 "_law_due" (spD K 3 R_due)) (C__law_is_refused : Cal P w K mg base 5 "_law_is_refused" (spD K 1 R_refused))
    (F : Fun K "_law_right" "_law_right" s__law_right f fd) (hm : mg "_law_right" = some (.ref f)) (hb : Binds K fd ["_law_dice_here"] []) : CalG P w K mg base 6 "_law_right" (spO K 0 R_right) := by
  refine ⟨f, fnOG0 F sc__law_right rfl (by decide) hb (fun cdv A outer s H E Fx hr hGu hP cs ds Pr Px hR hl => ?_), hm, F.kp⟩
  obtain ⟨N, hd, hN, rfl, q⟩ := hR
  refine sx_cons ?_
  refine s1_set 1 sc__law_right.nd ?_
  refine ex_call1 C__law_drawn_length (hr.mono (by decide)) ?_
  refine ax_own 0 rfl ?_
  refine ax_nil ?_
  refine ⟨_, _, _, _, rfl, rfl, rfl, rfl, N, hd, hN, rfl, fun i cs1 hi hd1 => ?_⟩
  refine sx_cons ?_
  refine s1_set 2 sc__law_right.nd ?_
  refine ex_call1 C__law_pick (hr.mono (by decide)) ?_
  refine ax_own 0 rfl ?_
  refine ax_cons ?_
  refine ex_lstD (ef_lst ?_)
  refine ax_cons ?_
  refine ex_int ?_
  refine ax_cons ?_
  refine ex_int ?_
  refine ax_cons ?_
  refine ex_int ?_
  refine ax_cons ?_
  refine ex_un un_neg ?_
  refine ex_int ?_
  refine ⟨_, ud_neg, ?_⟩
  refine ax_cons ?_
  refine ex_int ?_
  refine ax_cons ?_
  refine ex_int ?_
  refine ax_cons ?_
  refine ex_op opPow ?_
  refine ex_int ?_
  refine ex_int ?_
  refine ⟨_, rd_powI ⟨by decide, by decide, by decide⟩, ?_⟩
  refine ax_cons ?_
  refine ex_call1 C__law_roll (hr.mono (by decide)) ?_
  refine ax_own 0 rfl ?_
  refine ax_cons ?_
  refine ex_int ?_
  refine ax_nil ?_
  refine ⟨_, _, _, _, rfl, rfl, rfl, rfl, N + 3, _, hd1, by omega, rfl, by decide, by decide, fun r cs2 r0 r1 hd2 => ?_⟩
  refine ax_cons ?_
  refine ex_op opPow ?_
  refine ex_int ?_
  refine ex_int ?_
  refine ⟨_, rd_powI ⟨by decide, by decide, by decide⟩, ?_⟩
  refine ax_nil ?_
  refine ⟨_, rfl, by simp, ?_⟩
  refine ax_nil ?_
  refine ⟨_, _, _, _, rfl, rfl, rfl, rfl, N + 4, (timesI r).map .int, hd2, by omega, rfl, by simp [timesI], by simp [timesI], fun x hx cs3 hd3 => ?_⟩
  obtain ⟨j, rfl, hj⟩ := timesI_ok r0 r1 hx
  refine sx_cons ?_
  refine s1_set 3 sc__law_right.nd ?_
  refine ex_call1 C__law_pick (hr.mono (by decide)) ?_
  refine ax_own 0 rfl ?_
  refine ax_cons ?_
  refine ex_lstD (ef_lst ?_)
  refine ax_cons ?_
  refine ex_int ?_
  refine ax_cons ?_
  refine ex_int ?_
  refine ax_cons ?_
  refine ex_int ?_
  refine ax_cons ?_
  refine ex_int ?_
  refine ax_cons ?_
  refine ex_int ?_
  refine ax_cons ?_
  refine ex_int ?_
  refine ax_cons ?_
  refine ex_op opPow ?_
  refine ex_int ?_
  refine ex_int ?_
  refine ⟨_, rd_powI ⟨by decide, by decide, by decide⟩, ?_⟩
  refine ax_cons ?_
  refine ex_op opAdd ?_
  refine ex_int ?_
  refine ex_call1 C__law_roll (hr.mono (by decide)) ?_
  refine ax_own 0 rfl ?_
  refine ax_cons ?_
  refine ex_int ?_
  refine ax_nil ?_
  refine ⟨_, _, _, _, rfl, rfl, rfl, rfl, N + 5, _, hd3, by omega, rfl, by decide, by decide, fun r' cs4 r0' r1' hd4 => ?_⟩
  refine ⟨_, by walk_at "rd", ?_⟩
  refine ax_cons ?_
  refine ex_op opPow ?_
  refine ex_int ?_
  refine ex_int ?_
  refine ⟨_, rd_powI ⟨by decide, by decide, by decide⟩, ?_⟩
  refine ax_nil ?_
  refine ⟨_, rfl, by simp, ?_⟩
  refine ax_nil ?_
  refine ⟨_, _, _, _, rfl, rfl, rfl, rfl, N + 6, (bysI r').map .int, hd4, by omega, rfl, by simp [bysI], by simp [bysI], fun x hx cs5 hd5 => ?_⟩
  obtain ⟨k, rfl, hk, k1⟩ := bysI_ok r0' r1' hx
  have si : smD (.int i) := by
    rintro _ e
    cases e
    exact Nat.lt_of_le_of_lt hi (by decide)
  have sj : smD (.int j) := by
    rintro _ e
    cases e
    exact hj
  have sk : smD (.int k) := by
    rintro _ e
    cases e
    exact hk
  have eg := scaled_good hi hj hk k1
  generalize hr0 : roundI (i * j) k = r2 at eg
  have og : outD (scaledO (.int i) (.int j) (.int k)) "" = oD r2 := by rw [eg]; exact out_good _ _
  have ng : ∀ d, scaledO (.int i) (.int j) (.int k) = .num d → RepOk d "" ∧ smallZ "" := fun d e => by
    rw [eg] at e
    split at e <;> cases e
  obtain ⟨z', hz'⟩ : ∃ z', RepOk (oD r2) z' := by
    have y := told_rep (o := scaledO (.int i) (.int j) (.int k)) (fun d e => by rw [eg] at e; split at e <;> cases e) fun i e => scaled_len e
    have e2 : outD (scaledO (.int i) (.int j) (.int k)) (numZ (scaledO (.int i) (.int j) (.int k))) = oD r2 := by rw [eg]; exact out_good _ _
    rw [e2] at y
    exact y
  refine sx_cons ?_
  refine s1_if ?_
  refine tx_cmp op_ne ?_
  refine ex_callB (cr_repA hGu hr.units) L.b_repr (by decide +kernel) ?_
  refine ax_cons ?_
  refine ex_callG C__law_told (hr.mono (by decide)) hGu ?_
  refine ax_cons ?_
  refine ex_var 1 rfl ?_
  refine ax_cons ?_
  refine ex_var 2 rfl ?_
  refine ax_cons ?_
  refine ex_var 3 rfl ?_
  refine ax_nil ?_
  refine ⟨_, rfl, rfl, _, _, _, "", rfl, int_kind, int_kind, int_kind, ng, ?_⟩
  rw [og]
  refine ax_nil ?_
  refine ⟨_, cd_repA hz', ?_⟩
  refine ex_callB (cr_repA hGu hr.units) L.b_repr (by decide +kernel) ?_
  refine ax_cons ?_
  refine ex_callG C__law_due (hr.mono (by decide)) hGu ?_
  refine ax_cons ?_
  refine ex_var 1 rfl ?_
  refine ax_cons ?_
  refine ex_var 2 rfl ?_
  refine ax_cons ?_
  refine ex_var 3 rfl ?_
  refine ax_nil ?_
  refine ⟨_, rfl, rfl, _, _, _, "", rfl, int_kind, int_kind, int_kind, si, sj, sk, ng, ?_⟩
  rw [og]
  refine ax_nil ?_
  refine ⟨_, cd_repA hz', ?_⟩
  refine ⟨_, rd_neF rfl rfl rfl, ?_⟩
  rw [decide_eq_true rfl]
  refine ⟨fun h => (nomatch h), fun _ => sx_nil ?_⟩
  -- both signs
  have hi' : (0 - i).natAbs ≤ 1073741823 := by omega
  have eg' := scaled_good hi' hj hk k1
  have er' : roundI ((0 - i) * j) k = -r2 := by
    have e1 : (0 - i) * j = -(i * j) := by rw [Int.zero_sub, Int.neg_mul]
    rw [e1, round_neg _ _ k1, hr0]
  rw [er'] at eg'
  have og' : outD (scaledO (.int (0 - i)) (.int j) (.int k)) "" = oD (-r2) := by rw [eg']; exact out_good _ _
  have ng' : ∀ d, scaledO (.int (0 - i)) (.int j) (.int k) = .num d → RepOk d "" ∧ smallZ "" := fun d e => by
    rw [eg'] at e
    split at e <;> cases e
  refine sx_cons ?_
  refine s1_par 4 5 rfl sc__law_right.nd ?_
  refine ax_cons ?_
  refine ex_callG C__law_told (hr.mono (by decide)) hGu ?_
  refine ax_cons ?_
  refine ex_var 1 rfl ?_
  refine ax_cons ?_
  refine ex_var 2 rfl ?_
  refine ax_cons ?_
  refine ex_var 3 rfl ?_
  refine ax_nil ?_
  refine ⟨_, rfl, rfl, _, _, _, "", rfl, int_kind, int_kind, int_kind, ng, ?_⟩
  rw [og]
  refine ax_cons ?_
  refine ex_callG C__law_told (hr.mono (by decide)) hGu ?_
  refine ax_cons ?_
  refine ex_op opSub ?_
  refine ex_int ?_
  refine ex_var 1 rfl ?_
  refine ⟨_, by walk_at "rd", ?_⟩
  refine ax_cons ?_
  refine ex_var 2 rfl ?_
  refine ax_cons ?_
  refine ex_var 3 rfl ?_
  refine ax_nil ?_
  refine ⟨_, rfl, rfl, _, _, _, "", rfl, int_kind, int_kind, int_kind, ng', ?_⟩
  rw [og']
  refine ax_nil ?_
  refine ⟨_, _, rfl, ?_⟩
  refine sx_join (fun ρ S => ρ = [.own 0, .dat (.int i), .dat (.int j), .dat (.int k), .dat (oD r2), .dat (oD (-r2)), .no] ∧ S = [.lst cs5]) ?_ ?_
  · have ln := len_neg r2
    by_cases hL : isLenD (.int r2) = true
    · have o1 : oD r2 = .int r2 := if_pos hL
      have o2 : oD (-r2) = .int (-r2) := if_pos (ln.trans hL)
      rw [o1, o2]
      refine s1_if (tx_w (wx_orB false ?_))
      refine tx_w (wx_andB false ?_)
      refine tx_cmp op_ne ?_
      refine ex_var 4 rfl ?_
      refine ex_str ?_
      refine ⟨_, rd_neF rfl rfl rfl, fun _ => ?_, ?_⟩
      · refine wx_and1 ?_
        refine tx_cmp op_ne ?_
        refine ex_var 5 rfl ?_
        refine ex_op opSub ?_
        refine ex_int ?_
        refine ex_var 4 rfl ?_
        refine ⟨_, by walk_at "rd", ?_⟩
        refine ⟨_, rd_neF rfl rfl rfl, ?_, rfl⟩
        rw [decide_eq_true (show V.int (-r2) = V.int (0 - r2) by rw [Int.zero_sub])] <;> rfl
      rw [Bool.and_false]
      refine ⟨fun _ => ?_, ?_⟩
      · refine wx_or1 ?_
        refine tx_cmp op_ne ?_
        refine ex_cmp op_eq ?_
        refine ex_var 4 rfl ?_
        refine ex_str ?_
        refine ⟨_, rd_eqF rfl rfl rfl, ?_⟩
        refine ex_cmp op_eq ?_
        refine ex_var 5 rfl ?_
        refine ex_str ?_
        refine ⟨_, rd_eqF rfl rfl rfl, ?_⟩
        refine ⟨_, rd_neF rfl rfl rfl, ?_, rfl⟩
        rw [decide_eq_false (show ¬ V.int r2 = V.str "length" from fun e => (nomatch e)), decide_eq_false (show ¬ V.int (-r2) = V.str "length" from fun e => (nomatch e))] <;> rfl
      · exact ⟨fun h => (nomatch h), fun _ => sx_nil ⟨rfl, rfl⟩⟩
    · have hL' : isLenD (.int r2) = false := by simpa using hL
      have o1 : oD r2 = .str "length" := if_neg hL
      have o2 : oD (-r2) = .str "length" := if_neg (by rw [ln]; exact hL)
      rw [o1, o2]
      refine s1_if (tx_w (wx_orB false ?_))
      refine tx_w (wx_andB false ?_)
      refine tx_cmp op_ne ?_
      refine ex_var 4 rfl ?_
      refine ex_str ?_
      refine ⟨_, rd_neF rfl rfl rfl, fun h => absurd h (by decide +kernel), ?_⟩
      rw [Bool.and_false]
      refine ⟨fun _ => ?_, ?_⟩
      · refine wx_or1 ?_
        refine tx_cmp op_ne ?_
        refine ex_cmp op_eq ?_
        refine ex_var 4 rfl ?_
        refine ex_str ?_
        refine ⟨_, rd_eqF rfl rfl rfl, ?_⟩
        refine ex_cmp op_eq ?_
        refine ex_var 5 rfl ?_
        refine ex_str ?_
        refine ⟨_, rd_eqF rfl rfl rfl, ?_⟩
        refine ⟨_, rd_neF rfl rfl rfl, ?_, rfl⟩
        decide +kernel
      · exact ⟨fun h => (nomatch h), fun _ => sx_nil ⟨rfl, rfl⟩⟩
  rintro ρ S ⟨rfl, rfl⟩
  generalize oD r2 = d1
  generalize oD (-r2) = d2
  refine sx_cons ?_
  refine s1_setF 6 sc__law_right.nd (ef_lst ?_)
  refine ax_cons ?_
  refine ex_call1 C__law_pick (hr.mono (by decide)) ?_
  refine ax_own 0 rfl ?_
  refine ax_cons ?_
  refine ex_lstD (ef_lst ?_)
  refine ax_cons ?_
  refine ex_var 1 rfl ?_
  refine ax_cons ?_
  refine ex_var 1 rfl ?_
  refine ax_cons ?_
  refine ex_non ?_
  refine ax_cons ?_
  refine ex_str ?_
  refine ax_cons ?_
  refine ex_tup ?_
  refine ax_cons ?_
  refine ex_int ?_
  refine ax_nil ?_
  refine ⟨_, rfl, by decide, ?_⟩
  refine ax_cons ?_
  refine ex_bl ?_
  refine ax_cons ?_
  refine ex_op opPow ?_
  refine ex_int ?_
  refine ex_int ?_
  refine ⟨_, rd_powI ⟨by decide, by decide, by decide⟩, ?_⟩
  refine ax_cons ?_
  refine ex_lstD (ef_lst ?_)
  refine ax_nil ?_
  refine ⟨_, rfl, by decide, ?_⟩
  refine ax_cons ?_
  refine ex_dict0 ?_
  refine ax_cons ?_
  refine ex_op opPow ?_
  refine ex_int ?_
  refine ex_int ?_
  refine ⟨_, rd_powI ⟨by decide, by decide, by decide⟩, ?_⟩
  refine ax_nil ?_
  refine ⟨_, rfl, by simp, ?_⟩
  refine ax_nil ?_
  refine ⟨_, _, _, _, rfl, rfl, rfl, rfl, N + 7, lensD i, hd5, by omega, rfl, by simp [lensD], by simp [lensD], fun l hlx cs6 hd6 => ?_⟩
  refine ax_nil ?_
  refine ⟨_, rfl, by simp, ?_⟩
  refine sx_cons ?_
  refine s1_app 6 rfl rfl ?_
  refine ex_call1 C__law_pick (hr.mono (by decide)) ?_
  refine ax_own 0 rfl ?_
  refine ax_cons ?_
  refine ex_lstD (ef_lst ?_)
  refine ax_cons ?_
  refine ex_int ?_
  refine ax_cons ?_
  refine ex_int ?_
  refine ax_cons ?_
  refine ex_non ?_
  refine ax_cons ?_
  refine ex_bl ?_
  refine ax_cons ?_
  refine ex_str ?_
  refine ax_cons ?_
  refine ex_tup ?_
  refine ax_cons ?_
  refine ex_int ?_
  refine ax_nil ?_
  refine ⟨_, rfl, by decide, ?_⟩
  refine ax_nil ?_
  refine ⟨_, rfl, by decide, ?_⟩
  refine ax_nil ?_
  refine ⟨_, _, _, _, rfl, rfl, rfl, rfl, N + 8, timesD, hd6, by omega, rfl, by simp [timesD], by simp [timesD], fun t htx cs7 hd7 => ?_⟩
  refine ⟨_, rfl, by simp, ?_⟩
  refine sx_cons ?_
  refine s1_app 6 rfl rfl ?_
  refine ex_call1 C__law_pick (hr.mono (by decide)) ?_
  refine ax_own 0 rfl ?_
  refine ax_cons ?_
  refine ex_lstD (ef_lst ?_)
  refine ax_cons ?_
  refine ex_int ?_
  refine ax_cons ?_
  refine ex_int ?_
  refine ax_cons ?_
  refine ex_int ?_
  refine ax_cons ?_
  refine ex_un un_neg ?_
  refine ex_int ?_
  refine ⟨_, ud_neg, ?_⟩
  refine ax_cons ?_
  refine ex_bl ?_
  refine ax_cons ?_
  refine ex_non ?_
  refine ax_cons ?_
  refine ex_str ?_
  refine ax_cons ?_
  refine ex_lstD (ef_lst ?_)
  refine ax_nil ?_
  refine ⟨_, rfl, by decide, ?_⟩
  refine ax_nil ?_
  refine ⟨_, rfl, by decide, ?_⟩
  refine ax_nil ?_
  refine ⟨_, _, _, _, rfl, rfl, rfl, rfl, N + 9, bysD, hd7, by omega, rfl, by simp [bysD], by simp [bysD], fun b hbx cs8 hd8 => ?_⟩
  refine ⟨_, rfl, by simp, ?_⟩
  obtain ⟨sl, kl⟩ := lens_ok hi hlx
  obtain ⟨gt, st, kt⟩ := times_ok htx
  obtain ⟨gb, sb, kb⟩ := bys_ok hbx
  have gd : ∀ d, scaledO l t b = .num d → goodB d = true := fun d e => by
    rcases scaled_num e with rfl | rfl
    · exact gt
    · exact gb
  have nb : ∀ d, scaledO l t b = .num d → RepOk d (numZ (scaledO l t b)) ∧ smallZ (numZ (scaledO l t b)) := fun d e => by
    have y := good_ok (gd d e)
    rw [e]
    exact ⟨y.1, y.2.1⟩
  obtain ⟨z2, hz2⟩ := told_rep (o := scaledO l t b) (fun d e => (good_ok (gd d e)).2.2) fun i e => scaled_len e
  refine sx_cons ?_
  refine s1_if ?_
  refine tx_cmp op_ne ?_
  refine ex_callB (cr_repA hGu hr.units) L.b_repr (by decide +kernel) ?_
  refine ax_cons ?_
  refine ex_callG C__law_told (hr.mono (by decide)) hGu ?_
  refine ax_cons ?_
  refine ex_ixO 6 (ds := []) rfl ?_
  refine ex_int ?_
  refine ⟨_, _, _, rfl, rfl, rfl, ?_⟩
  refine ax_cons ?_
  refine ex_ixO 6 (ds := []) rfl ?_
  refine ex_int ?_
  refine ⟨_, _, _, rfl, rfl, rfl, ?_⟩
  refine ax_cons ?_
  refine ex_ixO 6 (ds := []) rfl ?_
  refine ex_int ?_
  refine ⟨_, _, _, rfl, rfl, rfl, ?_⟩
  refine ax_nil ?_
  refine ⟨_, rfl, rfl, l, t, b, _, rfl, kl, kt, kb, nb, ?_⟩
  refine ax_nil ?_
  refine ⟨_, cd_repA hz2, ?_⟩
  refine ex_callB (cr_repA hGu hr.units) L.b_repr (by decide +kernel) ?_
  refine ax_cons ?_
  refine ex_callG C__law_due (hr.mono (by decide)) hGu ?_
  refine ax_cons ?_
  refine ex_ixO 6 (ds := []) rfl ?_
  refine ex_int ?_
  refine ⟨_, _, _, rfl, rfl, rfl, ?_⟩
  refine ax_cons ?_
  refine ex_ixO 6 (ds := []) rfl ?_
  refine ex_int ?_
  refine ⟨_, _, _, rfl, rfl, rfl, ?_⟩
  refine ax_cons ?_
  refine ex_ixO 6 (ds := []) rfl ?_
  refine ex_int ?_
  refine ⟨_, _, _, rfl, rfl, rfl, ?_⟩
  refine ax_nil ?_
  refine ⟨_, rfl, rfl, l, t, b, _, rfl, kl, kt, kb, sl, st, sb, nb, ?_⟩
  refine ax_nil ?_
  refine ⟨_, cd_repA hz2, ?_⟩
  refine ⟨_, rd_neF rfl rfl rfl, ?_⟩
  rw [decide_eq_true rfl]
  refine ⟨fun h => (nomatch h), fun _ => sx_nil ?_⟩
  refine sx_one ?_
  refine s1_ret ?_
  refine ex_call C__law_is_refused (hr.mono (by decide)) ?_
  refine ax_cons ?_
  refine ex_call1 C__law_pick (hr.mono (by decide)) ?_
  refine ax_own 0 rfl ?_
  refine ax_cons ?_
  refine ex_lstD (ef_lst ?_)
  refine ax_cons ?_
  refine ex_non ?_
  refine ax_cons ?_
  refine ex_str ?_
  refine ax_cons ?_
  refine ex_bl ?_
  refine ax_cons ?_
  refine ex_op opPow ?_
  refine ex_int ?_
  refine ex_int ?_
  refine ⟨_, rd_powI ⟨by decide, by decide, by decide⟩, ?_⟩
  refine ax_cons ?_
  refine ex_op opSub ?_
  refine ex_int ?_
  refine ex_op opPow ?_
  refine ex_int ?_
  refine ex_int ?_
  refine ⟨_, rd_powI ⟨by decide, by decide, by decide⟩, ?_⟩
  refine ⟨_, by walk_at "rd", ?_⟩
  refine ax_cons ?_
  refine ex_tup ?_
  refine ax_cons ?_
  refine ex_int ?_
  refine ax_nil ?_
  refine ⟨_, rfl, by decide, ?_⟩
  refine ax_cons ?_
  refine ex_op opPow ?_
  refine ex_int ?_
  refine ex_int ?_
  refine ⟨_, rd_powI ⟨by decide, by decide, by decide⟩, ?_⟩
  refine ax_cons ?_
  refine ex_lstD (ef_lst ?_)
  refine ax_nil ?_
  refine ⟨_, rfl, by decide, ?_⟩
  refine ax_nil ?_
  refine ⟨_, rfl, by decide, ?_⟩
  refine ax_nil ?_
  refine ⟨_, _, _, _, rfl, rfl, rfl, rfl, N + 10, refD, hd8, by omega, rfl, by simp [refD], by simp [refD], fun x hxr cs9 hd9 => ?_⟩
  obtain ⟨e1, e2⟩ := ref_ok hxr
  refine ax_nil ?_
  refine ⟨_, rfl, rfl, x, rfl, e2, e1, ?_⟩
  exact ⟨_, _, rfl, q _ (hd9.mono (by omega))⟩
end
end Lay

namespace Lay
open PySem PySem.Spec L2
local macro_rules | `(tactic| walk_at "rd") => `(tactic| first
  | exact rd_addI | exact rd_subI | exact rd_ltI | exact rd_leI | exact rd_gtI | exact rd_geI | exact rd_isNo | exact rd_notNo | exact rd_isBo | exact rd_notBo | exact rd_inStr
  | exact rd_ixTu rfl | exact rd_ixLi rfl | exact rd_inTup rfl rfl | exact rd_eqO (n := 1) (m := 1) rfl rfl | exact rd_neO (n := 1) (m := 1) rfl rfl)
local macro_rules | `(tactic| walk_at "cd") => `(tactic| first | exact cd_int1 | exact cd_int1b | exact cd_abs | exact cd_len rfl | exact cd_max2 | exact cd_min2 | exact cd_lenO rfl)
section
variable {P : Program} {w : World} {K : PySem.W.Frag} {mg : Str → Option Value} {base : Heap}
variable {cIL cIN fI : Addr} {f : Addr} {fd : FuncData}
def R_law : RP := fun ds Pr _ => ∃ xs : List Int, ds = [scriptD xs] ∧ xs.length ≤ 63 ∧ Pr (.bl true)
theorem ex1 : scaledO (.int 7) (.int 1) (.int 2) = .ok 4 := by rw [scaled_good (by decide) (by decide +kernel) (by decide +kernel) (by decide)]; exact if_pos (by decide +kernel)
theorem ex2 : scaledO (.int (-7)) (.int 1) (.int 2) = .ok (-4) := by rw [scaled_good (by decide) (by decide +kernel) (by decide +kernel) (by decide)]; exact if_pos (by decide +kernel)
theorem ex3 : scaledO (.int 10) (.int 2) (.int 3) = .ok 7 := by rw [scaled_good (by decide) (by decide +kernel) (by decide +kernel) (by decide)]; exact if_pos (by decide +kernel)
theorem ex4 : scaledO (.int (2 ^ (30 : Int).toNat - 1)) (.int (10 ^ (50 : Int).toNat)) (.int (10 ^ (50 : Int).toNat)) = .ok 1073741823 := by
  rw [scaled_good (by decide) (by decide +kernel) (by decide +kernel) (by decide +kernel)]
  have e : roundI ((2 ^ (30 : Int).toNat - 1) * 10 ^ (50 : Int).toNat) (10 ^ (50 : Int).toNat) = 1073741823 := by decide +kernel
  rw [e]
  exact if_pos (by decide +kernel)
theorem ex5 : scaledO (.int (2 ^ (30 : Int).toNat - 1)) (.int 2) (.int 1) = .len := by rw [scaled_good (by decide) (by decide +kernel) (by decide +kernel) (by decide)]; exact if_neg (by decide +kernel)
theorem run_law (L : LibP mg) (C__law_dice : Cal P w K mg base 1 "_law_dice" (spF K 2 R_dice)) (C__law_right : CalG P w K mg base 6 "_law_right" (spO K 0 R_right)) (C__law_told : CalG P w K mg base 5 "_law_told" (spD K 3 R_told)) (C_scaled : Cal P w K mg base 4 "scaled" (spD K 3 (R_scaled cIL cIN)))
    (F : Fun K "law" "law" s_law f fd) (hb : Binds K fd ["_law_script"] []) : RunG P w K mg base 7 f (spD K 1 R_law) := by
  refine fnDG0 F sc_law rfl (by decide) hb (fun cdv A outer s H E Fx hr hGu hP ds Pr Px hR hl => ?_)
  obtain ⟨xs, rfl, hx, q⟩ := hR
  have hlen : lenD (scriptD xs) = some xs.length := congrArg some (List.length_map ..)
  refine sx_cons ?_
  refine s1_for 1 (passes_of rfl) rfl sc_law.nd ?_
  refine ix_rng1 L.b_range ?_
  refine ex_callB (cr_max2 rfl) L.b_max (by decide +kernel) ?_
  refine ax_cons ?_
  refine ex_int ?_
  refine ax_cons ?_
  refine ex_callB (cr_min2 rfl) L.b_min (by decide +kernel) ?_
  refine ax_cons ?_
  refine ex_int ?_
  refine ax_cons ?_
  refine ex_callB cr_len L.b_len (by decide +kernel) ?_
  refine ax_cons ?_
  refine ex_var 0 rfl ?_
  refine ax_nil ?_
  refine ⟨_, cd_len hlen, ?_⟩
  refine ax_nil ?_
  refine ⟨_, by walk_at "cd", ?_⟩
  refine ax_nil ?_
  refine ⟨_, by walk_at "cd", ?_⟩
  refine ⟨_, rfl, by split <;> split at * <;> omega, by split <;> split at * <;> omega, ?_⟩
  have n4 : (if (if (xs.length : Int) < 4 then (xs.length : Int) else 4) > 1 then (if (xs.length : Int) < 4 then (xs.length : Int) else 4) else 1).toNat ≤ 4 := by
    split <;> split at * <;> omega
  generalize (if (if (xs.length : Int) < 4 then (xs.length : Int) else 4) > 1 then (if (xs.length : Int) < 4 then (xs.length : Int) else 4) else 1).toNat = n at n4
  refine ⟨fun i ρ S => ∃ v1 v2 v3, ρ = [.dat (scriptD xs), v1, v2, v3, .no], ⟨_, _, _, rfl⟩, ?_, ?_⟩
  · rintro i x ρ S hxi ⟨v1, v2, v3, rfl⟩
    have hi : i < n := by
      have := (List.getElem?_eq_some_iff.mp hxi).1
      rw [rgs_len] at this
      exact this
    rw [rgs_get hi] at hxi
    cases hxi
    have ei : (0 : Int) + (i : Int) = i := by omega
    rw [ei]
    have get : ∀ cs : List D, (S ++ [Ce.lst cs])[S.length]? = some (.lst cs) := fun cs => by simp
    have set : ∀ cs cs' : List D, (S ++ [Ce.lst cs]).set S.length (.lst cs') = S ++ [.lst cs'] := fun cs cs' => by simp
    refine sx_cons ?_
    refine s1_setF 2 sc_law.nd ?_
    refine ef_call C__law_dice (hr.mono (by decide)) ?_
    refine ax_cons ?_
    refine ex_var 0 rfl ?_
    refine ax_cons ?_
    refine ex_var 1 rfl ?_
    refine ax_nil ?_
    refine ⟨_, rfl, rfl, xs, i, rfl, by omega, by omega, fun cs0 hd0 => ?_⟩
    refine sx_one ?_
    refine s1_for 3 (passes_of rfl) rfl sc_law.nd ?_
    refine ix_rng1 L.b_range ?_
    refine ex_int ?_
    refine ⟨_, rfl, by decide, by decide, ?_⟩
    refine ⟨fun m ρ S' => ∃ (v : Sl) (cs : List D), ρ = [.dat (scriptD xs), .dat (.int i), .own S.length, v, .no] ∧ S' = S ++ [.lst cs] ∧ DiceL cs (20 * m), ⟨_, cs0, rfl, rfl, hd0⟩, ?_, ?_⟩
    · rintro m x ρ S' hxm ⟨v, cs, rfl, rfl, hdm⟩
      have hm4 : m < 4 := by
        have := (List.getElem?_eq_some_iff.mp hxm).1
        rw [rgs_len] at this
        exact this
      refine sx_one ?_
      refine s1_if ?_
      refine tx_not ?_
      refine tx_val ?_
      refine ex_call1G C__law_right hr hGu ?_
      refine ax_own 2 rfl ?_
      refine ax_nil ?_
      refine ⟨_, _, _, _, rfl, rfl, rfl, get cs, 20 * m, hdm, by omega, rfl, fun cs' hd' => ?_⟩
      dsimp only
      rw [set]
      refine ⟨_, rfl, fun h => (nomatch h), fun _ => sx_nil ?_⟩
      exact ⟨_, cs', rfl, rfl, hd'⟩
    · rintro ρ S' ⟨v, cs, rfl, rfl, hdm⟩
      exact ⟨_, _, _, rfl⟩
  · rintro ρ S ⟨v1, v2, v3, rfl⟩
    refine sx_cons ?_
    refine s1_set 4 sc_law.nd ?_
    refine ex_lstD (ef_lst ?_)
    refine ax_cons ?_
    refine ex_call C_scaled (hr.mono (by decide)) ?_
    refine ax_cons ?_
    refine ex_int ?_
    refine ax_cons ?_
    refine ex_int ?_
    refine ax_cons ?_
    refine ex_int ?_
    refine ax_nil ?_
    refine ⟨_, rfl, rfl, _, _, _, rfl, int_kind, int_kind, int_kind, fun e => ?_, fun d e => ?_, fun y e => ?_⟩
    · rw [ex1] at e; cases e
    · rw [ex1] at e; cases e
    rw [ex1] at e; cases e
    refine ax_cons ?_
    refine ex_call C_scaled (hr.mono (by decide)) ?_
    refine ax_cons ?_
    refine ex_un un_neg ?_
    refine ex_int ?_
    refine ⟨_, ud_neg, ?_⟩
    refine ax_cons ?_
    refine ex_int ?_
    refine ax_cons ?_
    refine ex_int ?_
    refine ax_nil ?_
    refine ⟨_, rfl, rfl, _, _, _, rfl, int_kind, int_kind, int_kind, fun e => ?_, fun d e => ?_, fun y e => ?_⟩
    · rw [ex2] at e; cases e
    · rw [ex2] at e; cases e
    rw [ex2] at e; cases e
    refine ax_cons ?_
    refine ex_call C_scaled (hr.mono (by decide)) ?_
    refine ax_cons ?_
    refine ex_int ?_
    refine ax_cons ?_
    refine ex_int ?_
    refine ax_cons ?_
    refine ex_int ?_
    refine ax_nil ?_
    refine ⟨_, rfl, rfl, _, _, _, rfl, int_kind, int_kind, int_kind, fun e => ?_, fun d e => ?_, fun y e => ?_⟩
    · rw [ex3] at e; cases e
    · rw [ex3] at e; cases e
    rw [ex3] at e; cases e
    refine ax_cons ?_
    refine ex_call C_scaled (hr.mono (by decide)) ?_
    refine ax_cons ?_
    refine ex_op opSub ?_
    refine ex_op opPow ?_
    refine ex_int ?_
    refine ex_int ?_
    refine ⟨_, rd_powI ⟨by decide, by decide, by decide⟩, ?_⟩
    refine ex_int ?_
    refine ⟨_, by walk_at "rd", ?_⟩
    refine ax_cons ?_
    refine ex_op opPow ?_
    refine ex_int ?_
    refine ex_int ?_
    refine ⟨_, rd_powI ⟨by decide, by decide, by decide⟩, ?_⟩
    refine ax_cons ?_
    refine ex_op opPow ?_
    refine ex_int ?_
    refine ex_int ?_
    refine ⟨_, rd_powI ⟨by decide, by decide, by decide⟩, ?_⟩
    refine ax_nil ?_
    refine ⟨_, rfl, rfl, _, _, _, rfl, int_kind, int_kind, int_kind, fun e => ?_, fun d e => ?_, fun y e => ?_⟩
    · rw [ex4] at e; cases e
    · rw [ex4] at e; cases e
    rw [ex4] at e; cases e
    refine ax_nil ?_
    refine ⟨_, rfl, by decide, ?_⟩
    refine sx_one ?_
    refine s1_ret ?_
    refine ex_andB true ?_
    refine ex_cmp (op_eqD hr.units) ?_
    refine ex_var 4 rfl ?_
    refine ex_lstD (ef_lst ?_)
    refine ax_cons ?_
    refine ex_int ?_
    refine ax_cons ?_
    refine ex_un un_neg ?_
    refine ex_int ?_
    refine ⟨_, ud_neg, ?_⟩
    refine ax_cons ?_
    refine ex_int ?_
    refine ax_cons ?_
    refine ex_op opSub ?_
    refine ex_op opPow ?_
    refine ex_int ?_
    refine ex_int ?_
    refine ⟨_, rd_powI ⟨by decide, by decide, by decide⟩, ?_⟩
    refine ex_int ?_
    refine ⟨_, by walk_at "rd", ?_⟩
    refine ax_nil ?_
    refine ⟨_, rfl, by decide, ?_⟩
    refine ⟨_, rd_eqO (n := 2) (m := 2) (by decide +kernel) (by decide +kernel), _, rfl, fun _ => ?_, ?_⟩
    · refine ex_and1 ?_
      refine ex_cmp op_eq ?_
      refine ex_callG C__law_told (hr.mono (by decide)) hGu ?_
      refine ax_cons ?_
      refine ex_op opSub ?_
      refine ex_op opPow ?_
      refine ex_int ?_
      refine ex_int ?_
      refine ⟨_, rd_powI ⟨by decide, by decide, by decide⟩, ?_⟩
      refine ex_int ?_
      refine ⟨_, by walk_at "rd", ?_⟩
      refine ax_cons ?_
      refine ex_int ?_
      refine ax_cons ?_
      refine ex_int ?_
      refine ax_nil ?_
      refine ⟨_, rfl, rfl, _, _, _, "", rfl, int_kind, int_kind, int_kind, fun d e => ?_, ?_⟩
      · rw [ex5] at e; cases e
      rw [ex5]
      refine ex_str ?_
      refine ⟨_, rd_eqF rfl rfl rfl, ?_, rfl⟩
      exact congrArg D.bl (decide_eq_true rfl)
    · have e : eqD (.lst [.int 4, .int (-4), .int 7, .int 1073741823]) (.lst [.int 4, .int (-4), .int 7, .int (2 ^ (30 : Int).toNat - 1)]) = true := by decide +kernel
      rw [e]
      exact q
end
end Lay

namespace Lay
open PySem PySem.Spec L2
theorem kon_int {K : PySem.W.Frag} {mg : Str → Option Value} {x : Str} {i : Int} {t : Tok} (h : mg x = some (.int i t)) : KonD K mg x (.int i) := ⟨_, .int i, h, ⟨t, rfl⟩, fun _ => .int i⟩
theorem kon_str {K : PySem.W.Frag} {mg : Str → Option Value} {x : Str} {i : Str} {t : Tok} (h : mg x = some (.str i t)) : KonD K mg x (.str i) := ⟨_, .str i, h, ⟨t, rfl⟩, fun _ => .str i⟩
theorem kon_tup {K : PySem.W.Frag} {mg : Str → Option Value} {x : Str} {a : Addr} {o : Option Addr} {its : Array Value} {n : Nat} {sl : Array (Option Value)} {vs : List V} {ds : List D} (h : mg x = some (.ref a)) (hl : K.lookup a = some ⟨.type "tuple", o, .seq its n, sl⟩)
    (hz : its.size ≤ sizeLine) (hv : Vals vs its.toList) (hd : ∀ G, AtDs K G vs ds) : KonD K mg x (.tup ds) := ⟨_, .ref a, h, rfl, fun G => .tup (.inr ⟨_, its, n, hl, rfl, rfl, hz, hv⟩) (hd G)⟩
theorem ints_at {K : PySem.W.Frag} {G : Hp} : ∀ ns : List Int, AtDs K G (ns.map V.int) (ns.map D.int)
  | [] => .nil
  | n :: r => .cons (.int n) (ints_at r)

theorem init_InvalidNumber {prog : Program} {w : World} {K : PySem.W.Frag} {mg : Str → Option Value} {C fI : Addr} {oc doc pm cdv ct kV : Value} {od an : Option Addr} {osl : Array (Option Value)} (T : ErrCls K mg "InvalidNumber" "value" C fI)
    (ho : K.lookup fI = some ⟨oc, od, .func (PySem.W.fnOf "__init__" "InvalidNumber.__init__" (defArgs s_InvalidNumber_init) (defBody s_InvalidNumber_init) (defScope s_InvalidNumber_init) .none kV doc pm an cdv ct), osl⟩) (hcd : PySem.W.codeIn K cdv "InvalidNumber.__init__" = true) : InitDoes prog w K C fI "value" := by
  intro A R s x t0 v X hlim hx hnx hroom hq
  obtain ⟨bmB, B, newId, initId, FB, SF, nm, q, N, bs, bm, sn, sub, ab, col, dd, k0, k1, k2, k3, k5, hC, hbm⟩ := T.cls
  have hov : PySem.W.excOver K C bmB = true := by
    unfold PySem.W.excOver
    rw [clsIn_of hC]
    show ((C == C) && PySem.W.excTail bmB bm) = true
    rw [hbm, Bool.and_true]
    exact beq_self_eq_true C
  refine Att.call_fn (binds := [("self", .ref x), ("value", v)]) X hlim ho hcd hroom (BindsTo.of_eq (by first | rfl | with_unfolding_all rfl)) (by first | rfl | decide | with_unfolding_all rfl) (fun s₁ IC => ?_) rfl rfl rfl
  obtain ⟨h₁, tk₁, rfl⟩ := IC.toInCall.same
  have k : ∀ b o, s.heap.get? b = some o → h₁.get? b = some o := IC.toInCall.keep
  have hn := IC.toInCall.ns
  have hxL : s.heap.objs.size ≠ x := Nat.ne_of_gt (Heap.lt_size hx)
  have X₁ : K.In h₁ := X.keeps k
  have hx₁ := k _ _ hx
  show wpAny _ _ (execs _ _) _ _ _
  refine wpAny_execs_cons (plainObj_wpAny_Assign_Attribute ?_)
  refine err_ld (v := v) hn (by first | rfl | with_unfolding_all rfl | kernel_rfl) (err_ld (v := .ref x) hn (by first | rfl | with_unfolding_all rfl | kernel_rfl) ?_)
  refine PySem.W.set_plain X₁ (ox := PySem.W.excObj C t0 none .none) (od := none) ⟨hx₁, rfl, rfl, trivial⟩ T.sa ?_
  refine err_store SF X₁ hx₁ hov (NoAttr.taker (K := K) (C := C) (f := "value") T.noF) T.hdC (fun h₃ tk₃ dx k₃ dn dne hx₃ hn₃ => ?_)
  have z : s.heap.objs.size < h₁.objs.size := hn.lt
  exact wpAny_execs_nil (hq h₃ tk₃ dx (fun b o hb e => k₃ b o hb (k b o e)) hx₃ (Nat.le_of_lt (Nat.lt_of_lt_of_le z dn)) dne hn₃)
theorem all_mk {l : PySem.W.OpenLaw} {w : World} {K : PySem.W.Frag} {h : Heap} {mg : Str → Option Value} {fa : Addr} (X : K.In h) (G : h.Ns mainGlobals mg) (hfa : mg "law" = some (.ref fa))
    {f0 : Addr} {od0 an0 : Option Addr} {sl0 : Array (Option Value)} {oc0 kV0 dc0 pm0 cd0 ct0 : Value}
    {f1 : Addr} {od1 an1 : Option Addr} {sl1 : Array (Option Value)} {oc1 kV1 dc1 pm1 cd1 ct1 : Value}
    {f2 : Addr} {od2 an2 : Option Addr} {sl2 : Array (Option Value)} {oc2 kV2 dc2 pm2 cd2 ct2 : Value}
    {f3 : Addr} {od3 an3 : Option Addr} {sl3 : Array (Option Value)} {oc3 kV3 dc3 pm3 cd3 ct3 : Value}
    {f4 : Addr} {od4 an4 : Option Addr} {sl4 : Array (Option Value)} {oc4 kV4 dc4 pm4 cd4 ct4 : Value}
    {f5 : Addr} {od5 an5 : Option Addr} {sl5 : Array (Option Value)} {oc5 kV5 dc5 pm5 cd5 ct5 : Value}
    {f6 : Addr} {od6 an6 : Option Addr} {sl6 : Array (Option Value)} {oc6 kV6 dc6 pm6 cd6 ct6 : Value}
    {f7 : Addr} {od7 an7 : Option Addr} {sl7 : Array (Option Value)} {oc7 kV7 dc7 pm7 cd7 ct7 : Value}
    {f8 : Addr} {od8 an8 : Option Addr} {sl8 : Array (Option Value)} {oc8 kV8 dc8 pm8 cd8 ct8 : Value}
    {f9 : Addr} {od9 an9 : Option Addr} {sl9 : Array (Option Value)} {oc9 kV9 dc9 pm9 cd9 ct9 : Value}
    {f10 : Addr} {od10 an10 : Option Addr} {sl10 : Array (Option Value)} {oc10 kV10 dc10 pm10 cd10 ct10 : Value}
    {f11 : Addr} {od11 an11 : Option Addr} {sl11 : Array (Option Value)} {oc11 kV11 dc11 pm11 cd11 ct11 : Value}
    {f12 : Addr} {od12 an12 : Option Addr} {sl12 : Array (Option Value)} {oc12 kV12 dc12 pm12 cd12 ct12 : Value}
    {f13 : Addr} {od13 an13 : Option Addr} {sl13 : Array (Option Value)} {oc13 kV13 dc13 pm13 cd13 ct13 : Value}
    {f14 : Addr} {od14 an14 : Option Addr} {sl14 : Array (Option Value)} {oc14 kV14 dc14 pm14 cd14 ct14 : Value}
    {f15 : Addr} {od15 an15 : Option Addr} {sl15 : Array (Option Value)} {oc15 kV15 dc15 pm15 cd15 ct15 : Value}
    {tk0 : Tok}
    {tk1 : Tok}
    {C_InvalidLength : Addr}
    {C_InvalidNumber fI_InvalidNumber N_InvalidNumber : Addr} {nm_InvalidNumber q_InvalidNumber : Str} {bs_InvalidNumber sub_InvalidNumber : List Value} {sn_InvalidNumber : List Str} {ab_InvalidNumber : Bool} {col_InvalidNumber : Option Bool} {dd_InvalidNumber : Option Addr} {m0_InvalidNumber m1_InvalidNumber m2_InvalidNumber m3_InvalidNumber m5_InvalidNumber : Option Value}
    {io_InvalidNumber id_InvalidNumber ip_InvalidNumber ic_InvalidNumber it_InvalidNumber ik_InvalidNumber : Value} {iod_InvalidNumber ian_InvalidNumber : Option Addr} {isl_InvalidNumber : Array (Option Value)}
    (a0 : PySem.W.nsIn K mainGlobals "is_int" = some (some (.ref f0)))
    (l0 : K.lookup f0 = some ⟨oc0, od0, .func (PySem.W.fnOf "is_int" "is_int" (defArgs s_is_int) (defBody s_is_int) (defScope s_is_int) .none kV0 dc0 pm0 an0 cd0 ct0), sl0⟩)
    (c0 : PySem.W.codeIn K cd0 "is_int" = true) (k0 : PySem.W.keepIn K (.ref f0) = true)
    (a1 : PySem.W.nsIn K mainGlobals "rounded" = some (some (.ref f1)))
    (l1 : K.lookup f1 = some ⟨oc1, od1, .func (PySem.W.fnOf "rounded" "rounded" (defArgs s_rounded) (defBody s_rounded) (defScope s_rounded) .none kV1 dc1 pm1 an1 cd1 ct1), sl1⟩)
    (c1 : PySem.W.codeIn K cd1 "rounded" = true) (k1 : PySem.W.keepIn K (.ref f1) = true)
    (a2 : PySem.W.nsIn K mainGlobals "is_length" = some (some (.ref f2)))
    (l2 : K.lookup f2 = some ⟨oc2, od2, .func (PySem.W.fnOf "is_length" "is_length" (defArgs s_is_length) (defBody s_is_length) (defScope s_is_length) .none kV2 dc2 pm2 an2 cd2 ct2), sl2⟩)
    (c2 : PySem.W.codeIn K cd2 "is_length" = true) (k2 : PySem.W.keepIn K (.ref f2) = true)
    (a3 : PySem.W.nsIn K mainGlobals "check_length" = some (some (.ref f3)))
    (l3 : K.lookup f3 = some ⟨oc3, od3, .func (PySem.W.fnOf "check_length" "check_length" (defArgs s_check_length) (defBody s_check_length) (defScope s_check_length) .none kV3 dc3 pm3 an3 cd3 ct3), sl3⟩)
    (c3 : PySem.W.codeIn K cd3 "check_length" = true) (k3 : PySem.W.keepIn K (.ref f3) = true)
    (a4 : PySem.W.nsIn K mainGlobals "text_of_length" = some (some (.ref f4)))
    (l4 : K.lookup f4 = some ⟨oc4, od4, .func (PySem.W.fnOf "text_of_length" "text_of_length" (defArgs s_text_of_length) (defBody s_text_of_length) (defScope s_text_of_length) .none kV4 dc4 pm4 an4 cd4 ct4), sl4⟩)
    (c4 : PySem.W.codeIn K cd4 "text_of_length" = true) (k4 : PySem.W.keepIn K (.ref f4) = true)
    (a5 : PySem.W.nsIn K mainGlobals "scaled" = some (some (.ref f5)))
    (l5 : K.lookup f5 = some ⟨oc5, od5, .func (PySem.W.fnOf "scaled" "scaled" (defArgs s_scaled) (defBody s_scaled) (defScope s_scaled) .none kV5 dc5 pm5 an5 cd5 ct5), sl5⟩)
    (c5 : PySem.W.codeIn K cd5 "scaled" = true) (k5 : PySem.W.keepIn K (.ref f5) = true)
    (a6 : PySem.W.nsIn K mainGlobals "_law_dice" = some (some (.ref f6)))
    (l6 : K.lookup f6 = some ⟨oc6, od6, .func (PySem.W.fnOf "_law_dice" "_law_dice" (defArgs s__law_dice) (defBody s__law_dice) (defScope s__law_dice) .none kV6 dc6 pm6 an6 cd6 ct6), sl6⟩)
    (c6 : PySem.W.codeIn K cd6 "_law_dice" = true) (k6 : PySem.W.keepIn K (.ref f6) = true)
    (a7 : PySem.W.nsIn K mainGlobals "_law_roll" = some (some (.ref f7)))
    (l7 : K.lookup f7 = some ⟨oc7, od7, .func (PySem.W.fnOf "_law_roll" "_law_roll" (defArgs s__law_roll) (defBody s__law_roll) (defScope s__law_roll) .none kV7 dc7 pm7 an7 cd7 ct7), sl7⟩)
    (c7 : PySem.W.codeIn K cd7 "_law_roll" = true) (k7 : PySem.W.keepIn K (.ref f7) = true)
    (a8 : PySem.W.nsIn K mainGlobals "_law_pick" = some (some (.ref f8)))
    (l8 : K.lookup f8 = some ⟨oc8, od8, .func (PySem.W.fnOf "_law_pick" "_law_pick" (defArgs s__law_pick) (defBody s__law_pick) (defScope s__law_pick) .none kV8 dc8 pm8 an8 cd8 ct8), sl8⟩)
    (c8 : PySem.W.codeIn K cd8 "_law_pick" = true) (k8 : PySem.W.keepIn K (.ref f8) = true)
    (a9 : PySem.W.nsIn K mainGlobals "_law_nearest" = some (some (.ref f9)))
    (l9 : K.lookup f9 = some ⟨oc9, od9, .func (PySem.W.fnOf "_law_nearest" "_law_nearest" (defArgs s__law_nearest) (defBody s__law_nearest) (defScope s__law_nearest) .none kV9 dc9 pm9 an9 cd9 ct9), sl9⟩)
    (c9 : PySem.W.codeIn K cd9 "_law_nearest" = true) (k9 : PySem.W.keepIn K (.ref f9) = true)
    (a10 : PySem.W.nsIn K mainGlobals "_law_drawn_length" = some (some (.ref f10)))
    (l10 : K.lookup f10 = some ⟨oc10, od10, .func (PySem.W.fnOf "_law_drawn_length" "_law_drawn_length" (defArgs s__law_drawn_length) (defBody s__law_drawn_length) (defScope s__law_drawn_length) .none kV10 dc10 pm10 an10 cd10 ct10), sl10⟩)
    (c10 : PySem.W.codeIn K cd10 "_law_drawn_length" = true) (k10 : PySem.W.keepIn K (.ref f10) = true)
    (a11 : PySem.W.nsIn K mainGlobals "_law_told" = some (some (.ref f11)))
    (l11 : K.lookup f11 = some ⟨oc11, od11, .func (PySem.W.fnOf "_law_told" "_law_told" (defArgs s__law_told) (defBody s__law_told) (defScope s__law_told) .none kV11 dc11 pm11 an11 cd11 ct11), sl11⟩)
    (c11 : PySem.W.codeIn K cd11 "_law_told" = true) (k11 : PySem.W.keepIn K (.ref f11) = true)
    (a12 : PySem.W.nsIn K mainGlobals "_law_due" = some (some (.ref f12)))
    (l12 : K.lookup f12 = some ⟨oc12, od12, .func (PySem.W.fnOf "_law_due" "_law_due" (defArgs s__law_due) (defBody s__law_due) (defScope s__law_due) .none kV12 dc12 pm12 an12 cd12 ct12), sl12⟩)
    (c12 : PySem.W.codeIn K cd12 "_law_due" = true) (k12 : PySem.W.keepIn K (.ref f12) = true)
    (a13 : PySem.W.nsIn K mainGlobals "_law_is_refused" = some (some (.ref f13)))
    (l13 : K.lookup f13 = some ⟨oc13, od13, .func (PySem.W.fnOf "_law_is_refused" "_law_is_refused" (defArgs s__law_is_refused) (defBody s__law_is_refused) (defScope s__law_is_refused) .none kV13 dc13 pm13 an13 cd13 ct13), sl13⟩)
    (c13 : PySem.W.codeIn K cd13 "_law_is_refused" = true) (k13 : PySem.W.keepIn K (.ref f13) = true)
    (a14 : PySem.W.nsIn K mainGlobals "_law_right" = some (some (.ref f14)))
    (l14 : K.lookup f14 = some ⟨oc14, od14, .func (PySem.W.fnOf "_law_right" "_law_right" (defArgs s__law_right) (defBody s__law_right) (defScope s__law_right) .none kV14 dc14 pm14 an14 cd14 ct14), sl14⟩)
    (c14 : PySem.W.codeIn K cd14 "_law_right" = true) (k14 : PySem.W.keepIn K (.ref f14) = true)
    (a15 : PySem.W.nsIn K mainGlobals "law" = some (some (.ref f15)))
    (l15 : K.lookup f15 = some ⟨oc15, od15, .func (PySem.W.fnOf "law" "law" (defArgs s_law) (defBody s_law) (defScope s_law) .none kV15 dc15 pm15 an15 cd15 ct15), sl15⟩)
    (c15 : PySem.W.codeIn K cd15 "law" = true) (k15 : PySem.W.keepIn K (.ref f15) = true)
    (gn0 : PySem.W.nsIn K mainGlobals "INTEGER_END" = some (some (.int (10 ^ 60) tk0)))
    (gn1 : PySem.W.nsIn K mainGlobals "MAX_LENGTH" = some (some (.int 1073741823 tk1)))
    (z_isinstance : PySem.W.nsIn K mainGlobals "isinstance" = some none)
    (z_len : PySem.W.nsIn K mainGlobals "len" = some none)
    (z_abs : PySem.W.nsIn K mainGlobals "abs" = some none)
    (z_min : PySem.W.nsIn K mainGlobals "min" = some none)
    (z_max : PySem.W.nsIn K mainGlobals "max" = some none)
    (z_tuple : PySem.W.nsIn K mainGlobals "tuple" = some none)
    (z_list : PySem.W.nsIn K mainGlobals "list" = some none)
    (z_int : PySem.W.nsIn K mainGlobals "int" = some none)
    (z_bool : PySem.W.nsIn K mainGlobals "bool" = some none)
    (z_range : PySem.W.nsIn K mainGlobals "range" = some none)
    (z_repr : PySem.W.nsIn K mainGlobals "repr" = some none)
    (ea_InvalidLength : PySem.W.nsIn K mainGlobals "InvalidLength" = some (some (.ref C_InvalidLength)))
    (ei_InvalidLength : PySem.W.excIn K C_InvalidLength [.type "ValueError", .type "Exception", .type "BaseException", .type "object"] "ValueError.__new__" = true) (ek_InvalidLength : PySem.W.keepIn K (.ref C_InvalidLength) = true) (eb_InvalidLength : PySem.W.subIn K (.ref C_InvalidLength) (.type "BaseException") = some true) (et_InvalidLength : PySem.W.typeIn K (.ref C_InvalidLength) = some (.type "type")) (eh_InvalidLength : PySem.W.hasDictIn K C_InvalidLength = true)
    (ea_InvalidNumber : PySem.W.nsIn K mainGlobals "InvalidNumber" = some (some (.ref C_InvalidNumber)))
    (ex_InvalidNumber : K.lookup C_InvalidNumber = some (excClassObj nm_InvalidNumber q_InvalidNumber C_InvalidNumber N_InvalidNumber bs_InvalidNumber [.type "IndexError", .type "LookupError", .type "Exception", .type "BaseException", .type "object"] true sn_InvalidNumber sub_InvalidNumber ab_InvalidNumber col_InvalidNumber dd_InvalidNumber m0_InvalidNumber m1_InvalidNumber m2_InvalidNumber m3_InvalidNumber m5_InvalidNumber "IndexError.__new__"))
    (es_InvalidNumber : PySem.W.findIn K (.ref C_InvalidNumber) "__setattr__" = some (some (.builtin "object.__setattr__")))
    (eg_InvalidNumber : PySem.W.findIn K (.ref C_InvalidNumber) "__getattribute__" = some (some (.builtin "BaseException.__getattribute__")))
    (eq_InvalidNumber : PySem.W.findIn K (.ref C_InvalidNumber) "__getattr__" = some none)
    (en_InvalidNumber : PySem.W.findIn K (.ref C_InvalidNumber) "value" = some none)
    (eI_InvalidNumber : PySem.W.findIn K (.ref C_InvalidNumber) "__init__" = some (some (.ref fI_InvalidNumber)))
    (eT_InvalidNumber : PySem.W.typeIn K (.ref fI_InvalidNumber) = some (.type "function"))
    (el_InvalidNumber : K.lookup fI_InvalidNumber = some ⟨io_InvalidNumber, iod_InvalidNumber, .func (PySem.W.fnOf "__init__" "InvalidNumber.__init__" (defArgs s_InvalidNumber_init) (defBody s_InvalidNumber_init) (defScope s_InvalidNumber_init) .none ik_InvalidNumber id_InvalidNumber ip_InvalidNumber ian_InvalidNumber ic_InvalidNumber it_InvalidNumber), isl_InvalidNumber⟩)
    (ec_InvalidNumber : PySem.W.codeIn K ic_InvalidNumber "InvalidNumber.__init__" = true)
    (ek_InvalidNumber : PySem.W.keepIn K (.ref C_InvalidNumber) = true) (eb_InvalidNumber : PySem.W.subIn K (.ref C_InvalidNumber) (.type "BaseException") = some true) (et_InvalidNumber : PySem.W.typeIn K (.ref C_InvalidNumber) = some (.type "type")) (eh_InvalidNumber : PySem.W.hasDictIn K C_InvalidNumber = true)
    (x_InvalidLength_InvalidLength : PySem.W.subIn K (.ref C_InvalidLength) (.ref C_InvalidLength) = some true)
    (x_InvalidNumber_InvalidLength : PySem.W.subIn K (.ref C_InvalidNumber) (.ref C_InvalidLength) = some false)
    (x_InvalidNumber_InvalidNumber : PySem.W.subIn K (.ref C_InvalidNumber) (.ref C_InvalidNumber) = some true) :
    ∀ base : Heap, K.In base → base.Ns mainGlobals mg → RunG l.prog w K mg base 7 fa (spD K 1 R_law) := by
  have e := hfa.symm.trans (PySem.W.mg_of X G a15)
  cases e
  have g_INTEGER_END := kon_int (K := K) (PySem.W.mg_of X G gn0)
  have g_MAX_LENGTH := kon_int (K := K) (PySem.W.mg_of X G gn1)
  have b_isinstance := PySem.W.mg_none_of X G z_isinstance
  have b_len := PySem.W.mg_none_of X G z_len
  have b_abs := PySem.W.mg_none_of X G z_abs
  have b_min := PySem.W.mg_none_of X G z_min
  have b_max := PySem.W.mg_none_of X G z_max
  have b_tuple := PySem.W.mg_none_of X G z_tuple
  have b_list := PySem.W.mg_none_of X G z_list
  have b_int := PySem.W.mg_none_of X G z_int
  have b_bool := PySem.W.mg_none_of X G z_bool
  have b_range := PySem.W.mg_none_of X G z_range
  have b_repr := PySem.W.mg_none_of X G z_repr
  have e_InvalidLength : OwnE K mg "InvalidLength" C_InvalidLength := ⟨PySem.W.mg_of X G ea_InvalidLength, ⟨_, _, _, _, PySem.F.excBase_ValueError, ei_InvalidLength⟩, ek_InvalidLength, eb_InvalidLength, et_InvalidLength⟩
  have e_InvalidNumber : ErrCls K mg "InvalidNumber" "value" C_InvalidNumber fI_InvalidNumber := { gC := PySem.W.mg_of X G ea_InvalidNumber, cls := ⟨_, _, _, _, PySem.F.excBase_IndexError, PySem.F.store_IndexError, _, _, _, _, _, _, _, _, _, _, _, _, _, _, _, ex_InvalidNumber, by decide +kernel⟩, sa := es_InvalidNumber, ga := eg_InvalidNumber, gg := eq_InvalidNumber, noF := en_InvalidNumber, iC := eI_InvalidNumber, tI := eT_InvalidNumber, kC := ek_InvalidNumber, exC := eb_InvalidNumber, tyC := et_InvalidNumber, hdC := eh_InvalidNumber }
  have i_InvalidNumber : InitDoes l.prog w K C_InvalidNumber fI_InvalidNumber "value" := init_InvalidNumber e_InvalidNumber el_InvalidNumber ec_InvalidNumber
  have xm_InvalidLength_InvalidLength := PySem.W.exm_ref eb_InvalidLength eh_InvalidLength et_InvalidLength x_InvalidLength_InvalidLength
  have xm_InvalidNumber_InvalidLength := PySem.W.exm_ref eb_InvalidLength eh_InvalidLength et_InvalidLength x_InvalidNumber_InvalidLength
  have xm_InvalidNumber_InvalidNumber := PySem.W.exm_ref eb_InvalidNumber eh_InvalidNumber et_InvalidNumber x_InvalidNumber_InvalidNumber
  have m_is_int := PySem.W.mg_of X G a0
  have F_is_int := fun_mk (st := s_is_int) l0 c0 k0
  have p_is_int := F_is_int.binds (ps := ["value"]) fun _ _ _ _ _ _ us hl => match us, hl with | [_], _ => rfl
  have m_rounded := PySem.W.mg_of X G a1
  have F_rounded := fun_mk (st := s_rounded) l1 c1 k1
  have p_rounded := F_rounded.binds (ps := ["over", "under"]) fun _ _ _ _ _ _ us hl => match us, hl with | [_, _], _ => rfl
  have m_is_length := PySem.W.mg_of X G a2
  have F_is_length := fun_mk (st := s_is_length) l2 c2 k2
  have p_is_length := F_is_length.binds (ps := ["value"]) fun _ _ _ _ _ _ us hl => match us, hl with | [_], _ => rfl
  have m_check_length := PySem.W.mg_of X G a3
  have F_check_length := fun_mk (st := s_check_length) l3 c3 k3
  have p_check_length := F_check_length.binds (ps := ["value"]) fun _ _ _ _ _ _ us hl => match us, hl with | [_], _ => rfl
  have m_text_of_length := PySem.W.mg_of X G a4
  have F_text_of_length := fun_mk (st := s_text_of_length) l4 c4 k4
  have p_text_of_length := F_text_of_length.binds (ps := ["length"]) fun _ _ _ _ _ _ us hl => match us, hl with | [_], _ => rfl
  have m_scaled := PySem.W.mg_of X G a5
  have F_scaled := fun_mk (st := s_scaled) l5 c5 k5
  have p_scaled := F_scaled.binds (ps := ["length", "times", "by"]) fun _ _ _ _ _ _ us hl => match us, hl with | [_, _, _], _ => rfl
  have m__law_dice := PySem.W.mg_of X G a6
  have F__law_dice := fun_mk (st := s__law_dice) l6 c6 k6
  have p__law_dice := F__law_dice.binds (ps := ["_law_script", "_law_spot"]) fun _ _ _ _ _ _ us hl => match us, hl with | [_, _], _ => rfl
  have m__law_roll := PySem.W.mg_of X G a7
  have F__law_roll := fun_mk (st := s__law_roll) l7 c7 k7
  have p__law_roll := F__law_roll.binds (ps := ["_law_dice_here", "_law_total"]) fun _ _ _ _ _ _ us hl => match us, hl with | [_, _], _ => rfl
  have m__law_pick := PySem.W.mg_of X G a8
  have F__law_pick := fun_mk (st := s__law_pick) l8 c8 k8
  have p__law_pick := F__law_pick.binds (ps := ["_law_dice_here", "_law_items"]) fun _ _ _ _ _ _ us hl => match us, hl with | [_, _], _ => rfl
  have m__law_nearest := PySem.W.mg_of X G a9
  have F__law_nearest := fun_mk (st := s__law_nearest) l9 c9 k9
  have p__law_nearest := F__law_nearest.binds (ps := ["_law_number", "_law_by"]) fun _ _ _ _ _ _ us hl => match us, hl with | [_, _], _ => rfl
  have m__law_drawn_length := PySem.W.mg_of X G a10
  have F__law_drawn_length := fun_mk (st := s__law_drawn_length) l10 c10 k10
  have p__law_drawn_length := F__law_drawn_length.binds (ps := ["_law_dice_here"]) fun _ _ _ _ _ _ us hl => match us, hl with | [_], _ => rfl
  have m__law_told := PySem.W.mg_of X G a11
  have F__law_told := fun_mk (st := s__law_told) l11 c11 k11
  have p__law_told := F__law_told.binds (ps := ["_law_length", "_law_times", "_law_by"]) fun _ _ _ _ _ _ us hl => match us, hl with | [_, _, _], _ => rfl
  have m__law_due := PySem.W.mg_of X G a12
  have F__law_due := fun_mk (st := s__law_due) l12 c12 k12
  have p__law_due := F__law_due.binds (ps := ["_law_length", "_law_times", "_law_by"]) fun _ _ _ _ _ _ us hl => match us, hl with | [_, _, _], _ => rfl
  have m__law_is_refused := PySem.W.mg_of X G a13
  have F__law_is_refused := fun_mk (st := s__law_is_refused) l13 c13 k13
  have p__law_is_refused := F__law_is_refused.binds (ps := ["_law_value"]) fun _ _ _ _ _ _ us hl => match us, hl with | [_], _ => rfl
  have m__law_right := PySem.W.mg_of X G a14
  have F__law_right := fun_mk (st := s__law_right) l14 c14 k14
  have p__law_right := F__law_right.binds (ps := ["_law_dice_here"]) fun _ _ _ _ _ _ us hl => match us, hl with | [_], _ => rfl
  have m_law := PySem.W.mg_of X G a15
  have F_law := fun_mk (st := s_law) l15 c15 k15
  have p_law := F_law.binds (ps := ["_law_script"]) fun _ _ _ _ _ _ us hl => match us, hl with | [_], _ => rfl
  intro base _ _
  have T : TxtP K mg C_InvalidLength C_InvalidNumber fI_InvalidNumber := ⟨g_INTEGER_END, g_MAX_LENGTH, e_InvalidLength, e_InvalidNumber⟩
  have L : LibP mg := ⟨b_len, b_abs, b_min, b_max, b_tuple, b_list, b_int, b_range, b_repr, b_bool, b_isinstance⟩
  have X : ExcP K C_InvalidLength C_InvalidNumber := ⟨xm_InvalidLength_InvalidLength, xm_InvalidNumber_InvalidLength, xm_InvalidNumber_InvalidNumber⟩
  have C_is_int := cal_is_int (P := l.prog) (w := w) (base := base) T L F_is_int m_is_int p_is_int
  have C_rounded := cal_rounded (P := l.prog) (w := w) (base := base) L F_rounded m_rounded p_rounded
  have C_is_length := cal_is_length T L C_is_int F_is_length m_is_length p_is_length
  have C_check_length := cal_check_length T C_is_length F_check_length m_check_length p_check_length
  have C_text := cal_text_of_length C_check_length F_text_of_length m_text_of_length p_text_of_length
  have C_scaled := cal_scaled T i_InvalidNumber C_is_int C_check_length C_rounded F_scaled m_scaled p_scaled
  have C_dice := cal__law_dice (P := l.prog) (w := w) (base := base) L F__law_dice m__law_dice p__law_dice
  have C_roll := cal__law_roll (P := l.prog) (w := w) (base := base) L F__law_roll m__law_roll p__law_roll
  have C_pick := cal__law_pick L C_roll F__law_pick m__law_pick p__law_pick
  have C_nearest := cal__law_nearest (P := l.prog) (w := w) (base := base) L F__law_nearest m__law_nearest p__law_nearest
  have C_dlen := cal__law_drawn_length L C_roll F__law_drawn_length m__law_drawn_length p__law_drawn_length
  have C_told := cal__law_told T L X C_scaled F__law_told m__law_told p__law_told
  have C_due := cal__law_due L C_nearest F__law_due m__law_due p__law_due
  have C_ref := cal__law_is_refused T X C_text F__law_is_refused m__law_is_refused p__law_is_refused
  have C_right := cal__law_right L C_roll C_pick C_dlen C_told C_due C_ref F__law_right m__law_right p__law_right
  exact run_law L C_dice C_right C_told C_scaled F_law p_law
theorem walk {l : PySem.W.OpenLaw} {q : Program} {loose : List Str} {XP : (Str → Option Value) → Heap → Prop} {YP : World → Heap → Prop} {d : DefRec} {K : Params → PySem.W.Frag} (hn : l.most = some 63) (hdf : d.params.defaults = [])
    (hY : ∀ (w : World) (h : Heap), YP w h → (K w.params).In h)
    (F : ∀ (w : World) (mg : Str → Option Value) (fa : Addr) (h : Heap), (K w.params).In h → h.Ns mainGlobals mg → mg d.name = some (.ref fa) →
      ∀ base : Heap, (K w.params).In base → base.Ns mainGlobals mg → RunG l.prog w (K w.params) mg base 7 fa (spD (K w.params) 1 R_law)) :
    PySem.W.WalkO q loose XP YP l.row.toRowW d [] (fun f vs => PySem.call f vs) :=
  walk_ofG (n := 63) (k := 7) (sp := fun w => spD (K w.params) 1 R_law) hn (by decide) hdf ⟨rfl, by decide, by decide⟩ hY F
    fun w H a ns hl hS => ⟨H, [scriptD ns], fun d => d = .bl true, fun _ _ => False, rfl, Ex.refl H, .cons (.sq hS (ints_at ns)) .nil, ⟨ns, rfl, hl, rfl⟩, fun v G' H' d _ _ _ _ hv hd => by subst hd; cases hv; rfl, fun _ _ _ _ _ _ _ _ _ _ z => z⟩
end Lay

open PySem PySem.W PyProof.Rows in
set_option maxRecDepth 100000 in
set_option maxHeartbeats 0 in
theorem PySem.Challenge.cw_pagewright_k02_scaled_lengths_and_errors_holds : PySem.Challenge.rw_pagewright_k02_scaled_lengths_and_errors.Holds := by
  w_on; o_law; k_head; (case hw => w_witness2)
  k_fill
  refine Lay.walk (l := PySem.Challenge.rw_pagewright_k02_scaled_lengths_and_errors) rfl rfl (fun w h Y => PySem.W.kIn_of Y) ?F
  case F =>
    intro w mg fa h KX G hmg
    refine' Lay.all_mk (l := PySem.Challenge.rw_pagewright_k02_scaled_lengths_and_errors) KX G hmg ?a0 ?l0 ?c0 ?k0 ?a1 ?l1 ?c1 ?k1 ?a2 ?l2 ?c2 ?k2 ?a3 ?l3 ?c3 ?k3 ?a4 ?l4 ?c4 ?k4 ?a5 ?l5 ?c5 ?k5 ?a6 ?l6 ?c6 ?k6 ?a7 ?l7 ?c7 ?k7 ?a8 ?l8 ?c8 ?k8 ?a9 ?l9 ?c9 ?k9 ?a10 ?l10 ?c10 ?k10 ?a11 ?l11 ?c11 ?k11 ?a12 ?l12 ?c12 ?k12 ?a13 ?l13 ?c13 ?k13 ?a14 ?l14 ?c14 ?k14 ?a15 ?l15 ?c15 ?k15 ?gn0 ?gn1 ?z_isinstance ?z_len ?z_abs ?z_min ?z_max ?z_tuple ?z_list ?z_int ?z_bool ?z_range ?z_repr ?ea_InvalidLength ?ei_InvalidLength ?ek_InvalidLength ?eb_InvalidLength ?et_InvalidLength ?eh_InvalidLength ?ea_InvalidNumber ?ex_InvalidNumber ?es_InvalidNumber ?eg_InvalidNumber ?eq_InvalidNumber ?en_InvalidNumber ?eI_InvalidNumber ?eT_InvalidNumber ?el_InvalidNumber ?ec_InvalidNumber ?ek_InvalidNumber ?eb_InvalidNumber ?et_InvalidNumber ?eh_InvalidNumber ?x_InvalidLength_InvalidLength ?x_InvalidNumber_InvalidLength ?x_InvalidNumber_InvalidNumber
    (case a0 => k_is)
    (case l0 => k_is)
    (case c0 => k_is)
    (case k0 => k_is)
    (case a1 => k_is)
    (case l1 => k_is)
    (case c1 => k_is)
    (case k1 => k_is)
    (case a2 => k_is)
    (case l2 => k_is)
    (case c2 => k_is)
    (case k2 => k_is)
    (case a3 => k_is)
    (case l3 => k_is)
    (case c3 => k_is)
    (case k3 => k_is)
    (case a4 => k_is)
    (case l4 => k_is)
    (case c4 => k_is)
    (case k4 => k_is)
    (case a5 => k_is)
    (case l5 => k_is)
    (case c5 => k_is)
    (case k5 => k_is)
    (case a6 => k_is)
    (case l6 => k_is)
    (case c6 => k_is)
    (case k6 => k_is)
    (case a7 => k_is)
    (case l7 => k_is)
    (case c7 => k_is)
    (case k7 => k_is)
    (case a8 => k_is)
    (case l8 => k_is)
    (case c8 => k_is)
    (case k8 => k_is)
    (case a9 => k_is)
    (case l9 => k_is)
    (case c9 => k_is)
    (case k9 => k_is)
    (case a10 => k_is)
    (case l10 => k_is)
    (case c10 => k_is)
    (case k10 => k_is)
    (case a11 => k_is)
    (case l11 => k_is)
    (case c11 => k_is)
    (case k11 => k_is)
    (case a12 => k_is)
    (case l12 => k_is)
    (case c12 => k_is)
    (case k12 => k_is)
    (case a13 => k_is)
    (case l13 => k_is)
    (case c13 => k_is)
    (case k13 => k_is)
    (case a14 => k_is)
    (case l14 => k_is)
    (case c14 => k_is)
    (case k14 => k_is)
    (case a15 => k_is)
    (case l15 => k_is)
    (case c15 => k_is)
    (case k15 => k_is)
    (case gn0 => k_is)
    (case gn1 => k_is)
    (case z_isinstance => k_is)
    (case z_len => k_is)
    (case z_abs => k_is)
    (case z_min => k_is)
    (case z_max => k_is)
    (case z_tuple => k_is)
    (case z_list => k_is)
    (case z_int => k_is)
    (case z_bool => k_is)
    (case z_range => k_is)
    (case z_repr => k_is)
    (case ea_InvalidLength => k_is)
    (case ei_InvalidLength => k_exc)
    (case ek_InvalidLength => k_is)
    (case eb_InvalidLength => k_is)
    (case et_InvalidLength => k_is)
    (case eh_InvalidLength => k_is)
    (case ea_InvalidNumber => k_is)
    (case ex_InvalidNumber => k_is)
    (case es_InvalidNumber => k_is)
    (case eg_InvalidNumber => k_is)
    (case eq_InvalidNumber => k_is)
    (case en_InvalidNumber => k_is)
    (case eI_InvalidNumber => k_is)
    (case eT_InvalidNumber => k_is)
    (case el_InvalidNumber => k_is)
    (case ec_InvalidNumber => k_is)
    (case ek_InvalidNumber => k_is)
    (case eb_InvalidNumber => k_is)
    (case et_InvalidNumber => k_is)
    (case eh_InvalidNumber => k_is)
    (case x_InvalidLength_InvalidLength => k_is)
    (case x_InvalidNumber_InvalidLength => k_is)
    (case x_InvalidNumber_InvalidNumber => k_is)
#print axioms PySem.Challenge.cw_pagewright_k02_scaled_lengths_and_errors_holds

