import PyProof.Rows.All
import Wide.All
import OpenK.AllK
import Wide.FinOn
import PySem.Challenge.RW_threeshapes_k05_whole_shapes_turned_abou
import HandS.ForMost
import HandS.ForExc
import HandS.Walk
import HandS.Zip
import HandS.SortInts
import HandS.Style
import HandS.TupMul
import HandS.TupAny
import HandS.Flow
import HandS.Wide
import HandS.CallSlots
import HandS.ExcInit
import HandS.ExcField
import HandS.RaiseMore
import HandS.Conv
import PyProof.ReprReads
import KE.KTupSum
import KE.GoesEnum
import HandS.Defaults
set_option Elab.async false
set_option linter.all false
set_option maxRecDepth 100000
-- part DLa
set_option maxHeartbeats 1000000
/-! A layer of plain data over HandS: an expression, a statement, a def is told by what it makes of data (D), the heap is told once. -/
namespace DL
open PySem PySem.Spec PyProof.Rows L2

/-- plain data: what a value is, the heap forgotten; hnd is the one list that the law's draws change -/
inductive D where
  | non | bl (b : Bool) | int (i : Int) | str (x : Str) | lst (xs : List D) | tup (xs : List D) | hnd

/-- what stays fixed while a def runs: the hand at h, its cells at c, the addresses that are not to be met in data, the heap at the entry, lists that are being made -/
structure Gx where
  h : Addr
  c : Addr
  F0 : Addr → Prop
  H0 : Hp
  Ft : Addr → Prop

mutual
/-- the value v is the data d in the heap H; no list or tuple of it stands in F -/
inductive Dq (K : PySem.W.Frag) (h : Addr) (F : Addr → Prop) (H : Hp) : V → D → Prop
  | non : Dq K h F H .non .non
  | bl (b : Bool) : Dq K h F H (.bl b) (.bl b)
  | int (i : Int) : Dq K h F H (.int i) (.int i)
  | str (x : Str) : Dq K h F H (.str x) (.str x)
  | lst {a : Addr} {vs : List V} {ds : List D} : ¬ F a → H a = some (HO.lst vs) → DqA K h F H vs ds → Dq K h F H (.ref a) (.lst ds)
  | tup {a : Addr} {vs : List V} {ds : List D} : (¬ F a ∧ H a = some (HO.tup vs)) ∨ SqT K (fun _ => none) a vs → DqA K h F H vs ds → Dq K h F H (.ref a) (.tup ds)
  | hnd : Dq K h F H (.ref h) .hnd
inductive DqA (K : PySem.W.Frag) (h : Addr) (F : Addr → Prop) (H : Hp) : List V → List D → Prop
  | nil : DqA K h F H [] []
  | cons {v : V} {vs : List V} {d : D} {ds : List D} : Dq K h F H v d → DqA K h F H vs ds → DqA K h F H (v :: vs) (d :: ds)
end

section
variable {K : PySem.W.Frag} {h : Addr} {F F' : Addr → Prop} {H H' : Hp}
mutual
theorem Dq.mono (m : ∀ b z, ¬ F b → H b = some z → ¬ F' b ∧ H' b = some z) : ∀ {v : V} {d : D}, Dq K h F H v d → Dq K h F' H' v d
  | _, _, .non => .non
  | _, _, .bl b => .bl b
  | _, _, .int i => .int i
  | _, _, .str x => .str x
  | _, _, .lst nf r q => .lst (m _ _ nf r).1 (m _ _ nf r).2 (DqA.mono m q)
  | _, _, .tup (.inl r) q => .tup (.inl (m _ _ r.1 r.2)) (DqA.mono m q)
  | _, _, .tup (.inr r) q => .tup (.inr r) (DqA.mono m q)
  | _, _, .hnd => .hnd
theorem DqA.mono (m : ∀ b z, ¬ F b → H b = some z → ¬ F' b ∧ H' b = some z) : ∀ {vs : List V} {ds : List D}, DqA K h F H vs ds → DqA K h F' H' vs ds
  | _, _, .nil => .nil
  | _, _, .cons a b => .cons (Dq.mono m a) (DqA.mono m b)
end
theorem DqA.length : ∀ {vs : List V} {ds : List D}, DqA K h F H vs ds → vs.length = ds.length
  | _, _, .nil => rfl
  | _, _, .cons _ b => by rw [List.length_cons, List.length_cons, DqA.length b]
theorem DqA.get : ∀ {vs : List V} {ds : List D} {i : Nat} {d : D}, DqA K h F H vs ds → ds[i]? = some d → ∃ v, vs[i]? = some v ∧ Dq K h F H v d
  | _, _, _, _, .nil, e => by simp at e
  | _, _, 0, _, .cons a _, e => by simp at e; subst e; exact ⟨_, rfl, a⟩
  | _, _, i + 1, d, .cons _ b, e => by
    obtain ⟨v, h1, h2⟩ := DqA.get (i := i) (d := d) b (by simpa using e)
    exact ⟨v, by simpa using h1, h2⟩
theorem DqA.getV : ∀ {vs : List V} {ds : List D} {i : Nat} {v : V}, DqA K h F H vs ds → vs[i]? = some v → ∃ d, ds[i]? = some d ∧ Dq K h F H v d
  | _, _, _, _, .nil, e => by simp at e
  | _, _, 0, _, .cons a _, e => by simp at e; subst e; exact ⟨_, rfl, a⟩
  | _, _, i + 1, d, .cons _ b, e => by
    obtain ⟨v, h1, h2⟩ := DqA.getV (i := i) (v := d) b (by simpa using e)
    exact ⟨v, by simpa using h1, h2⟩
theorem DqA.append : ∀ {vs us : List V} {ds es : List D}, DqA K h F H vs ds → DqA K h F H us es → DqA K h F H (vs ++ us) (ds ++ es)
  | _, _, _, _, .nil, q => q
  | _, _, _, _, .cons a b, q => .cons a (DqA.append b q)
theorem DqA.take : ∀ {vs : List V} {ds : List D} (n : Nat), DqA K h F H vs ds → DqA K h F H (vs.take n) (ds.take n)
  | _, _, 0, _ => .nil
  | _, _, _ + 1, .nil => .nil
  | _, _, n + 1, .cons a b => .cons a (DqA.take n b)
theorem DqA.drop : ∀ {vs : List V} {ds : List D} (n : Nat), DqA K h F H vs ds → DqA K h F H (vs.drop n) (ds.drop n)
  | _, _, 0, q => q
  | _, _, _ + 1, .nil => .nil
  | _, _, n + 1, .cons _ b => DqA.drop n b
theorem DqA.reverse : ∀ {vs : List V} {ds : List D}, DqA K h F H vs ds → DqA K h F H vs.reverse ds.reverse
  | _, _, .nil => .nil
  | _, _, .cons a b => by rw [List.reverse_cons, List.reverse_cons]; exact (DqA.reverse b).append (.cons a .nil)
theorem DqA.set {v : V} {d : D} (q : Dq K h F H v d) : ∀ {vs : List V} {ds : List D} (i : Nat), DqA K h F H vs ds → DqA K h F H (vs.set i v) (ds.set i d)
  | _, _, _, .nil => .nil
  | _, _, 0, .cons _ b => .cons q b
  | _, _, i + 1, .cons a b => .cons a (DqA.set q i b)
theorem DqA.flat : ∀ (n : Nat) {vs : List V} {ds : List D}, DqA K h F H vs ds → DqA K h F H (List.replicate n vs).flatten (List.replicate n ds).flatten
  | 0, _, _, _ => .nil
  | n + 1, _, _, q => by
    rw [List.replicate_succ, List.replicate_succ, List.flatten_cons, List.flatten_cons]
    exact q.append (DqA.flat n q)
theorem Dq.lst_inv {v : V} {ds : List D} (q : Dq K h F H v (.lst ds)) : ∃ a vs, v = .ref a ∧ ¬ F a ∧ H a = some (HO.lst vs) ∧ DqA K h F H vs ds := by
  cases q with
  | lst nf r q => exact ⟨_, _, rfl, nf, r, q⟩
theorem Dq.tup_inv {v : V} {ds : List D} (q : Dq K h F H v (.tup ds)) : ∃ a vs, v = .ref a ∧ SqT K H a vs ∧ DqA K h F H vs ds := by
  cases q with
  | tup r q =>
    refine ⟨_, _, rfl, ?_, q⟩
    rcases r with r | r
    · exact .inl (.inl r.2)
    · rcases r with r | r
      · rcases r with r | ⟨o, r⟩
        · cases r
        · cases r
      · exact .inr r
theorem DqA.ints : ∀ {vs : List V} {ns : List Int}, DqA K h F H vs (ns.map D.int) → vs = ns.map V.int
  | _, [], q => by cases q; rfl
  | _, n :: ns, q => by
    cases q with
    | cons a b =>
      cases a
      rw [DqA.ints b]
      rfl
theorem ints_dqA : ∀ (ns : List Int), DqA K h F H (ns.map V.int) (ns.map D.int)
  | [] => .nil
  | n :: ns => .cons (.int n) (ints_dqA ns)
end

/-- the hand: the cells, the place, what is left of a great number, the running number -/
structure HS where
  cells : List Int
  pos : Int
  rest : Int
  tot : Int
def HandAt (g : Gx) (H : Hp) (s : HS) : Prop := g.c ≠ g.h ∧ H g.c = some (.lst (s.cells.map V.int)) ∧ H g.h = some (.lst [.ref g.c, .int s.pos, .int s.rest, .int s.tot])

/-- what a name holds: nothing, data, or a list of its own that nothing else holds -/
inductive Sl where
  | un | fz (d : D) | ow (ds : List D)
abbrev Dt := List Sl
def Nw (g : Gx) (σ : L2.St) (δ : Dt) : Addr → Prop := fun a => g.Ft a ∨ ∃ (i : Nat) (ds : List D), δ[i]? = some (Sl.ow ds) ∧ σ[i]? = some (some (V.ref a))
def Fo (g : Gx) (σ : L2.St) (δ : Dt) : Addr → Prop := fun a => g.F0 a ∨ Nw g σ δ a
/-- all but the hand that was tracked stands -/
def Ex (h : Addr) (H H' : Hp) : Prop := ∀ b z, b ≠ h → H b = some z → H' b = some z
theorem Ex.refl {h : Addr} (H : Hp) : Ex h H H := fun _ _ _ e => e
theorem Ex.trans {h : Addr} {H H1 H2 : Hp} (a : Ex h H H1) (b : Ex h H1 H2) : Ex h H H2 := fun c z n e => b c z n (a c z n e)
theorem Ex.of {h : Addr} {H H' : Hp} (a : Same H H') : Ex h H H' := fun c z _ e => a c z e
theorem same_upd {H : Hp} {p : Addr} {o : HO} (n : H p = none) : Same H (upd H p o) := fun b x e => by
  rw [upd_ne (ne_of_none e n)]
  exact e

structure RepS (K : PySem.W.Frag) (g : Gx) (H : Hp) (σ : L2.St) (δ : Dt) (s : HS) : Prop where
  old : Ex g.h g.H0 H
  f0 : g.F0 g.h ∧ ∀ a, g.F0 a → g.H0 a ≠ none
  c0 : g.H0 g.c ≠ none ∧ ¬ g.F0 g.c
  tm : ∀ a, g.Ft a → H a ≠ none ∧ g.H0 a = none
  hand : HandAt g H s
  sl : ∀ (i : Nat) (d : D), δ[i]? = some (Sl.fz d) → ∃ v, σ[i]? = some (some v) ∧ Dq K g.h (Fo g σ δ) H v d
  ow : ∀ (i : Nat) (ds : List D), δ[i]? = some (Sl.ow ds) → ∃ (a : Addr) (vs : List V), σ[i]? = some (some (V.ref a)) ∧ H a = some (HO.lst vs) ∧ DqA K g.h (Fo g σ δ) H vs ds ∧ g.H0 a = none ∧ ¬ g.Ft a
  ap : ∀ (i j : Nat) (ds es : List D) (a : Addr), δ[i]? = some (Sl.ow ds) → δ[j]? = some (Sl.ow es) → σ[i]? = some (some (V.ref a)) → σ[j]? = some (some (V.ref a)) → i = j
  len : σ.length = δ.length
section
variable {K : PySem.W.Frag} {g : Gx} {H H' : Hp} {σ : L2.St} {δ : Dt} {s s' : HS}
theorem RepS.fh (R : RepS K g H σ δ s) : Fo g σ δ g.h := .inl R.f0.1
theorem RepS.nw (R : RepS K g H σ δ s) {a : Addr} (n : Nw g σ δ a) : H a ≠ none ∧ g.H0 a = none := by
  rcases n with n | ⟨i, ds, h1, h2⟩
  · exact R.tm a n
  · obtain ⟨b, vs, e1, e2, _, n, _⟩ := R.ow i ds h1
    rw [h2] at e1
    cases e1
    exact ⟨(by rw [e2]; intro z; cases z), n⟩
theorem RepS.nc (R : RepS K g H σ δ s) : ¬ Fo g σ δ g.c := by
  rintro (f | n)
  · exact R.c0.2 f
  · exact R.c0.1 (R.nw n).2
theorem RepS.fdom (R : RepS K g H σ δ s) : ∀ a, Fo g σ δ a → H a ≠ none := by
  rintro a (f | n)
  · intro e
    have := R.f0.2 a f
    cases z : g.H0 a with
    | none => exact this z
    | some o =>
      by_cases ha : a = g.h
      · rw [ha, R.hand.2.2] at e; cases e
      · rw [R.old a o ha z] at e; cases e
  · exact (R.nw n).1
theorem RepS.neh (R : RepS K g H σ δ s) {a : Addr} (f : ¬ Fo g σ δ a) : a ≠ g.h := fun e => f (e ▸ R.fh)
/-- data stays data while the heap grows -/
theorem RepS.up (R : RepS K g H σ δ s) (x : Ex g.h H H') {v : V} {d : D} (q : Dq K g.h (Fo g σ δ) H v d) : Dq K g.h (Fo g σ δ) H' v d :=
  q.mono fun b z nf e => ⟨nf, x b z (R.neh nf) e⟩
theorem RepS.upA (R : RepS K g H σ δ s) (x : Ex g.h H H') {v : List V} {d : List D} (q : DqA K g.h (Fo g σ δ) H v d) : DqA K g.h (Fo g σ δ) H' v d :=
  q.mono fun b z nf e => ⟨nf, x b z (R.neh nf) e⟩
theorem RepS.ex (R : RepS K g H σ δ s) (x : Ex g.h H H') (hd : HandAt g H' s') : RepS K g H' σ δ s' where
  old := R.old.trans x
  f0 := R.f0
  c0 := R.c0
  tm := fun a f => by
    obtain ⟨h1, h2⟩ := R.tm a f
    refine ⟨fun e => h1 ?_, h2⟩
    cases z : H a with
    | none => rfl
    | some o =>
      have ha : a ≠ g.h := fun q => R.f0.2 _ R.f0.1 (q ▸ h2)
      rw [x a o ha z] at e; cases e
  hand := hd
  sl := fun i d e => by
    obtain ⟨v, e1, q⟩ := R.sl i d e
    exact ⟨v, e1, R.up x q⟩
  ow := fun i ds e => by
    obtain ⟨a, vs, e1, e2, q, n⟩ := R.ow i ds e
    refine ⟨a, vs, e1, x a _ (fun z => ?_) e2, R.upA x q, n⟩
    exact R.f0.2 _ R.f0.1 (z ▸ n.1)
  ap := R.ap
  len := R.len
theorem HandAt.same (R : HandAt g H s) (x : Same H H') : HandAt g H' s := ⟨R.1, x _ _ R.2.1, x _ _ R.2.2⟩
theorem RepS.same (R : RepS K g H σ δ s) (x : Same H H') : RepS K g H' σ δ s := R.ex (Ex.of x) (R.hand.same x)
/-- a new address is not forbidden -/
theorem RepS.nfresh (R : RepS K g H σ δ s) {p : Addr} (n : H p = none) : ¬ Fo g σ δ p := fun f => R.fdom p f n
theorem RepS.mkT (R : RepS K g H σ δ s) {p : Addr} {vs : List V} {ds : List D} (n : H p = none) (q : DqA K g.h (Fo g σ δ) H vs ds) : Dq K g.h (Fo g σ δ) (upd H p (.tup vs)) (.ref p) (.tup ds) :=
  .tup (.inl ⟨R.nfresh n, upd_same⟩) (R.upA (Ex.of (same_upd n)) q)
theorem RepS.mkL (R : RepS K g H σ δ s) {p : Addr} {vs : List V} {ds : List D} (n : H p = none) (q : DqA K g.h (Fo g σ δ) H vs ds) : Dq K g.h (Fo g σ δ) (upd H p (.lst vs)) (.ref p) (.lst ds) :=
  .lst (R.nfresh n) upd_same (R.upA (Ex.of (same_upd n)) q)
end

/-! ### what comes of an expression -/
inductive Re (α : Type) where
  | ok (a : α) (s : HS)
  | err (C : Addr) (fs : List (Str × D)) (s : HS)
  | stk
def Re.bind {α β : Type} : Re α → (α → HS → Re β) → Re β
  | .ok a s, k => k a s
  | .err C fs s, _ => .err C fs s
  | .stk, _ => .stk
/-- of data or nothing -/
def Re.of {α : Type} (o : Option α) (s : HS) : Re α := match o with
  | some a => .ok a s
  | none => .stk
abbrev ED := Dt → HS → Re D
abbrev EA := Dt → HS → Re (List D)
abbrev ET := Dt → HS → Re Bool
/-- the fields of an exception's dict -/
def XdAt (K : PySem.W.Frag) (h : Addr) (F : Addr → Prop) (H : Hp) (dx : Addr) (fs : List (Str × D)) : Prop := ∃ vs : List V, H dx = some (.xd ((fs.map (·.1)).zip vs)) ∧ DqA K h F H vs (fs.map (·.2))

def RW (K : PySem.W.Frag) (W : WX) (g : Gx) (σ : L2.St) (δ : Dt) (H : Hp) {α β : Type} (rel : (Addr → Prop) → Hp → β → α → Prop) (Q : β → Hp → Prop) : Re α → Prop
  | .ok d s' => ∀ v H', Ex g.h H H' → HandAt g H' s' → rel (Fo g σ δ) H' v d → Q v H'
  | .err C fs s' => ∀ dx H', Ex g.h H H' → HandAt g H' s' → XdAt K g.h (Fo g σ δ) H' dx fs → W (.ref C) (some dx) σ H'
  | .stk => False
abbrev relD (K : PySem.W.Frag) (g : Gx) : (Addr → Prop) → Hp → V → D → Prop := fun F H v d => Dq K g.h F H v d
abbrev relA (K : PySem.W.Frag) (g : Gx) : (Addr → Prop) → Hp → List V → List D → Prop := fun F H v d => DqA K g.h F H v d
abbrev relB : (Addr → Prop) → Hp → Bool → Bool → Prop := fun _ _ v d => v = d

def TD (K : PySem.W.Frag) (W : WX) (f : ED) : TE := fun σ H Q => ∃ g δ s, RepS K g H σ δ s ∧ RW K W g σ δ H (relD K g) Q (f δ s)
def TDA (K : PySem.W.Frag) (W : WX) (f : EA) : TA := fun σ H Q => ∃ g δ s, RepS K g H σ δ s ∧ RW K W g σ δ H (relA K g) Q (f δ s)
def TDT (K : PySem.W.Frag) (W : WX) (f : ET) : TT := fun σ H Q => ∃ g δ s, RepS K g H σ δ s ∧ RW K W g σ δ H relB Q (f δ s)
structure DE (X : Cx) (W : WX) (e : Expr) (f : ED) : Prop where
  pe : PE X e (TD X.K W f)
structure DA (X : Cx) (W : WX) (es : List Expr) (f : EA) : Prop where
  pa : PA X es (TDA X.K W f)
structure DT (X : Cx) (W : WX) (e : Expr) (f : ET) : Prop where
  pt : PT X e (TDT X.K W f)

theorem pe_weak {X : Cx} {e : Expr} {t t' : TE} (h : PE X e t) (w : ∀ σ H Q, t' σ H Q → t σ H Q) : PE X e t' := ⟨fun pins s σ H Q I q => h.run pins s σ H Q I (w σ H Q q)⟩
theorem pa_weak {X : Cx} {e : List Expr} {t t' : TA} (h : PA X e t) (w : ∀ σ H Q, t' σ H Q → t σ H Q) : PA X e t' := ⟨fun pos pins s σ H Q I q => h.run pos pins s σ H Q I (w σ H Q q)⟩
theorem pt_weak {X : Cx} {e : Expr} {t t' : TT} (h : PT X e t) (w : ∀ σ H Q, t' σ H Q → t σ H Q) : PT X e t' := ⟨fun pins s σ H Q I q => h.run pins s σ H Q I (w σ H Q q)⟩
theorem ps_weak {X : Cx} {e : Stmt} {t t' : TS} (h : PS X e t) (w : ∀ D σ H, t' D σ H → t D σ H) : PS X e t' := ⟨fun pins s σ H D I q => h.run pins s σ H D I (w D σ H q)⟩
theorem pss_weak {X : Cx} {e : List Stmt} {t t' : TS} (h : PSs X e t) (w : ∀ D σ H, t' D σ H → t D σ H) : PSs X e t' := ⟨fun pins s σ H D I q => h.run pins s σ H D I (w D σ H q)⟩

section
variable {K : PySem.W.Frag} {W : WX} {g : Gx} {σ : L2.St} {δ : Dt} {H H1 : Hp} {s s1 : HS}
/-- later, from a heap that has grown -/
theorem RW.ext {α β : Type} {rel : (Addr → Prop) → Hp → β → α → Prop} {Q : β → Hp → Prop} {r : Re α} (q : RW K W g σ δ H rel Q r) (x : Ex g.h H H1) : RW K W g σ δ H1 rel Q r := by
  cases r with
  | ok d s' => exact fun v H' x' hd r => q v H' (x.trans x') hd r
  | err C fs s' => exact fun dx H' x' hd r => q dx H' (x.trans x') hd r
  | stk => exact q
theorem RW.bind {α β γ ε : Type} {rel : (Addr → Prop) → Hp → β → α → Prop} {rel' : (Addr → Prop) → Hp → ε → γ → Prop} {Q : ε → Hp → Prop} {r : Re α} {k : α → HS → Re γ} (q : RW K W g σ δ H rel' Q (r.bind k)) :
    RW K W g σ δ H rel (fun v H1 => ∃ d s1, Ex g.h H H1 ∧ HandAt g H1 s1 ∧ rel (Fo g σ δ) H1 v d ∧ RW K W g σ δ H1 rel' Q (k d s1)) r := by
  cases r with
  | ok d s' => exact fun v H' x hd r => ⟨d, s', x, hd, r, RW.ext (r := k d s') q x⟩
  | err C fs s' => exact fun dx H' x' hd r => q dx H' x' hd r
  | stk => exact q
theorem RW.mono {α β : Type} {rel : (Addr → Prop) → Hp → β → α → Prop} {Q Q' : β → Hp → Prop} {r : Re α} (q : RW K W g σ δ H rel Q r) (m : ∀ v H', Q v H' → Q' v H') : RW K W g σ δ H rel Q' r := by
  cases r with
  | ok d s' => exact fun v H' x hd r => m v H' (q v H' x hd r)
  | err C fs s' => exact q
  | stk => exact q
end
end DL

-- part DLb
set_option maxHeartbeats 1000000
namespace DL
open PySem PySem.Spec PyProof.Rows L2

section
variable {K : PySem.W.Frag} {W : WX} {σ : L2.St} {H : Hp}
/-- the first part of a bind -/
theorem td_bind {f : ED} {k : Dt → D → HS → Re D} {Q : VK} (q : TD K W (fun δ s => (f δ s).bind (k δ)) σ H Q) :
    TD K W f σ H fun v H1 => ∃ g δ s1 d, RepS K g H1 σ δ s1 ∧ Dq K g.h (Fo g σ δ) H1 v d ∧ RW K W g σ δ H1 (relD K g) Q (k δ d s1) := by
  obtain ⟨g, δ, s, R, q⟩ := q
  exact ⟨g, δ, s, R, (RW.bind (rel := relD K g) q).mono fun v H1 ⟨d, s1, x, hd, r, q⟩ => ⟨g, δ, s1, d, R.ex x hd, r, q⟩⟩
end

/-! ### names and constants -/
section
variable {X : Cx} {W : WX}
def fVar (i : Nat) : ED := fun δ s => match δ[i]? with
  | some (.fz d) => .ok d s
  | _ => .stk
theorem de_var (i : Nat) {x : Str} {pos : Pos} (hN : X.N[i]? = some x := by rfl) (hv : Vis X.env.scope x := by first | exact Or.inl rfl | exact Or.inr (Or.inl rfl) | exact Or.inr (Or.inr rfl)) (hd : (x == ("__debug__" : Str)) = false := by decide)
    (hcd : (x == ("__classdict__" : Str)) = false := by decide) : DE X W (.Name x pos) (fVar i) := by
  refine ⟨pe_weak (pe_var hN hv hd hcd) fun σ H Q q => ?_⟩
  obtain ⟨g, δ, s, R, q⟩ := q
  unfold fVar at q
  cases e : δ[i]? with
  | none => rw [e] at q; exact q.elim
  | some sl =>
    rw [e] at q
    cases sl with
    | un => exact q.elim
    | ow ds => exact q.elim
    | fz d =>
      obtain ⟨v, e1, qd⟩ := R.sl i d e
      exact ⟨v, e1, q v H (Ex.refl H) R.hand qd⟩
def fC (d : D) : ED := fun _ s => .ok d s
theorem de_int {i j pos} : DE X W (.Constant (.int i) j pos) (fC (.int i)) := ⟨pe_weak pe_int fun σ H Q ⟨g, δ, s, R, q⟩ => q _ H (Ex.refl H) R.hand (.int i)⟩
theorem de_bl {i j pos} : DE X W (.Constant (.bool i) j pos) (fC (.bl i)) := ⟨pe_weak pe_bl fun σ H Q ⟨g, δ, s, R, q⟩ => q _ H (Ex.refl H) R.hand (.bl i)⟩
theorem de_non {j pos} : DE X W (.Constant .none j pos) (fC .non) := ⟨pe_weak pe_non fun σ H Q ⟨g, δ, s, R, q⟩ => q _ H (Ex.refl H) R.hand .non⟩
theorem de_str {i j pos} : DE X W (.Constant (.str i) j pos) (fC (.str i)) := ⟨pe_weak pe_str fun σ H Q ⟨g, δ, s, R, q⟩ => q _ H (Ex.refl H) R.hand (.str i)⟩
end

/-! ### operators -/
abbrev Pm2 := D → D → HS → Option D
def F2 (p : Pm2) (fa fb : ED) : ED := fun δ s => (fa δ s).bind fun x s1 => (fb δ s1).bind fun y s2 => Re.of (p x y s2) s2
def P2 (K : PySem.W.Frag) (r : R2) (p : Pm2) : Prop := ∀ (g : Gx) (σ : L2.St) (δ : Dt) (H : Hp) (s : HS) (x y : V) (dx dy d : D) (Q : VK), RepS K g H σ δ s → Dq K g.h (Fo g σ δ) H x dx → Dq K g.h (Fo g σ δ) H y dy → p dx dy s = some d →
  (∀ v H', Same H H' → Dq K g.h (Fo g σ δ) H' v d → Q v H') → r x y H Q
theorem op2 {K : PySem.W.Frag} {W : WX} {r : R2} {p : Pm2} (pr : P2 K r p) {fa fb : ED} {σ : L2.St} {H : Hp} {Q : VK} (q : TD K W (F2 p fa fb) σ H Q) : tOp r (TD K W fa) (TD K W fb) σ H Q := by
  obtain ⟨g, δ, s, R, q⟩ := q
  refine ⟨g, δ, s, R, (RW.bind (rel := relD K g) q).mono ?_⟩
  rintro x H1 ⟨dx, s1, x1, h1, qx, q⟩
  have R1 := R.ex x1 h1
  refine ⟨g, δ, s1, R1, (RW.bind (rel := relD K g) q).mono ?_⟩
  rintro y H2 ⟨dy, s2, x2, h2, qy, q⟩
  have R2' := R1.ex x2 h2
  cases e : p dx dy s2 with
  | none => rw [e] at q; exact q.elim
  | some d =>
    rw [e] at q
    exact pr g σ δ H2 s2 x y dx dy d Q R2' (R1.up x2 qx) qy e fun v H' sm dq => q v H' (Ex.of sm) (R2'.hand.same sm) dq
abbrev Pm1 := D → HS → Option D
def F1 (p : Pm1) (fa : ED) : ED := fun δ s => (fa δ s).bind fun x s1 => Re.of (p x s1) s1
def P1 (K : PySem.W.Frag) (r : V → Hp → VK → Prop) (p : Pm1) : Prop := ∀ (g : Gx) (σ : L2.St) (δ : Dt) (H : Hp) (s : HS) (x : V) (dx d : D) (Q : VK), RepS K g H σ δ s → Dq K g.h (Fo g σ δ) H x dx → p dx s = some d →
  (∀ v H', Same H H' → Dq K g.h (Fo g σ δ) H' v d → Q v H') → r x H Q
theorem op1 {K : PySem.W.Frag} {W : WX} {r : V → Hp → VK → Prop} {p : Pm1} (pr : P1 K r p) {fa : ED} {σ : L2.St} {H : Hp} {Q : VK} (q : TD K W (F1 p fa) σ H Q) : TD K W fa σ H (fun x H1 => r x H1 Q) := by
  obtain ⟨g, δ, s, R, q⟩ := q
  refine ⟨g, δ, s, R, (RW.bind (rel := relD K g) q).mono ?_⟩
  rintro x H1 ⟨dx, s1, x1, h1, qx, q⟩
  have R1 := R.ex x1 h1
  cases e : p dx s1 with
  | none => rw [e] at q; exact q.elim
  | some d =>
    rw [e] at q
    exact pr g σ δ H1 s1 x dx d Q R1 qx e fun v H' sm dq => q v H' (Ex.of sm) (R1.hand.same sm) dq
/-- arguments -/
abbrev PmA := List D → HS → Option D
def FA (p : PmA) (fa : EA) : ED := fun δ s => (fa δ s).bind fun x s1 => Re.of (p x s1) s1
def PA' (K : PySem.W.Frag) (r : List V → Hp → VK → Prop) (p : PmA) : Prop := ∀ (g : Gx) (σ : L2.St) (δ : Dt) (H : Hp) (s : HS) (x : List V) (dx : List D) (d : D) (Q : VK), RepS K g H σ δ s → DqA K g.h (Fo g σ δ) H x dx → p dx s = some d →
  (∀ v H', Same H H' → Dq K g.h (Fo g σ δ) H' v d → Q v H') → r x H Q
theorem opA {K : PySem.W.Frag} {W : WX} {r : List V → Hp → VK → Prop} {p : PmA} (pr : PA' K r p) {fa : EA} {σ : L2.St} {H : Hp} {Q : VK} (q : TD K W (FA p fa) σ H Q) : tCB r (TDA K W fa) σ H Q := by
  obtain ⟨g, δ, s, R, q⟩ := q
  refine ⟨g, δ, s, R, (RW.bind (rel := relA K g) q).mono ?_⟩
  rintro x H1 ⟨dx, s1, x1, h1, qx, q⟩
  have R1 := R.ex x1 h1
  cases e : p dx s1 with
  | none => rw [e] at q; exact q.elim
  | some d =>
    rw [e] at q
    exact pr g σ δ H1 s1 x dx d Q R1 qx e fun v H' sm dq => q v H' (Ex.of sm) (R1.hand.same sm) dq

section
variable {X : Cx} {W : WX} {a b : Expr} {fa fb : ED} {es : List Expr} {fs : EA} {pos : Pos}
theorem de_bin {op : Operator} {r : R2} {p : Pm2} (ho : OpR X (binaryOp op) r) (pr : P2 X.K r p) (ha : DE X W a fa) (hb : DE X W b fb) : DE X W (.BinOp a op b pos) (F2 p fa fb) := ⟨pe_weak (pe_op ho ha.pe hb.pe) fun _ _ _ => op2 pr⟩
theorem de_cmp {op : CmpOp} {r : R2} {p : Pm2} (ho : OpR X (compareOp op) r) (pr : P2 X.K r p) (ha : DE X W a fa) (hb : DE X W b fb) (hm : behindInMarks op b = false) : DE X W (.Compare a [op] [b] pos) (F2 p fa fb) :=
  ⟨pe_weak (pe_cmpR ho ha.pe hb.pe hm) fun _ _ _ => op2 pr⟩
theorem de_ix {r : R2} {p : Pm2} (ho : IxR X r) (pr : P2 X.K r p) (ha : DE X W a fa) (hb : DE X W b fb) (hs : PlainIx b) : DE X W (.Subscript a b pos) (F2 p fa fb) := ⟨pe_weak (pe_ix ho ha.pe hb.pe hs) fun _ _ _ => op2 pr⟩
theorem de_un {op : UnaryOp} {r : V → Hp → VK → Prop} {p : Pm1} (ho : UnR X (unaryOp op) r) (pr : P1 X.K r p) (ha : DE X W a fa) : DE X W (.UnaryOp op a pos) (F1 p fa) := ⟨pe_weak (pe_un ho ha.pe) fun _ _ _ => op1 pr⟩
/-! arguments -/
def aNil : EA := fun _ s => .ok [] s
def aCons (f : ED) (r : EA) : EA := fun δ s => (f δ s).bind fun x s1 => (r δ s1).bind fun xs s2 => .ok (x :: xs) s2
theorem da_nil : DA X W [] aNil := ⟨pa_weak pa_nil fun σ H Q ⟨g, δ, s, R, q⟩ => q [] H (Ex.refl H) R.hand .nil⟩
theorem da_cons {e : Expr} {f : ED} (ha : DE X W e f) (hr : DA X W es fs) (hs : starEach (e :: es) X.env = (false, eval e X.env) :: starEach es X.env := by rfl) : DA X W (e :: es) (aCons f fs) := by
  refine ⟨pa_weak (pa_cons ha.pe hr.pa hs) fun σ H Q q => ?_⟩
  obtain ⟨g, δ, s, R, q⟩ := q
  refine ⟨g, δ, s, R, (RW.bind (rel := relD X.K g) q).mono ?_⟩
  rintro x H1 ⟨dx, s1, x1, h1, qx, q⟩
  have R1 := R.ex x1 h1
  refine ⟨g, δ, s1, R1, (RW.bind (rel := relA X.K g) q).mono ?_⟩
  rintro y H2 ⟨dy, s2, x2, h2, qy, q⟩
  exact q _ H2 (Ex.refl H2) h2 (.cons (R1.up x2 qx) qy)
theorem de_callB {x : Str} {p : Pos} {id : String} {r : List V → Hp → VK → Prop} {pm : PmA} {e : Expr} (hc : CallR X (.builtin id) r) (pr : PA' X.K r pm) (hg : Gl X x) (hm : X.mg x = none) (hv : bootBuiltins x = some (.builtin id)) (ha : DA X W (e :: es) fs) (hn : x ≠ "__name__" := by decide) (hdb : (x == ("__debug__" : Str)) = false := by decide)
    (he : starEach (e :: es) X.env = (false, eval e X.env) :: starEach es X.env := by rfl) (hpl : (backTo pos (starEach es X.env)).any (·.1) = false := by rfl) : DE X W (.Call (.Name x p) (e :: es) [] pos) (FA pm fs) :=
  ⟨pe_weak (pe_callB hc hg hm hv ha.pa hn hdb he hpl) fun _ _ _ => opA pr⟩
theorem de_callTy {x : Str} {p : Pos} {T : String} {r : List V → Hp → VK → Prop} {pm : PmA} {e : Expr} (hc : CallR X (.type T) r) (pr : PA' X.K r pm) (hg : Gl X x) (hm : X.mg x = none) (hv : bootBuiltins x = some (.type T)) (ha : DA X W (e :: es) fs) (hn : x ≠ "__name__" := by decide) (hdb : (x == ("__debug__" : Str)) = false := by decide)
    (he : starEach (e :: es) X.env = (false, eval e X.env) :: starEach es X.env := by rfl) (hpl : (backTo pos (starEach es X.env)).any (·.1) = false := by rfl) : DE X W (.Call (.Name x p) (e :: es) [] pos) (FA pm fs) :=
  ⟨pe_weak (pe_callTy hc hg hm hv ha.pa hn hdb he hpl) fun _ _ _ => opA pr⟩
/-! displays -/
def mkT : PmA := fun ds _ => if ds.length ≤ 1000000 then some (.tup ds) else none
def mkL : PmA := fun ds _ => if ds.length ≤ 1000000 then some (.lst ds) else none
theorem line6 {n : Nat} (h : n ≤ 1000000) : n ≤ sizeLine := by rw [sizeLine_eq]; omega
theorem de_tup {k} (h : DA X W es fs) : DE X W (.Tuple es k pos) (FA mkT fs) := by
  refine ⟨pe_weak (pe_tup h.pa) fun σ H Q q => ?_⟩
  refine opA (r := fun xs H1 Q => xs.length ≤ sizeLine ∧ ∀ p, H1 p = none → Q (.ref p) (upd H1 p (.tup xs))) ?_ q
  intro g σ δ H s x dx d Q R qx e k
  unfold mkT at e
  split at e
  · cases e
    rename_i hl
    exact ⟨line6 (by rw [qx.length]; exact hl), fun p np => k _ _ (same_upd np) (R.mkT np qx)⟩
  · cases e
theorem de_lst (h : DA X W es fs) : DE X W (.List es pos) (FA mkL fs) := by
  refine ⟨pe_weak (pe_lst h.pa) fun σ H Q q => ?_⟩
  refine opA (r := fun xs H1 Q => xs.length ≤ sizeLine ∧ ∀ p, H1 p = none → Q (.ref p) (upd H1 p (.lst xs))) ?_ q
  intro g σ δ H s x dx d Q R qx e k
  unfold mkL at e
  split at e
  · cases e
    rename_i hl
    exact ⟨line6 (by rw [qx.length]; exact hl), fun p np => k _ _ (same_upd np) (R.mkL np qx)⟩
  · cases e

/-! tests -/
def tNotF (f : ET) : ET := fun δ s => (f δ s).bind fun b s1 => .ok (!b) s1
def tAndF (f g : ET) : ET := fun δ s => (f δ s).bind fun b s1 => if b = true then g δ s1 else .ok false s1
def tOrF (f g : ET) : ET := fun δ s => (f δ s).bind fun b s1 => if b = true then .ok true s1 else g δ s1
structure DW (X : Cx) (W : WX) (e : Expr) (f : ET) : Prop where
  pw : PW X e (TDT X.K W f)
theorem pw_weak {X : Cx} {e : Expr} {t t' : TT} (h : PW X e t) (w : ∀ σ H Q, t' σ H Q → t σ H Q) : PW X e t' := ⟨fun wh pins s σ H Q I q => h.run wh pins s σ H Q I (w σ H Q q)⟩
theorem DW.dt {e : Expr} {f : ET} (h : DW X W e f) : DT X W e f := ⟨h.pw.pt⟩
variable {f f' : ET} {rest : List Expr}
theorem dt_not (h : DT X W a f) : DT X W (.UnaryOp .Not a pos) (tNotF f) := by
  refine ⟨pt_weak (pt_not h.pt) fun σ H Q q => ?_⟩
  obtain ⟨g, δ, s, R, q⟩ := q
  refine ⟨g, δ, s, R, (RW.bind (rel := relB) q).mono ?_⟩
  rintro c H1 ⟨d, s1, x1, h1, rfl, q⟩
  exact q _ H1 (Ex.refl H1) h1 rfl
theorem dw_and1 (h : DT X W a f) : DW X W (.BoolOp .And [a] pos) f := ⟨pw_and1 h.pt⟩
theorem dw_or1 (h : DT X W a f) : DW X W (.BoolOp .Or [a] pos) f := ⟨pw_or1 h.pt⟩
theorem dw_and (h : DT X W a f) (h2 : DW X W (.BoolOp .And (b :: rest) pos) f') : DW X W (.BoolOp .And (a :: b :: rest) pos) (tAndF f f') := by
  refine ⟨pw_weak (pw_and h.pt h2.pw) fun σ H Q q => ?_⟩
  obtain ⟨g, δ, s, R, q⟩ := q
  refine ⟨g, δ, s, R, (RW.bind (rel := relB) q).mono ?_⟩
  rintro c H1 ⟨d, s1, x1, h1, rfl, q⟩
  cases c with
  | true => exact ⟨g, δ, s1, R.ex x1 h1, q⟩
  | false => exact q _ H1 (Ex.refl H1) h1 rfl
theorem dw_or (h : DT X W a f) (h2 : DW X W (.BoolOp .Or (b :: rest) pos) f') : DW X W (.BoolOp .Or (a :: b :: rest) pos) (tOrF f f') := by
  refine ⟨pw_weak (pw_or h.pt h2.pw) fun σ H Q q => ?_⟩
  obtain ⟨g, δ, s, R, q⟩ := q
  refine ⟨g, δ, s, R, (RW.bind (rel := relB) q).mono ?_⟩
  rintro c H1 ⟨d, s1, x1, h1, rfl, q⟩
  cases c with
  | true => exact q _ H1 (Ex.refl H1) h1 rfl
  | false => exact ⟨g, δ, s1, R.ex x1 h1, q⟩
/-- truth of data -/
def truD : D → Option Bool
  | .non => some false
  | .bl b => some b
  | .int i => some (i != 0)
  | .lst ds => some (!ds.isEmpty)
  | .tup ds => some (!ds.isEmpty)
  | .str _ => none
  | .hnd => none
def tTru (f : ED) : ET := fun δ s => (f δ s).bind fun d s1 => Re.of (truD d) s1
theorem DqA.isEmpty {K : PySem.W.Frag} {h : Addr} {F : Addr → Prop} {H : Hp} {vs : List V} {ds : List D} (q : DqA K h F H vs ds) : ds.isEmpty = vs.isEmpty := by
  cases q <;> rfl
theorem dt_tru (h : DE X W a fa) (he : ∀ whole, isTrue a X.env whole = (do let v ← whole; standAt a.pos; holding [v] (truthy v)) := by intro _; rfl) : DT X W a (tTru fa) := by
  refine ⟨pt_weak (pt_truth h.pe he) fun σ H Q q => ?_⟩
  obtain ⟨g, δ, s, R, q⟩ := q
  refine ⟨g, δ, s, R, (RW.bind (rel := relD X.K g) q).mono ?_⟩
  rintro x H1 ⟨d, s1, x1, h1, qd, q⟩
  cases d with
  | non => cases qd; exact ⟨false, rfl, q _ H1 (Ex.refl H1) h1 rfl⟩
  | bl b => cases qd; exact ⟨b, rfl, q _ H1 (Ex.refl H1) h1 rfl⟩
  | int i => cases qd; exact ⟨_, rfl, q _ H1 (Ex.refl H1) h1 rfl⟩
  | str i => exact q.elim
  | hnd => exact q.elim
  | lst ds =>
    obtain ⟨a, vs, rfl, nf, ha, qs⟩ := qd.lst_inv
    exact ⟨_, .inl ⟨vs, .of ha, rfl⟩, q _ H1 (Ex.refl H1) h1 (by rw [qs.isEmpty])⟩
  | tup ds =>
    obtain ⟨a, vs, rfl, ha, qs⟩ := qd.tup_inv
    exact ⟨_, .inr (.inl ⟨vs, ha, rfl⟩), q _ H1 (Ex.refl H1) h1 (by rw [qs.isEmpty])⟩
/-- a value that is True or False, as a test -/
def blD : D → Option Bool
  | .bl b => some b
  | _ => none
def tBl (f : ED) : ET := fun δ s => (f δ s).bind fun d s1 => Re.of (blD d) s1
theorem tst {K : PySem.W.Frag} {σ : L2.St} {H : Hp} {Q : Bool → Hp → Prop} {t : TE} (w : ∀ Q, TD K W fa σ H Q → t σ H Q) (q : TDT K W (tBl fa) σ H Q) : t σ H fun x H' => ∃ k, x = .bl k ∧ Q k H' := by
  refine w _ ?_
  obtain ⟨g, δ, s, R, q⟩ := q
  refine ⟨g, δ, s, R, (RW.bind (rel := relD K g) q).mono ?_⟩
  rintro x H1 ⟨d, s1, x1, h1, qd, q⟩
  cases d with
  | bl b => cases qd; exact ⟨b, rfl, q _ H1 (Ex.refl H1) h1 rfl⟩
  | _ => exact q.elim
theorem dt_cmp {op : CmpOp} {r : R2} {p : Pm2} (ho : OpR X (compareOp op) r) (pr : P2 X.K r p) (ha : DE X W a fa) (hb : DE X W b fb) (hm : behindInMarks op b = false) : DT X W (.Compare a [op] [b] pos) (tBl (F2 p fa fb)) :=
  ⟨pt_weak (pt_cmpR ho ha.pe hb.pe hm) fun _ _ _ q => tst (fun _ z => op2 pr z) q⟩
theorem dt_val (h : DE X W a fa) (he : ∀ whole, isTrue a X.env whole = (do let v ← whole; standAt a.pos; holding [v] (truthy v)) := by intro _; rfl) : DT X W a (tBl fa) :=
  ⟨pt_weak (pt_val h.pe he) fun _ _ _ q => tst (fun _ z => z) q⟩
/-- x is None -/
def isNonD : Pm1 := fun d _ => match d with
  | .non => some (.bl true)
  | _ => some (.bl false)
theorem Dq.decN {K : PySem.W.Frag} {h : Addr} {F : Addr → Prop} {H : Hp} {v : V} {d : D} (q : Dq K h F H v d) : isNonD d ⟨[], 0, 0, 0⟩ = some (.bl (decide (v = .non))) := by
  cases q <;> rfl
theorem isN_tst {K : PySem.W.Frag} {σ : L2.St} {H : Hp} {Q : Bool → Hp → Prop} (q : TDT K W (tBl (F1 isNonD fa)) σ H Q) : TD K W fa σ H fun x H1 => ∃ c, V.bl (decide (x = .non)) = .bl c ∧ Q c H1 := by
  obtain ⟨g, δ, s, R, q⟩ := q
  refine ⟨g, δ, s, R, ?_⟩
  unfold tBl F1 at q
  cases e : fa δ s with
  | stk => rw [e] at q; exact q
  | err C fs s' => rw [e] at q; exact q
  | ok d s' =>
    rw [e] at q
    intro v H' x1 h1 qd
    refine ⟨_, rfl, ?_⟩
    have z := qd.decN
    have z' : isNonD d s' = some (.bl (decide (v = .non))) := by rw [← z]; cases d <;> rfl
    change RW K W g σ δ H relB Q ((Re.of (isNonD d s') s').bind fun d s1 => Re.of (blD d) s1) at q
    rw [z'] at q
    exact q _ H' x1 h1 rfl
theorem dt_isN {j pos'} (ha : DE X W a fa) : DT X W (.Compare a [.Is] [.Constant .none j pos'] pos) (tBl (F1 isNonD fa)) := ⟨pt_weak (pt_cmp (pc_isN ha.pe)) fun _ _ _ q => isN_tst q⟩
/-- a if t else b -/
def fIf (t : ET) (fa fb : ED) : ED := fun δ s => (t δ s).bind fun c s1 => if c = true then fa δ s1 else fb δ s1
theorem de_if {c : Expr} (hc : DT X W c f) (ha : DE X W a fa) (hb : DE X W b fb) : DE X W (.IfExp c a b pos) (fIf f fa fb) := by
  refine ⟨pe_weak (pe_ifExp hc.pt ha.pe hb.pe) fun σ H Q q => ?_⟩
  obtain ⟨g, δ, s, R, q⟩ := q
  refine ⟨g, δ, s, R, (RW.bind (rel := relB) q).mono ?_⟩
  rintro c H1 ⟨d, s1, x1, h1, rfl, q⟩
  cases c with
  | true => exact ⟨g, δ, s1, R.ex x1 h1, q⟩
  | false => exact ⟨g, δ, s1, R.ex x1 h1, q⟩
end
end DL

-- part DLc
set_option maxHeartbeats 1000000
namespace DL
open PySem PySem.Spec PyProof.Rows L2

theorem ite_some {α : Type} {c : Prop} [Decidable c] {a b : α} (e : (if c then some a else none) = some b) : c ∧ a = b := by
  by_cases h : c
  · rw [if_pos h] at e; exact ⟨h, Option.some.inj e⟩
  · rw [if_neg h] at e; cases e
/-! ### what operators make of data -/
def addD : Pm2 := fun x y _ => match x, y with
  | .int i, .int j => some (.int (i + j))
  | .tup xs, .tup ys => if xs.length + ys.length ≤ 1000000 then some (.tup (xs ++ ys)) else none
  | .lst xs, .lst ys => if xs.length + ys.length ≤ 1000000 then some (.lst (xs ++ ys)) else none
  | _, _ => none
def subD : Pm2 := fun x y _ => match x, y with
  | .int i, .int j => some (.int (i - j))
  | _, _ => none
def mulOk (i j : Int) : Bool := decide (i.natAbs < 2 ^ 63) || decide (j.natAbs < 2 ^ 63) || decide (i.natAbs.log2 + j.natAbs.log2 < 1000000)
def mulD : Pm2 := fun x y _ => match x, y with
  | .int i, .int j => if mulOk i j then some (.int (i * j)) else none
  | .tup xs, .int k => if xs.length ≤ 1000 ∧ k ≤ 1000 ∧ -1000000 ≤ k then some (.tup (List.replicate k.toNat xs).flatten) else none
  | .lst xs, .int k => if xs.length ≤ 1000 ∧ k ≤ 1000 ∧ -1000000 ≤ k then some (.lst (List.replicate k.toNat xs).flatten) else none
  | _, _ => none
def fdivD : Pm2 := fun x y _ => match x, y with
  | .int i, .int j => if 0 < j ∧ j.natAbs.log2 < 9000 then some (.int (i / j)) else none
  | _, _ => none
def modD : Pm2 := fun x y _ => match x, y with
  | .int i, .int j => if 0 < j then some (.int (i % j)) else none
  | _, _ => none
def powD : Pm2 := fun x y _ => match x, y with
  | .int i, .int j => if 0 ≤ j ∧ j ≤ 100000 ∧ i.natAbs < 2 ^ 63 then some (.int (i ^ j.toNat)) else none
  | _, _ => none
def negD : Pm1 := fun x _ => match x with
  | .int i => some (.int (-i))
  | _ => none
def icmpD (c : Int → Int → Bool) : Pm2 := fun x y _ => match x, y with
  | .int i, .int j => some (.bl (c i j))
  | _, _ => none
/-- == of two ints, two truth values, two texts -/
def eqB : D → D → Option Bool
  | .int i, .int j => some (decide (i = j))
  | .bl i, .bl j => some (decide (i = j))
  | .str i, .str j => some (decide (i = j))
  | _, _ => none
def eqD : Pm2 := fun x y _ => (eqB x y).map .bl
def neD : Pm2 := fun x y _ => (eqB x y).map fun b => .bl (!b)
def ixD : Pm2 := fun x y s => match x, y with
  | .lst xs, .int i => atI xs i
  | .tup xs, .int i => atI xs i
  | .hnd, .int i => atI [.lst (s.cells.map .int), .int s.pos, .int s.rest, .int s.tot] i
  | _, _ => none

section
variable {K : PySem.W.Frag} {h : Addr} {F : Addr → Prop} {H : Hp}
theorem DqA.atI {vs : List V} {ds : List D} (q : DqA K h F H vs ds) {i : Int} {d : D} (e : L2.atI ds i = some d) : ∃ v, L2.atI vs i = some v ∧ Dq K h F H v d := by
  unfold L2.atI at e ⊢
  rw [q.length]
  cases z : ixN ds.length i with
  | none => rw [z] at e; cases e
  | some j =>
    rw [z] at e
    exact q.get e
end

section
variable {X : Cx}
theorem p_add : P2 X.K (fun x y H Q => (rI0 (fun i j => .int (i + j)) x y H Q ∨ rCatA X.K x y H Q) ∨ rCat x y H Q) addD := by
  intro g σ δ H s x y dx dy d Q R qx qy e k
  cases dx <;> cases dy <;> simp only [addD] at e <;> try (cases e; done)
  · cases e; cases qx; cases qy
    exact .inl (.inl ⟨_, _, rfl, rfl, k _ H (Same.refl H) (.int _)⟩)
  · obtain ⟨hl, rfl⟩ := ite_some e
    obtain ⟨a, vs, rfl, nf, ha, qa⟩ := qx.lst_inv
    obtain ⟨b, us, rfl, nf', hb, qb⟩ := qy.lst_inv
    exact .inr ⟨a, b, vs, us, rfl, rfl, ha, hb, line6 (by rw [qa.length, qb.length]; exact hl), fun p np => k _ _ (same_upd np) (R.mkL np (qa.append qb))⟩
  · obtain ⟨hl, rfl⟩ := ite_some e
    obtain ⟨a, vs, rfl, ha, qa⟩ := qx.tup_inv
    obtain ⟨b, us, rfl, hb, qb⟩ := qy.tup_inv
    refine .inl (.inr ⟨a, b, vs, us, rfl, rfl, ha, hb, line6 (by rw [qa.length, qb.length]; exact hl), fun z => ?_, fun _ z => ?_, fun _ _ p np => k _ _ (same_upd np) (R.mkT np (qa.append qb))⟩)
    · subst z
      cases qa
      exact k _ H (Same.refl H) qy
    · subst z
      cases qb
      rw [List.append_nil] at k
      exact k _ H (Same.refl H) qx
theorem o_add : OpR X (binaryOp .Add) (fun x y H Q => (rI0 (fun i j => .int (i + j)) x y H Q ∨ rCatA X.K x y H Q) ∨ rCat x y H Q) := (op_add.or op_catA).or op_cat
theorem p_int0 {K : PySem.W.Frag} {g' : Int → Int → V} {p : Pm2} (hp : ∀ i j s, p (.int i) (.int j) s = some (match g' i j with | .int z => .int z | .bl b => .bl b | _ => .non)) (hg : ∀ i j, (∃ z, g' i j = .int z) ∨ ∃ b, g' i j = .bl b) (hn : ∀ x y s d, p x y s = some d → ∃ i j, x = .int i ∧ y = .int j) :
    P2 K (rI0 g') p := by
  intro g σ δ H s x y dx dy d Q R qx qy e k
  obtain ⟨i, j, rfl, rfl⟩ := hn _ _ _ _ e
  rw [hp] at e
  cases e
  cases qx
  cases qy
  refine ⟨i, j, rfl, rfl, k _ H (Same.refl H) ?_⟩
  rcases hg i j with ⟨z, e⟩ | ⟨b, e⟩
  · rw [e]; exact .int z
  · rw [e]; exact .bl b
theorem ints_of {x y d : D} {c : Int → Int → Option D} (e : (match x, y with | .int i, .int j => c i j | _, _ => none) = some d) : ∃ i j, x = .int i ∧ y = .int j ∧ c i j = some d := by
  cases x <;> cases y <;> first | (cases e; done) | exact ⟨_, _, rfl, rfl, e⟩
theorem p_sub : P2 X.K (rI0 fun i j => .int (i - j)) subD := by
  intro g σ δ H s x y dx dy d Q R qx qy e k
  obtain ⟨i, j, rfl, rfl, e⟩ := ints_of (c := fun i j => some (.int (i - j))) e
  cases e; cases qx; cases qy
  exact ⟨i, j, rfl, rfl, k _ H (Same.refl H) (.int _)⟩
theorem p_fdiv : P2 X.K (rI CDivW fun i j => .int (i / j)) fdivD := by
  intro g σ δ H s x y dx dy d Q R qx qy e k
  obtain ⟨i, j, rfl, rfl, e⟩ := ints_of (c := fun i j => if 0 < j ∧ j.natAbs.log2 < 9000 then some (.int (i / j)) else none) e
  obtain ⟨hc, rfl⟩ := ite_some e
  cases qx; cases qy
  exact ⟨i, j, rfl, rfl, hc, k _ H (Same.refl H) (.int _)⟩
theorem p_mod : P2 X.K (rI (fun _ j => 0 < j) fun i j => .int (i % j)) modD := by
  intro g σ δ H s x y dx dy d Q R qx qy e k
  obtain ⟨i, j, rfl, rfl, e⟩ := ints_of (c := fun i j => if 0 < j then some (.int (i % j)) else none) e
  obtain ⟨hc, rfl⟩ := ite_some e
  cases qx; cases qy
  exact ⟨i, j, rfl, rfl, hc, k _ H (Same.refl H) (.int _)⟩
theorem p_pow : P2 X.K (rI CPow fun i j => .int (i ^ j.toNat)) powD := by
  intro g σ δ H s x y dx dy d Q R qx qy e k
  obtain ⟨i, j, rfl, rfl, e⟩ := ints_of (c := fun i j => if 0 ≤ j ∧ j ≤ 100000 ∧ i.natAbs < 2 ^ 63 then some (.int (i ^ j.toNat)) else none) e
  obtain ⟨hc, rfl⟩ := ite_some e
  cases qx; cases qy
  exact ⟨i, j, rfl, rfl, ⟨hc.1, by omega, by omega⟩, k _ H (Same.refl H) (.int _)⟩
theorem p_neg : P1 X.K (rU fun i => .int (-i)) negD := by
  intro g σ δ H s x dx d Q R qx e k
  cases dx <;> simp only [negD] at e <;> try (cases e; done)
  cases e; cases qx
  exact ⟨_, rfl, k _ H (Same.refl H) (.int _)⟩
theorem p_icmp {c : Int → Int → Bool} : P2 X.K (rI0 fun i j => .bl (c i j)) (icmpD c) := by
  intro g σ δ H s x y dx dy d Q R qx qy e k
  obtain ⟨i, j, rfl, rfl, e⟩ := ints_of (c := fun i j => some (.bl (c i j))) e
  cases e; cases qx; cases qy
  exact ⟨i, j, rfl, rfl, k _ H (Same.refl H) (.bl _)⟩
theorem eqB_V {K : PySem.W.Frag} {h : Addr} {F : Addr → Prop} {H : Hp} {x y : V} {dx dy : D} {b : Bool} (qx : Dq K h F H x dx) (qy : Dq K h F H y dy) (e : eqB dx dy = some b) : scal x y = true ∧ decide (x = y) = b := by
  cases dx <;> cases dy <;> simp only [eqB] at e <;> try (cases e; done)
  all_goals (cases e; cases qx; cases qy; exact ⟨rfl, by simp⟩)
theorem p_eq : P2 X.K rEq eqD := by
  intro g σ δ H s x y dx dy d Q R qx qy e k
  unfold eqD at e
  cases z : eqB dx dy with
  | none => rw [z] at e; cases e
  | some b =>
    rw [z] at e
    cases e
    obtain ⟨h1, h2⟩ := eqB_V qx qy z
    exact ⟨h1, by rw [h2]; exact k _ H (Same.refl H) (.bl _)⟩
theorem p_ne : P2 X.K rNe neD := by
  intro g σ δ H s x y dx dy d Q R qx qy e k
  unfold neD at e
  cases z : eqB dx dy with
  | none => rw [z] at e; cases e
  | some b =>
    rw [z] at e
    cases e
    obtain ⟨h1, h2⟩ := eqB_V qx qy z
    exact ⟨h1, by rw [h2]; exact k _ H (Same.refl H) (.bl _)⟩
theorem p_ix : P2 X.K (fun x y H Q => rIxL X.K x y H Q ∨ rIxT X.K x y H Q) ixD := by
  intro g σ δ H s x y dx dy d Q R qx qy e k
  cases dx <;> cases dy <;> simp only [ixD] at e <;> try (cases e; done)
  · obtain ⟨a, vs, rfl, nf, ha, qa⟩ := qx.lst_inv
    cases qy
    obtain ⟨v, h1, h2⟩ := qa.atI e
    exact .inl ⟨a, vs, _, v, rfl, rfl, .of ha, h1, k _ H (Same.refl H) h2⟩
  · obtain ⟨a, vs, rfl, ha, qa⟩ := qx.tup_inv
    cases qy
    obtain ⟨v, h1, h2⟩ := qa.atI e
    exact .inr ⟨a, vs, _, v, rfl, rfl, ha, h1, k _ H (Same.refl H) h2⟩
  · cases qx
    cases qy
    have qc : DqA X.K g.h (Fo g σ δ) H [V.ref g.c, .int s.pos, .int s.rest, .int s.tot] [.lst (s.cells.map D.int), .int s.pos, .int s.rest, .int s.tot] := by
      refine .cons (.lst ?_ R.hand.2.1 (ints_dqA _)) (.cons (.int _) (.cons (.int _) (.cons (.int _) .nil)))
      exact R.nc
    obtain ⟨v, h1, h2⟩ := qc.atI e
    exact .inl ⟨g.h, _, _, v, rfl, rfl, .of R.hand.2.2, h1, k _ H (Same.refl H) h2⟩
theorem o_ix : IxR X (fun x y H Q => rIxL X.K x y H Q ∨ rIxT X.K x y H Q) := ix_list.or ix_tup
end

/-! ### t * 0, t * 1 -/
theorem tuple_mul1 (l : Addr) (items : Array Value) (n : Nat) (dd : Option Addr) (sl : Array (Option Value)) (x : Int) (u : Tok) (c0 : (decide (x < -(2 ^ 63)) || decide (x ≥ 2 ^ 63)) = false) (c1 : (items.isEmpty || x == 1) = true) :
    Meets (Builtin.«tuple.__mul__» ⟨[.ref l, .int x u], []⟩) (fun _ R s => s.heap.get? l = some { cls := .type "tuple", dict := dd, data := .seq items n, slots := sl } ∧ R (.ok (.ret (.ref l))) s) :=
  .of_wp fun prog w A R s h => by
    obtain ⟨hp, g, d, tk, os⟩ := s
    obtain ⟨hl, h⟩ := h
    have f1 := AutoSeq1.idx_int
    wp_walk using wpAny_loadPart' hl
    repeat (first
      | (refine wpAny_ite_false (decide_eq_false (by rw [c0]; exact Bool.false_ne_true)) ?_; wp_walk using wpAny_loadPart' hl)
      | (refine wpAny_ite_true (decide_eq_true (by rw [c1])) ?_; wp_walk using wpAny_loadPart' hl))
    exact ⟨_, rfl, h⟩
end DL

-- part DLd
set_option maxHeartbeats 1000000
namespace DL
open PySem PySem.Spec PyProof.Rows L2

theorem tuple_mul0 (l : Addr) (items : Array Value) (n : Nat) (dd : Option Addr) (sl : Array (Option Value)) (x : Int) (u : Tok) (c0 : (decide (x < -(2 ^ 63)) || decide (x ≥ 2 ^ 63)) = false) (c1 : (items.isEmpty || x == 1) = false) (c2 : (decide (x ≤ 0) || items.isEmpty) = true) :
    Meets (Builtin.«tuple.__mul__» ⟨[.ref l, .int x u], []⟩) (fun _ R s => s.heap.get? l = some { cls := .type "tuple", dict := dd, data := .seq items n, slots := sl } ∧
      R (.ok (.ret (Value.ref s.heap.objs.size))) { s with heap := s.heap.push { cls := Value.type "tuple", data := Data.seq #[] }, toks := s.toks }) :=
  .of_wp fun prog w A R s h => by
    obtain ⟨hp, g, d, tk, os⟩ := s
    obtain ⟨hl, h⟩ := h
    have f1 := AutoSeq1.idx_int
    wp_walk using wpAny_loadPart' hl
    repeat (first
      | (refine wpAny_ite_false (decide_eq_false (by rw [c0]; exact Bool.false_ne_true)) ?_; wp_walk using wpAny_loadPart' hl)
      | (refine wpAny_ite_false (decide_eq_false (by rw [c1]; exact Bool.false_ne_true)) ?_; wp_walk using wpAny_loadPart' hl)
      | (refine wpAny_ite_true (decide_eq_true (by rw [c2])) ?_; wp_walk using wpAny_loadPart' hl))
    exact ⟨_, rfl, h⟩
/-- t * k, any small k -/
def rRepA (K : PySem.W.Frag) : R2 := fun x y H Q => ∃ l k xs, x = .ref l ∧ y = .int k ∧ SqT K H l xs ∧ -1000000 ≤ k ∧ k ≤ 1000 ∧ xs.length ≤ 1000 ∧ ((xs = [] ∨ k = 1) → Q (.ref l) H) ∧ (¬ (xs = [] ∨ k = 1) → ∀ p, H p = none → Q (.ref p) (upd H p (.tup (List.replicate k.toNat xs).flatten)))
section
variable {X : Cx}
theorem op_repA : OpR X (binaryOp .Mult) (rRepA X.K) := by
  intro pins s σ H x y v u Q I rx ry h
  obtain ⟨l, k, xs, rfl, rfl, hT, h0, h1, hz, q1, q2⟩ := h
  by_cases hs : xs = [] ∨ k = 1
  · have q := q1 hs
    cases rx
    obtain ⟨t, rfl⟩ := ry
    obtain ⟨its, r, ⟨⟨cls, dd, data, sl⟩, ho, hc, n, hd⟩, _⟩ := I.tuple hT
    simp only at hc hd
    subst hc hd
    have c0 : (decide (k < -(2 ^ 63)) || decide (k ≥ 2 ^ 63)) = false := by
      rw [decide_eq_false (by omega), decide_eq_false (by omega)] <;> rfl
    have c1 : (its.toArray.isEmpty || k == 1) = true := by
      rcases hs with rfl | rfl
      · cases r; rfl
      · simp
    exact wpAny_binaryOp_repeat_ref (T := "tuple") (U := "int") (by decide) ⟨_, ho, rfl⟩ (fun s' => typeIs_int s' k t) noFill_tuple_mul F.fills_int_mul F.slot_int_rmul repeat_tuple F.slot_int_index.lookup
      (call_meets F.slot_int_rmul (typeIs_int s k t) F.entry_int_rmul (F.args_int_rmul_2 _ _) (int_rmul_tuple k t l its.toArray n dd sl)
        ⟨ho, rfl, ⟨_, ho, rfl⟩, call_meets F.slot_tuple_mul ⟨_, ho, rfl⟩ F.entry_tuple_mul (F.args_tuple_mul_2 _ _) (tuple_mul1 l its.toArray n dd sl k t c0 c1) ⟨ho, .ref l, H, I, rfl, q⟩⟩)
  · have q := q2 hs
    have hne : xs ≠ [] := fun e => hs (.inl e)
    have hk1 : k ≠ 1 := fun e => hs (.inr e)
    by_cases h2 : 2 ≤ k
    · exact op_repT pins s σ H _ _ v u Q I rx ry ⟨l, k, xs, rfl, rfl, hT, hne, h2, h1, hz, q⟩
    · have hk : k ≤ 0 := by omega
      cases rx
      obtain ⟨t, rfl⟩ := ry
      obtain ⟨its, r, ⟨⟨cls, dd, data, sl⟩, ho, hc, n, hd⟩, _⟩ := I.tuple hT
      simp only at hc hd
      subst hc hd
      have hi : its.toArray.isEmpty = false := by
        cases r with
        | nil => exact absurd rfl hne
        | cons a b => rfl
      have c0 : (decide (k < -(2 ^ 63)) || decide (k ≥ 2 ^ 63)) = false := by
        rw [decide_eq_false (by omega), decide_eq_false (by omega)] <;> rfl
      have c1 : (its.toArray.isEmpty || k == 1) = false := by
        rw [hi, Bool.false_or]
        exact beq_eq_false_iff_ne.mpr (by omega)
      have c2 : (decide (k ≤ 0) || its.toArray.isEmpty) = true := by
        rw [decide_eq_true hk, Bool.true_or]
      have e0 : (List.replicate k.toNat xs).flatten = [] := by
        rw [show k.toNat = 0 by omega]; rfl
      rw [e0] at q
      refine wpAny_binaryOp_repeat_ref (T := "tuple") (U := "int") (by decide) ⟨_, ho, rfl⟩ (fun s' => typeIs_int s' k t) noFill_tuple_mul F.fills_int_mul F.slot_int_rmul repeat_tuple F.slot_int_index.lookup
        (call_meets F.slot_int_rmul (typeIs_int s k t) F.entry_int_rmul (F.args_int_rmul_2 _ _) (int_rmul_tuple k t l its.toArray n dd sl)
          ⟨ho, rfl, ⟨_, ho, rfl⟩, call_meets F.slot_tuple_mul ⟨_, ho, rfl⟩ F.entry_tuple_mul (F.args_tuple_mul_2 _ _) (tuple_mul0 l its.toArray n dd sl k t c0 c1 c2) ⟨ho, ?_⟩⟩)
      refine ⟨.ref s.heap.objs.size, _, I.laid (t' := s.toks) (o := .tup []) (fun b ob q => Heap.get?_push_of_some _ q) (Nat.le_refl _) ?_, rfl, q _ (I.hok.fresh (Nat.le_refl _))⟩
      exact ⟨Nat.zero_le _, [], .nil, IsTup.new _ _⟩
theorem o_mul : OpR X (binaryOp .Mult) (fun x y H Q => ((rI CMul (fun i j => .int (i * j)) x y H Q ∨ rI CMulW (fun i j => .int (i * j)) x y H Q) ∨ rRepA X.K x y H Q) ∨ rRep x y H Q) := ((op_mul.or op_mulW).or op_repA).or op_rep
theorem p_mul : P2 X.K (fun x y H Q => ((rI CMul (fun i j => .int (i * j)) x y H Q ∨ rI CMulW (fun i j => .int (i * j)) x y H Q) ∨ rRepA X.K x y H Q) ∨ rRep x y H Q) mulD := by
  intro g σ δ H s x y dx dy d Q R qx qy e k
  cases dx <;> cases dy <;> simp only [mulD] at e <;> try (cases e; done)
  · obtain ⟨hc, rfl⟩ := ite_some e
    cases qx; cases qy
    rename_i i j
    refine .inl (.inl ?_)
    have kk := k _ H (Same.refl H) (.int _)
    unfold mulOk at hc
    simp only [Bool.or_eq_true, decide_eq_true_eq] at hc
    rcases hc with (hc | hc) | hc
    · exact .inl ⟨i, j, rfl, rfl, .inl (by omega), kk⟩
    · exact .inl ⟨i, j, rfl, rfl, .inr (by omega), kk⟩
    · exact .inr ⟨i, j, rfl, rfl, hc, kk⟩
  · obtain ⟨⟨h1, h2, h3⟩, rfl⟩ := ite_some e
    obtain ⟨a, vs, rfl, nf, ha, qa⟩ := qx.lst_inv
    cases qy
    rename_i j
    refine .inr ⟨a, j, vs, rfl, rfl, ha, by omega, by omega, ?_, fun p np => k _ _ (same_upd np) (R.mkL np (qa.flat _))⟩
    rw [qa.length]
    refine line6 ?_
    have : j.toNat ≤ 1000 := by omega
    exact Nat.le_trans (Nat.mul_le_mul h1 this) (by decide)
  · obtain ⟨⟨h1, h2, h3⟩, rfl⟩ := ite_some e
    obtain ⟨a, vs, rfl, ha, qa⟩ := qx.tup_inv
    have qx' := qx
    cases qy
    rename_i j
    refine .inl (.inr ⟨a, j, vs, rfl, rfl, ha, h3, h2, by rw [qa.length]; exact h1, fun z => ?_, fun _ p np => k _ _ (same_upd np) (R.mkT np (qa.flat _))⟩)
    refine k _ H (Same.refl H) ?_
    rcases z with rfl | rfl
    · cases qa
      have : (List.replicate j.toNat ([] : List D)).flatten = [] := by simp
      rw [this]
      exact qx'
    · rename_i ys
      have e1 : (List.replicate (1 : Int).toNat ys).flatten = ys := List.append_nil ys
      rw [e1]
      exact qx'
end

/-! ### built-in functions -/
def lenD : PmA := fun ds _ => match ds with
  | [.lst xs] => some (.int (xs.length : Nat))
  | [.tup xs] => some (.int (xs.length : Nat))
  | _ => none
def absD : PmA := fun ds _ => match ds with
  | [.int i] => some (.int (if i < 0 then -i else i))
  | _ => none
def intD : PmA := fun ds _ => match ds with
  | [.int i] => some (.int i)
  | [.bl k] => some (.int (if k then 1 else 0))
  | _ => none
def max2D : PmA := fun ds _ => match ds with
  | [.int i, .int j] => some (.int (if j > i then j else i))
  | _ => none
def min2D : PmA := fun ds _ => match ds with
  | [.int i, .int j] => some (.int (if j < i then j else i))
  | _ => none
/-- ints that data is -/
def intsD : List D → Option (List Int)
  | [] => some []
  | .int i :: r => (intsD r).map (i :: ·)
  | _ => none
theorem intsD_some : ∀ {ds : List D} {ns : List Int}, intsD ds = some ns → ds = ns.map D.int
  | [], ns, e => by cases e; rfl
  | .int i :: r, ns, e => by
    unfold intsD at e
    cases z : intsD r with
    | none => rw [z] at e; cases e
    | some m =>
      rw [z] at e
      cases e
      rw [intsD_some z]
      rfl
  | .non :: r, ns, e => by cases e
  | .bl _ :: r, ns, e => by cases e
  | .str _ :: r, ns, e => by cases e
  | .lst _ :: r, ns, e => by cases e
  | .tup _ :: r, ns, e => by cases e
  | .hnd :: r, ns, e => by cases e
theorem intsD_map : ∀ ns : List Int, intsD (ns.map D.int) = some ns
  | [] => rfl
  | n :: ns => by
    show (intsD (ns.map D.int)).map (n :: ·) = _
    rw [intsD_map ns]
    rfl
def sumD : PmA := fun ds _ => match ds with
  | [.lst xs] => (intsD xs).map fun ns => .int ns.sum
  | [.tup xs] => (intsD xs).map fun ns => .int ns.sum
  | _ => none
/-- ints in order -/
def sortI (ns : List Int) : List Int := ns.mergeSort (fun a b => decide (a ≤ b))
theorem sortI_sorted (ns : List Int) : (sortI ns).Pairwise (· ≤ ·) := by
  have := List.pairwise_mergeSort (le := fun a b : Int => decide (a ≤ b)) (fun a b c h1 h2 => by simp only [decide_eq_true_eq] at *; omega) (fun a b => by simp only [Bool.or_eq_true, decide_eq_true_eq]; omega) ns
  exact this.imp fun h => of_decide_eq_true h
theorem sortI_perm (ns : List Int) : (sortI ns).Perm ns := List.mergeSort_perm _ _
theorem sortI_uniq {ns l : List Int} (p : l.Perm ns) (s : l.Pairwise (· ≤ ·)) : l = sortI ns :=
  List.Perm.eq_of_pairwise (le := (· ≤ ·)) (fun a b _ _ h1 h2 => Int.le_antisymm h1 h2) s (sortI_sorted ns) (p.trans (sortI_perm ns).symm)
def sortedD : PmA := fun ds _ => match ds with
  | [.lst xs] => (intsD xs).map fun ns => .lst ((sortI ns).map .int)
  | _ => none
def tupleD : PmA := fun ds _ => match ds with
  | [.lst xs] => some (.tup xs)
  | [.tup xs] => some (.tup xs)
  | _ => none
def listD : PmA := fun ds _ => match ds with
  | [.lst xs] => some (.lst xs)
  | [.tup xs] => some (.lst xs)
  | _ => none
section
variable {K : PySem.W.Frag} {h : Addr} {F : Addr → Prop} {H : Hp}
theorem DqA.one {x : List V} {d : D} (q : DqA K h F H x [d]) : ∃ v, x = [v] ∧ Dq K h F H v d := by
  cases q with
  | cons a b => cases b; exact ⟨_, rfl, a⟩
theorem DqA.two {x : List V} {d e : D} (q : DqA K h F H x [d, e]) : ∃ v u, x = [v, u] ∧ Dq K h F H v d ∧ Dq K h F H u e := by
  cases q with
  | cons a b =>
    obtain ⟨u, rfl, c⟩ := b.one
    exact ⟨_, u, rfl, a, c⟩
end
section
variable {X : Cx}
theorem call_sumA (hc : X.calm = true) : CallR X (.builtin "sum") (fun vs H Q => ∃ (a : Addr) (ns : List Int), vs = [V.ref a] ∧ (SqL X.K H a (ns.map V.int) ∨ SqT X.K H a (ns.map V.int)) ∧ Q (.int ns.sum) H) := by
  intro pins s σ H vs us Q I r h
  obtain ⟨a, ns, rfl, hs, q⟩ := h
  rcases hs with hs | hs
  · exact cr_sum hc pins s σ H _ us Q I r ⟨a, ns, rfl, hs, q⟩
  · obtain ⟨its, rv, p1, _⟩ := I.tuple hs
    rw [Vals.ref1 r]
    have hi := rv.ints
    obtain ⟨xs, e⟩ := hi.allInts.items
    have hn : numsOf (intItems xs).toList = ns := by rw [← e]; exact hi.numsOf
    rw [nums_intItems] at hn
    have ht : s.heap.IsTuple a its.toArray := p1
    rw [e] at ht
    refine PySem.W.ktm_sumG (I.ok.hd hc) ht fun h' tk t' hk => ?_
    refine ⟨.int _, H, I.kept hk, ⟨_, rfl⟩, ?_⟩
    rw [preSum_eq, List.take_of_length_le (by simp), hn]
    exact q
theorem p_len : PA' X.K (fun xs H Q => ∃ p ys, xs = [.ref p] ∧ (SqL X.K H p ys ∨ SqT X.K H p ys) ∧ Q (.int ys.length) H) lenD := by
  intro g σ δ H s x dx d Q R qx e k
  unfold lenD at e
  split at e <;> try (cases e; done)
  · obtain ⟨v, rfl, q⟩ := qx.one
    cases e
    obtain ⟨a, vs, rfl, nf, ha, qa⟩ := q.lst_inv
    exact ⟨a, vs, rfl, .inl (.of ha), by rw [qa.length]; exact k _ H (Same.refl H) (.int _)⟩
  · obtain ⟨v, rfl, q⟩ := qx.one
    cases e
    obtain ⟨a, vs, rfl, ha, qa⟩ := q.tup_inv
    exact ⟨a, vs, rfl, .inr ha, by rw [qa.length]; exact k _ H (Same.refl H) (.int _)⟩
theorem p_abs : PA' X.K (fun xs H Q => ∃ i, xs = [.int i] ∧ Q (.int (if i < 0 then -i else i)) H) absD := by
  intro g σ δ H s x dx d Q R qx e k
  unfold absD at e
  split at e <;> try (cases e; done)
  obtain ⟨v, rfl, q⟩ := qx.one
  cases e
  cases q
  exact ⟨_, rfl, k _ H (Same.refl H) (.int _)⟩
theorem p_intc : PA' X.K (fun xs H Q => (∃ i, xs = [.int i] ∧ Q (.int i) H) ∨ ∃ k, xs = [.bl k] ∧ Q (.int (if k then 1 else 0)) H) intD := by
  intro g σ δ H s x dx d Q R qx e k
  unfold intD at e
  split at e <;> try (cases e; done)
  · obtain ⟨v, rfl, q⟩ := qx.one
    cases e
    cases q
    exact .inl ⟨_, rfl, k _ H (Same.refl H) (.int _)⟩
  · obtain ⟨v, rfl, q⟩ := qx.one
    cases e
    cases q
    exact .inr ⟨_, rfl, k _ H (Same.refl H) (.int _)⟩
theorem p_max2 : PA' X.K (fun xs H Q => ∃ i j, xs = [.int i, .int j] ∧ Q (.int (if j > i then j else i)) H) max2D := by
  intro g σ δ H s x dx d Q R qx e k
  unfold max2D at e
  split at e <;> try (cases e; done)
  obtain ⟨v, u, rfl, q, q'⟩ := qx.two
  cases e
  cases q
  cases q'
  exact ⟨_, _, rfl, k _ H (Same.refl H) (.int _)⟩
theorem p_min2 : PA' X.K (fun xs H Q => ∃ i j, xs = [.int i, .int j] ∧ Q (.int (if j < i then j else i)) H) min2D := by
  intro g σ δ H s x dx d Q R qx e k
  unfold min2D at e
  split at e <;> try (cases e; done)
  obtain ⟨v, u, rfl, q, q'⟩ := qx.two
  cases e
  cases q
  cases q'
  exact ⟨_, _, rfl, k _ H (Same.refl H) (.int _)⟩
theorem p_sum : PA' X.K (fun vs H Q => ∃ (a : Addr) (ns : List Int), vs = [V.ref a] ∧ (SqL X.K H a (ns.map V.int) ∨ SqT X.K H a (ns.map V.int)) ∧ Q (.int ns.sum) H) sumD := by
  intro g σ δ H s x dx d Q R qx e k
  unfold sumD at e
  split at e <;> try (cases e; done)
  · obtain ⟨v, rfl, q⟩ := qx.one
    rename_i xs
    cases z : intsD xs with
    | none => rw [z] at e; cases e
    | some ns =>
      rw [z] at e
      cases e
      rw [intsD_some z] at q
      obtain ⟨a, vs, rfl, nf, ha, qa⟩ := q.lst_inv
      rw [qa.ints] at ha
      exact ⟨a, ns, rfl, .inl (.of ha), k _ H (Same.refl H) (.int _)⟩
  · obtain ⟨v, rfl, q⟩ := qx.one
    rename_i xs
    cases z : intsD xs with
    | none => rw [z] at e; cases e
    | some ns =>
      rw [z] at e
      cases e
      rw [intsD_some z] at q
      obtain ⟨a, vs, rfl, ha, qa⟩ := q.tup_inv
      rw [qa.ints] at ha
      exact ⟨a, ns, rfl, .inr ha, k _ H (Same.refl H) (.int _)⟩
theorem p_sorted : PA' X.K (rSortedI X.K) sortedD := by
  intro g σ δ H s x dx d Q R qx e k
  unfold sortedD at e
  split at e <;> try (cases e; done)
  obtain ⟨v, rfl, q⟩ := qx.one
  rename_i xs
  cases z : intsD xs with
  | none => rw [z] at e; cases e
  | some ns =>
    rw [z] at e
    cases e
    rw [intsD_some z] at q
    obtain ⟨a, vs, rfl, nf, ha, qa⟩ := q.lst_inv
    rw [qa.ints] at ha
    refine ⟨a, ns, rfl, .of ha, fun ns' p hp hs np => ?_⟩
    rw [sortI_uniq hp hs]
    exact k _ _ (same_upd np) (R.mkL np (ints_dqA _))
theorem p_tuple : PA' X.K (fun xs H Q => ∃ p ys, xs = [.ref p] ∧ ((SqL X.K H p ys ∧ ∀ l, H l = none → Q (.ref l) (upd H l (.tup ys))) ∨ (SqT X.K H p ys ∧ Q (.ref p) H))) tupleD := by
  intro g σ δ H s x dx d Q R qx e k
  unfold tupleD at e
  split at e <;> try (cases e; done)
  · obtain ⟨v, rfl, q⟩ := qx.one
    cases e
    obtain ⟨a, vs, rfl, nf, ha, qa⟩ := q.lst_inv
    exact ⟨a, vs, rfl, .inl ⟨.of ha, fun p np => k _ _ (same_upd np) (R.mkT np qa)⟩⟩
  · obtain ⟨v, rfl, q⟩ := qx.one
    cases e
    obtain ⟨a, vs, rfl, ha, qa⟩ := q.tup_inv
    exact ⟨a, vs, rfl, .inr ⟨ha, k _ H (Same.refl H) q⟩⟩
theorem p_list : PA' X.K (fun xs H Q => ∃ p ys, xs = [.ref p] ∧ (SqL X.K H p ys ∨ SqT X.K H p ys) ∧ ∀ l, H l = none → Q (.ref l) (upd H l (.lst ys))) listD := by
  intro g σ δ H s x dx d Q R qx e k
  unfold listD at e
  split at e <;> try (cases e; done)
  · obtain ⟨v, rfl, q⟩ := qx.one
    cases e
    obtain ⟨a, vs, rfl, nf, ha, qa⟩ := q.lst_inv
    exact ⟨a, vs, rfl, .inl (.of ha), fun p np => k _ _ (same_upd np) (R.mkL np qa)⟩
  · obtain ⟨v, rfl, q⟩ := qx.one
    cases e
    obtain ⟨a, vs, rfl, ha, qa⟩ := q.tup_inv
    exact ⟨a, vs, rfl, .inr ha, fun p np => k _ _ (same_upd np) (R.mkL np qa)⟩
end

/-! ### slices -/
def cutD {α : Type} (xs : List α) (lo hi : Option Int) : List α := (xs.drop (HT.sIx xs.length 0 lo)).take (HT.sIx xs.length xs.length hi - HT.sIx xs.length 0 lo)
abbrev EO := Dt → HS → Re (Option Int)
def relO' : (Addr → Prop) → Hp → Option Int → Option Int → Prop := fun _ _ v d => v = d
def TDO (K : PySem.W.Frag) (W : WX) (f : EO) : TO := fun σ H Q => ∃ g δ s, RepS K g H σ δ s ∧ RW K W g σ δ H relO' Q (f δ s)
structure DO (X : Cx) (W : WX) (e : Option Expr) (f : EO) : Prop where
  po : PO X e (TDO X.K W f)
def intOf : D → Option (Option Int)
  | .int i => some (some i)
  | _ => none
def sliD (d : D) (lo hi : Option Int) : Option D := match d with
  | .lst xs => some (.lst (cutD xs lo hi))
  | .tup xs => some (.tup (cutD xs lo hi))
  | _ => none
def fSli (f : ED) (lo hi : EO) : ED := fun δ s => (f δ s).bind fun x s1 => (lo δ s1).bind fun l s2 => (hi δ s2).bind fun u s3 => Re.of (sliD x l u) s3
section
variable {X : Cx} {W : WX} {e : Expr} {f : ED} {lo hi : Option Expr} {fl fh : EO} {pos p2 : Pos}
theorem do_none : DO X W none (fun _ s => .ok none s) := ⟨⟨fun pins s σ H Q I h => by
  obtain ⟨g, δ, s', R, q⟩ := h
  exact po_none.run pins s σ H Q I (q none H (Ex.refl H) R.hand rfl)⟩⟩
theorem do_some (h : DE X W e f) : DO X W (some e) (fun δ s => (f δ s).bind fun d s1 => Re.of (intOf d) s1) := ⟨⟨fun pins s σ H Q I q => by
  refine (po_some h.pe).run pins s σ H Q I ?_
  obtain ⟨g, δ, s', R, q⟩ := q
  refine ⟨g, δ, s', R, (RW.bind (rel := relD X.K g) q).mono ?_⟩
  rintro x H1 ⟨d, s1, x1, h1, qd, q⟩
  cases d with
  | int i => cases qd; exact ⟨i, rfl, q _ H1 (Ex.refl H1) h1 rfl⟩
  | _ => exact q.elim⟩⟩
theorem DqA.cut {K : PySem.W.Frag} {h : Addr} {F : Addr → Prop} {H : Hp} {vs : List V} {ds : List D} (q : DqA K h F H vs ds) (lo hi : Option Int) : DqA K h F H (cutV vs lo hi) (cutD ds lo hi) := by
  unfold cutV cutD
  rw [q.length]
  exact (q.drop _).take _
theorem cutD_all {α : Type} {xs : List α} {lo hi : Option Int} (h : HT.sIx xs.length 0 lo = 0 ∧ HT.sIx xs.length xs.length hi = xs.length) : cutD xs lo hi = xs := by
  unfold cutD
  rw [h.1, h.2]
  simp
theorem de_slice (he : DE X W e f) (hl : DO X W lo fl) (hu : DO X W hi fh) : DE X W (.Subscript e (.Slice lo hi none p2) pos) (fSli f fl fh) := by
  refine ⟨pe_weak (pe_slice (sl_list.or sl_tupA) he.pe hl.po hu.po) fun σ H Q q => ?_⟩
  obtain ⟨g, δ, s, R, q⟩ := q
  refine ⟨g, δ, s, R, (RW.bind (rel := relD X.K g) q).mono ?_⟩
  rintro x H1 ⟨dx, s1, x1, h1, qx, q⟩
  have R1 := R.ex x1 h1
  refine ⟨g, δ, s1, R1, (RW.bind (rel := relO') q).mono ?_⟩
  rintro l H2 ⟨dl, s2, x2, h2, rfl, q⟩
  have R2' := R1.ex x2 h2
  refine ⟨g, δ, s2, R2', (RW.bind (rel := relO') q).mono ?_⟩
  rintro u H3 ⟨du, s3, x3, h3, rfl, q⟩
  have R3 := R2'.ex x3 h3
  have qx3 := R2'.up x3 (R1.up x2 qx)
  cases dx with
  | lst xs =>
    obtain ⟨a, vs, rfl, nf, ha, qa⟩ := qx3.lst_inv
    exact .inl ⟨a, vs, rfl, .of ha, fun p np => q _ _ (Ex.of (same_upd np)) (h3.same (same_upd np)) (R3.mkL np (qa.cut l u))⟩
  | tup xs =>
    obtain ⟨a, vs, rfl, ha, qa⟩ := qx3.tup_inv
    refine .inr ⟨a, vs, rfl, ha, fun w => ?_, fun _ p np => q _ _ (Ex.of (same_upd np)) (h3.same (same_upd np)) (R3.mkT np (qa.cut l u))⟩
    refine q _ _ (Ex.refl _) h3 ?_
    rw [qa.length] at w
    rw [cutD_all w]
    exact qx3
  | _ => exact q.elim
/-- xs[::-1] -/
def revD : Pm1 := fun d _ => match d with
  | .lst xs => some (.lst xs.reverse)
  | _ => none
theorem de_rev {k : Nat} {p1 p3 : Pos} (he : DE X W e f) : DE X W (.Subscript e (.Slice none none (some (.UnaryOp .USub (.Constant (.int 1) k p1) p2)) p3) pos) (F1 revD f) := by
  refine ⟨pe_weak (pe_revL he.pe) fun σ H Q q => ?_⟩
  refine op1 (r := fun x H1 Q => ∃ a xs, x = .ref a ∧ SqL X.K H1 a xs ∧ ∀ p, H1 p = none → Q (.ref p) (upd H1 p (.lst xs.reverse))) ?_ q
  intro g σ δ H s x dx d Q R qx e k
  cases dx <;> simp only [revD] at e <;> try (cases e; done)
  cases e
  obtain ⟨a, vs, rfl, nf, ha, qa⟩ := qx.lst_inv
  exact ⟨a, vs, rfl, .of ha, fun p np => k _ _ (same_upd np) (R.mkL np qa.reverse)⟩
end
end DL

-- part DLe
set_option maxHeartbeats 1000000
namespace DL
open PySem PySem.Spec PyProof.Rows L2

/-! ### repr -/
mutual
/-- data as the library tells it -/
def toP : D → PyData
  | .non => .none
  | .bl b => .bool b
  | .int i => .int i
  | .str x => .str x
  | .lst xs => .list (toPs xs)
  | .tup xs => .tuple (toPs xs)
  | .hnd => .none
def toPs : List D → List PyData
  | [] => []
  | x :: xs => toP x :: toPs xs
end
mutual
/-- the hand is nowhere in it, its ints may be shown -/
def plD : D → Bool
  | .int i => decide (i.natAbs.log2 < 1900)
  | .lst xs => plDs xs
  | .tup xs => plDs xs
  | .hnd => false
  | _ => true
def plDs : List D → Bool
  | [] => true
  | x :: xs => plD x && plDs xs
end
mutual
/-- no less than the signs that repr gives -/
def wtD : D → Nat
  | .int i => i.natAbs.log2 + 2
  | .lst xs => wtDs xs + 2
  | .tup xs => wtDs xs + 3
  | .str x => (reprText x).length
  | _ => 5
def wtDs : List D → Nat
  | [] => 0
  | x :: xs => wtD x + 2 + wtDs xs
end
mutual
def dpD : D → Nat
  | .lst xs => dpDs xs + 1
  | .tup xs => dpDs xs + 1
  | _ => 0
def dpDs : List D → Nat
  | [] => 0
  | x :: xs => max (dpD x) (dpDs xs)
end
mutual
theorem pl_show : ∀ d : D, plD d = true → (toP d).showable = true
  | .non, _ => rfl
  | .bl _, _ => rfl
  | .str _, _ => rfl
  | .hnd, _ => rfl
  | .int i, h => by
    have : i.natAbs.log2 < 1900 := by simpa [plD] using h
    simp only [toP, PyData.showable, decide_eq_true_eq]
    omega
  | .lst xs, h => by simp only [toP, PyData.showable]; exact pls_show xs (by simpa [plD] using h)
  | .tup xs, h => by simp only [toP, PyData.showable]; exact pls_show xs (by simpa [plD] using h)
theorem pls_show : ∀ ds : List D, plDs ds = true → PyData.showableAll (toPs ds) = true
  | [], _ => rfl
  | d :: ds, h => by
    simp only [plDs, Bool.and_eq_true] at h
    simp only [toPs, PyData.showableAll, Bool.and_eq_true]
    exact ⟨pl_show d h.1, pls_show ds h.2⟩
end
mutual
theorem no_dict : ∀ d : D, (toP d).hasDict = false
  | .non => rfl
  | .bl _ => rfl
  | .str _ => rfl
  | .hnd => rfl
  | .int i => rfl
  | .lst xs => by simp only [toP, PyData.hasDict]; exact no_dicts xs
  | .tup xs => by simp only [toP, PyData.hasDict]; exact no_dicts xs
theorem no_dicts : ∀ ds : List D, PyData.hasDictAll (toPs ds) = false
  | [] => rfl
  | d :: ds => by
    simp only [toPs, PyData.hasDictAll, Bool.or_eq_false_iff]
    exact ⟨no_dict d, no_dicts ds⟩
end
mutual
theorem dp_eq : ∀ d : D, (toP d).depth = dpD d
  | .non => rfl
  | .bl _ => rfl
  | .str _ => rfl
  | .hnd => rfl
  | .int i => rfl
  | .lst xs => by simp only [toP, PyData.depth, dpD, dps_eq xs]
  | .tup xs => by simp only [toP, PyData.depth, dpD, dps_eq xs]
theorem dps_eq : ∀ ds : List D, PyData.depthAll (toPs ds) = dpDs ds
  | [] => rfl
  | d :: ds => by simp only [toPs, PyData.depthAll, dpDs, dp_eq d, dps_eq ds]
end
theorem textFrom_le : ∀ (ts : List Str) (k : Nat) (acc : Str), (textFrom k acc ts).length ≤ acc.length + piled ts
  | [], _, acc => Nat.le_refl _
  | t :: r, k, acc => by
    refine Nat.le_trans (textFrom_le r (k + 1) _) ?_
    rw [piled_cons]
    have e : (acc ++ (if k > 0 then ", " else "" : String) ++ t).length ≤ acc.length + 2 + t.length := by
      rw [strLen_append, strLen_append]
      split
      · exact Nat.le_refl _
      · show acc.length + 0 + t.length ≤ _
        omega
    omega
theorem listText_le (ts : List Str) : (listText ts).length ≤ piled ts + 2 := by
  unfold listText
  rw [strLen_append]
  have h := textFrom_le ts 0 "["
  have e1 : ((("[" : String) : Str)).length = 1 := rfl
  have e2 : ((("]" : String) : Str)).length = 1 := rfl
  omega
theorem tupleText_le (ts : List Str) : (tupleText ts).length ≤ piled ts + 3 := by
  have e3 : (((if ts.length == 1 then ",)" else ")" : String) : Str)).length ≤ 2 := by split <;> decide +kernel
  have e1 : ((("(" : String) : Str)).length = 1 := rfl
  unfold tupleText
  rw [strLen_append, strLen_append, e1]
  by_cases h : ts = []
  · subst h
    show 1 + 0 + _ ≤ _
    omega
  · have := join_length_add ts h
    omega
mutual
theorem wt_le : ∀ d : D, (toP d).shown.length ≤ wtD d
  | .non => by decide +kernel
  | .bl true => by decide +kernel
  | .bl false => by decide +kernel
  | .str x => Nat.le_refl _
  | .hnd => by decide +kernel
  | .int i => by
    simp only [toP, PyData.shown, wtD]
    have := int_text_length_le (a := i) (k := i.natAbs.log2 + 1) (by omega) (by omega)
    rw [PySem.ofString_length]
    omega
  | .lst xs => by
    simp only [toP, PyData.shown, wtD]
    exact Nat.le_trans (listText_le _) (Nat.add_le_add_right (wts_le xs) 2)
  | .tup xs => by
    simp only [toP, PyData.shown, wtD]
    exact Nat.le_trans (tupleText_le _) (Nat.add_le_add_right (wts_le xs) 3)
theorem wts_le : ∀ ds : List D, piled (PyData.shownAll (toPs ds)) ≤ wtDs ds
  | [] => Nat.le_refl _
  | d :: ds => by
    simp only [toPs, PyData.shownAll, piled_cons, wtDs]
    have h1 := wt_le d
    have h2 := wts_le ds
    omega
end
mutual
theorem Dq.dp {K : PySem.W.Frag} {h : Addr} {F : Addr → Prop} {H : Hp} : ∀ {v : V} {d : D}, Dq K h F H v d → plD d = true → Dp K H v (toP d)
  | _, _, .non, _ => .non
  | _, _, .bl b, _ => .bl b
  | _, _, .int i, _ => .int i
  | _, _, .str x, _ => .str x
  | _, _, .hnd, z => by cases z
  | _, _, .lst nf r q, z => by
    simp only [toP]
    exact .lst (.of r) (DqA.dp q (by simpa [plD] using z))
  | _, _, .tup (.inl r) q, z => by
    simp only [toP]
    exact .tup (.inl (.inl r.2)) (DqA.dp q (by simpa [plD] using z))
  | _, _, .tup (.inr r) q, z => by
    simp only [toP]
    refine .tup ?_ (DqA.dp q (by simpa [plD] using z))
    rcases r with r | r
    · rcases r with r | ⟨o, r⟩
      · cases r
      · cases r
    · exact .inr r
theorem DqA.dp {K : PySem.W.Frag} {h : Addr} {F : Addr → Prop} {H : Hp} : ∀ {v : List V} {d : List D}, DqA K h F H v d → plDs d = true → DpAll K H v (toPs d)
  | _, _, .nil, _ => by simp only [toPs]; exact .nil
  | _, _, .cons a b, z => by
    simp only [plDs, Bool.and_eq_true] at z
    simp only [toPs]
    exact .cons (Dq.dp a z.1) (DqA.dp b z.2)
end
def rRepr (K : PySem.W.Frag) : List V → Hp → VK → Prop := fun xs H Q => ∃ v d, xs = [v] ∧ Dp K H v d ∧ d.showable = true ∧ d.hasDict = false ∧ d.depth ≤ 60 ∧ d.shown.length ≤ sizeLine ∧ Q (.str d.shown) H
theorem call_repr {X : Cx} {k : Nat} (hg : X.A.guards = some []) (hr : Room k X.A) : CallR X (.builtin "repr") (rRepr X.K) := by
  intro pins s σ H xs us Q I r h
  obtain ⟨v, d, rfl, qd, hs, hd, hp, hz, q⟩ := h
  obtain ⟨u, rfl, ru⟩ := vals1 r
  obtain ⟨as, rd⟩ := Dp.reads I d v u qd ru
  have hu := hr.units
  have fin : ∀ h' u' tk, (∀ b o, s.heap.get? b = some o → h'.get? b = some o) → EP X pins σ Q (.str d.shown u') { s with heap := h', toks := tk } := fun h' u' tk kp => ⟨.str d.shown, H, I.kept kp, ⟨_, rfl⟩, q⟩
  cases qd with
  | non => cases ru; exact PySem.P.repr_of_none (fin s.heap _ _ fun _ _ e => e)
  | bl b => cases ru; exact PySem.P.repr_of_bool (by simpa only [PyData.shown] using fin s.heap _ _ fun _ _ e => e)
  | int i =>
    obtain ⟨t, rfl⟩ := ru
    exact PySem.P.repr_of_int (by simpa [PyData.showable] using hs) (fin s.heap _ _ fun _ _ e => e)
  | str x =>
    obtain ⟨t, rfl⟩ := ru
    exact PySem.P.repr_of_str (fin s.heap _ _ fun _ _ e => e) (by simpa only [PyData.shown] using hz)
  | lst hl ha =>
    cases ru
    exact repr_of_reads' rd hs (fun z => by rw [hd] at z; cases z) hg (by omega) (fun _ _ e => e) fin hz
  | tup hl ha =>
    cases ru
    exact repr_of_reads' rd hs (fun z => by rw [hd] at z; cases z) hg (by omega) (fun _ _ e => e) fin hz
def okR (d : D) : Bool := plD d && decide (dpD d ≤ 60) && decide (wtD d ≤ 16000000)
def reprD : PmA := fun ds _ => match ds with
  | [d] => if okR d = true then some (.str (toP d).shown) else none
  | _ => none
theorem p_repr {K : PySem.W.Frag} : PA' K (rRepr K) reprD := by
  intro g σ δ H s x dx d Q R qx e k
  unfold reprD at e
  split at e <;> try (cases e; done)
  obtain ⟨v, rfl, q⟩ := qx.one
  rename_i d0
  obtain ⟨hc, rfl⟩ := ite_some e
  unfold okR at hc
  simp only [Bool.and_eq_true, decide_eq_true_eq] at hc
  obtain ⟨⟨h1, h2⟩, h3⟩ := hc
  exact ⟨v, _, rfl, q.dp h1, pl_show _ h1, no_dict _, by rw [dp_eq]; exact h2, by rw [sizeLine_eq]; have := wt_le d0; omega, k _ H (Same.refl H) (.str _)⟩
end DL

-- part DLf
set_option maxHeartbeats 1000000
namespace DL
open PySem PySem.Spec PyProof.Rows L2

/-! ### defs: what a def is worth, where no repr is under way -/
structure FnG (P : Program) (w : World) (K : PySem.W.Frag) (mg : Str → Option Value) (base : Heap) (k : Nat) (f : Addr) (fd : FuncData) (ps : List Str) (sp : Sp) : Prop where
  len : ∀ vs H Q E, sp vs H Q E → vs.length = ps.length
  run : ∀ (A : Around) (outer : List Env) (s : Shared) (H : Hp) (args : Args) (us : List Value) (vs : List V) (Q : VK) (E : XK), A.guards = some [] → Room k A → Env0 P w K mg base A outer s H → BindsTo s fd args (ps.zip us) → Vals vs us → sp vs H Q E →
    codeAny (model P w) A (.call (.ref f) args) (CR (L2.CX P w) outer P w H s Q E) s
theorem FnG.mono {P : Program} {w : World} {K : PySem.W.Frag} {mg : Str → Option Value} {base : Heap} {j k : Nat} {f : Addr} {fd : FuncData} {ps : List Str} {sp : Sp} (F : FnG P w K mg base j f fd ps sp) (h : j ≤ k) : FnG P w K mg base k f fd ps sp :=
  ⟨F.len, fun A outer s H args us vs Q E hg hr => F.run A outer s H args us vs Q E hg (hr.mono h)⟩
theorem FnG.of {P : Program} {w : World} {K : PySem.W.Frag} {mg : Str → Option Value} {base : Heap} {k : Nat} {f : Addr} {fd : FuncData} {ps : List Str} {sp : Sp} (F : FnOk P w K mg base (L2.CX P w) k f fd ps sp) : FnG P w K mg base k f fd ps sp :=
  ⟨F.len, fun A outer s H args us vs Q E _ => F.run A outer s H args us vs Q E⟩

section
variable {P : Program} {w : World} {K : PySem.W.Frag} {mg : Str → Option Value} {base : Heap}
/-- a def by its body; in the body, too, no repr is under way -/
theorem fnG_ok {x qual : Str} {st : Stmt} {f : Addr} {fd : FuncData} {N ps : List Str} {k : Nat} {sp : Sp} {dV : Value}
    (hF : ∃ (oc : Value) (od : Option Addr) (kV doc pm : Value) (an : Option Addr) (cdv ct : Value) (osl : Array (Option Value)), fd = PySem.W.fnOf x qual (defArgs st) (defBody st) (defScope st) dV kV doc pm an cdv ct ∧ K.lookup f = some ⟨oc, od, .func fd, osl⟩ ∧ PySem.W.codeIn K cdv qual = true)
    (S : FnScope N ps (defScope st)) (len : ∀ vs H Q E, sp vs H Q E → vs.length = ps.length)
    (hbody : ∀ (cdv : Value) (A : Around) (outer : List Env) (s : Shared) (H : Hp) (vs : List V) (Q : VK) (E : XK), (A.deeper (envOfC qual (defScope st) s.heap.objs.size f cdv)).guards = some [] → Room k (A.deeper (envOfC qual (defScope st) s.heap.objs.size f cdv)) → sp vs H Q E →
      ∃ t, PSs (cxOf (L2.CX P w) P w K mg base N qual (defScope st) f cdv A outer s H E) (defBody st) t ∧ t { nx := fun _ H' => Q .non H', rt := Q } (start N vs) H) : FnG P w K mg base (k + 1) f fd ps sp := by
  obtain ⟨oc, od, kV, doc, pm, an, cdv, ct, osl, rfl, lk, hcd⟩ := hF
  refine ⟨len, ?_⟩
  intro A outer s H args us vs Q E hg hr e0 hb r hsp
  have stays := fun b o (e : base.get? b = some o) => (e0.bs b o e).1
  have kIn : K.In s.heap := e0.mod.kin.keeps stays
  have noLim : s.heap.NoLimit := e0.mod.nolimit.keeps stays
  refine codeAny_call_function hr.depth (kIn _ _ lk) rfl S.co S.gen rfl (PySem.W.codeRec_of kIn hcd) (hb _ _ _ _ ?_)
  refine wpAny_newFunctionEnv_cells S.kind (fun y hy => ?_) fun env he s1 x => ?_
  · obtain ⟨n, v⟩ := y
    exact (S.par n (List.of_mem_zip hy).1).imp id fun q => ⟨q, PySem.W.cellsFrom_some _ _ _ (.inl q)⟩
  · subst he
    refine ⟨noLim.keeps x.toInCall.keep, codeAny_func ?_⟩
    obtain ⟨t, ht, hq⟩ := hbody cdv A outer s H vs Q E hg (hr.deeper _) hsp
    have I0 : Inv (cxOf (L2.CX P w) P w K mg base N qual (defScope st) f cdv A outer s H E) [] (start N vs) H s1 := inv_start S hr.hd e0 (len _ _ _ _ hsp) r x
    refine wpAny_mono (ht.run [] s1 (start N vs) H _ I0 hq) (fun fl s' hs => ?_) fun _ _ hs => hs
    cases fl with
    | brk => exact hs.choose_spec.choose_spec.2.elim
    | cont => exact hs.choose_spec.choose_spec.2.elim
    | next =>
      obtain ⟨σ', H', J, q⟩ := hs
      exact ⟨V.non, H', J.os, J.bare, J.base, J.hok, rfl, q⟩
    | ret u =>
      obtain ⟨v, σ', H', J, rv, q⟩ := hs
      exact ⟨v, H', J.os, J.bare, J.base, J.hok, rv, q⟩
end

/-- what a def makes of data -/
abbrev FD := List D → HS → Re D
def RC (K : PySem.W.Frag) (E : XK) (g : Gx) (H : Hp) (Q : VK) : Re D → Prop
  | .ok d s' => ∀ v H', Ex g.h H H' → HandAt g H' s' → Dq K g.h g.F0 H' v d → Q v H'
  | .err C fs s' => ∀ dx H', Ex g.h H H' → HandAt g H' s' → XdAt K g.h g.F0 H' dx fs → E (.ref C) (some dx) H'
  | .stk => False
def spD (K : PySem.W.Frag) (n : Nat) (sem : FD) : Sp := fun vs H Q E => ∃ g ds s, HandAt g H s ∧ g.F0 g.h ∧ (∀ a, g.F0 a → H a ≠ none) ∧ ¬ g.F0 g.c ∧ g.H0 = H ∧ (∀ a, ¬ g.Ft a) ∧ DqA K g.h g.F0 H vs ds ∧ ds.length = n ∧ RC K E g H Q (sem ds s)
theorem spD_len {K : PySem.W.Frag} {n : Nat} {sem : FD} {vs : List V} {H : Hp} {Q : VK} {E : XK} (h : spD K n sem vs H Q E) : vs.length = n := by
  obtain ⟨g, ds, s, _, _, _, _, _, _, q, e, _⟩ := h
  rw [q.length, e]
section
variable {X : Cx} {W : WX} {k : Nat} {f : Addr} {fd : FuncData} {ps : List Str} {n : Nat} {sem : FD} {dvs : List V} {dds : List D} {ds : List Value} {x : Str} {p pos : Pos} {e : Expr} {es : List Expr} {fs : EA}
theorem run_fnG {sp : Sp} {E : XK} {pins : List (Addr × Obj)} {σ : L2.St} {H : Hp} {s : Shared} {Q : VK} {us : List Value} {vs : List V} (F : FnG X.prog X.w X.K X.mg X.base k f fd ps sp) (hg : X.A.guards = some []) (hr : Room k X.A) (hb : Binds X.K fd ps ds) (hd : Vals dvs ds)
    (hx : PassesAt (L2.CX X.prog X.w) X σ E) (I : Inv X pins σ H s) (r : Vals vs us) (h : sp (vs ++ dvs) H Q E) : wpAny (model X.prog X.w) X.A (call (.ref f) us) (EP X pins σ Q) X.xe s := by
  have r2 : Vals (vs ++ dvs) (us ++ ds) := r.append hd
  have hl : (us ++ ds).length = ps.length := r2.length.symm.trans (F.len _ _ _ _ h)
  refine wpAny_call (codeAny_mono (F.run X.A X.stack s H ⟨us, []⟩ _ _ Q E hg hr I.env0 (hb s us I.kIn hl) r2 h) ?_)
  rintro (e | fl) s' hq
  · exact hx pins H s e s' I hq
  · cases fl with
    | ret u => exact I.after hq
    | _ => exact hq.elim
def F2c (sem : FD) (dds : List D) (fs : EA) : ED := fun δ s => (fs δ s).bind fun ds s1 => sem (ds ++ dds) s1
theorem call_td {K : PySem.W.Frag} {σ : L2.St} {H : Hp} {Q : VK} (hdd : ∀ (h : Addr) (F : Addr → Prop) (H : Hp), DqA K h F H dvs dds) (hn : ∀ ds s, (sem ds s) ≠ .stk → ds.length = n) (q : TD K W (F2c sem dds fs) σ H Q) :
    TDA K W fs σ H fun vs H1 => spD K n sem (vs ++ dvs) H1 Q (WE W σ) := by
  obtain ⟨g, δ, s, R, q⟩ := q
  refine ⟨g, δ, s, R, (RW.bind (rel := relA K g) q).mono ?_⟩
  rintro vs H1 ⟨ds, s1, x1, h1, qs, q⟩
  have R1 := R.ex x1 h1
  refine ⟨⟨g.h, g.c, Fo g σ δ, H1, fun _ => False⟩, ds ++ dds, s1, h1, R1.fh, R1.fdom, R1.nc, rfl, fun _ => id, qs.append (hdd _ _ _), hn _ s1 (fun z => by rw [z] at q; exact q), ?_⟩
  cases z : sem (ds ++ dds) s1 with
  | ok d s' => rw [z] at q; exact q
  | err C fs s' => rw [z] at q; exact q
  | stk => rw [z] at q; exact q
theorem de_call (F : FnG X.prog X.w X.K X.mg X.base k f fd ps (spD X.K n sem)) (hG : X.A.guards = some []) (hr : Room k X.A) (hg : Gl X x) (hm : X.mg x = some (.ref f)) (hk : PySem.W.keepIn X.K (.ref f) = true) (hb : Binds X.K fd ps ds) (hd : Vals dvs ds)
    (hdd : ∀ (h : Addr) (F : Addr → Prop) (H : Hp), DqA X.K h F H dvs dds) (hn : ∀ ds s, (sem ds s) ≠ .stk → ds.length = n) (tk : Takes X W)
    (ha : DA X W (e :: es) fs) (hdb : (x == ("__debug__" : Str)) = false := by decide) (he : starEach (e :: es) X.env = (false, eval e X.env) :: starEach es X.env := by rfl) (hpl : (backTo pos (starEach es X.env)).any (·.1) = false := by rfl) :
    DE X W (.Call (.Name x p) (e :: es) [] pos) (F2c sem dds fs) := by
  refine ⟨⟨fun pins s σ H Q I h => ?_⟩⟩
  have h' := call_td hdd hn h
  refine wpAny_Call_Name_kw (ld_glob I hg hm ?_ hdb)
  refine PySem.W.callWith_K (h₀ := X.base) I.ok.mod.kin hk (thn (ha.pa.run pos pins s σ H _ I h') fun us s1 ⟨vs, H1, I1, r, q⟩ => ⟨I1.kIn, ?_⟩) he hpl
  exact run_fnG F hG hr hb hd (passAt tk σ) I1 r q
/-- no defaults -/
theorem de_call0 (F : FnG X.prog X.w X.K X.mg X.base k f fd ps (spD X.K n sem)) (hG : X.A.guards = some []) (hr : Room k X.A) (hg : Gl X x) (hm : X.mg x = some (.ref f)) (hk : PySem.W.keepIn X.K (.ref f) = true) (hb : Binds X.K fd ps [])
    (hn : ∀ ds s, (sem ds s) ≠ .stk → ds.length = n) (tk : Takes X W)
    (ha : DA X W (e :: es) fs) (hdb : (x == ("__debug__" : Str)) = false := by decide) (he : starEach (e :: es) X.env = (false, eval e X.env) :: starEach es X.env := by rfl) (hpl : (backTo pos (starEach es X.env)).any (·.1) = false := by rfl) :
    DE X W (.Call (.Name x p) (e :: es) [] pos) (F2c sem [] fs) := de_call F hG hr hg hm hk hb .nil (fun _ _ _ => .nil) hn tk ha hdb he hpl
end
end DL

-- part DLg
set_option maxHeartbeats 1000000
namespace DL
open PySem PySem.Spec PyProof.Rows L2

/-! ### what comes of a statement -/
inductive Fl where
  | nx (δ : Dt) (s : HS) | rt (d : D) (s : HS) | bk (δ : Dt) (s : HS) | ct (δ : Dt) (s : HS) | err (C : Addr) (fs : List (Str × D)) (δ : Dt) (s : HS) | stk
abbrev SD := Dt → HS → Fl
/-- what was no part of F stands, and is no part of F' -/
def Stp (F : Addr → Prop) (H : Hp) (F' : Addr → Prop) (H' : Hp) : Prop := ∀ b z, ¬ F b → H b = some z → ¬ F' b ∧ H' b = some z
theorem Stp.refl {F : Addr → Prop} {H : Hp} : Stp F H F H := fun _ _ n e => ⟨n, e⟩
theorem Stp.trans {F F1 F2 : Addr → Prop} {H H1 H2 : Hp} (a : Stp F H F1 H1) (b : Stp F1 H1 F2 H2) : Stp F H F2 H2 := fun c z n e => b c z (a c z n e).1 (a c z n e).2
theorem Stp.ex {g : Gx} {F : Addr → Prop} {H H' : Hp} (fh : F g.h) (x : Ex g.h H H') : Stp F H F H' := fun b z n e => ⟨n, x b z (fun q => n (q ▸ fh)) e⟩
def Fin (K : PySem.W.Frag) (g : Gx) (H : Hp) (s : HS) (v : V) (d : D) : Prop := Ex g.h g.H0 H ∧ HandAt g H s ∧ Dq K g.h g.F0 H v d
def FW (K : PySem.W.Frag) (W : WX) (g : Gx) (σ : L2.St) (δ : Dt) (H : Hp) (Dn : Ends) : Fl → Prop
  | .nx δ' s' => ∀ σ' H', RepS K g H' σ' δ' s' → Stp (Fo g σ δ) H (Fo g σ' δ') H' → Dn.nx σ' H'
  | .bk δ' s' => ∀ σ' H', RepS K g H' σ' δ' s' → Stp (Fo g σ δ) H (Fo g σ' δ') H' → Dn.bk σ' H'
  | .ct δ' s' => ∀ σ' H', RepS K g H' σ' δ' s' → Stp (Fo g σ δ) H (Fo g σ' δ') H' → Dn.ct σ' H'
  | .rt d s' => ∀ v H', Fin K g H' s' v d → Dn.rt v H'
  | .err C fs δ' s' => ∀ σ' dx H', RepS K g H' σ' δ' s' → Stp (Fo g σ δ) H (Fo g σ' δ') H' → XdAt K g.h (Fo g σ' δ') H' dx fs → W (.ref C) (some dx) σ' H'
  | .stk => False
def TDS (K : PySem.W.Frag) (W : WX) (f : SD) : TS := fun Dn σ H => ∃ g δ s, RepS K g H σ δ s ∧ FW K W g σ δ H Dn (f δ s)
structure DS (X : Cx) (W : WX) (st : Stmt) (f : SD) : Prop where
  ps : PS X st (TDS X.K W f)
structure DSs (X : Cx) (W : WX) (st : List Stmt) (f : SD) : Prop where
  ps : PSs X st (TDS X.K W f)
section
variable {K : PySem.W.Frag} {W : WX} {g : Gx} {σ σ1 : L2.St} {δ δ1 : Dt} {H H1 : Hp} {s : HS}
theorem FW.ext {Dn : Ends} {r : Fl} (q : FW K W g σ δ H Dn r) (x : Stp (Fo g σ δ) H (Fo g σ1 δ1) H1) : FW K W g σ1 δ1 H1 Dn r := by
  cases r with
  | nx δ' s' => exact fun σ' H' R y => q σ' H' R (x.trans y)
  | bk δ' s' => exact fun σ' H' R y => q σ' H' R (x.trans y)
  | ct δ' s' => exact fun σ' H' R y => q σ' H' R (x.trans y)
  | rt d s' => exact q
  | err C fs δ' s' => exact fun σ' dx H' R y => q σ' dx H' R (x.trans y)
  | stk => exact q
theorem FW.mono {Dn Dn' : Ends} {r : Fl} (q : FW K W g σ δ H Dn r) (m1 : ∀ σ H, Dn.nx σ H → Dn'.nx σ H) (m2 : ∀ σ H, Dn.bk σ H → Dn'.bk σ H) (m3 : ∀ σ H, Dn.ct σ H → Dn'.ct σ H) (m4 : ∀ v H, Dn.rt v H → Dn'.rt v H) : FW K W g σ δ H Dn' r := by
  cases r with
  | nx δ' s' => exact fun σ' H' R y => m1 _ _ (q σ' H' R y)
  | bk δ' s' => exact fun σ' H' R y => m2 _ _ (q σ' H' R y)
  | ct δ' s' => exact fun σ' H' R y => m3 _ _ (q σ' H' R y)
  | rt d s' => exact fun v H' z => m4 _ _ (q v H' z)
  | err C fs δ' s' => exact q
  | stk => exact q
theorem RepS.stp (R : RepS K g H σ δ s) (x : Ex g.h H H1) : Stp (Fo g σ δ) H (Fo g σ δ) H1 := Stp.ex R.fh x
/-- data of a name stored -/
theorem RepS.set (R : RepS K g H σ δ s) {v : V} {d : D} (q : Dq K g.h (Fo g σ δ) H v d) (i : Nat) : RepS K g H (σ.set i (some v)) (δ.set i (.fz d)) s ∧ Stp (Fo g σ δ) H (Fo g (σ.set i (some v)) (δ.set i (.fz d))) H := by
  have hF : ∀ a, Fo g (σ.set i (some v)) (δ.set i (.fz d)) a → Fo g σ δ a := by
    rintro a (f | f | ⟨j, ds, h1, h2⟩)
    · exact .inl f
    · exact .inr (.inl f)
    · by_cases hj : i = j
      · subst hj
        by_cases hl : i < δ.length
        · rw [List.getElem?_set_self hl] at h1; cases h1
        · rw [List.getElem?_eq_none (by simpa using hl)] at h1; cases h1
      · rw [List.getElem?_set_ne hj] at h1 h2
        exact .inr (.inr ⟨j, ds, h1, h2⟩)
  have st : Stp (Fo g σ δ) H (Fo g (σ.set i (some v)) (δ.set i (.fz d))) H := fun b z n e => ⟨fun f => n (hF b f), e⟩
  refine ⟨⟨R.old, R.f0, R.c0, R.tm, R.hand, fun j d' e => ?_, fun j ds e => ?_, fun j k ds es a e1 e2 e3 e4 => ?_, by simpa using R.len⟩, st⟩
  · by_cases hj : i = j
    · subst hj
      by_cases hl : i < δ.length
      · rw [List.getElem?_set_self hl] at e
        cases e
        exact ⟨v, List.getElem?_set_self (by rw [R.len]; exact hl), q.mono st⟩
      · rw [List.getElem?_eq_none (by simpa using hl)] at e; cases e
    · rw [List.getElem?_set_ne hj] at e ⊢
      obtain ⟨u, e1, qu⟩ := R.sl j d' e
      exact ⟨u, e1, qu.mono st⟩
  · by_cases hj : i = j
    · subst hj
      by_cases hl : i < δ.length
      · rw [List.getElem?_set_self hl] at e; cases e
      · rw [List.getElem?_eq_none (by simpa using hl)] at e; cases e
    · rw [List.getElem?_set_ne hj] at e ⊢
      obtain ⟨a, vs, e1, e2, qu, n⟩ := R.ow j ds e
      exact ⟨a, vs, e1, e2, qu.mono st, n⟩
  · by_cases hj : i = j
    · subst hj
      by_cases hl : i < δ.length
      · rw [List.getElem?_set_self hl] at e1; cases e1
      · rw [List.getElem?_eq_none (by simpa using hl)] at e1; cases e1
    · by_cases hk : i = k
      · subst hk
        by_cases hl : i < δ.length
        · rw [List.getElem?_set_self hl] at e2; cases e2
        · rw [List.getElem?_eq_none (by simpa using hl)] at e2; cases e2
      · rw [List.getElem?_set_ne hj] at e1 e3
        rw [List.getElem?_set_ne hk] at e2 e4
        exact R.ap j k ds es a e1 e2 e3 e4
end

section
variable {X : Cx} {W : WX} {e : Expr} {f : ED} {st : Stmt} {rest : List Stmt} {fa fb : SD} {ft : ET} {pos : Pos}
def seqF (f g : SD) : SD := fun δ s => match f δ s with
  | .nx δ' s' => g δ' s'
  | r => r
def nxF : SD := fun δ s => .nx δ s
theorem dss_nil : DSs X W [] nxF := ⟨pss_weak pss_nil fun Dn σ H ⟨g, δ, s, R, q⟩ => q σ H R .refl⟩
theorem dss_cons (h1 : DS X W st fa) (h2 : DSs X W rest fb) : DSs X W (st :: rest) (seqF fa fb) := by
  refine ⟨pss_weak (pss_cons h1.ps h2.ps) fun Dn σ H q => ?_⟩
  obtain ⟨g, δ, s, R, q⟩ := q
  refine ⟨g, δ, s, R, ?_⟩
  unfold seqF at q
  cases z : fa δ s with
  | nx δ' s' =>
    rw [z] at q
    exact fun σ' H' R' x => ⟨g, δ', s', R', FW.ext q x⟩
  | bk δ' s' => rw [z] at q; exact q
  | ct δ' s' => rw [z] at q; exact q
  | rt d s' => rw [z] at q; exact q
  | err C fs δ' s' => rw [z] at q; exact q
  | stk => rw [z] at q; exact q
theorem dss_one (h1 : DS X W st fa) : DSs X W [st] fa := ⟨pss_one h1.ps⟩
/-- from an expression -/
def ofE (f : ED) (k : D → Dt → HS → Fl) : SD := fun δ s => match f δ s with
  | .ok d s1 => k d δ s1
  | .err C fs s1 => .err C fs δ s1
  | .stk => .stk
theorem ofE_td {K : PySem.W.Frag} {k : D → Dt → HS → Fl} {Dn : Ends} {σ : L2.St} {H : Hp} (q : TDS K W (ofE f k) Dn σ H) :
    TD K W f σ H fun v H1 => ∃ g δ s d, RepS K g H1 σ δ s ∧ Dq K g.h (Fo g σ δ) H1 v d ∧ FW K W g σ δ H1 Dn (k d δ s) := by
  obtain ⟨g, δ, s, R, q⟩ := q
  refine ⟨g, δ, s, R, ?_⟩
  unfold ofE at q
  cases z : f δ s with
  | ok d s1 =>
    rw [z] at q
    exact fun v H' x hd qd => ⟨g, δ, s1, d, R.ex x hd, qd, FW.ext q (R.stp x)⟩
  | err C fs s1 =>
    rw [z] at q
    exact fun dx H' x hd xd => q σ dx H' (R.ex x hd) (R.stp x) xd
  | stk => rw [z] at q; exact q
def setF (i : Nat) (f : ED) : SD := ofE f fun d δ s => .nx (δ.set i (.fz d)) s
theorem ds_set (i : Nat) {x : Str} {pos' : Pos} (hN : X.N.Nodup) (he : DE X W e f) (hi : X.N[i]? = some x := by rfl) (hx : Loc X.env.scope x := by first | exact Or.inl rfl | exact Or.inr rfl) (hs : swapsWith e (some (.Name x pos')) pos.line X.env = pure false := by rfl)
    (hf : X.fn x = true ∨ X.env.scope.names.lookup x = some .local := by first | exact .inl rfl | exact .inr rfl | assumption) : DS X W (.Assign [.Name x pos'] e pos) (setF i f) := by
  refine ⟨ps_weak (ps_set hN hi hx he.pe hs hf) fun Dn σ H q => ?_⟩
  obtain ⟨g, δ, s, R, q⟩ := ofE_td q
  exact ⟨g, δ, s, R, q.mono fun v H1 ⟨g', δ', s', d, R', qd, qf⟩ => qf _ _ (R'.set qd i).1 (R'.set qd i).2⟩
def retF (f : ED) : SD := ofE f fun d _ s => .rt d s
theorem RepS.dom0 {K : PySem.W.Frag} {g : Gx} {σ : L2.St} {δ : Dt} {H : Hp} {s : HS} (R : RepS K g H σ δ s) {v : V} {d : D} (q : Dq K g.h (Fo g σ δ) H v d) : Dq K g.h g.F0 H v d := q.mono fun b z n e => ⟨fun f => n (.inl f), e⟩
theorem ds_ret (he : DE X W e f) : DS X W (.Return (some e) pos) (retF f) := by
  refine ⟨ps_weak (ps_ret he.pe) fun Dn σ H q => ?_⟩
  obtain ⟨g, δ, s, R, q⟩ := ofE_td q
  exact ⟨g, δ, s, R, q.mono fun v H1 ⟨g', δ', s', d, R', qd, qf⟩ => qf v H1 ⟨R'.old, R'.hand, R'.dom0 qd⟩⟩
theorem ds_retN : DS X W (.Return none pos) (fun _ s => .rt .non s) := ⟨ps_weak ps_retN fun Dn σ H ⟨g, δ, s, R, q⟩ => q _ H ⟨R.old, R.hand, .non⟩⟩
theorem ds_expr (he : DE X W e f) (hs : swapsWith e none pos.line X.env = pure false := by rfl) : DS X W (.Expr e pos) (ofE f fun _ δ s => .nx δ s) := by
  refine ⟨ps_weak (ps_expr he.pe hs) fun Dn σ H q => ?_⟩
  obtain ⟨g, δ, s, R, q⟩ := ofE_td q
  exact ⟨g, δ, s, R, q.mono fun v H1 ⟨g', δ', s', d, R', qd, qf⟩ => qf σ H1 R' .refl⟩
theorem ds_pass : DS X W (.Pass pos) nxF := ⟨ps_weak ps_pass fun Dn σ H ⟨g, δ, s, R, q⟩ => q σ H R .refl⟩
theorem ds_break : DS X W (.Break pos) (fun δ s => .bk δ s) := ⟨ps_weak ps_break fun Dn σ H ⟨g, δ, s, R, q⟩ => q σ H R .refl⟩
theorem ds_continue : DS X W (.Continue pos) (fun δ s => .ct δ s) := ⟨ps_weak ps_continue fun Dn σ H ⟨g, δ, s, R, q⟩ => q σ H R .refl⟩
def ifF (t : ET) (fa fb : SD) : SD := fun δ s => match t δ s with
  | .ok b s1 => if b = true then fa δ s1 else fb δ s1
  | .err C fs s1 => .err C fs δ s1
  | .stk => .stk
theorem ds_if {c : Expr} {a b : List Stmt} (hc : DT X W c ft) (ha : DSs X W a fa) (hb : DSs X W b fb) : DS X W (.If c a b pos) (ifF ft fa fb) := by
  refine ⟨ps_weak (ps_if hc.pt ha.ps hb.ps) fun Dn σ H q => ?_⟩
  obtain ⟨g, δ, s, R, q⟩ := q
  refine ⟨g, δ, s, R, ?_⟩
  unfold ifF at q
  cases z : ft δ s with
  | ok d s1 =>
    rw [z] at q
    rintro v H' x hd rfl
    cases v with
    | true => exact ⟨g, δ, s1, R.ex x hd, FW.ext q (R.stp x)⟩
    | false => exact ⟨g, δ, s1, R.ex x hd, FW.ext q (R.stp x)⟩
  | err C fs s1 =>
    rw [z] at q
    exact fun dx H' x hd xd => q σ dx H' (R.ex x hd) (R.stp x) xd
  | stk => rw [z] at q; exact q
end

/-! ### a def by its body -/
/-- what a body makes of its arguments: n names, the arguments ahead -/
def defF (n : Nat) (f : SD) : FD := fun ds s => match f (ds.map Sl.fz ++ List.replicate (n - ds.length) Sl.un) s with
  | .rt d s' => .ok d s'
  | .nx _ s' => .ok .non s'
  | .err C fs _ s' => .err C fs s'
  | _ => .stk
/-- the arguments are m -/
def arF (m : Nat) (f : FD) : FD := fun ds s => if ds.length = m then f ds s else .stk
theorem arF_n {m : Nat} {f : FD} : ∀ ds s, arF m f ds s ≠ .stk → ds.length = m := fun ds s h => by
  unfold arF at h
  by_cases z : ds.length = m
  · exact z
  · rw [if_neg z] at h; exact absurd rfl h
section
variable {P : Program} {w : World} {K : PySem.W.Frag} {mg : Str → Option Value} {base : Heap}
theorem start_rep {g : Gx} {H : Hp} {s : HS} {vs : List V} {ds : List D} {N : List Str} (hd : HandAt g H s) (f0 : g.F0 g.h) (dom : ∀ a, g.F0 a → H a ≠ none) (nc : ¬ g.F0 g.c) (h0 : g.H0 = H) (ft : ∀ a, ¬ g.Ft a) (q : DqA K g.h g.F0 H vs ds) :
    RepS K g H (L2.start N vs) (ds.map Sl.fz ++ List.replicate (N.length - ds.length) Sl.un) s := by
  have no : ∀ (i : Nat) (es : List D), (ds.map Sl.fz ++ List.replicate (N.length - ds.length) Sl.un)[i]? ≠ some (.ow es) := fun i es e => by
    have m := List.mem_of_getElem? e
    rcases List.mem_append.mp m with m | m
    · obtain ⟨d, _, z⟩ := List.mem_map.mp m; cases z
    · have := List.eq_of_mem_replicate m; cases this
  refine ⟨by rw [h0]; exact Ex.refl H, ⟨f0, by rw [h0]; exact dom⟩, ⟨(by rw [h0, hd.2.1]; intro z; cases z), nc⟩, fun a f => absurd f (ft a), hd, fun i d e => ?_, fun i es e => absurd e (no i es), fun i j es _ _ e => absurd e (no i es), ?_⟩
  · have hi : i < ds.length := by
      by_cases hi : i < ds.length
      · exact hi
      · rw [List.getElem?_append_right (by simpa using hi), List.getElem?_replicate] at e
        split at e <;> cases e
    rw [List.getElem?_append_left (by simpa using hi), List.getElem?_map] at e
    cases z : ds[i]? with
    | none => rw [z] at e; cases e
    | some d' =>
      rw [z] at e
      cases e
      obtain ⟨v, e1, qd⟩ := q.get z
      refine ⟨v, ?_, qd.mono fun b z n e => ⟨?_, e⟩⟩
      · unfold L2.start
        rw [List.getElem?_append_left (by rw [List.length_map, q.length]; exact hi), List.getElem?_map, e1]
        rfl
      · rintro (f | f | ⟨j, es, h1, _⟩)
        · exact n f
        · exact ft _ f
        · exact no j es h1
  · unfold L2.start
    rw [List.length_append, List.length_append, List.length_map, List.length_map, List.length_replicate, List.length_replicate, q.length]
/-- THE RULE -/
theorem def_ok {x qual : Str} {st : Stmt} {f : Addr} {fd : FuncData} {N ps : List Str} {k m : Nat} {dV : Value} {body : SD}
    (hF : ∃ (oc : Value) (od : Option Addr) (kV doc pm : Value) (an : Option Addr) (cdv ct : Value) (osl : Array (Option Value)), fd = PySem.W.fnOf x qual (defArgs st) (defBody st) (defScope st) dV kV doc pm an cdv ct ∧ K.lookup f = some ⟨oc, od, .func fd, osl⟩ ∧ PySem.W.codeIn K cdv qual = true)
    (S : FnScope N ps (defScope st)) (hm : ps.length = m)
    (hbody : ∀ (cdv : Value) (A : Around) (outer : List Env) (s : Shared) (H : Hp) (E : XK), (A.deeper (envOfC qual (defScope st) s.heap.objs.size f cdv)).guards = some [] → Room k (A.deeper (envOfC qual (defScope st) s.heap.objs.size f cdv)) →
      DSs (cxOf (L2.CX P w) P w K mg base N qual (defScope st) f cdv A outer s H E) (fun cls d _ H => E cls d H) (defBody st) body) : FnG P w K mg base (k + 1) f fd ps (spD K m (arF m (defF N.length body))) := by
  refine fnG_ok hF S (fun vs H Q E h => by rw [spD_len h, hm]) fun cdv A outer s H vs Q E hg hr h => ⟨_, (hbody cdv A outer s H E hg hr).ps, ?_⟩
  obtain ⟨g, ds, hs, h1, h2, h3, h4, h5, h6, q, e, r⟩ := h
  refine ⟨g, ds.map Sl.fz ++ List.replicate (N.length - ds.length) Sl.un, hs, start_rep h1 h2 h3 h4 h5 h6 q, ?_⟩
  unfold arF defF at r
  rw [if_pos e] at r
  show FW K _ g _ _ H _ _
  cases z : body (ds.map Sl.fz ++ List.replicate (N.length - ds.length) Sl.un) hs with
  | rt d s' =>
    rw [z] at r
    exact fun v H' ⟨f1, f2, f3⟩ => r v H' (by rw [h5] at f1; exact f1) f2 f3
  | nx δ' s' =>
    rw [z] at r
    exact fun σ' H' R x => r _ H' (by have := R.old; rw [h5] at this; exact this) R.hand .non
  | err C fs δ' s' =>
    rw [z] at r
    exact fun σ' dx H' R x ⟨vs, xd1, xd2⟩ => r dx H' (by have := R.old; rw [h5] at this; exact this) R.hand ⟨vs, xd1, xd2.mono fun b z n e => ⟨fun f => n (.inl f), e⟩⟩
  | bk δ' s' => rw [z] at r; exact r.elim
  | ct δ' s' => rw [z] at r; exact r.elim
  | stk => rw [z] at r; exact r.elim
end
end DL

-- part DLh
set_option maxHeartbeats 1000000
namespace DL
open PySem PySem.Spec PyProof.Rows L2

/-! ### enumerate(t), t a tuple -/
theorem meets_enum1 {v : Value} {o : Obj} {H : Heap → Prop} (B : Begins v o H) :
    Meets (Builtin.«enumerate.__new__» ⟨[.type "enumerate", v], []⟩) (fun _ R s => H s.heap ∧
      R (.ok (.ret (.ref (s.heap.push o).objs.size))) { s with heap := (s.heap.push o).push { cls := .type "enumerate", data := .fields #[.none, .bool false, .ref s.heap.objs.size, rawInt 0, .none, .none] } }) :=
  .of_wp fun prog w A R s h => by
    obtain ⟨hp, g, d, tk, os⟩ := s; obtain ⟨h1, h⟩ := h
    have hsub := sub_enumerate
    have q1 : ∀ {A' : Around} {E : Value → Shared → Prop} {Q : Value → Shared → Prop}, Q (.ref hp.objs.size) ⟨hp.push o, g, d, tk, os⟩ → wpAny (model prog w) A' (pyIter v) Q E ⟨hp, g, d, tk, os⟩ :=
      fun q => B.iter prog w _ _ ⟨hp, g, d, tk, os⟩ _ h1 q
    wp_walk using q1
    refine wpAny_stack_any fun st => wpAny_pure ?_
    split
    · rename_i c _ _ _ _ _
      cases (c == Value.type "enumerate") <;> (wp_walk using q1; exact ⟨_, rfl, h⟩)
    · wp_walk using q1
      exact ⟨_, rfl, h⟩
theorem call_enumT {prog : Program} {w : World} {A : Around} {E : Value → Shared → Prop} {s : Shared} {t : Addr} {items : Array Value} {Q : Value → Shared → Prop} (ht : s.heap.IsTuple t items)
    (h : ∀ h', IsEnum h' (s.heap.objs.size + 1) s.heap.objs.size 0 .none → h'.IsTupleIter s.heap.objs.size t 0 → h'.objs.size = s.heap.objs.size + 2 →
      (∀ b o, s.heap.get? b = some o → h'.get? b = some o) → Q (.ref (s.heap.objs.size + 1)) { s with heap := h' }) :
    wpAny (model prog w) A (call (.type "enumerate") [.ref t]) Q E s := by
  refine callType_new F.called_enumerate (by decide) (F.typeCall_enumerate_1 _) (F.newCall_enumerate_1 _) (fun obj => F.args_object_init_2 obj _) F.entry_enumerate_new
    (meets_enum1 (begins_tuple t items)) ⟨ht, ?_⟩
  have hz : (s.heap.push { cls := .type "tuple_iterator", data := .fields #[.ref t, .int 0 0] }).objs.size = s.heap.objs.size + 1 := Heap.size_push ..
  show _ ∧ _
  rw [hz]
  have he : IsEnum ((s.heap.push { cls := .type "tuple_iterator", data := .fields #[.ref t, .int 0 0] }).push
      { cls := .type "enumerate", data := .fields #[.none, .bool false, .ref s.heap.objs.size, rawInt 0, .none, .none] }) (s.heap.objs.size + 1) s.heap.objs.size 0 .none := by
    have := Heap.get?_push_size (s.heap.push { cls := .type "tuple_iterator", data := .fields #[.ref t, .int 0 0] })
      (o := { cls := .type "enumerate", data := .fields #[.none, .bool false, .ref s.heap.objs.size, rawInt 0, .none, .none] }) rfl
    rw [hz] at this; exact this
  exact ⟨⟨_, he, rfl⟩, h _ he ⟨_, Heap.get?_push_of_some _ (Heap.get?_push_size _ rfl), rfl, rfl⟩ (by rw [Heap.size_push, hz]) fun b o x => Heap.get?_push_of_some _ (Heap.get?_push_of_some _ x)⟩

/-- the tuple at a as it stands at each turn, counted -/
def IteT (K : PySem.W.Frag) (a : Addr) : It :=
  ⟨fun i H => ∃ (xs : List V) (x : V), SqT K H a xs ∧ xs[i]? = some x, fun i H v H' => ∃ T x, v = .ref T ∧ H T = none ∧ H' = upd H T (.tup [.int (i : Nat), x]) ∧ ∀ xs, SqT K H a xs → xs[i]? = some x, fun i H => ∃ xs : List V, SqT K H a xs ∧ xs.length = i⟩
theorem turn_enumT {P : Program} {w : World} {K : PySem.W.Frag} {elts : List Expr} {kk : Nat} {tpos : Pos} (a e it : Addr) :
    Turn P w K (.Tuple elts kk tpos) (IteT K a) [e, it] e (fun i h => (∃ old, IsEnum h e it ((i : Nat) : Int) old) ∧ h.IsTupleIter it a i ∧ e ≠ it ∧ a ≠ it ∧ a ≠ e) where
  mem := by simp
  obj := fun i h st b hb => by
    obtain ⟨⟨old, he⟩, ⟨o, ho, hc, hd⟩, _⟩ := st
    rcases List.mem_cons.mp hb with z | hb
    · exact z ▸ ⟨_, he, fun v q => nomatch q⟩
    · have z := List.mem_singleton.mp hb
      exact z ▸ ⟨o, ho, fun v q => by rw [hd] at q; cases q⟩
  keep := fun i h h' st k => let ⟨⟨old, he⟩, hi, hne⟩ := st; ⟨⟨old, k e (by simp) _ he⟩, hi.at fun o q => k it (by simp) o q, hne⟩
  item := by
    intro X hP hw hK hc i pins s σ H E I hf st hg
    subst hP hw hK
    obtain ⟨⟨old, he⟩, hit, hne, hai, hae⟩ := st
    obtain ⟨xs, x, hq, hx⟩ := hg
    obtain ⟨its, rv, p, hz⟩ := I.tuple hq
    obtain ⟨u, hu, ru⟩ := rv.get hx
    have hel : e < s.heap.objs.size := Heap.lt_size he
    have hil : it < s.heap.objs.size := by obtain ⟨_, q, _⟩ := hit; exact Heap.lt_size q
    have hin : i < its.toArray.size := by
      have := (List.getElem?_eq_some_iff.mp hu).1
      simpa using this
    refine wpAny_pyNext_enum_itemD (Draws.tuple (show X.A.in1.handled = none from I.ok.hd hc) it a hai its.toArray) he ⟨hit, p⟩ hin hne (by simp only [List.mem_cons, List.not_mem_nil, or_false, not_or]; exact ⟨hne, fun z => hae z.symm⟩) fun y h' tk hy ho hst' hT hsz hk => ?_
    have hyu : y = u := by
      have e1 : its.toArray[i]? = some u := by simpa using hu
      exact Option.some.inj (hy.symm.trans e1)
    subst hyu
    refine ⟨_, rfl, wpAny_letOwnedTupleGo_enum (s := { s with heap := h', toks := tk + 1 }) ho fun h'' he' sb => ?_⟩
    have hT2 : h''.get? s.heap.objs.size = some { cls := .type "tuple", data := .seq #[.int i tk, y] } := (sb.2 _ (Nat.ne_of_gt hel)).trans hT
    have new : ObjOk X.prog X.w (upd H s.heap.objs.size (.tup [.int (i : Nat), x])) h'' s.heap.objs.size (.tup [.int (i : Nat), x]) :=
      ⟨by show 2 ≤ sizeLine; decide, [.int i tk, y], .cons ⟨_, rfl⟩ (.cons ru .nil), ⟨_, hT2, rfl, _, rfl⟩⟩
    have I1 : Inv X pins σ (upd H s.heap.objs.size (.tup [.int (i : Nat), x])) { s with heap := h'', toks := tk + 1 } :=
      I.turnedNew (ch := [e, it]) (fun b ob hb q => (sb.2 b (fun z => hb (by simp [z]))).trans (hk b ob (fun z => hb (by simp [z])) (fun z => hb (by simp [z])) q)) hf (Nat.le_refl _) new
    refine ⟨.ref s.heap.objs.size, _, I1, rfl, ⟨_, x, rfl, I.hok.fresh (Nat.le_refl _), rfl, fun ys hy => by rw [I.tuple_inj hy hq]; exact hx⟩, ⟨⟨y, ?_⟩, hst'.1.at fun o q => (sb.2 it (Ne.symm hne)).trans q, hne, hai, hae⟩, fun b hb => ?_⟩
    · have e1 : ((i + 1 : Nat) : Int) = (i : Int) + 1 := by omega
      rw [e1]; exact he'
    · have hb' : b < s.heap.objs.size := by
        rcases List.mem_cons.mp hb with z | hb
        · rw [z]; exact hel
        · rw [List.mem_singleton.mp hb]; exact hil
      rw [upd_ne (Nat.ne_of_lt hb')]
      exact (hf b hb).1
  done := by
    intro X hP hw hK hc i pins s σ H E I hf st hg
    subst hP hw hK
    obtain ⟨⟨old, he⟩, hit, hne, hai, hae⟩ := st
    obtain ⟨xs, hq, hx⟩ := hg
    obtain ⟨its, rv, p, hz⟩ := I.tuple hq
    obtain ⟨f0, f1, f2, f3, f4, f5⟩ := hf it (by simp)
    have hl : its.toArray.size = i := by rw [← hx, rv.length]; simp
    subst hl
    exact wpAny_pyNext_enum_endD (Draws.tuple (show X.A.in1.handled = none from I.ok.hd hc) it a hai its.toArray) he ⟨hit, p⟩ fun h' eb => ⟨rfl, I.turned (t' := s.toks) (fun b o hb q => eb b o hb q) f0 f1 f3 f4 f5⟩
  self := fun A i s Q E st h => let ⟨⟨_, he⟩, _⟩ := st; wpAny_pyIter_enum he h
end DL

-- part DLi
set_option maxHeartbeats 1000000
namespace DL
open PySem PySem.Spec PyProof.Rows L2

/-! ### what is walked -/
/-- from H1 on, while all outside F stands, J gives the data ds one by one (as it is, or in a new tuple) -/
def WkD (K : PySem.W.Frag) (g : Gx) (F : Addr → Prop) (H1 : Hp) (J : It) (ds : List D) : Prop :=
  ∀ H, (∀ b z, ¬ F b → H1 b = some z → H b = some z) → (∀ i, i < ds.length → J.go i H) ∧ J.stop ds.length H ∧ ∀ i x H3, i < ds.length → J.yld i H x H3 → ∃ d, ds[i]? = some d ∧
    ((H3 = H ∧ Dq K g.h F H1 x d) ∨ ∃ T xs dd, x = .ref T ∧ H T = none ∧ H3 = upd H T (.tup xs) ∧ d = .tup dd ∧ DqA K g.h F H1 xs dd)
abbrev relW (K : PySem.W.Frag) (g : Gx) : (Addr → Prop) → Hp → It → List D → Prop := fun F H J ds => WkD K g F H J ds
def TDI (K : PySem.W.Frag) (W : WX) (f : EA) : TI := fun σ H R => ∃ g δ s, RepS K g H σ δ s ∧ RW K W g σ δ H (relW K g) R (f δ s)
structure DI (X : Cx) (W : WX) (tg e : Expr) (f : EA) : Prop where
  pi : PI X tg e (TDI X.K W f)
theorem pi_weak {X : Cx} {tg e : Expr} {t t' : TI} (h : PI X tg e t) (w : ∀ σ H Q, t' σ H Q → t σ H Q) : PI X tg e t' := ⟨fun pins s σ H Q I q => h.run pins s σ H Q I (w σ H Q q)⟩

section
variable {K : PySem.W.Frag} {g : Gx} {F : Addr → Prop} {H H1 : Hp} {a b : Addr} {vs us : List V} {ds es : List D}
theorem sq_in (k : ∀ b z, ¬ F b → H1 b = some z → H b = some z) (nf : ¬ F a) (h : H1 a = some (.lst vs)) : SqL K H a vs := .of (k _ _ nf h)
theorem tup_in {v : V} (k : ∀ b z, ¬ F b → H1 b = some z → H b = some z) (q : Dq K g.h F H1 v (.tup ds)) : ∃ a vs, v = .ref a ∧ SqT K H a vs ∧ DqA K g.h F H1 vs ds := by
  cases q with
  | tup r q =>
    refine ⟨_, _, rfl, ?_, q⟩
    rcases r with r | r
    · exact .of (k _ _ r.1 r.2)
    · rcases r with (r | ⟨o, r⟩) | r
      · cases r
      · cases r
      · exact .inr r
theorem wk_list (nf : ¬ F a) (h : H1 a = some (.lst vs)) (q : DqA K g.h F H1 vs ds) : WkD K g F H1 (Itl K a) ds := by
  intro H k
  have hs : SqL K H a vs := sq_in k nf h
  refine ⟨fun i hi => ⟨vs, vs[i]'(by rw [q.length]; exact hi), hs, by simp [q.length, hi]⟩, ⟨vs, hs, by rw [q.length]; exact Nat.le_refl _⟩, fun i x H3 hi y => ?_⟩
  obtain ⟨e, y⟩ := y
  obtain ⟨d, e1, qd⟩ := q.getV (y vs hs)
  exact ⟨d, e1, .inl ⟨e, qd⟩⟩
theorem wk_tup (h : ∀ H, (∀ b z, ¬ F b → H1 b = some z → H b = some z) → SqT K H a vs) (q : DqA K g.h F H1 vs ds) : WkD K g F H1 (Itt K a) ds := by
  intro H k
  have hs := h H k
  refine ⟨fun i hi => ⟨vs, vs[i]'(by rw [q.length]; exact hi), hs, by simp [q.length, hi]⟩, ⟨vs, hs, by rw [q.length]; exact Nat.le_refl _⟩, fun i x H3 hi y => ?_⟩
  obtain ⟨e, y⟩ := y
  obtain ⟨d, e1, qd⟩ := q.getV (y vs hs)
  exact ⟨d, e1, .inl ⟨e, qd⟩⟩
def rngD (lo : Int) (n : Nat) : List D := (List.range n).map fun i => D.int (lo + (i : Nat))
theorem wk_rng (lo : Int) (n : Nat) : WkD K g F H1 (Itr lo n) (rngD lo n) := by
  intro H k
  have hl : (rngD lo n).length = n := by simp [rngD]
  rw [hl]
  refine ⟨fun i hi => hi, Nat.le_refl _, fun i x H3 hi y => ?_⟩
  obtain ⟨e, y⟩ := y
  refine ⟨.int (lo + (i : Nat)), by simp [rngD, hi], .inl ⟨e, ?_⟩⟩
  subst y
  exact .int _
def enD : Nat → List D → List D
  | _, [] => []
  | n, d :: ds => .tup [.int (n : Nat), d] :: enD (n + 1) ds
theorem enD_len : ∀ (n : Nat) (ds : List D), (enD n ds).length = ds.length
  | _, [] => rfl
  | n, d :: ds => by show (enD (n + 1) ds).length + 1 = ds.length + 1; rw [enD_len]
theorem enD_get : ∀ (n : Nat) (ds : List D) (i : Nat) (d : D), ds[i]? = some d → (enD n ds)[i]? = some (.tup [.int ((n + i : Nat)), d])
  | _, [], i, d, e => by simp at e
  | n, d' :: ds, 0, d, e => by simp at e; subst e; rfl
  | n, d' :: ds, i + 1, d, e => by
    have := enD_get (n + 1) ds i d (by simpa using e)
    show (enD (n + 1) ds)[i]? = _
    rw [this]
    rw [show n + 1 + i = n + (i + 1) by omega]
theorem wk_enL (nf : ¬ F a) (h : H1 a = some (.lst vs)) (q : DqA K g.h F H1 vs ds) : WkD K g F H1 (Ite K a) (enD 0 ds) := by
  intro H k
  have hs : SqL K H a vs := sq_in k nf h
  rw [enD_len]
  refine ⟨fun i hi => ⟨vs, vs[i]'(by rw [q.length]; exact hi), hs, by simp [q.length, hi]⟩, ⟨vs, hs, by rw [q.length]; exact Nat.le_refl _⟩, fun i x H3 hi y => ?_⟩
  obtain ⟨T, x1, e1, e2, e3, e4⟩ := y
  obtain ⟨d, e5, qd⟩ := q.getV (e4 vs hs)
  refine ⟨_, enD_get 0 ds i d e5, .inr ⟨T, _, _, e1, e2, e3, rfl, ?_⟩⟩
  rw [Nat.zero_add]
  exact .cons (.int _) (.cons qd .nil)
theorem wk_enT (h : ∀ H, (∀ b z, ¬ F b → H1 b = some z → H b = some z) → SqT K H a vs) (q : DqA K g.h F H1 vs ds) : WkD K g F H1 (IteT K a) (enD 0 ds) := by
  intro H k
  have hs := h H k
  rw [enD_len]
  refine ⟨fun i hi => ⟨vs, vs[i]'(by rw [q.length]; exact hi), hs, by simp [q.length, hi]⟩, ⟨vs, hs, q.length⟩, fun i x H3 hi y => ?_⟩
  obtain ⟨T, x1, e1, e2, e3, e4⟩ := y
  obtain ⟨d, e5, qd⟩ := q.getV (e4 vs hs)
  refine ⟨_, enD_get 0 ds i d e5, .inr ⟨T, _, _, e1, e2, e3, rfl, ?_⟩⟩
  rw [Nat.zero_add]
  exact .cons (.int _) (.cons qd .nil)
def zpD : List D → List D → List D
  | x :: xs, y :: ys => .tup [x, y] :: zpD xs ys
  | _, _ => []
theorem zpD_len : ∀ xs ys : List D, (zpD xs ys).length = min xs.length ys.length
  | [], ys => by simp [zpD]
  | x :: xs, [] => by simp [zpD]
  | x :: xs, y :: ys => by show (zpD xs ys).length + 1 = _; rw [zpD_len xs ys]; simp only [List.length_cons]; omega
theorem zpD_get : ∀ (xs ys : List D) (i : Nat) (x y : D), xs[i]? = some x → ys[i]? = some y → (zpD xs ys)[i]? = some (.tup [x, y])
  | [], _, i, x, y, e, _ => by simp at e
  | _ :: _, [], i, x, y, _, e => by simp at e
  | a :: xs, b :: ys, 0, x, y, e, e' => by simp at e e'; subst e e'; rfl
  | a :: xs, b :: ys, i + 1, x, y, e, e' => zpD_get xs ys i x y (by simpa using e) (by simpa using e')
theorem wk_zipL (nf : ¬ F a) (h : H1 a = some (.lst vs)) (q : DqA K g.h F H1 vs ds) (nf' : ¬ F b) (h' : H1 b = some (.lst us)) (q' : DqA K g.h F H1 us es) : WkD K g F H1 (Itz K a b) (zpD ds es) := by
  intro H k
  have hs : SqL K H a vs := sq_in k nf h
  have hs' : SqL K H b us := sq_in k nf' h'
  rw [zpD_len]
  have l1 := q.length
  have l2 := q'.length
  refine ⟨fun i hi => ?_, ⟨vs, us, hs, hs', by omega⟩, fun i x H3 hi y => ?_⟩
  · have a1 : i < vs.length := by omega
    have a2 : i < us.length := by omega
    exact ⟨vs, us, vs[i], us[i], hs, hs', by simp [a1], by simp [a2]⟩
  · obtain ⟨T, x1, y1, e1, e2, e3, e4, e5⟩ := y
    obtain ⟨d, d1, qd⟩ := q.getV (e4 vs hs)
    obtain ⟨d', d1', qd'⟩ := q'.getV (e5 us hs')
    exact ⟨_, zpD_get ds es i d d' d1 d1', .inr ⟨T, _, _, e1, e2, e3, rfl, .cons qd (.cons qd' .nil)⟩⟩
theorem wk_zipT (h : ∀ H, (∀ b z, ¬ F b → H1 b = some z → H b = some z) → SqT K H a vs) (q : DqA K g.h F H1 vs ds) (h' : ∀ H, (∀ b z, ¬ F b → H1 b = some z → H b = some z) → SqT K H b us) (q' : DqA K g.h F H1 us es) : WkD K g F H1 (RZ.ItzT K a b) (zpD ds es) := by
  intro H k
  have hs := h H k
  have hs' := h' H k
  rw [zpD_len]
  have l1 := q.length
  have l2 := q'.length
  refine ⟨fun i hi => ?_, ⟨vs, us, hs, hs', by omega⟩, fun i x H3 hi y => ?_⟩
  · have a1 : i < vs.length := by omega
    have a2 : i < us.length := by omega
    exact ⟨vs, us, vs[i], us[i], hs, hs', by simp [a1], by simp [a2]⟩
  · obtain ⟨T, x1, y1, e1, e2, e3, e4, e5⟩ := y
    obtain ⟨d, d1, qd⟩ := q.getV (e4 vs hs)
    obtain ⟨d', d1', qd'⟩ := q'.getV (e5 us hs')
    exact ⟨_, zpD_get ds es i d d' d1 d1', .inr ⟨T, _, _, e1, e2, e3, rfl, .cons qd (.cons qd' .nil)⟩⟩
theorem tup_sq {v : V} (q : Dq K g.h F H1 v (.tup ds)) : ∃ a vs, v = .ref a ∧ (∀ H, (∀ b z, ¬ F b → H1 b = some z → H b = some z) → SqT K H a vs) ∧ DqA K g.h F H1 vs ds := by
  cases q with
  | tup r q =>
    refine ⟨_, _, rfl, fun H k => ?_, q⟩
    rcases r with r | r
    · exact .of (k _ _ r.1 r.2)
    · rcases r with (r | ⟨o, r⟩) | r
      · cases r
      · cases r
      · exact .inr r
end

section
variable {X : Cx} {W : WX} {tg e : Expr} {fe : ED} {fs : EA}
def itemsD : D → Option (List D)
  | .lst xs => some xs
  | .tup xs => some xs
  | _ => none
/-- over a list or a tuple -/
theorem di_seq (he : DE X W e fe) : DI X W tg e (fun δ s => (fe δ s).bind fun d s1 => Re.of (itemsD d) s1) := by
  refine ⟨⟨fun pins s σ H R I h => ?_⟩⟩
  obtain ⟨g, δ, hs, Rp, q⟩ := h
  have h1 : TD X.K W fe σ H fun v H1 => ∃ g δ s1 d, RepS X.K g H1 σ δ s1 ∧ Dq X.K g.h (Fo g σ δ) H1 v d ∧ RW X.K W g σ δ H1 (relW X.K g) R (Re.of (itemsD d) s1) :=
    ⟨g, δ, hs, Rp, (RW.bind (rel := relD X.K g) q).mono fun v H1 ⟨d, s1, x, hd, r, q⟩ => ⟨g, δ, s1, d, Rp.ex x hd, r, q⟩⟩
  refine thn (he.pe.run pins s σ H _ I h1) fun v s1 ⟨x, H1, I1, r1, g, δ, hs1, d, R1, qd, q⟩ => ?_
  cases d with
  | lst xs =>
    obtain ⟨a, vs, rfl, nf, ha, qa⟩ := qd.lst_inv
    cases r1
    obtain ⟨its, rv, p, hz⟩ := I1.list (SqL.of ha)
    refine wpAny_pyIter_list p.isList ?_
    refine ⟨s1.heap.objs.size, [s1.heap.objs.size], _, _, H1, rfl, I1.kept (t' := s1.toks) fun b o e => Heap.get?_push_of_some _ e, turn_list a _, ⟨_, Heap.get?_push_size _ rfl, rfl, rfl⟩, fun b hb => ?_, q _ _ (Ex.refl _) R1.hand (wk_list nf ha qa)⟩
    obtain rfl := List.mem_singleton.mp hb
    exact I1.fpOk (Nat.le_refl _) (I1.hok.fresh (Nat.le_refl _))
  | tup xs =>
    obtain ⟨a, vs, rfl, ha, qa⟩ := tup_sq qd
    cases r1
    obtain ⟨its, rv, p, hz⟩ := I1.tuple (ha H1 fun _ _ _ e => e)
    refine wpAny_pyIter_tuple (show s1.heap.IsTuple a its.toArray from p) ?_
    refine ⟨s1.heap.objs.size, [s1.heap.objs.size], _, _, H1, rfl, I1.kept (t' := s1.toks) fun b o e => Heap.get?_push_of_some _ e, turn_tuple a _, ⟨_, Heap.get?_push_size _ rfl, rfl, rfl⟩, fun b hb => ?_, q _ _ (Ex.refl _) R1.hand (wk_tup ha qa)⟩
    obtain rfl := List.mem_singleton.mp hb
    exact I1.fpOk (Nat.le_refl _) (I1.hok.fresh (Nat.le_refl _))
  | _ => exact q.elim
def rng1 : List D → Option (List D)
  | [.int j] => if -(2 ^ 62) ≤ j ∧ j < 2 ^ 62 then some (rngD 0 j.toNat) else none
  | _ => none
def rng2 : List D → Option (List D)
  | [.int i, .int j] => if -(2 ^ 62) ≤ i ∧ i < 2 ^ 62 ∧ -(2 ^ 62) ≤ j ∧ j < 2 ^ 62 then some (rngD i (j - i).toNat) else none
  | _ => none
def overA (p : List D → Option (List D)) (fs : EA) : EA := fun δ s => (fs δ s).bind fun d s1 => Re.of (p d) s1
theorem di_range1 {a : Expr} {p pos : Pos} (hg : Gl X "range") (hm : X.mg "range" = none) (ha : DA X W [a] fs) (hs : starEach [a] X.env = [(false, eval a X.env)] := by rfl) : DI X W tg (.Call (.Name "range" p) [a] [] pos) (overA rng1 fs) := by
  refine ⟨pi_weak (pi_range1 hg hm ha.pa hs) fun σ H R q => ?_⟩
  obtain ⟨g, δ, s, Rp, q⟩ := q
  refine ⟨g, δ, s, Rp, (RW.bind (rel := relA X.K g) q).mono ?_⟩
  rintro vs H1 ⟨ds, s1, x, hd, r, q⟩
  unfold rng1 at q
  split at q
  · obtain ⟨v, rfl, qv⟩ := r.one
    cases qv
    rename_i j
    by_cases hc : -(2 ^ 62) ≤ j ∧ j < 2 ^ 62
    · rw [if_pos hc] at q
      exact ⟨j, rfl, hc.1, hc.2, q _ _ (Ex.refl _) hd (wk_rng 0 _)⟩
    · rw [if_neg hc] at q; exact q.elim
  · exact q.elim
theorem di_range2 {a b : Expr} {p pos : Pos} (hg : Gl X "range") (hm : X.mg "range" = none) (ha : DA X W [a, b] fs) (hs : starEach [a, b] X.env = [(false, eval a X.env), (false, eval b X.env)] := by rfl) (hs2 : starEach [b] X.env = [(false, eval b X.env)] := by rfl) : DI X W tg (.Call (.Name "range" p) [a, b] [] pos) (overA rng2 fs) := by
  refine ⟨pi_weak (pi_range2 hg hm ha.pa hs hs2) fun σ H R q => ?_⟩
  obtain ⟨g, δ, s, Rp, q⟩ := q
  refine ⟨g, δ, s, Rp, (RW.bind (rel := relA X.K g) q).mono ?_⟩
  rintro vs H1 ⟨ds, s1, x, hd, r, q⟩
  unfold rng2 at q
  split at q
  · obtain ⟨v, u, rfl, qv, qu⟩ := r.two
    cases qv
    cases qu
    rename_i i j
    by_cases hc : -(2 ^ 62) ≤ i ∧ i < 2 ^ 62 ∧ -(2 ^ 62) ≤ j ∧ j < 2 ^ 62
    · rw [if_pos hc] at q
      exact ⟨i, j, rfl, hc, q _ _ (Ex.refl _) hd (wk_rng i _)⟩
    · rw [if_neg hc] at q; exact q.elim
  · exact q.elim
def zip2 : List D → Option (List D)
  | [.lst xs, .lst ys] => some (zpD xs ys)
  | [.tup xs, .tup ys] => some (zpD xs ys)
  | _ => none
theorem di_zip {e e2 : Expr} {p pos tpos : Pos} {elts : List Expr} {kk : Nat} (hg : Gl X "zip") (hm : X.mg "zip" = none) (ha : DA X W [e, e2] fs)
    (hs : starEach [e, e2] X.env = (false, eval e X.env) :: starEach [e2] X.env := by rfl) (hpl : (backTo pos (starEach [e2] X.env)).any (·.1) = false := by rfl) :
    DI X W (.Tuple elts kk tpos) (.Call (.Name "zip" p) [e, e2] [] pos) (overA zip2 fs) := by
  refine ⟨pi_weak (RZ.pi_zipA hg hm ha.pa hs hpl) fun σ H R q => ?_⟩
  obtain ⟨g, δ, s, Rp, q⟩ := q
  refine ⟨g, δ, s, Rp, (RW.bind (rel := relA X.K g) q).mono ?_⟩
  rintro vs H1 ⟨ds, s1, x, hd, r, q⟩
  unfold zip2 at q
  split at q
  · obtain ⟨v, u, rfl, qv, qu⟩ := r.two
    obtain ⟨a, vs, rfl, nf, ha, qa⟩ := qv.lst_inv
    obtain ⟨b, us, rfl, nf', hb, qb⟩ := qu.lst_inv
    exact ⟨a, b, vs, us, rfl, .inl ⟨.of ha, .of hb, q _ _ (Ex.refl _) hd (wk_zipL nf ha qa nf' hb qb)⟩⟩
  · obtain ⟨v, u, rfl, qv, qu⟩ := r.two
    obtain ⟨a, vs, rfl, ha, qa⟩ := tup_sq qv
    obtain ⟨b, us, rfl, hb, qb⟩ := tup_sq qu
    exact ⟨a, b, vs, us, rfl, .inr ⟨ha _ fun _ _ _ e => e, hb _ fun _ _ _ e => e, q _ _ (Ex.refl _) hd (wk_zipT ha qa hb qb)⟩⟩
  · exact q.elim
def enum1 : List D → Option (List D)
  | [.lst xs] => some (enD 0 xs)
  | [.tup xs] => some (enD 0 xs)
  | _ => none
theorem di_enum {e : Expr} {p pos tpos : Pos} {elts : List Expr} {kk : Nat} (hg : Gl X "enumerate") (hm : X.mg "enumerate" = none) (ha : DA X W [e] fs) (hs : starEach [e] X.env = [(false, eval e X.env)] := by rfl) :
    DI X W (.Tuple elts kk tpos) (.Call (.Name "enumerate" p) [e] [] pos) (overA enum1 fs) := by
  refine ⟨⟨fun pins s σ H R I h => ?_⟩⟩
  obtain ⟨g, δ, hs0, Rp, q⟩ := h
  have h1 : TDA X.K W fs σ H fun v H1 => ∃ g δ s1 d, RepS X.K g H1 σ δ s1 ∧ DqA X.K g.h (Fo g σ δ) H1 v d ∧ RW X.K W g σ δ H1 (relW X.K g) R (Re.of (enum1 d) s1) :=
    ⟨g, δ, hs0, Rp, (RW.bind (rel := relA X.K g) q).mono fun v H1 ⟨d, s1, x, hd, r, q⟩ => ⟨g, δ, s1, d, Rp.ex x hd, r, q⟩⟩
  refine Call_ (ld_blt I hg hm boot_enumerate (PyProof.Rows.callWith_type1 (thn (ha.pa.run pos pins s σ H _ I h1) fun us s1 ⟨vs, H1, I1, r1, g, δ, hs1, ds, R1, qd, q⟩ => ?_) hs rfl))
  have fresh : ∀ b, b ∈ [s1.heap.objs.size + 1, s1.heap.objs.size] → FpOk X pins H1 b := fun b hb => by
    have hle : s1.heap.objs.size ≤ b := by
      rcases List.mem_cons.mp hb with z | hb
      · rw [z]; exact Nat.le_add_right _ _
      · rw [List.mem_singleton.mp hb]; exact Nat.le_refl _
    exact I1.fpOk hle (I1.hok.fresh hle)
  unfold enum1 at q
  split at q
  · obtain ⟨v, rfl, qv⟩ := qd.one
    obtain ⟨a, vs, rfl, nf, ha', qa⟩ := qv.lst_inv
    obtain ⟨u, rfl, ru⟩ := vals1 r1
    cases ru
    obtain ⟨its, rv, p', hz⟩ := I1.list (SqL.of ha')
    refine call_enumerate_list p'.isList fun h' he hit hsz hk => wpAny_pyIter_enum he ?_
    exact ⟨s1.heap.objs.size + 1, [s1.heap.objs.size + 1, s1.heap.objs.size], _, _, H1, rfl, I1.kept (t' := s1.toks) hk, turn_enum a (s1.heap.objs.size + 1) s1.heap.objs.size, ⟨⟨.none, he⟩, hit, Nat.succ_ne_self _⟩, fresh, q _ _ (Ex.refl _) R1.hand (wk_enL nf ha' qa)⟩
  · obtain ⟨v, rfl, qv⟩ := qd.one
    obtain ⟨a, vs, rfl, ha', qa⟩ := tup_sq qv
    obtain ⟨u, rfl, ru⟩ := vals1 r1
    cases ru
    obtain ⟨its, rv, p', hz⟩ := I1.tuple (ha' H1 fun _ _ _ e => e)
    obtain ⟨o1, ho1, _⟩ := id p'
    have hal : a < s1.heap.objs.size := Heap.lt_size ho1
    refine call_enumT (show s1.heap.IsTuple a its.toArray from p') fun h' he hit hsz hk => wpAny_pyIter_enum he ?_
    exact ⟨s1.heap.objs.size + 1, [s1.heap.objs.size + 1, s1.heap.objs.size], _, _, H1, rfl, I1.kept (t' := s1.toks) hk, turn_enumT a (s1.heap.objs.size + 1) s1.heap.objs.size, ⟨⟨.none, he⟩, hit, Nat.succ_ne_self _, Nat.ne_of_lt hal, Nat.ne_of_lt (Nat.lt_succ_of_lt hal)⟩, fresh, q _ _ (Ex.refl _) R1.hand (wk_enT ha' qa)⟩
  · exact q.elim
end
end DL

-- part DLj
set_option maxHeartbeats 1000000
namespace DL
open PySem PySem.Spec PyProof.Rows L2

/-! ### targets -/
abbrev GD := D → Dt → Option Dt
abbrev GDs := List D → Dt → Option Dt
def DGr (X : Cx) (t : TG) (gt : GD) (ts : List Nat) : Prop := ∀ (g : Gx) (σ : L2.St) (δ : Dt) (H : Hp) (s : HS) (v : V) (d : D) (δ' : Dt) (Q : L2.St → Hp → Prop), RepS X.K g H σ δ s → Dq X.K g.h (Fo g σ δ) H v d → gt d δ = some δ' →
  (∀ σ', RepS X.K g H σ' δ' s → Stp (Fo g σ δ) H (Fo g σ' δ') H → (∀ vs, (∀ i ∈ ts, i ∈ vs) → wipe σ' vs = wipe σ vs) → Q σ' H) → t v σ H Q
structure DG (X : Cx) (tg : Expr) (gt : GD) (ts : List Nat) : Prop where
  keep : ∀ d δ δ', gt d δ = some δ' → ∀ j, j ∉ ts → δ'[j]? = δ[j]?
  ex : ∃ t, PG X tg t ∧ DGr X t gt ts
def DGsr (X : Cx) (t : TGs) (gt : GDs) (ts : List Nat) : Prop := ∀ (g : Gx) (σ : L2.St) (δ : Dt) (H : Hp) (s : HS) (v : List V) (d : List D) (δ' : Dt) (Q : L2.St → Hp → Prop), RepS X.K g H σ δ s → DqA X.K g.h (Fo g σ δ) H v d → gt d δ = some δ' →
  (∀ σ', RepS X.K g H σ' δ' s → Stp (Fo g σ δ) H (Fo g σ' δ') H → (∀ vs, (∀ i ∈ ts, i ∈ vs) → wipe σ' vs = wipe σ vs) → Q σ' H) → t v σ H Q
structure DGs (X : Cx) (tgs : List Expr) (gt : GDs) (ts : List Nat) : Prop where
  keep : ∀ d δ δ', gt d δ = some δ' → ∀ j, j ∉ ts → δ'[j]? = δ[j]?
  ex : ∃ t, PGs X tgs t ∧ DGsr X t gt ts
theorem wipe_in {j : Nat} : ∀ (τ : L2.St) (us : List Nat), j ∈ us → (wipe τ us)[j]? = if j < τ.length then some none else none
  | _, [], h => absurd h List.not_mem_nil
  | τ, u :: us, h => by
    show ((wipe τ us).set u none)[j]? = _
    have lu := wipe_length τ us
    by_cases hu : u = j
    · subst hu
      by_cases hl : u < τ.length
      · rw [List.getElem?_set_self (by omega), if_pos hl]
      · rw [List.getElem?_eq_none (by rw [List.length_set]; omega), if_neg hl]
    · rw [List.getElem?_set_ne hu]
      refine wipe_in τ us ?_
      rcases List.mem_cons.mp h with h | h
      · exact absurd h.symm hu
      · exact h
theorem wipe_eq {σ τ : L2.St} {vs : List Nat} (hl : τ.length = σ.length) (h : ∀ j, j ∉ vs → τ[j]? = σ[j]?) : wipe τ vs = wipe σ vs := by
  apply List.ext_getElem?
  intro j
  by_cases hj : j ∈ vs
  · rw [wipe_in _ _ hj, wipe_in _ _ hj, hl]
  · rw [wipe_out hj, wipe_out hj, h j hj]
theorem wipe_wipe (σ : L2.St) (vs : List Nat) : wipe (wipe σ vs) vs = wipe σ vs := wipe_eq (wipe_length σ vs) fun j hj => wipe_out hj
theorem wipe_set {σ : L2.St} {i : Nat} {x : Option V} {vs : List Nat} (h : i ∈ vs) : wipe (σ.set i x) vs = wipe σ vs :=
  wipe_eq (List.length_set ..) fun j hj => by
    have ne : i ≠ j := fun e => hj (by rw [← e]; exact h)
    rw [List.getElem?_set_ne ne]
section
variable {X : Cx} {tg : Expr} {tgs : List Expr} {gt : GD} {gts : GDs} {t1 t2 : List Nat} {pos : Pos}
def gnF (i : Nat) : GD := fun d δ => some (δ.set i (.fz d))
theorem dg_name (i : Nat) {x : Str} (hN : X.N.Nodup) (hi : X.N[i]? = some x := by rfl) (hx : Loc X.env.scope x := by first | exact Or.inl rfl | exact Or.inr rfl) (hf : X.fn x = true ∨ X.env.scope.names.lookup x = some .local := by first | exact .inl rfl | exact .inr rfl | assumption) : DG X (.Name x pos) (gnF i) [i] := by
  refine ⟨fun d δ δ' e j hj => by cases e; exact List.getElem?_set_ne (fun z => hj (List.mem_singleton.mpr z.symm)), gName i, pg_name hN hi hx hf, fun g σ δ H s v d δ' Q R q e k => ?_⟩
  cases e
  exact k _ (R.set q i).1 (R.set q i).2 fun vs h => wipe_set (h i (List.mem_singleton.mpr rfl))
def gnilF : GDs := fun ds δ => match ds with
  | [] => some δ
  | _ => none
def gconsF (g1 : GD) (g2 : GDs) : GDs := fun ds δ => match ds with
  | d :: r => (g1 d δ).bind (g2 r)
  | [] => none
theorem dgs_nil : DGs X [] gnilF [] := by
  refine ⟨fun d δ δ' e j hj => by cases d <;> cases e <;> rfl, gNil, pgs_nil, fun g σ δ H s v d δ' Q R q e k => ?_⟩
  cases q with
  | nil => cases e; exact ⟨rfl, k σ R .refl fun _ _ => rfl⟩
  | cons a b => cases e
theorem dgs_cons (h1 : DG X tg gt t1) (h2 : DGs X tgs gts t2) (hs : (assignEach (tg :: tgs) X.env).map (·.2) = assign tg X.env :: (assignEach tgs X.env).map (·.2) := by rfl) : DGs X (tg :: tgs) (gconsF gt gts) (t1 ++ t2) := by
  obtain ⟨u1, p1, r1⟩ := h1.ex
  obtain ⟨u2, p2, r2⟩ := h2.ex
  refine ⟨fun d δ δ' e j hj => ?_, gCons u1 u2, pgs_cons p1 p2 hs, fun g σ δ H s v d δ' Q R q e k => ?_⟩
  · cases d with
    | nil => cases e
    | cons d1 dr =>
      rw [gconsF] at e
      cases z : gt d1 δ with
      | none => simp only [z] at e; cases e
      | some δ1 =>
        simp only [z] at e
        exact (h2.keep dr δ1 δ' e j fun m => hj (List.mem_append_right _ m)).trans (h1.keep d1 δ δ1 z j fun m => hj (List.mem_append_left _ m))
  cases q with
  | nil => cases e
  | cons a b =>
    rename_i v1 vr d1 dr
    refine ⟨v1, vr, rfl, ?_⟩
    cases z : gt d1 δ with
    | none => rw [gconsF] at e; simp only [z] at e; cases e
    | some δ1 =>
      rw [gconsF] at e
      simp only [z] at e
      refine r1 g σ δ H s v1 d1 δ1 _ R a z fun σ1 R1 S1 w1 => ?_
      refine r2 g σ1 δ1 H s vr dr δ' _ R1 (b.mono S1) e fun σ2 R2 S2 w2 => ?_
      exact k σ2 R2 (S1.trans S2) fun vs h => (w2 vs fun i m => h i (List.mem_append_right _ m)).trans (w1 vs fun i m => h i (List.mem_append_left _ m))
def gtupF (n : Nat) (g : GDs) : GD := fun d δ => match d with
  | .tup ds => if ds.length = n then g ds δ else none
  | _ => none
theorem dg_tup {k n : Nat} (hc : X.calm = true) (h : DGs X tgs gts t1) (hn : (assignEach tgs X.env).length = n := by rfl) (hst : (assignEach tgs X.env).findIdx? (·.1) = none := by rfl) : DG X (.Tuple tgs k pos) (gtupF n gts) t1 := by
  obtain ⟨u, p, r⟩ := h.ex
  refine ⟨fun d δ δ' e j hj => ?_, gTup X.K n u, pg_tup hc p hn hst, fun g σ δ H s v d δ' Q R q e k => ?_⟩
  · cases d <;> simp only [gtupF] at e <;> try (cases e; done)
    rename_i ds
    by_cases hl : ds.length = n
    · rw [if_pos hl] at e; exact h.keep ds δ δ' e j hj
    · rw [if_neg hl] at e; cases e
  cases d <;> simp only [gtupF] at e <;> try (cases e; done)
  rename_i ds
  obtain ⟨a, vs, rfl, ha, qa⟩ := q.tup_inv
  by_cases hl : ds.length = n
  · rw [if_pos hl] at e
    exact ⟨a, vs, rfl, ha, qa.length.trans hl, r g σ δ H s vs ds δ' Q R qa e k⟩
  · rw [if_neg hl] at e; cases e
end

/-! ### for -/
def loopF (gt : GD) (fb : SD) : List D → Dt → HS → Fl
  | [], δ, s => .nx δ s
  | d :: ds, δ, s => match gt d δ with
    | none => .stk
    | some δ1 => match fb δ1 s with
      | .nx δ2 s2 => loopF gt fb ds δ2 s2
      | .ct δ2 s2 => loopF gt fb ds δ2 s2
      | .bk δ2 s2 => .nx δ2 s2
      | r => r
def forF (src : EA) (gt : GD) (fb : SD) : SD := fun δ s => match src δ s with
  | .ok ds s1 => loopF gt fb ds δ s1
  | .err C fs s1 => .err C fs δ s1
  | .stk => .stk
section
variable {X : Cx} {W : WX} {tg iter : Expr} {body : List Stmt} {src : EA} {gt : GD} {ts : List Nat} {fb : SD} {pos : Pos}
/-- what a walk gives at a turn is data of the turn's heap -/
theorem WkD.turn {K : PySem.W.Frag} {g : Gx} {F : Addr → Prop} {H1 H H3 : Hp} {J : It} {ds : List D} {σ : L2.St} {δ : Dt} {s : HS} {i : Nat} {x : V} (w : WkD K g F H1 J ds) (R : RepS K g H σ δ s) (S : Stp F H1 (Fo g σ δ) H) (hi : i < ds.length) (y : J.yld i H x H3) :
    ∃ d, ds[i]? = some d ∧ Same H H3 ∧ Dq K g.h (Fo g σ δ) H3 x d := by
  obtain ⟨d, e, h⟩ := (w H fun b z n e => (S b z n e).2).2.2 i x H3 hi y
  rcases h with ⟨rfl, q⟩ | ⟨T, xs, dd, rfl, nT, rfl, rfl, q⟩
  · exact ⟨d, e, Same.refl _, q.mono S⟩
  · exact ⟨_, e, same_upd nT, R.mkT nT (q.mono S)⟩
theorem ds_for (hp : PassesOwn (model X.prog X.w) X.A X.env X.xe) (hc : X.calm = true) (hi : DI X W tg iter src) (hg : DG X tg gt ts) (hb : DSs X W body fb)
    (hs : ∀ x, foldedSetIterable iter X.env x = pure x := by intro _; rfl) : DS X W (.For tg iter body [] pos) (forF src gt fb) := by
  obtain ⟨t, pg, rg⟩ := hg.ex
  refine ⟨ps_weak (ps_for hp hc hi.pi pg hb.ps hs) fun Dn σ H q => ?_⟩
  obtain ⟨g, δ, s, R, q⟩ := q
  refine ⟨g, δ, s, R, ?_⟩
  unfold forF at q
  cases z : src δ s with
  | stk => rw [z] at q; exact q
  | err C fs s1 => rw [z] at q; exact fun dx H' x hd xd => q σ dx H' (R.ex x hd) (R.stp x) xd
  | ok ds s1 =>
    rw [z] at q
    intro J H1 x1 h1 wk
    have R1 := R.ex x1 h1
    have q1 : FW X.K W g σ δ H1 Dn (loopF gt fb ds δ s1) := FW.ext q (R.stp x1)
    refine ⟨fun i m σ' H' => ∃ δ' s', m = ds.length - i ∧ i ≤ ds.length ∧ RepS X.K g H' σ' δ' s' ∧ Stp (Fo g σ δ) H1 (Fo g σ' δ') H' ∧ FW X.K W g σ δ H1 Dn (loopF gt fb (ds.drop i) δ' s'), ⟨ds.length, δ, s1, rfl, Nat.zero_le _, R1, .refl, q1⟩, ?_⟩
    rintro i m σ' H' ⟨δ', s', rfl, hi, R', S', q'⟩
    by_cases hlt : i < ds.length
    · refine .inr ⟨(wk H' fun b z n e => (S' b z n e).2).1 i hlt, _, fun σ2 H2 h => h, fun v H3 y => ?_⟩
      obtain ⟨d, e, sm, qd⟩ := wk.turn R' S' hlt y
      have R3 := R'.same sm
      have hd : ds.drop i = d :: ds.drop (i + 1) := by
        rw [List.drop_eq_getElem_cons hlt]
        rw [List.getElem?_eq_getElem hlt] at e
        cases e
        rfl
      rw [hd] at q'
      unfold loopF at q'
      cases ze : gt d δ' with
      | none => simp only [ze] at q'; exact q'.elim
      | some δ1 =>
        simp only [ze] at q'
        refine rg g σ' δ' H3 s' v d δ1 _ R3 qd ze fun σ4 R4 S4 _ => ⟨g, δ1, s', R4, ?_⟩
        have S5 : Stp (Fo g σ δ) H1 (Fo g σ4 δ1) H3 := S'.trans ((Stp.ex R'.fh (Ex.of sm)).trans S4)
        have fin : ∀ (r : Fl), FW X.K W g σ δ H1 Dn (match r with | .nx δ2 s2 => loopF gt fb (ds.drop (i + 1)) δ2 s2 | .ct δ2 s2 => loopF gt fb (ds.drop (i + 1)) δ2 s2 | .bk δ2 s2 => .nx δ2 s2 | r => r) →
            FW X.K W g σ4 δ1 H3 { Dn with nx := fun σ2 H2 => ∃ m', m' < ds.length - i ∧ ∃ δ' s', m' = ds.length - (i + 1) ∧ i + 1 ≤ ds.length ∧ RepS X.K g H2 σ2 δ' s' ∧ Stp (Fo g σ δ) H1 (Fo g σ2 δ') H2 ∧ FW X.K W g σ δ H1 Dn (loopF gt fb (ds.drop (i + 1)) δ' s'),
                                            ct := fun σ2 H2 => ∃ m', m' < ds.length - i ∧ ∃ δ' s', m' = ds.length - (i + 1) ∧ i + 1 ≤ ds.length ∧ RepS X.K g H2 σ2 δ' s' ∧ Stp (Fo g σ δ) H1 (Fo g σ2 δ') H2 ∧ FW X.K W g σ δ H1 Dn (loopF gt fb (ds.drop (i + 1)) δ' s'), bk := Dn.nx } r := by
          intro r q
          cases r with
          | nx δ2 s2 => exact fun σ2 H2 R2 S2 => ⟨ds.length - (i + 1), by omega, δ2, s2, rfl, hlt, R2, S5.trans S2, q⟩
          | ct δ2 s2 => exact fun σ2 H2 R2 S2 => ⟨ds.length - (i + 1), by omega, δ2, s2, rfl, hlt, R2, S5.trans S2, q⟩
          | bk δ2 s2 => exact fun σ2 H2 R2 S2 => q σ2 H2 R2 (S5.trans S2)
          | rt d s2 => exact q
          | err C fs δ2 s2 => exact fun σ2 dx H2 R2 S2 => q σ2 dx H2 R2 (S5.trans S2)
          | stk => exact q
        exact fin _ q'
    · have hil : i = ds.length := by omega
      subst hil
      rw [List.drop_length] at q'
      exact .inl ⟨(wk H' fun b z n e => (S' b z n e).2).2.1, q' σ' H' R' S'⟩
end

/-! ### [.. for .. in ..] -/
def Re.bindN {α β : Type} : Re α → (α → HS → Re β) → Re β
  | .ok a s, k => k a s
  | _, _ => .stk
def lcL (gt : GD) (ft : ET) (fe : ED) (δ : Dt) : List D → HS → Re (List D)
  | [], s => .ok [] s
  | d :: ds, s => match gt d δ with
    | none => .stk
    | some δ1 => (ft δ1 s).bindN fun b s1 => if b = true then (fe δ1 s1).bindN fun y s2 => (lcL gt ft fe δ ds s2).bindN fun ys s3 => .ok (y :: ys) s3 else lcL gt ft fe δ ds s1
def isUn (δ : Dt) (i : Nat) : Bool := match δ[i]? with
  | some .un => true
  | _ => false
def lcF (src : EA) (gt : GD) (ft : ET) (fe : ED) (vs : List Nat) : ED := fun δ s => (src δ s).bind fun ds s1 => if (vs.all (isUn δ) && decide (ds.length ≤ 1000000)) = true then (lcL gt ft fe δ ds s1).bindN fun ys s2 => .ok (.lst ys) s2 else .stk
abbrev WF : WX := fun _ _ _ _ => False
structure DTs (X : Cx) (ifs : List Expr) (f : ET) : Prop where
  pts : PTs X ifs (TDT X.K WF f)
theorem dts_nil {X : Cx} : DTs X [] (fun _ s => .ok true s) := ⟨⟨fun pins s σ H Q I ⟨g, δ, hs, R, q⟩ => (pts_nil (X := X)).run pins s σ H Q I (q true H (Ex.refl H) R.hand rfl)⟩⟩
theorem dts_one {X : Cx} {c : Expr} {f : ET} (h : DT X WF c f) : DTs X [c] f := ⟨pts_one h.pt⟩
section
variable {K : PySem.W.Frag} {g : Gx} {σ : L2.St} {δ : Dt} {H : Hp} {s : HS}
theorem RepS.wipe (R : RepS K g H σ δ s) {vs : List Nat} (hv : vs.all (isUn δ) = true) : RepS K g H (L2.wipe σ vs) δ s ∧ Fo g (L2.wipe σ vs) δ = Fo g σ δ := by
  have no : ∀ (i : Nat) (x : Sl), i ∈ vs → δ[i]? = some x → x = .un := fun i x hi e => by
    have := List.all_eq_true.mp hv i hi
    unfold isUn at this
    rw [e] at this
    cases x <;> first | rfl | cases this
  have same : ∀ (i : Nat) (x : Sl), δ[i]? = some x → x ≠ .un → (L2.wipe σ vs)[i]? = σ[i]? := fun i x e n => wipe_out fun hi => n (no i x hi e)
  have hF : Fo g (L2.wipe σ vs) δ = Fo g σ δ := by
    funext a
    apply propext
    constructor
    · rintro (f | f | ⟨i, ds, h1, h2⟩)
      · exact .inl f
      · exact .inr (.inl f)
      · rw [same i _ h1 (by simp)] at h2; exact .inr (.inr ⟨i, ds, h1, h2⟩)
    · rintro (f | f | ⟨i, ds, h1, h2⟩)
      · exact .inl f
      · exact .inr (.inl f)
      · refine .inr (.inr ⟨i, ds, h1, ?_⟩); rw [same i _ h1 (by simp)]; exact h2
  refine ⟨⟨R.old, R.f0, R.c0, R.tm, R.hand, fun i d e => ?_, fun i ds e => ?_, fun i j ds es a e1 e2 e3 e4 => ?_, by rw [wipe_length]; exact R.len⟩, hF⟩
  · rw [same i _ e (by simp), hF]; exact R.sl i d e
  · rw [same i _ e (by simp), hF]; exact R.ow i ds e
  · rw [same i _ e1 (by simp)] at e3; rw [same j _ e2 (by simp)] at e4; exact R.ap i j ds es a e1 e2 e3 e4
end
/-- a list that is being made stands apart -/
def Gx.temp (g : Gx) (D0 : Addr) : Gx := { g with Ft := fun a => g.Ft a ∨ a = D0 }
section
variable {K : PySem.W.Frag} {g : Gx} {σ σ1 : L2.St} {δ δ1 : Dt} {H : Hp} {s : HS} {D0 : Addr}
theorem fo_temp {a : Addr} : Fo (g.temp D0) σ δ a ↔ Fo g σ δ a ∨ a = D0 := by
  constructor
  · rintro (f | (f | f) | f)
    · exact .inl (.inl f)
    · exact .inl (.inr (.inl f))
    · exact .inr f
    · exact .inl (.inr (.inr f))
  · rintro ((f | f | f) | f)
    · exact .inl f
    · exact .inr (.inl (.inl f))
    · exact .inr (.inr f)
    · exact .inr (.inl (.inr f))
theorem RepS.no0 (R : RepS K g H σ δ s) (n : H D0 = none) : g.H0 D0 = none ∧ D0 ≠ g.h := by
  have hh : D0 ≠ g.h := fun e => by rw [e, R.hand.2.2] at n; cases n
  refine ⟨?_, hh⟩
  cases z : g.H0 D0 with
  | none => rfl
  | some o => rw [R.old D0 o hh z] at n; cases n
theorem RepS.temp (R : RepS K g H σ δ s) (n : H D0 = none) (o : HO) : RepS K (g.temp D0) (upd H D0 o) σ δ s ∧ Stp (Fo g σ δ) H (Fo (g.temp D0) σ δ) (upd H D0 o) := by
  obtain ⟨n0, nh⟩ := R.no0 n
  have sm := same_upd (o := o) n
  have st : Stp (Fo g σ δ) H (Fo (g.temp D0) σ δ) (upd H D0 o) := fun b z nf e => by
    have hb : b ≠ D0 := fun q => by rw [q, n] at e; cases e
    refine ⟨fun f => ?_, by rw [upd_ne hb]; exact e⟩
    rcases fo_temp.mp f with f | f
    · exact nf f
    · exact hb f
  refine ⟨⟨R.old.trans (Ex.of sm), R.f0, R.c0, fun a f => ?_, R.hand.same sm, fun i d e => ?_, fun i ds e => ?_, R.ap, R.len⟩, st⟩
  · rcases f with f | f
    · obtain ⟨h1, h2⟩ := R.tm a f
      have : a ≠ D0 := fun q => h1 (by rw [q]; exact n)
      exact ⟨by rw [upd_ne this]; exact h1, h2⟩
    · rw [f]; exact ⟨(by rw [upd_same]; intro z; cases z), n0⟩
  · obtain ⟨v, e1, q⟩ := R.sl i d e
    exact ⟨v, e1, q.mono st⟩
  · obtain ⟨a, vs, e1, e2, q, z, nt⟩ := R.ow i ds e
    have ha : a ≠ D0 := fun q => by rw [q, n] at e2; cases e2
    refine ⟨a, vs, e1, by rw [upd_ne ha]; exact e2, q.mono st, z, fun f => ?_⟩
    rcases f with f | f
    · exact nt f
    · exact ha f
theorem RepS.tset (R : RepS K g H σ δ s) (t : g.Ft D0) (o : HO) : RepS K g (upd H D0 o) σ δ s ∧ Stp (Fo g σ δ) H (Fo g σ δ) (upd H D0 o) := by
  obtain ⟨n1, n0⟩ := R.tm D0 t
  have nh : D0 ≠ g.h := fun e => R.f0.2 _ R.f0.1 (by rw [← e]; exact n0)
  have nc : D0 ≠ g.c := fun e => R.c0.1 (by rw [← e]; exact n0)
  have st : Stp (Fo g σ δ) H (Fo g σ δ) (upd H D0 o) := fun b z nf e => by
    have hb : b ≠ D0 := fun q => nf (q ▸ .inr (.inl t))
    exact ⟨nf, by rw [upd_ne hb]; exact e⟩
  refine ⟨⟨fun b z nb e => ?_, R.f0, R.c0, fun a f => ?_, ?_, fun i d e => ?_, fun i ds e => ?_, R.ap, R.len⟩, st⟩
  · have hb : b ≠ D0 := fun q => by rw [q, n0] at e; cases e
    rw [upd_ne hb]; exact R.old b z nb e
  · by_cases ha : a = D0
    · rw [ha]; exact ⟨(by rw [upd_same]; intro z; cases z), n0⟩
    · rw [upd_ne ha]; exact R.tm a f
  · exact ⟨R.hand.1, by rw [upd_ne nc.symm]; exact R.hand.2.1, by rw [upd_ne nh.symm]; exact R.hand.2.2⟩
  · obtain ⟨v, e1, q⟩ := R.sl i d e
    exact ⟨v, e1, q.mono st⟩
  · obtain ⟨a, vs, e1, e2, q, z, nt⟩ := R.ow i ds e
    have ha : a ≠ D0 := fun q => nt (q ▸ t)
    exact ⟨a, vs, e1, by rw [upd_ne ha]; exact e2, q.mono st, z, nt⟩
end
section
variable {gt : GD} {ts : List Nat} {ft : ET} {fe : ED}
/-- the turns of a comprehension -/
theorem lc_turns {K : PySem.W.Frag} {W : WX} {g : Gx} {σ : L2.St} {δ : Dt} {H1 : Hp} {s1 : HS} {J : It} {ds : List D} {vs : List Nat} {t : TG} {Q : VK} {tt : TT} {te : TE} (R1 : RepS K g H1 σ δ s1) (hv : vs.all (isUn δ) = true) (hz : ds.length ≤ 1000000) (wk : WkD K g (Fo g σ δ) H1 J ds)
    (rg : ∀ (g : Gx) (σ : L2.St) (δ : Dt) (H : Hp) (s : HS) (v : V) (d : D) (δ' : Dt) (Q : L2.St → Hp → Prop), RepS K g H σ δ s → Dq K g.h (Fo g σ δ) H v d → gt d δ = some δ' →
      (∀ σ', RepS K g H σ' δ' s → Stp (Fo g σ δ) H (Fo g σ' δ') H → (∀ vs, (∀ i ∈ ts, i ∈ vs) → wipe σ' vs = wipe σ vs) → Q σ' H) → t v σ H Q) (keep : ∀ d δ δ', gt d δ = some δ' → ∀ j, j ∉ ts → δ'[j]? = δ[j]?) (hts : ∀ i ∈ ts, i ∈ vs)
    (htt : ∀ σ H Q, TDT K WF ft σ H Q → tt σ H Q) (hte : ∀ σ H Q, TD K WF fe σ H Q → te σ H Q)
    (q : RW K W g σ δ H1 (relD K g) Q ((lcL gt ft fe δ ds s1).bindN fun ys s2 => .ok (.lst ys) s2)) (D0 : Addr) (nD : H1 D0 = none) :
    ∃ Wt : Nat → Nat → Hp → Prop, (∃ m, Wt 0 m (upd H1 D0 (.lst []))) ∧ ∀ i m H, Wt i m H →
      (J.stop i H ∧ Q (.ref D0) H) ∨ (J.go i H ∧ ∃ Nx : Hp → Prop, (∀ H', Nx H' → ∃ m', m' < m ∧ Wt (i + 1) m' H') ∧ ∀ x H', J.yld i H x H' → t x (wipe σ vs) H' fun σ2 H2 => wipe σ2 vs = wipe σ vs ∧ tt σ2 H2 fun b H3 =>
        if b = true then te σ2 H3 fun y H4 => ∃ acc, H4 D0 = some (.lst acc) ∧ acc.length < sizeLine ∧ Nx (upd H4 D0 (.lst (acc ++ [y]))) else Nx H3) := by
  have nh : D0 ≠ g.h := (R1.no0 nD).2
  have dh : ∀ b z, b ≠ g.h → H1 b = some z → b ≠ D0 := fun b z _ e q => by rw [q, nD] at e; cases e
  let P : Nat → Hp → Prop := fun i H => ∃ s' acc accD, H D0 = some (.lst acc) ∧ acc.length ≤ i ∧ DqA K g.h (Fo (g.temp D0) σ δ) H acc accD ∧ RepS K (g.temp D0) H σ δ s' ∧ Ex g.h H1 H ∧
    RW K W g σ δ H1 (relD K g) Q ((lcL gt ft fe δ (ds.drop i) s').bindN fun ys s2 => .ok (.lst (accD ++ ys)) s2)
  have stp : ∀ {H}, Ex g.h H1 H → Stp (Fo g σ δ) H1 (Fo (g.temp D0) σ δ) H := fun {H} x b z nf e => by
    have hb := R1.neh nf
    refine ⟨fun f => ?_, x b z hb e⟩
    rcases fo_temp.mp f with f | f
    · exact nf f
    · exact dh b z hb e f
  refine ⟨fun i m H => m = ds.length - i ∧ i ≤ ds.length ∧ P i H, ⟨ds.length, rfl, Nat.zero_le _, s1, [], [], upd_same, Nat.le_refl _, .nil, (R1.temp nD (.lst [])).1, Ex.of (same_upd nD), q⟩, ?_⟩
  rintro i m H ⟨rfl, hi, s', acc, accD, hD, hacc, qacc, R, X, q⟩
  have S := stp X
  have kk : ∀ b z, ¬ Fo g σ δ b → H1 b = some z → H b = some z := fun b z n e => (S b z n e).2
  by_cases hlt : i < ds.length
  · refine .inr ⟨(wk H kk).1 i hlt, fun H' => i + 1 ≤ ds.length ∧ P (i + 1) H', fun H' p => ⟨ds.length - (i + 1), by omega, rfl, p.1, p.2⟩, fun x H3 y => ?_⟩
    have hdrop : ∀ d, ds[i]? = some d → ds.drop i = d :: ds.drop (i + 1) := fun d e => by
      rw [List.drop_eq_getElem_cons hlt]
      rw [List.getElem?_eq_getElem hlt] at e
      cases e
      rfl
    obtain ⟨d, e, sm, qd⟩ : ∃ d, ds[i]? = some d ∧ Same H H3 ∧ Dq K g.h (Fo (g.temp D0) σ δ) H3 x d := by
      obtain ⟨d, e, hh⟩ := (wk H kk).2.2 i x H3 hlt y
      rcases hh with ⟨rfl, qq⟩ | ⟨T, xs, dd, rfl, nT, rfl, rfl, qq⟩
      · exact ⟨d, e, Same.refl _, qq.mono S⟩
      · exact ⟨_, e, same_upd nT, R.mkT nT (qq.mono S)⟩
    rw [hdrop d e] at q
    unfold lcL at q
    have R3 := R.same sm
    obtain ⟨Rw, hF⟩ := R3.wipe hv
    cases ze : gt d δ with
    | none => simp only [ze] at q; exact q.elim
    | some δ1 =>
      simp only [ze] at q
      have no : ∀ (j : Nat), j ∈ vs → δ[j]? = none ∨ δ[j]? = some .un := fun j hj => by
        have := List.all_eq_true.mp hv j hj
        unfold isUn at this
        cases z : δ[j]? with
        | none => exact .inl rfl
        | some x =>
          rw [z] at this
          cases x <;> first | exact .inr rfl | cases this
      refine rg (g.temp D0) (wipe σ vs) δ H3 s' x d δ1 _ Rw (by rw [hF]; exact qd) ze fun σ4 R4 S4 w4 => ⟨(w4 vs hts).trans (wipe_wipe σ vs), ?_⟩
      -- owned slots of δ are owned in δ1
      have sub : ∀ b, Fo (g.temp D0) σ δ b → Fo (g.temp D0) σ4 δ1 b := by
        rintro b (f | f | ⟨j, es, h1, h2⟩)
        · exact .inl f
        · exact .inr (.inl f)
        · have nj : j ∉ vs := fun hj => by
            rcases no j hj with z | z
            · rw [z] at h1; cases h1
            · rw [z] at h1; cases h1
          refine .inr (.inr ⟨j, es, ?_, ?_⟩)
          · rw [keep d δ δ1 ze j fun m => nj (hts j m)]; exact h1
          · have : σ4[j]? = (wipe σ4 vs)[j]? := (wipe_out nj).symm
            rw [this, w4 vs hts, wipe_wipe, wipe_out nj]
            exact h2
      have back : ∀ {H5 v y}, Dq K g.h (Fo (g.temp D0) σ4 δ1) H5 v y → Dq K g.h (Fo (g.temp D0) σ δ) H5 v y := fun {H5 v y} qq => qq.mono fun b z n e => ⟨fun f => n (sub b f), e⟩
      refine htt σ4 H3 _ ⟨g.temp D0, δ1, s', R4, ?_⟩
      have D3 : H3 D0 = some (.lst acc) := sm _ _ hD
      cases zt : ft δ1 s' with
      | stk => rw [zt] at q; exact q.elim
      | err C fs s2 => rw [zt] at q; exact q.elim
      | ok b s2 =>
        rw [zt] at q
        rintro bv H4 x4 h4 rfl
        have D4 : H4 D0 = some (.lst acc) := x4 _ _ nh D3
        have X4 : Ex g.h H1 H4 := X.trans ((Ex.of sm).trans x4)
        have Rδ4 : RepS K (g.temp D0) H4 σ δ s2 := R3.ex x4 h4
        have qacc4 : DqA K g.h (Fo (g.temp D0) σ δ) H4 acc accD := R3.upA x4 (R.upA (Ex.of sm) qacc)
        cases bv with
        | false => exact ⟨hlt, s2, acc, accD, D4, Nat.le_succ_of_le hacc, qacc4, Rδ4, X4, q⟩
        | true =>
          refine hte σ4 H4 _ ⟨g.temp D0, δ1, s2, R4.ex x4 h4, ?_⟩
          change RW K W g σ δ H1 (relD K g) Q (((fe δ1 s2).bindN fun y s2 => (lcL gt ft fe δ (ds.drop (i + 1)) s2).bindN fun ys s3 => .ok (y :: ys) s3).bindN fun ys s2 => .ok (.lst (accD ++ ys)) s2) at q
          cases zf : fe δ1 s2 with
          | stk => rw [zf] at q; exact q.elim
          | err C fs s2 => rw [zf] at q; exact q.elim
          | ok yd s3 =>
            rw [zf] at q
            intro v H5 x5 h5 qv
            have D5 : H5 D0 = some (.lst acc) := x5 _ _ nh D4
            have Rδ5 : RepS K (g.temp D0) H5 σ δ s3 := Rδ4.ex x5 h5
            obtain ⟨R6, S6⟩ := Rδ5.tset (D0 := D0) (.inr rfl) (.lst (acc ++ [v]))
            have q5 : DqA K g.h (Fo (g.temp D0) σ δ) H5 (acc ++ [v]) (accD ++ [yd]) := (Rδ4.upA x5 qacc4).append (.cons (back qv) .nil)
            refine ⟨acc, D5, by rw [sizeLine_eq]; omega, hlt, s3, acc ++ [v], accD ++ [yd], upd_same, by rw [List.length_append]; exact Nat.succ_le_succ hacc, q5.mono S6, R6, fun b z nb e => ?_, ?_⟩
            · rw [upd_ne (dh b z nb e)]
              exact (X4.trans x5) b z nb e
            · cases zr : lcL gt ft fe δ (ds.drop (i + 1)) s3 with
              | stk =>
                have q' : RW K W g σ δ H1 (relD K g) Q (((lcL gt ft fe δ (ds.drop (i + 1)) s3).bindN fun ys s3 => .ok (yd :: ys) s3).bindN fun ys s2 => .ok (.lst (accD ++ ys)) s2) := q
                rw [zr] at q'; exact q'.elim
              | err C fs s4 =>
                have q' : RW K W g σ δ H1 (relD K g) Q (((lcL gt ft fe δ (ds.drop (i + 1)) s3).bindN fun ys s3 => .ok (yd :: ys) s3).bindN fun ys s2 => .ok (.lst (accD ++ ys)) s2) := q
                rw [zr] at q'; exact q'.elim
              | ok ys s4 =>
                have q' : RW K W g σ δ H1 (relD K g) Q (((lcL gt ft fe δ (ds.drop (i + 1)) s3).bindN fun ys s3 => .ok (yd :: ys) s3).bindN fun ys s2 => .ok (.lst (accD ++ ys)) s2) := q
                rw [zr] at q'
                have e2 : accD ++ yd :: ys = accD ++ [yd] ++ ys := by rw [List.append_assoc]; rfl
                have q2 : RW K W g σ δ H1 (relD K g) Q (.ok (.lst (accD ++ yd :: ys)) s4) := q'
                rw [e2] at q2
                exact q2
  · have hil : i = ds.length := by omega
    subst hil
    rw [List.drop_length] at q
    refine .inl ⟨(wk H kk).2.1, ?_⟩
    have q' : RW K W g σ δ H1 (relD K g) Q (.ok (.lst (accD ++ [])) s') := q
    rw [List.append_nil] at q'
    refine q' _ H X R.hand (.lst (R1.nfresh nD) hD ?_)
    exact qacc.mono fun b z n e => ⟨fun f => n (fo_temp.mpr (.inl f)), e⟩
end
section
variable {X : Cx} {W : WX} {elt tg iter : Expr} {ifs : List Expr} {scope : Scope} {own : List (Str × Nat)} {src : EA} {gt : GD} {ts : List Nat} {ft : ET} {fe : ED} {pos : Pos}
theorem de_lc (hc : X.calm = true) (hN : X.N.Nodup) (hi : DI X W tg iter src) (ok : BlkOk X.N X.env.scope scope own)
    (hg : ∃ t, (∀ (s : Shared) (H : Hp) (C : Addr) (cl : List (Str × Addr)) (fp : List Addr), PG (X.blk s H scope (compEnvC scope cl C X.env) fp) tg t) ∧ DGr X t gt ts) (keep : ∀ d δ δ', gt d δ = some δ' → ∀ j, j ∉ ts → δ'[j]? = δ[j]?) (hts : ∀ i ∈ ts, i ∈ own.map (·.2))
    (ht : ∀ (s : Shared) (H : Hp) (C : Addr) (cl : List (Str × Addr)) (fp : List Addr), DTs (X.blk s H scope (compEnvC scope cl C X.env) fp) ifs ft)
    (he : ∀ (s : Shared) (H : Hp) (C : Addr) (cl : List (Str × Addr)) (fp : List Addr), DE (X.blk s H scope (compEnvC scope cl C X.env) fp) WF elt fe) (hs : ∀ x, foldedSetIterable iter X.env x = pure x := by intro _; rfl) :
    DE X W (.ListComp elt [⟨tg, iter, ifs, 0⟩] scope pos) (lcF src gt ft fe (own.map (·.2))) := by
  obtain ⟨t, pg, rg⟩ := hg
  refine ⟨pe_weak (pe_lc (tt := TDT X.K WF ft) (te := TD X.K WF fe) hc hN hi.pi ok pg (fun s H C cl fp => (ht s H C cl fp).pts) (fun s H C cl fp => (he s H C cl fp).pe) hs) fun σ H Q q => ?_⟩
  obtain ⟨g, δ, s, R, q⟩ := q
  refine ⟨g, δ, s, R, (RW.bind (rel := relW X.K g) q).mono ?_⟩
  rintro J H1 ⟨ds, s1, x1, h1, wk, q⟩ D0 nD
  by_cases hcond : ((own.map (·.2)).all (isUn δ) && decide (ds.length ≤ 1000000)) = true
  · rw [if_pos hcond] at q
    obtain ⟨c1, c2⟩ := Bool.and_eq_true_iff.mp hcond
    exact lc_turns (R.ex x1 h1) c1 (of_decide_eq_true c2) wk rg keep hts (fun _ _ _ z => z) (fun _ _ _ z => z) q D0 nD
  · rw [if_neg hcond] at q; exact q.elim
end
end DL

-- part DLk
set_option maxHeartbeats 1000000
namespace DL
open PySem PySem.Spec PyProof.Rows L2

/-! ### targets within a comprehension: what they do, told by K alone -/
theorem dgr_name {X : Cx} (i : Nat) : DGr X (gName i) (gnF i) [i] := fun g σ δ H s v d δ' Q R q e k => by
  cases e
  exact k _ (R.set q i).1 (R.set q i).2 fun vs h => wipe_set (h i (List.mem_singleton.mpr rfl))
theorem keep_name (i : Nat) : ∀ d δ δ', gnF i d δ = some δ' → ∀ j, j ∉ [i] → δ'[j]? = δ[j]? := fun d δ δ' e j hj => by
  cases e; exact List.getElem?_set_ne (fun z => hj (List.mem_singleton.mpr z.symm))
/-- a, b in a comprehension -/
def gpairF (i j : Nat) : GD := gtupF 2 (gconsF (gnF i) (gconsF (gnF j) gnilF))
theorem dgr_pair {X : Cx} (i j : Nat) : DGr X (gTup X.K 2 (gCons (gName i) (gCons (gName j) gNil))) (gpairF i j) [i, j] := fun g σ δ H s v d δ' Q R q e k => by
  cases d <;> simp only [gpairF, gtupF] at e <;> try (cases e; done)
  rename_i ds
  obtain ⟨a, vs, rfl, ha, qa⟩ := q.tup_inv
  match ds, qa, e with
  | [], _, e => cases e
  | [_], _, e => cases e
  | _ :: _ :: _ :: _, _, e => rw [if_neg (by simp)] at e; cases e
  | [d1, d2], qa, e =>
    rw [if_pos (show [d1, d2].length = 2 from rfl)] at e
    obtain ⟨v1, v2, rfl, q1, q2⟩ := qa.two
    cases e
    refine ⟨a, _, rfl, ha, rfl, v1, [v2], rfl, ?_⟩
    obtain ⟨R1, S1⟩ := R.set q1 i
    refine ⟨v2, [], rfl, rfl, ?_⟩
    obtain ⟨R2, S2⟩ := R1.set (q2.mono S1) j
    exact k _ R2 (S1.trans S2) fun vs h => (wipe_set (h j (by simp))).trans (wipe_set (h i (by simp)))
theorem keep_pair (i j : Nat) : ∀ d δ δ', gpairF i j d δ = some δ' → ∀ k, k ∉ [i, j] → δ'[k]? = δ[k]? := fun d δ δ' e k hk => by
  cases d <;> simp only [gpairF, gtupF] at e <;> try (cases e; done)
  rename_i ds
  match ds, e with
  | [], e => cases e
  | [_], e => cases e
  | _ :: _ :: _ :: _, e => rw [if_neg (by simp)] at e; cases e
  | [d1, d2], e =>
    rw [if_pos (show [d1, d2].length = 2 from rfl)] at e
    cases e
    rw [List.getElem?_set_ne (fun z => hk (by simp [z])), List.getElem?_set_ne (fun z => hk (by simp [z]))]

/-! ### raise C(e), C an own class whose __init__ keeps one field -/
def spIn1 (C : Addr) (f : Str) : Sp := fun vs H Q _ => ∃ a v, vs = [.ref a, v] ∧ H a = some (exo a C none) ∧ ∀ dx, H dx = none → dx ≠ a → Q .non (upd (upd H dx (exd dx [(f, v)])) a (exo a C (some dx)))
section
variable {P : Program} {w : World} {K : PySem.W.Frag} {mg : Str → Option Value} {base : Heap}
theorem init1_ok {x qual fld : Str} {st : Stmt} {f C : Addr} {fd : FuncData} {p1 p2 p3 p4 : Pos} {ps : List Str} (F : Fun K x qual st f fd) (S : FnScope ps ps (defScope st)) (hps : ps = [("self" : Str), fld]) (hb : defBody st = [.Assign [.Attribute (.Name ("self" : Str) p1) fld p2] (.Name fld p3) p4])
    (T : OexC K C) (hno : PySem.W.findIn K (.ref C) fld = some none) (h1 : (defScope st).names.lookup ("self" : Str) = some .local) (h2 : (defScope st).names.lookup fld = some .local) (hd : (fld == ("__debug__" : Str)) = false) (hcd : (fld == ("__classdict__" : Str)) = false) :
    FnOk P w K mg base CX0 1 f fd ps (spIn1 C fld) := by
  subst hps
  refine F.ok S (fun vs H Q E h => ?_) (fun cdv A outer s H vs Q E hr h => ?_)
  · obtain ⟨a, v, rfl, _⟩ := h
    rfl
  · rw [hb]
    obtain ⟨a, v, rfl, ha, q⟩ := h
    exact ⟨_, pss_one (ps_ost (pe_var (i := 0) rfl (.inl h1)) (pe_var (i := 1) rfl (.inl h2) hd hcd)), v, rfl, .ref a, rfl, a, C, rfl, T, hno, .inl ⟨ha, q⟩⟩
end
section
variable {X : Cx} {W : WX} {e : Expr} {f : ED} {x : Str} {C fI : Addr} {fd : FuncData} {ps : List Str} {fld : Str} {p pos pos2 : Pos} {k : Nat}
theorem ds_raise1 (hc : X.calm = true) (T : OexC X.K C) (iC : PySem.W.findIn X.K (.ref C) "__init__" = some (some (.ref fI))) (tI : PySem.W.typeIn X.K (.ref fI) = some (.type "function")) (F1 : FnOk X.prog X.w X.K X.mg X.base CX0 1 fI fd ps (spIn1 C fld)) (hr : Room (1 + 1) X.A) (hb : Binds X.K fd ps []) (hg : Gl X x) (hm : X.mg x = some (.ref C))
    (tk : Takes X W) (he : DE X W e f) (hdb : (x == ("__debug__" : Str)) = false := by decide) (hs : starEach [e] X.env = (false, eval e X.env) :: starEach [] X.env := by rfl) (hpl : (backTo pos (starEach [] X.env)).any (·.1) = false := by rfl) :
    DS X W (.Raise (some (.Call (.Name x p) [e] [] pos)) none pos2) (ofE f fun d δ s => .err C [(fld, d)] δ s) := by
  refine ⟨ps_weak (ps_raise hc tk (pmk_oex T iC tI F1 hr hb .nil pass0 hg hm (pa_cons he.pe pa_nil hs) hdb hs hpl)) fun Dn σ H q => ?_⟩
  obtain ⟨g, δ, s, R, q⟩ := ofE_td q
  refine ⟨g, δ, s, R, q.mono ?_⟩
  rintro v H1 ⟨g', δ', s', d, R', qd, qf⟩
  refine ⟨(show 1 ≤ 1000 by decide), fun a na => ⟨a, v, rfl, upd_same, fun dx nd nda => ⟨rfl, dx, [(fld, v)], upd_same, ?_, ?_, ?_⟩⟩⟩
  · rw [upd_ne nda, upd_same]
  · rw [upd_ne nda] at nd; exact nd
  · have nd1 : H1 dx = none := by rw [upd_ne nda] at nd; exact nd
    have hH : ∀ b z, H1 b = some z → (upd (del (upd (upd (upd H1 a (exo a C none)) dx (exd dx [(fld, v)])) a (exo a C (some dx))) a) dx (.xd [(fld, v)])) b = some z := fun b z e => by
      have b1 : b ≠ dx := ne_of_none e nd1
      have b2 : b ≠ a := ne_of_none e na
      rw [upd_ne b1, del_ne b2, upd_ne b2, upd_ne b1, upd_ne b2]
      exact e
    have sm : Same H1 _ := hH
    refine qf σ dx _ (R'.same sm) (Stp.ex R'.fh (Ex.of sm)) ⟨[v], upd_same, .cons (R'.up (Ex.of sm) qd) .nil⟩
end

/-! ### try: .. except C as n: one statement -/
/-- as TD, with the caught exception's fields at dx, the exception at a in slot i -/
def TDX (K : PySem.W.Frag) (i : Nat) (a dx : Addr) (fs : List (Str × D)) (f : ED) : TE := fun σ H Q => σ[i]? = some (some (.ref a)) ∧ ∃ g δ s, RepS K g H σ δ s ∧ XdAt K g.h (Fo g σ δ) H dx fs ∧ dx ≠ g.h ∧ RW K WF g σ δ H (relD K g) Q (f δ s)
def TDAX (K : PySem.W.Frag) (i : Nat) (a dx : Addr) (fs : List (Str × D)) (f : EA) : TA := fun σ H Q => σ[i]? = some (some (.ref a)) ∧ ∃ g δ s, RepS K g H σ δ s ∧ XdAt K g.h (Fo g σ δ) H dx fs ∧ dx ≠ g.h ∧ RW K WF g σ δ H (relA K g) Q (f δ s)
structure SE (X : Cx) (i : Nat) (a dx : Addr) (fs : List (Str × D)) (e : Expr) (f : ED) : Prop where
  pe : PE X e (TDX X.K i a dx fs f)
structure SA (X : Cx) (i : Nat) (a dx : Addr) (fs : List (Str × D)) (es : List Expr) (f : EA) : Prop where
  pa : PA X es (TDAX X.K i a dx fs f)
theorem XdAt.up {K : PySem.W.Frag} {g : Gx} {σ : L2.St} {δ : Dt} {H H' : Hp} {s : HS} {dx : Addr} {fs : List (Str × D)} (x : XdAt K g.h (Fo g σ δ) H dx fs) (R : RepS K g H σ δ s) (nd : dx ≠ g.h) (e : Ex g.h H H') : XdAt K g.h (Fo g σ δ) H' dx fs := by
  obtain ⟨vs, h1, h2⟩ := x
  exact ⟨vs, e dx _ nd h1, R.upA e h2⟩
section
variable {X : Cx} {i : Nat} {a dx : Addr} {fs : List (Str × D)} {e : Expr} {es : List Expr} {f : ED} {fa : EA} {pos : Pos}
theorem se_of (h : DE X WF e f) : SE X i a dx fs e f := ⟨pe_weak h.pe fun σ H Q ⟨_, g, δ, s, R, _, _, q⟩ => ⟨g, δ, s, R, q⟩⟩
theorem sa_nil : SA X i a dx fs [] aNil := ⟨pa_weak pa_nil fun σ H Q ⟨_, g, δ, s, R, _, _, q⟩ => q [] H (Ex.refl H) R.hand .nil⟩
theorem sa_cons (ha : SE X i a dx fs e f) (hr : SA X i a dx fs es fa) (hs : starEach (e :: es) X.env = (false, eval e X.env) :: starEach es X.env := by rfl) : SA X i a dx fs (e :: es) (aCons f fa) := by
  refine ⟨pa_weak (pa_cons ha.pe hr.pa hs) fun σ H Q q => ?_⟩
  obtain ⟨z, g, δ, s, R, xd, nd, q⟩ := q
  refine ⟨z, g, δ, s, R, xd, nd, (RW.bind (rel := relD X.K g) q).mono ?_⟩
  rintro x H1 ⟨dx', s1, x1, h1, qx, q⟩
  have R1 := R.ex x1 h1
  refine ⟨z, g, δ, s1, R1, xd.up R nd x1, nd, (RW.bind (rel := relA X.K g) q).mono ?_⟩
  rintro y H2 ⟨dy, s2, x2, h2, qy, q⟩
  exact q _ H2 (Ex.refl H2) h2 (.cons (R1.up x2 qx) qy)
theorem se_tup {k} (h : SA X i a dx fs es fa) : SE X i a dx fs (.Tuple es k pos) (FA mkT fa) := by
  refine ⟨pe_weak (pe_tup h.pa) fun σ H Q q => ?_⟩
  obtain ⟨z, g, δ, s, R, xd, nd, q⟩ := q
  refine ⟨z, g, δ, s, R, xd, nd, (RW.bind (rel := relA X.K g) q).mono ?_⟩
  rintro x H1 ⟨ds, s1, x1, h1, qx, q⟩
  have R1 := R.ex x1 h1
  unfold mkT at q
  by_cases hl : ds.length ≤ 1000000
  · rw [if_pos hl] at q
    exact ⟨line6 (by rw [qx.length]; exact hl), fun p np => q _ _ (Ex.of (same_upd np)) (h1.same (same_upd np)) (R1.mkT np qx)⟩
  · rw [if_neg hl] at q; exact q.elim
theorem se_lst (h : SA X i a dx fs es fa) : SE X i a dx fs (.List es pos) (FA mkL fa) := by
  refine ⟨pe_weak (pe_lst h.pa) fun σ H Q q => ?_⟩
  obtain ⟨z, g, δ, s, R, xd, nd, q⟩ := q
  refine ⟨z, g, δ, s, R, xd, nd, (RW.bind (rel := relA X.K g) q).mono ?_⟩
  rintro x H1 ⟨ds, s1, x1, h1, qx, q⟩
  have R1 := R.ex x1 h1
  unfold mkL at q
  by_cases hl : ds.length ≤ 1000000
  · rw [if_pos hl] at q
    exact ⟨line6 (by rw [qx.length]; exact hl), fun p np => q _ _ (Ex.of (same_upd np)) (h1.same (same_upd np)) (R1.mkL np qx)⟩
  · rw [if_neg hl] at q; exact q.elim
theorem xd_look {K : PySem.W.Frag} {h : Addr} {F : Addr → Prop} {H : Hp} : ∀ {fs : List (Str × D)} {vs : List V} {n : Str} {d : D}, DqA K h F H vs (fs.map (·.2)) → fs.lookup n = some d → ∃ v, ((fs.map (·.1)).zip vs).lookup n = some v ∧ Dq K h F H v d
  | [], _, _, _, _, e => by cases e
  | (m, d0) :: fs, vs, n, d, q, e => by
    cases q with
    | cons q1 q2 =>
      rename_i v0 vr
      show ∃ v, ((m, v0) :: (fs.map (·.1)).zip vr).lookup n = some v ∧ _
      rw [List.lookup_cons] at e ⊢
      cases z : n == m with
      | true => rw [z] at e; cases e; exact ⟨v0, rfl, q1⟩
      | false => rw [z] at e; exact xd_look q2 e
/-- n.fld, n the caught exception -/
theorem se_attr {C : Addr} {oe : Obj} {pn : List (Addr × Obj)} {n fld : Str} {p0 : Pos} (T : XfC X.K C) (hno : PySem.W.findIn X.K (.ref C) fld = some none) (hz : Zc (.ref C) (some dx) oe) (hf : ∃ vs, oe.data = .fields vs) (hN : X.N[i]? = some n := by rfl) (hv : Vis X.env.scope n := by first | exact Or.inl rfl | exact Or.inr (Or.inl rfl))
    (hd : (n == ("__debug__" : Str)) = false := by decide) (hcd : (n == ("__classdict__" : Str)) = false := by decide) (hb : attributeBase (.Name n p0) fld X.env (eval (.Name n p0) X.env) = eval (.Name n p0) X.env := by rfl) :
    SE (X.suite a ((a, oe) :: pn)) i a dx fs (.Attribute (.Name n p0) fld pos) (fun _ s => Re.of (fs.lookup fld) s) := by
  refine ⟨pe_weak (pe_xf (te := tVar i) T hno hz hf (pe_var (X := X.suite a ((a, oe) :: pn)) hN hv hd hcd) hb) fun σ H Q q => ?_⟩
  obtain ⟨z, g, δ, s, R, ⟨vs, h1, h2⟩, nd, q⟩ := q
  cases e : fs.lookup fld with
  | none => rw [e] at q; exact q.elim
  | some d =>
    rw [e] at q
    obtain ⟨v, l, qd⟩ := xd_look h2 e
    exact ⟨.ref a, z, rfl, rfl, dx, _, v, rfl, h1, l, q v H (Ex.refl H) R.hand qd⟩
end
/-- one statement behind except C as n -/
def TDSX (K : PySem.W.Frag) (i : Nat) (a dx : Addr) (fs : List (Str × D)) (f : SD) : TS := fun Dn σ H => σ[i]? = some (some (.ref a)) ∧ ∃ g δ s, RepS K g H σ δ s ∧ XdAt K g.h (Fo g σ δ) H dx fs ∧ dx ≠ g.h ∧ FW K WF g σ δ H Dn (f δ s)
structure SSs (X : Cx) (i : Nat) (a dx : Addr) (fs : List (Str × D)) (st : List Stmt) (f : SD) : Prop where
  ps : PSs X st (TDSX X.K i a dx fs f)
section
variable {X : Cx} {i : Nat} {a dx : Addr} {fs : List (Str × D)} {e : Expr} {f : ED} {pos : Pos}
theorem sofE {K : PySem.W.Frag} {k : D → Dt → HS → Fl} {Dn : Ends} {σ : L2.St} {H : Hp} (q : TDSX K i a dx fs (ofE f k) Dn σ H) :
    TDX K i a dx fs f σ H fun v H1 => ∃ g δ s d, RepS K g H1 σ δ s ∧ Dq K g.h (Fo g σ δ) H1 v d ∧ FW K WF g σ δ H1 Dn (k d δ s) := by
  obtain ⟨z, g, δ, s, R, xd, nd, q⟩ := q
  refine ⟨z, g, δ, s, R, xd, nd, ?_⟩
  unfold ofE at q
  cases e : f δ s with
  | ok d s1 => rw [e] at q; exact fun v H' x hd qd => ⟨g, δ, s1, d, R.ex x hd, qd, FW.ext q (R.stp x)⟩
  | err C fs s1 => rw [e] at q; exact fun dx H' x hd xd => q σ dx H' (R.ex x hd) (R.stp x) xd
  | stk => rw [e] at q; exact q
theorem ss_set (j : Nat) {x : Str} {pos' : Pos} (hN : X.N.Nodup) (he : SE X i a dx fs e f) (hi : X.N[j]? = some x := by rfl) (hx : Loc X.env.scope x := by first | exact Or.inl rfl | exact Or.inr rfl) (hs : swapsWith e (some (.Name x pos')) pos.line X.env = pure false := by rfl)
    (hf : X.fn x = true ∨ X.env.scope.names.lookup x = some .local := by first | exact .inl rfl | exact .inr rfl | assumption) : SSs X i a dx fs [.Assign [.Name x pos'] e pos] (setF j f) := by
  refine ⟨pss_one (ps_weak (ps_set hN hi hx he.pe hs hf) fun Dn σ H q => ?_)⟩
  obtain ⟨z, g, δ, s, R, xd, nd, q⟩ := sofE q
  exact ⟨z, g, δ, s, R, xd, nd, q.mono fun v H1 ⟨g', δ', s', d, R', qd, qf⟩ => qf _ _ (R'.set qd j).1 (R'.set qd j).2⟩
theorem ss_ret (he : SE X i a dx fs e f) : SSs X i a dx fs [.Return (some e) pos] (retF f) := by
  refine ⟨pss_one (ps_weak (ps_ret he.pe) fun Dn σ H q => ?_)⟩
  obtain ⟨z, g, δ, s, R, xd, nd, q⟩ := sofE q
  exact ⟨z, g, δ, s, R, xd, nd, q.mono fun v H1 ⟨g', δ', s', d, R', qd, qf⟩ => qf v H1 ⟨R'.old, R'.hand, R'.dom0 qd⟩⟩
end
/-- the classes at ms are met, those at os are not -/
def tryF (C : Addr) (os : List Addr) (i : Nat) (fb : SD) (fs : List (Str × D) → SD) : SD := fun δ s => match fb δ s with
  | .err C' fl δ' s' => if C' = C then (if isUn δ' i = true then (match fs fl δ' s' with
      | .nx δ2 s2 => if isUn δ2 i = true then .nx δ2 s2 else .stk
      | .rt d s2 => .rt d s2
      | _ => .stk) else .stk) else if os.contains C' = true then .err C' fl δ' s' else .stk
  | r => r
section
variable {K : PySem.W.Frag} {g : Gx} {σ : L2.St} {δ : Dt} {H : Hp} {s : HS}
/-- an unused slot may be anything -/
theorem RepS.slot (R : RepS K g H σ δ s) {i : Nat} (hu : isUn δ i = true) (x : Option V) : RepS K g H (σ.set i x) δ s ∧ Fo g (σ.set i x) δ = Fo g σ δ := by
  have ne : ∀ (j : Nat) (y : Sl), δ[j]? = some y → y ≠ .un → i ≠ j := fun j y e n z => by
    subst z
    unfold isUn at hu
    rw [e] at hu
    cases y <;> first | exact n rfl | cases hu
  have hF : Fo g (σ.set i x) δ = Fo g σ δ := by
    funext a
    apply propext
    constructor
    · rintro (f | f | ⟨j, ds, h1, h2⟩)
      · exact .inl f
      · exact .inr (.inl f)
      · rw [List.getElem?_set_ne (ne j _ h1 (by simp))] at h2; exact .inr (.inr ⟨j, ds, h1, h2⟩)
    · rintro (f | f | ⟨j, ds, h1, h2⟩)
      · exact .inl f
      · exact .inr (.inl f)
      · refine .inr (.inr ⟨j, ds, h1, ?_⟩); rw [List.getElem?_set_ne (ne j _ h1 (by simp))]; exact h2
  refine ⟨⟨R.old, R.f0, R.c0, R.tm, R.hand, fun j d e => ?_, fun j ds e => ?_, fun j k ds es a e1 e2 e3 e4 => ?_, by rw [List.length_set]; exact R.len⟩, hF⟩
  · rw [List.getElem?_set_ne (ne j _ e (by simp)), hF]; exact R.sl j d e
  · rw [List.getElem?_set_ne (ne j _ e (by simp)), hF]; exact R.ow j ds e
  · rw [List.getElem?_set_ne (ne j _ e1 (by simp))] at e3; rw [List.getElem?_set_ne (ne k _ e2 (by simp))] at e4; exact R.ap j k ds es a e1 e2 e3 e4
end
section
variable {X : Cx} {W : WX} {x n : Str} {C : Addr} {os : List Addr} {i : Nat} {body suite : List Stmt} {b₀ : Stmt} {np pos pos' : Pos} {fb : SD} {fsu : List (Str × D) → SD}
theorem ds_try_as (i : Nat) (hN : X.N.Nodup) (hc : Names X x (.ref C)) (tk : Takes X W) (hm : PySem.W.exmOne X.K (.ref C) (.ref C) = some true) (ho : ∀ C' ∈ os, PySem.W.exmOne X.K (.ref C') (.ref C) = some false)
    (hb : ∀ (W : WX) (pn : List (Addr × Obj)) (xe : Value → Shared → Prop), Takes (X.tr pn xe) W → PassesOwn (model X.prog X.w) X.A X.env xe → DSs (X.tr pn xe) W body fb)
    (hsu : ∀ (a : Addr) (oe : Obj) (dx : Addr) (fs : List (Str × D)) (pn : List (Addr × Obj)), Zc (.ref C) (some dx) oe → (∃ vs, oe.data = .fields vs) → SSs (X.suite a ((a, oe) :: pn)) i a dx fs (b₀ :: suite) (fsu fs))
    (hi : X.N[i]? = some n := by rfl) (hln : X.env.kindOf n = some .local := by rfl) (hs : X.stack = X.env :: X.outer := by rfl) (hf : X.env.frame = some X.env.locals := by rfl) :
    DS X W (.Try body [.ExceptHandler (some (.Name x np)) (some n) (b₀ :: suite) pos'] [] [] pos) (tryF C os i fb fsu) := by
  refine ⟨ps_weak (ps_try_as (Wout := W) (tb := fun W => TDS X.K W fb) (ts := fun a cls d => fun Dn σ H => ∃ dx fs, cls = .ref C ∧ d = some dx ∧ TDSX X.K i a dx fs (fsu fs) Dn σ H) hs hf hN hi hln hc tk (fun W pn xe t1 t2 => (hb W pn xe t1 t2).ps) (fun a oe cls d pn hz hf => ?_)) fun Dn σ H q => ?_⟩
  · refine ⟨fun pins s σ H Dn I ⟨dx, fs, e1, e2, q⟩ => ?_⟩
    subst e1 e2
    exact (hsu a oe dx fs pn hz hf).ps.run pins s σ H Dn I q
  · obtain ⟨g, δ, s, R, q⟩ := q
    refine ⟨g, δ, s, R, ?_⟩
    unfold tryF at q
    cases z : fb δ s with
    | nx δ' s' => rw [z] at q; exact q
    | bk δ' s' => rw [z] at q; exact q
    | ct δ' s' => rw [z] at q; exact q
    | rt d s' => rw [z] at q; exact q
    | stk => rw [z] at q; exact q
    | err C' fl δ' s' =>
      rw [z] at q
      intro σ' dx H' R' S' xd
      by_cases hC : C' = C
      · subst hC
        simp only [if_true] at q
        by_cases hu : isUn δ' i = true
        · simp only [hu, if_true] at q
          refine ⟨true, hm, fun _ a na => ⟨dx, fl, rfl, rfl, ?_⟩, fun z => Bool.noConfusion z⟩
          obtain ⟨R2, hF⟩ := R'.slot hu (some (.ref a))
          have hil : i < σ'.length := by
            rw [R'.len]
            unfold isUn at hu
            by_cases hl : i < δ'.length
            · exact hl
            · rw [List.getElem?_eq_none (by omega)] at hu; cases hu
          have nd : dx ≠ g.h := fun e => by
            obtain ⟨vs, h1, _⟩ := xd
            rw [e, R'.hand.2.2] at h1
            cases h1
          refine ⟨List.getElem?_set_self hil, g, δ', s', R2, by rw [hF]; exact xd, nd, ?_⟩
          cases zz : fsu fl δ' s' with
          | nx δ2 s2 =>
            rw [zz] at q
            simp only at q
            by_cases hu2 : isUn δ2 i = true
            · rw [if_pos hu2] at q
              refine fun σ3 H3 R3 S3 => q _ _ (R3.slot hu2 none).1 ?_
              rw [(R3.slot hu2 none).2]
              rw [hF] at S3
              exact S'.trans S3
            · rw [if_neg hu2] at q; exact q.elim
          | rt d s2 => rw [zz] at q; exact q
          | bk δ2 s2 => rw [zz] at q; exact q.elim
          | ct δ2 s2 => rw [zz] at q; exact q.elim
          | err C2 f2 δ2 s2 => rw [zz] at q; exact q.elim
          | stk => rw [zz] at q; exact q.elim
        · simp only [hu] at q; exact q.elim
      · simp only [hC, if_false] at q
        by_cases ho' : os.contains C' = true
        · rw [if_pos ho'] at q
          exact ⟨false, ho C' (by simpa using ho'), fun z => Bool.noConfusion z, fun _ => q σ' dx H' R' S' xd⟩
        · rw [if_neg ho'] at q; exact q.elim
end
end DL

-- part DLl
set_option maxHeartbeats 1000000
namespace DL
open PySem PySem.Spec PyProof.Rows L2

/-! ### the hand's own places stored -/
def HS.put (s : HS) (k : Int) (z : Int) : Option HS := if k = 1 then some { s with pos := z } else if k = 2 then some { s with rest := z } else if k = 3 then some { s with tot := z } else none
def setHF (i : Nat) (k : Int) (f : ED) : SD := ofE f fun d δ s => match δ[i]?, d with
  | some (.fz .hnd), .int z => (match s.put k z with
    | some s' => .nx δ s'
    | none => .stk)
  | _, _ => .stk
section
variable {K : PySem.W.Frag} {g : Gx} {σ : L2.St} {δ : Dt} {H : Hp} {s : HS}
/-- the hand is another one -/
theorem RepS.hput (R : RepS K g H σ δ s) {s' : HS} (hc : s'.cells = s.cells) : RepS K g (upd H g.h (.lst [.ref g.c, .int s'.pos, .int s'.rest, .int s'.tot])) σ δ s' ∧ Stp (Fo g σ δ) H (Fo g σ δ) (upd H g.h (.lst [.ref g.c, .int s'.pos, .int s'.rest, .int s'.tot])) := by
  have x : Ex g.h H (upd H g.h (.lst [.ref g.c, .int s'.pos, .int s'.rest, .int s'.tot])) := fun b z n e => by rw [upd_ne n]; exact e
  refine ⟨R.ex x ⟨R.hand.1, ?_, upd_same⟩, R.stp x⟩
  rw [upd_ne R.hand.1, hc]
  exact R.hand.2.1
end
section
variable {X : Cx} {W : WX} {e : Expr} {f : ED} {pos tpos : Pos}
theorem ds_setHand (i : Nat) (k : Int) {x : Str} {p0 p1 : Pos} {j : Nat} (he : DE X W e f) (hN : X.N[i]? = some x := by rfl) (hv : Vis X.env.scope x := by first | exact Or.inl rfl | exact Or.inr (Or.inl rfl) | exact Or.inr (Or.inr rfl)) (hd : (x == ("__debug__" : Str)) = false := by decide)
    (hcd : (x == ("__classdict__" : Str)) = false := by decide)
    (ha : ∀ v, assign (.Subscript (.Name x p0) (.Constant (.int k) j p1) tpos) X.env v = (do
      let ov ← holding [v] (eval (.Name x p0) X.env)
      let iv ← holding [v, ov] (eval (.Constant (.int k) j p1) X.env)
      standAt tpos
      holding [v, ov, iv] (setItem ov iv v)
      release [v, ov, iv] []) := by intro _; rfl) (hs : swapsWithSole [.Subscript (.Name x p0) (.Constant (.int k) j p1) tpos] e pos.line X.env = pure false := by rfl) (hw : swappedStores [.Subscript (.Name x p0) (.Constant (.int k) j p1) tpos] e X.env = pure none := by rfl)
    (h1 : (assignEach [.Subscript (.Name x p0) (.Constant (.int k) j p1) tpos] X.env).map (·.2) = [assign (.Subscript (.Name x p0) (.Constant (.int k) j p1) tpos) X.env] := by rfl) :
    DS X W (.Assign [.Subscript (.Name x p0) (.Constant (.int k) j p1) tpos] e pos) (setHF i k f) := by
  refine ⟨ps_weak (ps_asg he.pe (pg_sub (pe_var (i := i) hN hv hd hcd) pe_int set_list ha) hs hw h1) fun Dn σ H q => ?_⟩
  obtain ⟨g, δ, s, R, q⟩ := ofE_td q
  refine ⟨g, δ, s, R, q.mono ?_⟩
  rintro v H1 ⟨g', δ', s', d, R', qd, qf⟩
  split at qf
  · rename_i z hδ
    obtain ⟨u, e1, qh⟩ := R'.sl i _ hδ
    cases qh
    cases qd
    cases hp : s'.put k z with
    | none => rw [hp] at qf; exact qf.elim
    | some s2 =>
      rw [hp] at qf
      have key : ∃ jj : Nat, ixN 4 k = some jj ∧ s2.cells = s'.cells ∧ [V.ref g'.c, .int s'.pos, .int s'.rest, .int s'.tot].set jj (.int z) = [.ref g'.c, .int s2.pos, .int s2.rest, .int s2.tot] := by
        unfold HS.put at hp
        by_cases k1 : k = 1
        · rw [if_pos k1] at hp; cases hp; subst k1; exact ⟨1, rfl, rfl, rfl⟩
        · rw [if_neg k1] at hp
          by_cases k2 : k = 2
          · rw [if_pos k2] at hp; cases hp; subst k2; exact ⟨2, rfl, rfl, rfl⟩
          · rw [if_neg k2] at hp
            by_cases k3 : k = 3
            · rw [if_pos k3] at hp; cases hp; subst k3; exact ⟨3, rfl, rfl, rfl⟩
            · rw [if_neg k3] at hp; cases hp
      obtain ⟨jj, j1, j2, j3⟩ := key
      obtain ⟨R2, S2⟩ := R'.hput j2
      refine ⟨_, e1, g'.h, _, k, jj, rfl, rfl, R'.hand.2.2, j1, ?_⟩
      rw [j3]
      exact qf _ _ R2 S2
  · exact qf.elim
end

/-! ### lists of one's own -/
section
variable {K : PySem.W.Frag} {g : Gx} {σ : L2.St} {δ : Dt} {H : Hp} {s : HS}
/-- a new list given to a name -/
theorem RepS.own (R : RepS K g H σ δ s) {H1 : Hp} {s1 : HS} {a : Addr} {vs : List V} {ds : List D} (x : Ex g.h H H1) (hd : HandAt g H1 s1) (n : H a = none) (ha : H1 a = some (.lst vs)) (q : DqA K g.h (Fo g σ δ) H1 vs ds) (nin : ∀ b z, H b = some z → b ≠ a) (i : Nat)
    (qn : DqA K g.h (fun b => Fo g σ δ b ∨ b = a) H1 vs ds) :
    RepS K g H1 (σ.set i (some (.ref a))) (δ.set i (.ow ds)) s1 ∧ Stp (Fo g σ δ) H (Fo g (σ.set i (some (.ref a))) (δ.set i (.ow ds))) H1 := by
  have R1 := R.ex x hd
  have nh : a ≠ g.h := fun e => by rw [e, R.hand.2.2] at n; cases n
  have hF : ∀ b, Fo g (σ.set i (some (.ref a))) (δ.set i (.ow ds)) b → Fo g σ δ b ∨ b = a := by
    rintro b (f | f | ⟨j, es, h1, h2⟩)
    · exact .inl (.inl f)
    · exact .inl (.inr (.inl f))
    · by_cases hj : i = j
      · subst hj
        by_cases hl : i < σ.length
        · rw [List.getElem?_set_self hl] at h2; cases h2; exact .inr rfl
        · rw [List.getElem?_eq_none (by simpa using hl)] at h2; cases h2
      · rw [List.getElem?_set_ne hj] at h1 h2
        exact .inl (.inr (.inr ⟨j, es, h1, h2⟩))
  have st : Stp (Fo g σ δ) H (Fo g (σ.set i (some (.ref a))) (δ.set i (.ow ds))) H1 := fun b z nf e => by
    refine ⟨fun f => ?_, x b z (R.neh nf) e⟩
    rcases hF b f with f | f
    · exact nf f
    · exact nin b z e f
  refine ⟨⟨R1.old, R1.f0, R1.c0, R1.tm, hd, fun j d e => ?_, fun j es e => ?_, fun j k es fs b e1 e2 e3 e4 => ?_, by simpa using R.len⟩, st⟩
  · by_cases hj : i = j
    · subst hj
      by_cases hl : i < δ.length
      · rw [List.getElem?_set_self hl] at e; cases e
      · rw [List.getElem?_eq_none (by simpa using hl)] at e; cases e
    · rw [List.getElem?_set_ne hj] at e ⊢
      obtain ⟨u, e1, qu⟩ := R.sl j d e
      exact ⟨u, e1, qu.mono st⟩
  · by_cases hj : i = j
    · subst hj
      by_cases hl : i < δ.length
      · rw [List.getElem?_set_self hl] at e
        cases e
        refine ⟨a, vs, List.getElem?_set_self (by rw [R.len]; exact hl), ha, qn.mono fun b z nf e => ⟨fun f => nf (hF b f), e⟩, (R.no0 n).1, fun f => (R.tm a f).1 n⟩
      · rw [List.getElem?_eq_none (by simpa using hl)] at e; cases e
    · rw [List.getElem?_set_ne hj] at e ⊢
      obtain ⟨b, us, e1, e2, qu, m, nt⟩ := R.ow j es e
      have hb : b ≠ g.h := fun z => R.f0.2 _ R.f0.1 (z ▸ m)
      exact ⟨b, us, e1, x b _ hb e2, qu.mono st, m, nt⟩
  · by_cases hj : i = j
    · by_cases hk : i = k
      · exact hj.symm.trans hk
      · subst hj
        rw [List.getElem?_set_ne hk] at e2 e4
        obtain ⟨b', us, z1, z2, _⟩ := R.ow k fs e2
        rw [e4] at z1
        cases z1
        by_cases hl : i < σ.length
        · rw [List.getElem?_set_self hl] at e3
          cases e3
          exact absurd rfl (nin _ _ z2)
        · rw [List.getElem?_eq_none (by simpa using hl)] at e3; cases e3
    · rw [List.getElem?_set_ne hj] at e1 e3
      by_cases hk : i = k
      · subst hk
        obtain ⟨b', us, z1, z2, _⟩ := R.ow j es e1
        rw [e3] at z1
        cases z1
        by_cases hl : i < σ.length
        · rw [List.getElem?_set_self hl] at e4
          cases e4
          exact absurd rfl (nin _ _ z2)
        · rw [List.getElem?_eq_none (by simpa using hl)] at e4; cases e4
      · rw [List.getElem?_set_ne hk] at e2 e4
        exact R.ap j k es fs b e1 e2 e3 e4
end
section
variable {X : Cx} {W : WX} {e e2 : Expr} {f f2 : ED} {fs : EA} {pos tpos : Pos} {st : List Stmt} {fd : SD}
/-- x = list(e): a list of x's own -/
def ownF (i : Nat) (fs : EA) : SD := fun δ s => match (FA listD fs) δ s with
  | .ok (.lst ds) s1 => .nx (δ.set i (.ow ds)) s1
  | .err C fl s1 => .err C fl δ s1
  | _ => .stk
theorem ds_ownList (i : Nat) {x y : Str} {pos' p0 : Pos} (hN : X.N.Nodup) (ha : DA X W [e] fs) (hg : Gl X y) (hy : (y == ("list" : Str)) = true) (hm : X.mg y = none) (hv : bootBuiltins y = some (.type "list")) (hi : X.N[i]? = some x := by rfl) (hx : Loc X.env.scope x := by first | exact Or.inl rfl | exact Or.inr rfl)
    (hs : swapsWith (.Call (.Name y p0) [e] [] tpos) (some (.Name x pos')) pos.line X.env = pure false := by rfl)
    (hf : X.fn x = true ∨ X.env.scope.names.lookup x = some .local := by first | exact .inl rfl | exact .inr rfl | assumption) (hn : y ≠ "__name__" := by decide) (hdb : (y == ("__debug__" : Str)) = false := by decide)
    (he : starEach [e] X.env = (false, eval e X.env) :: starEach [] X.env := by rfl) (hpl : (backTo tpos (starEach [] X.env)).any (·.1) = false := by rfl) : DS X W (.Assign [.Name x pos'] (.Call (.Name y p0) [e] [] tpos) pos) (ownF i fs) := by
  refine ⟨ps_weak (ps_set hN hi hx (pe_callTy call_list_of hg hm hv ha.pa hn hdb he hpl) hs hf) fun Dn σ H q => ?_⟩
  obtain ⟨g, δ, s, R, q⟩ := q
  refine ⟨g, δ, s, R, ?_⟩
  unfold ownF FA at q
  cases z : fs δ s with
  | stk => rw [z] at q; exact q
  | err C fl s1 => rw [z] at q; exact fun dx H' x hd xd => q σ dx H' (R.ex x hd) (R.stp x) xd
  | ok ds s1 =>
    rw [z] at q
    intro vs H1 x1 h1 qs
    have R1 := R.ex x1 h1
    have go : ∀ (xs : List D) (ys : List V), DqA X.K g.h (Fo g σ δ) H1 ys xs → FW X.K W g σ δ H Dn (.nx (δ.set i (.ow xs)) s1) → ∀ l, H1 l = none → Dn.nx (σ.set i (some (.ref l))) (upd H1 l (.lst ys)) := fun xs ys qy qf l nl => by
      have sm := same_upd (o := .lst ys) nl
      have nin : ∀ b z, H1 b = some z → b ≠ l := fun b z e => ne_of_none e nl
      obtain ⟨R2, S2⟩ := R1.own (Ex.of sm) (h1.same sm) nl upd_same (R1.upA (Ex.of sm) qy) nin i (qy.mono fun b z nf e => ⟨fun f => f.elim nf (nin b z e), by rw [upd_ne (nin b z e)]; exact e⟩)
      exact qf _ _ R2 ((R.stp x1).trans S2)
    cases zl : listD ds s1 with
    | none =>
      have q' : FW X.K W g σ δ H Dn (match (Re.of (listD ds s1) s1 : Re D) with | .ok (.lst ds) s1 => .nx (δ.set i (.ow ds)) s1 | .err C fl s1 => .err C fl δ s1 | _ => .stk) := q
      rw [zl] at q'
      exact q'.elim
    | some d =>
      have q' : FW X.K W g σ δ H Dn (match (Re.of (listD ds s1) s1 : Re D) with | .ok (.lst ds) s1 => .nx (δ.set i (.ow ds)) s1 | .err C fl s1 => .err C fl δ s1 | _ => .stk) := q
      rw [zl] at q'
      unfold listD at zl
      split at zl <;> try (cases zl; done)
      · cases zl
        obtain ⟨v, rfl, qv⟩ := qs.one
        obtain ⟨a, us, rfl, nf, ha, qa⟩ := qv.lst_inv
        exact ⟨a, us, rfl, .inl (.of ha), go _ us qa q'⟩
      · cases zl
        obtain ⟨v, rfl, qv⟩ := qs.one
        obtain ⟨a, us, rfl, ha, qa⟩ := qv.tup_inv
        exact ⟨a, us, rfl, .inr ha, go _ us qa q'⟩
/-- x[e] of a list of one's own -/
def ixoF (i : Nat) (f : ED) : ED := fun δ s => match δ[i]? with
  | some (.ow ds) => (f δ s).bind fun d s1 => Re.of (ixD (.lst ds) d s1) s1
  | _ => .stk
theorem de_ixo (i : Nat) {x : Str} {p0 : Pos} (hb : DE X W e f) (hs : PlainIx e) (hN : X.N[i]? = some x := by rfl) (hv : Vis X.env.scope x := by first | exact Or.inl rfl | exact Or.inr (Or.inl rfl) | exact Or.inr (Or.inr rfl)) (hd : (x == ("__debug__" : Str)) = false := by decide)
    (hcd : (x == ("__classdict__" : Str)) = false := by decide) : DE X W (.Subscript (.Name x p0) e pos) (ixoF i f) := by
  refine ⟨pe_weak (pe_ix ix_list (pe_var (i := i) hN hv hd hcd) hb.pe hs) fun σ H Q q => ?_⟩
  obtain ⟨g, δ, s, R, q⟩ := q
  unfold ixoF at q
  cases hδ : δ[i]? with
  | none => rw [hδ] at q; exact q.elim
  | some sl =>
    rw [hδ] at q
    cases sl with
    | un => exact q.elim
    | fz d => exact q.elim
    | ow ds =>
      obtain ⟨a, vs, e1, e2, qa, m, nt⟩ := R.ow i ds hδ
      refine ⟨.ref a, e1, g, δ, s, R, (RW.bind (rel := relD X.K g) q).mono ?_⟩
      rintro y H1 ⟨d, s1, x1, h1, qd, q⟩
      have R1 := R.ex x1 h1
      obtain ⟨a', vs', e1', e2', qa', m', nt'⟩ := R1.ow i ds hδ
      rw [e1] at e1'
      cases e1'
      cases d <;> simp only [ixD] at q <;> try (exact q.elim)
      cases qd
      rename_i j
      cases zz : L2.atI ds j with
      | none => rw [zz] at q; exact q.elim
      | some dd =>
        rw [zz] at q
        obtain ⟨v, h2, h3⟩ := qa'.atI zz
        exact ⟨a, vs', j, v, rfl, rfl, .of e2', h2, q v H1 (Ex.refl H1) h1 h3⟩
/-- len(x) of a list of one's own -/
def lenoF (i : Nat) : ED := fun δ s => match δ[i]? with
  | some (.ow ds) => .ok (.int (ds.length : Nat)) s
  | _ => .stk
theorem de_leno (i : Nat) {x y : Str} {p0 p1 : Pos} (hg : Gl X y) (hm : X.mg y = none) (hvl : bootBuiltins y = some (.builtin "len")) (hN : X.N[i]? = some x := by rfl) (hv : Vis X.env.scope x := by first | exact Or.inl rfl | exact Or.inr (Or.inl rfl) | exact Or.inr (Or.inr rfl)) (hd : (x == ("__debug__" : Str)) = false := by decide)
    (hcd : (x == ("__classdict__" : Str)) = false := by decide) (hn : y ≠ "__name__" := by decide) (hdb : (y == ("__debug__" : Str)) = false := by decide) (hp : starEach [Expr.Name x p0] X.env = (false, eval (.Name x p0) X.env) :: starEach [] X.env := by rfl) (hpl : (backTo pos (starEach [] X.env)).any (·.1) = false := by rfl) :
    DE X W (.Call (.Name y p1) [.Name x p0] [] pos) (lenoF i) := by
  refine ⟨pe_weak (pe_callB call_len_seq hg hm hvl (pa_cons (pe_var (i := i) hN hv hd hcd) pa_nil hp) hn hdb hp hpl) fun σ H Q q => ?_⟩
  obtain ⟨g, δ, s, R, q⟩ := q
  unfold lenoF at q
  cases hδ : δ[i]? with
  | none => rw [hδ] at q; exact q.elim
  | some sl =>
    rw [hδ] at q
    cases sl with
    | un => exact q.elim
    | fz d => exact q.elim
    | ow ds =>
      obtain ⟨a, vs, e1, e2, qa, m, nt⟩ := R.ow i ds hδ
      refine ⟨.ref a, e1, a, vs, rfl, .inl (.of e2), ?_⟩
      rw [qa.length]
      exact q _ H (Ex.refl H) R.hand (.int _)
/-- x[e2] = e, x a list of one's own -/
def setoF (i : Nat) (f f2 : ED) : SD := ofE f fun d δ s => match δ[i]?, f2 δ s with
  | some (.ow ds), .ok (.int j) s1 => (match ixN ds.length j with
    | some jj => .nx (δ.set i (.ow (ds.set jj d))) s1
    | none => .stk)
  | _, _ => .stk
theorem RepS.oset {K : PySem.W.Frag} {g : Gx} {σ : L2.St} {δ : Dt} {H : Hp} {s : HS} (R : RepS K g H σ δ s) {i : Nat} {ds : List D} {a : Addr} {vs us : List V} {es : List D} (hδ : δ[i]? = some (.ow ds)) (e1 : σ[i]? = some (some (.ref a))) (e2 : H a = some (.lst vs)) (q : DqA K g.h (Fo g σ δ) H us es) :
    RepS K g (upd H a (.lst us)) σ (δ.set i (.ow es)) s ∧ Stp (Fo g σ δ) H (Fo g σ (δ.set i (.ow es))) (upd H a (.lst us)) := by
  obtain ⟨a', vs', e1', _, _, m, nt⟩ := R.ow i ds hδ
  rw [e1] at e1'
  cases e1'
  have hl : i < δ.length := (List.getElem?_eq_some_iff.mp hδ).1
  have fa : Fo g σ δ a := .inr (.inr ⟨i, ds, hδ, e1⟩)
  have hF : ∀ b, Fo g σ (δ.set i (.ow es)) b → Fo g σ δ b := by
    rintro b (f | f | ⟨j, fs, h1, h2⟩)
    · exact .inl f
    · exact .inr (.inl f)
    · by_cases hj : i = j
      · subst hj
        exact .inr (.inr ⟨i, ds, hδ, h2⟩)
      · rw [List.getElem?_set_ne hj] at h1
        exact .inr (.inr ⟨j, fs, h1, h2⟩)
  have st : Stp (Fo g σ δ) H (Fo g σ (δ.set i (.ow es))) (upd H a (.lst us)) := fun b z nf e => by
    have hb : b ≠ a := fun q => nf (q ▸ fa)
    exact ⟨fun f => nf (hF b f), by rw [upd_ne hb]; exact e⟩
  have nh : a ≠ g.h := fun e => R.f0.2 _ R.f0.1 (by rw [← e]; exact m)
  have ncc : a ≠ g.c := fun e => R.c0.1 (by rw [← e]; exact m)
  refine ⟨⟨fun b z nb e => ?_, R.f0, R.c0, fun b f => ?_, ⟨R.hand.1, by rw [upd_ne ncc.symm]; exact R.hand.2.1, by rw [upd_ne nh.symm]; exact R.hand.2.2⟩, fun j d e => ?_, fun j fs e => ?_, fun j k fs gs b z1 z2 z3 z4 => ?_, by simpa using R.len⟩, st⟩
  · have hb : b ≠ a := fun q => by rw [q, m] at e; cases e
    rw [upd_ne hb]; exact R.old b z nb e
  · have hb : b ≠ a := fun q => nt (q ▸ f)
    rw [upd_ne hb]; exact R.tm b f
  · by_cases hj : i = j
    · subst hj; rw [List.getElem?_set_self hl] at e; cases e
    · rw [List.getElem?_set_ne hj] at e
      obtain ⟨u, z1, qu⟩ := R.sl j d e
      exact ⟨u, z1, qu.mono st⟩
  · by_cases hj : i = j
    · subst hj
      rw [List.getElem?_set_self hl] at e
      cases e
      exact ⟨a, us, e1, upd_same, q.mono st, m, nt⟩
    · rw [List.getElem?_set_ne hj] at e
      obtain ⟨b, ws, z1, z2, qu, m2, nt2⟩ := R.ow j fs e
      have hb : b ≠ a := fun q => hj (R.ap i j ds fs a hδ e e1 (q ▸ z1))
      exact ⟨b, ws, z1, by rw [upd_ne hb]; exact z2, qu.mono st, m2, nt2⟩
  · have back : ∀ (j : Nat) (fs : List D), (δ.set i (.ow es))[j]? = some (.ow fs) → ∃ fs', δ[j]? = some (.ow fs') := fun j fs e => by
      by_cases hj : i = j
      · subst hj; exact ⟨ds, hδ⟩
      · rw [List.getElem?_set_ne hj] at e; exact ⟨fs, e⟩
    obtain ⟨f1, y1⟩ := back j fs z1
    obtain ⟨f2, y2⟩ := back k gs z2
    exact R.ap j k f1 f2 b y1 y2 z3 z4
theorem ds_setIxo (i : Nat) {x : Str} {p0 : Pos} (he : DE X W e f) (h2 : DE X W e2 f2) (hN : X.N[i]? = some x := by rfl) (hv : Vis X.env.scope x := by first | exact Or.inl rfl | exact Or.inr (Or.inl rfl) | exact Or.inr (Or.inr rfl)) (hd : (x == ("__debug__" : Str)) = false := by decide)
    (hcd : (x == ("__classdict__" : Str)) = false := by decide)
    (ha : ∀ v, assign (.Subscript (.Name x p0) e2 tpos) X.env v = (do
      let ov ← holding [v] (eval (.Name x p0) X.env)
      let iv ← holding [v, ov] (eval e2 X.env)
      standAt tpos
      holding [v, ov, iv] (setItem ov iv v)
      release [v, ov, iv] []) := by intro _; rfl) (hs : swapsWithSole [.Subscript (.Name x p0) e2 tpos] e pos.line X.env = pure false := by rfl) (hw : swappedStores [.Subscript (.Name x p0) e2 tpos] e X.env = pure none := by rfl)
    (h1 : (assignEach [.Subscript (.Name x p0) e2 tpos] X.env).map (·.2) = [assign (.Subscript (.Name x p0) e2 tpos) X.env] := by rfl) :
    DS X W (.Assign [.Subscript (.Name x p0) e2 tpos] e pos) (setoF i f f2) := by
  refine ⟨ps_weak (ps_asg he.pe (pg_sub (pe_var (i := i) hN hv hd hcd) h2.pe set_list ha) hs hw h1) fun Dn σ H q => ?_⟩
  obtain ⟨g, δ, s, R, q⟩ := ofE_td q
  refine ⟨g, δ, s, R, q.mono ?_⟩
  rintro v H1 ⟨g', δ', s', d, R', qd, qf⟩
  cases hδ : δ'[i]? with
  | none => simp only [hδ] at qf; exact qf.elim
  | some sl =>
    simp only [hδ] at qf
    cases sl with
    | un => exact qf.elim
    | fz d => exact qf.elim
    | ow ds =>
      obtain ⟨a, vs, e1, e2', qa, m, nt⟩ := R'.ow i ds hδ
      refine ⟨.ref a, e1, g', δ', s', R', ?_⟩
      cases z2 : f2 δ' s' with
      | stk => simp only [z2] at qf; exact qf.elim
      | err C fl s1 => simp only [z2] at qf; exact qf.elim
      | ok dj s1 =>
        simp only [z2] at qf
        intro u H2 x2 h2' qu
        cases dj <;> simp only at qf <;> try (exact qf.elim)
        rename_i j
        cases qu
        have R2 := R'.ex x2 h2'
        obtain ⟨a2, vs2, e3, e4, qa2, m2, nt2⟩ := R2.ow i ds hδ
        rw [e1] at e3
        cases e3
        cases zj : ixN ds.length j with
        | none => simp only [zj] at qf; exact qf.elim
        | some jj =>
          simp only [zj] at qf
          refine ⟨a, vs2, j, jj, rfl, rfl, e4, by rw [qa2.length]; exact zj, ?_⟩
          obtain ⟨R3, S3⟩ := R2.oset hδ e1 e4 (qa2.set (R'.up x2 qd) jj)
          exact qf _ _ R3 ((R'.stp x2).trans S3)
/-- from here on it is no more one's own -/
def frz (i : Nat) (δ : Dt) : Dt := match δ[i]? with
  | some (.ow ds) => δ.set i (.fz (.lst ds))
  | _ => δ
theorem dss_frz (i : Nat) (h : DSs X W st fd) : DSs X W st (fun δ s => fd (frz i δ) s) := by
  refine ⟨pss_weak h.ps fun Dn σ H q => ?_⟩
  obtain ⟨g, δ, s, R, q⟩ := q
  unfold frz at q
  dsimp only at q
  cases hδ : δ[i]? with
  | none => rw [hδ] at q; exact ⟨g, δ, s, R, q⟩
  | some sl =>
    rw [hδ] at q
    cases sl with
    | un => exact ⟨g, δ, s, R, q⟩
    | fz d => exact ⟨g, δ, s, R, q⟩
    | ow ds =>
      obtain ⟨a, vs, e1, e2, qa, m, nt⟩ := R.ow i ds hδ
      have hl : i < δ.length := (List.getElem?_eq_some_iff.mp hδ).1
      have na : ∀ b, Fo g σ (δ.set i (.fz (.lst ds))) b → Fo g σ δ b ∧ b ≠ a := by
        rintro b (f | f | ⟨j, fs, h1, h2⟩)
        · refine ⟨.inl f, fun e => ?_⟩
          exact R.f0.2 _ f (by rw [e]; exact m)
        · exact ⟨.inr (.inl f), fun e => nt (e ▸ f)⟩
        · by_cases hj : i = j
          · subst hj; rw [List.getElem?_set_self hl] at h1; cases h1
          · rw [List.getElem?_set_ne hj] at h1
            exact ⟨.inr (.inr ⟨j, fs, h1, h2⟩), fun e => hj (R.ap i j ds fs a hδ h1 e1 (e ▸ h2))⟩
      have st : Stp (Fo g σ δ) H (Fo g σ (δ.set i (.fz (.lst ds)))) H := fun b z nf e => ⟨fun f => nf (na b f).1, e⟩
      refine ⟨g, δ.set i (.fz (.lst ds)), s, ⟨R.old, R.f0, R.c0, R.tm, R.hand, fun j d e => ?_, fun j fs e => ?_, fun j k fs gs b z1 z2 z3 z4 => ?_, by simpa using R.len⟩, FW.ext q st⟩
      · by_cases hj : i = j
        · subst hj
          rw [List.getElem?_set_self hl] at e
          cases e
          exact ⟨.ref a, e1, .lst (fun f => (na a f).2 rfl) e2 (qa.mono st)⟩
        · rw [List.getElem?_set_ne hj] at e
          obtain ⟨u, z1, qu⟩ := R.sl j d e
          exact ⟨u, z1, qu.mono st⟩
      · by_cases hj : i = j
        · subst hj; rw [List.getElem?_set_self hl] at e; cases e
        · rw [List.getElem?_set_ne hj] at e
          obtain ⟨b, ws, z1, z2, qu, m2, nt2⟩ := R.ow j fs e
          exact ⟨b, ws, z1, z2, qu.mono st, m2, nt2⟩
      · have nj : ∀ (j : Nat) (fs : List D), (δ.set i (.fz (.lst ds)))[j]? = some (.ow fs) → δ[j]? = some (.ow fs) := fun j fs e => by
          by_cases hj : i = j
          · subst hj; rw [List.getElem?_set_self hl] at e; cases e
          · rw [List.getElem?_set_ne hj] at e; exact e
        exact R.ap j k fs gs b (nj j fs z1) (nj k gs z2) z3 z4
end
end DL

-- part DLm
set_option maxHeartbeats 1000000
namespace DL
open PySem PySem.Spec PyProof.Rows L2

/-! ### the law's own call: no repr is under way there -/
section
variable {P : Program} {w : World} {K : PySem.W.Frag} {mg mb : Str → Option Value} {k : Nat} {fa a : Addr} {fd : FuncData} {x : Str} {sp : Sp} {s1 : Shared} {vs : List Value} {ns : List Int}
/-- the end that is wanted of a law -/
def LawEnd (s1 : Shared) (r : Result) (s' : Shared) : Prop := r = .ok (.ret (.bool true)) ∧ OldK s1.heap s'.heap ∧ s'.os = s1.os ∧ AllBare s'.gens
/-- how the script may be tracked: as it stands at a, or not at all -/
structure Ent (s1 : Shared) (K : PySem.W.Frag) (a : Addr) (ns : List Int) (H : Hp) : Prop where
  only : Only H
  here : SqL K H a (ns.map V.int)
  sole : ∀ b, H b ≠ none → b = a
  noK : H a ≠ none → K.lookup a = none
theorem ent_hid (E : Ent s1 K a ns H) {b : Addr} {o : Obj} (e : s1.heap.get? b = some o) (n : b = a → H a = none) : (hidT s1.heap H).get? b = some o := by
  refine hidT_get e ?_
  cases q : H b with
  | none => rfl
  | some u =>
    have hb : b = a := E.sole b (by rw [q]; intro z; cases z)
    have := n hb
    rw [← hb, q] at this
    cases this
theorem enter_at (KX : K.In s1.heap) (hns : s1.heap.Ns mainGlobals mg) (hb : s1.heap.Ns builtinsNs mb) (hbb : ∀ x : Str, x ≠ "__name__" → mb x = bootBuiltins x) (hlim : s1.heap.NoLimit) (hg : s1.gens = #[])
    (ha : s1.heap.get? a = some { cls := .type "list", data := .seq vs.toArray }) (hr : Room k callerA) (hbind : ∀ (s : Shared) (u : Value), BindsTo s fd ⟨[u], []⟩ [(x, u)])
    (F : ∀ base : Heap, K.In base → base.Ns mainGlobals mg → FnG P w K mg base k fa fd [x] sp) {H : Hp} (E : Ent s1 K a ns H) (hok : HOk P w H s1.heap) (hsp : sp [.ref a] H (fun v _ => v = .bl true) fun _ _ _ => False) :
    codeAny (model P w) callerA (.call (.ref fa) ⟨[.ref a], []⟩) (LawEnd s1) s1 := by
  -- a namespace is a dict: never the script
  have dicts : ∀ {b : Addr} {m : Str → Option Value}, s1.heap.Ns b m → (hidT s1.heap H).Ns b m := by
    rintro b m ⟨o, es, ep, e, d, r⟩
    refine ⟨o, es, ep, ent_hid E e fun hb => ?_, d, r⟩
    subst hb
    rw [ha] at e
    cases e
    cases (show Data.seq vs.toArray _ = Data.dict es ep from d)
  have kin : K.In (hidT s1.heap H) := fun b o e => ent_hid E (KX b o e) fun hb => by
    subst hb
    cases q : H b with
    | none => rfl
    | some u =>
      rw [E.noK (by rw [q]; intro z; cases z)] at e
      cases e
  have md : Mod K mg (hidT s1.heap H) := ⟨kin, dicts hns, ⟨mb, dicts hb, hbb⟩, hlim.elim fun mc z => ⟨mc, dicts z.1, z.2⟩⟩
  have e0 : Env0 P w K mg (hidT s1.heap H) callerA [] s1 H :=
    ⟨rfl, md, fun b o => of_hidT, Nat.le_of_eq (hidT_size _ _), trivial, fun b m => absurd m List.not_mem_nil, hok, .of_eq hg⟩
  have run := (F _ kin (dicts hns)).run callerA [] s1 H ⟨[.ref a], []⟩ [.ref a] [.ref a] _ _ rfl hr e0 (hbind s1 (.ref a)) (.cons rfl .nil) hsp
  refine codeAny_mono run ?_
  rintro (e | fl) s' h
  · obtain ⟨_, _, _, _, _, _, _, _, _, _, _, _, z⟩ := h
    exact z.elim
  · cases fl with
    | ret u =>
      obtain ⟨v, H', os, bare, un, hok', rv, rfl⟩ := h
      obtain rfl : u = Value.bool true := rv
      refine ⟨rfl, OldK.of_keep ?_, os, bare⟩
      intro b o e
      cases q : H b with
      | none => exact un.keep b o e q List.not_mem_nil List.not_mem_nil
      | some u =>
        rcases E.only b with z | ⟨ob, xs, z⟩
        · rw [z] at q; cases q
        · have old := (hok b _ z).1
          rw [e] at old
          cases old
          exact (hok' b _ (un.frzs b _ _ z)).1
    | _ => exact h.elim
theorem law_enter (KX : K.In s1.heap) (hns : s1.heap.Ns mainGlobals mg) (hb : s1.heap.Ns builtinsNs mb) (hbb : ∀ x : Str, x ≠ "__name__" → mb x = bootBuiltins x) (hlim : s1.heap.NoLimit) (hg : s1.gens = #[])
    (ha : s1.heap.get? a = some { cls := .type "list", data := .seq vs.toArray }) (hi : IntsAre vs ns) (hl : ns.length ≤ sizeLine) (hr : Room k callerA) (hbind : ∀ (s : Shared) (u : Value), BindsTo s fd ⟨[u], []⟩ [(x, u)])
    (F : ∀ base : Heap, K.In base → base.Ns mainGlobals mg → FnG P w K mg base k fa fd [x] sp)
    (hsp : ∀ H : Hp, Only H → SqL K H a (ns.map V.int) → sp [.ref a] H (fun v _ => v = .bl true) fun _ _ _ => False) : codeAny (model P w) callerA (.call (.ref fa) ⟨[.ref a], []⟩) (LawEnd s1) s1 := by
  have rv := vals_ints hi
  cases hk : K.lookup a with
  | some o =>
    have eo := KX a o hk
    rw [ha] at eo
    cases eo
    have here : SqL K (fun _ => none) a (ns.map V.int) := .inr ⟨_, vs.toArray, _, hk, rfl, rfl, rfl, (by rw [List.size_toArray, hi.length]; exact hl), by simpa using rv⟩
    have E : Ent s1 K a ns (fun _ => none) := ⟨fun _ => .inl rfl, here, fun b z => absurd rfl z, fun z => absurd rfl z⟩
    exact enter_at KX hns hb hbb hlim hg ha hr hbind F E (fun b u z => by cases (show (none : Option HO) = some u from z)) (hsp _ E.only here)
  | none =>
    let ob : Obj := { cls := .type "list", data := .seq vs.toArray }
    let H : Hp := fun b => if b = a then some (.frz ob (.lst (ns.map V.int))) else none
    have Ha : H a = some (.frz ob (.lst (ns.map V.int))) := if_pos rfl
    have Hn : ∀ b, b ≠ a → H b = none := fun b n => if_neg n
    have here : SqL K H a (ns.map V.int) := .inl (.inr ⟨ob, Ha⟩)
    have E : Ent s1 K a ns H := by
      refine ⟨fun b => ?_, here, fun b z => ?_, fun _ => hk⟩
      · by_cases q : b = a
        · exact .inr ⟨_, _, q ▸ Ha⟩
        · exact .inl (Hn b q)
      · by_cases q : b = a
        · exact q
        · exact absurd (Hn b q) z
    refine enter_at KX hns hb hbb hlim hg ha hr hbind F E (fun b u z => ?_) (hsp _ E.only here)
    by_cases q : b = a
    · subst q
      rw [Ha] at z
      cases z
      exact ⟨ha, (by rw [List.length_map]; exact hl), vs, _, rv, ha⟩
    · rw [Hn b q] at z; cases z
end
/-- as walk_of, for a law whose def is told by FnG -/
theorem walkG {l : PySem.W.OpenLaw} {n k : Nat} {q : Program} {loose : List Str} {XP : (Str → Option Value) → Heap → Prop} {YP : World → Heap → Prop} {d : DefRec} {K : Params → PySem.W.Frag} {sp : PySem.W.Frag → Sp} {x : Str}
    (hn : l.most = some n) (hn2 : n ≤ sizeLine) (hdf : d.params.defaults = []) (hr : Room k callerA) (hY : ∀ (w : World) (h : Heap), YP w h → (K w.params).In h)
    (F : ∀ (w : World) (mg : Str → Option Value) (fa : Addr) (h : Heap), (K w.params).In h → h.Ns mainGlobals mg → mg d.name = some (.ref fa) → ∃ fd : FuncData, (∀ (s : Shared) (u : Value), BindsTo s fd ⟨[u], []⟩ [(x, u)]) ∧
      ∀ base : Heap, (K w.params).In base → base.Ns mainGlobals mg → FnG l.prog w (K w.params) mg base k fa fd [x] (sp (K w.params)))
    (hsp : ∀ (K : PySem.W.Frag) (H : Hp) (a : Addr) (ns : List Int), ns.length ≤ n → Only H → SqL K H a (ns.map V.int) → sp K [.ref a] H (fun v _ => v = .bl true) fun _ _ _ => False) :
    PySem.W.WalkO q loose XP YP l.row.toRowW d [] (fun f vs => PySem.call f vs) := by
  refine Att.attach_call hn hdf ?_
  intro w s₀ s₁ mg mb fa o pm cd doc a vs ns G Y ho hd hcd hmg hobj hints hlen hg
  obtain ⟨fd, hb, hF⟩ := F w mg fa _ (hY w _ Y) G.T.g hmg
  exact law_enter (hY w _ Y) G.T.g G.T.b G.T.builtins G.T.nolimit hg hobj hints (Nat.le_trans hlen hn2) hr hb hF fun H hO hS => hsp _ H a ns hlen hO hS
end DL

-- part DLn
set_option maxHeartbeats 1000000
namespace DL
open PySem PySem.Spec PyProof.Rows L2

/-! ### defs as they stand behind the top -/
def inCls (i : Nat) : Stmt → Stmt
  | .ClassDef (body := b) .. => b.getD i (.Pass ⟨0, 0, 0, 0⟩)
  | z => z
/-- what is known of a def in K: its object, its code's name -/
abbrev DefIn (K : PySem.W.Frag) (x qual : Str) (st : Stmt) (dV : Value) (f : Addr) (fd : FuncData) : Prop :=
  ∃ (oc : Value) (od : Option Addr) (kV doc pm : Value) (an : Option Addr) (cdv ct : Value) (osl : Array (Option Value)), fd = PySem.W.fnOf x qual (defArgs st) (defBody st) (defScope st) dV kV doc pm an cdv ct ∧ K.lookup f = some ⟨oc, od, .func fd, osl⟩ ∧ PySem.W.codeIn K cdv qual = true
/-- a def that may be called by its name: k the room it takes, dds its defaults -/
structure Cle (P : Program) (w : World) (K : PySem.W.Frag) (mg : Str → Option Value) (base : Heap) (x : Str) (k n : Nat) (dds : List D) (sem : FD) : Prop where
  ex : ∃ (f : Addr) (fd : FuncData) (ps : List Str) (dvs : List V) (ds : List Value), FnG P w K mg base k f fd ps (spD K n sem) ∧ mg x = some (.ref f) ∧ PySem.W.keepIn K (.ref f) = true ∧ Binds K fd ps ds ∧ Vals dvs ds ∧ ∀ (h : Addr) (F : Addr → Prop) (H : Hp), DqA K h F H dvs dds
  nn : ∀ ds s, sem ds s ≠ .stk → ds.length = n
/-- an own error class whose __init__ keeps one field -/
structure ErX1 (P : Program) (w : World) (K : PySem.W.Frag) (mg : Str → Option Value) (base : Heap) (x : Str) (C : Addr) (fld : Str) : Prop where
  oex : OexC K C
  ini : ∃ (fI : Addr) (fd : FuncData) (ps : List Str), PySem.W.findIn K (.ref C) "__init__" = some (some (.ref fI)) ∧ PySem.W.typeIn K (.ref fI) = some (.type "function") ∧ FnOk P w K mg base CX0 1 fI fd ps (spIn1 C fld) ∧ Binds K fd ps []
  gC : mg x = some (.ref C)
  te : PySem.W.exmOne K (.ref C) (.ref C) = some true
  xf : XfC K C
  noF : PySem.W.findIn K (.ref C) fld = some none
section
variable {X : Cx} {W : WX} {k n : Nat} {sem : FD} {dds : List D} {x fld : Str} {p pos pos2 : Pos} {e : Expr} {es : List Expr} {fs : EA} {f : ED} {C : Addr}
theorem de_callC (c : Cle X.prog X.w X.K X.mg X.base x k n dds sem) (hG : X.A.guards = some []) (hr : Room k X.A) (hg : Gl X x) (tk : Takes X W)
    (ha : DA X W (e :: es) fs) (hdb : (x == ("__debug__" : Str)) = false := by decide) (he : starEach (e :: es) X.env = (false, eval e X.env) :: starEach es X.env := by rfl) (hpl : (backTo pos (starEach es X.env)).any (·.1) = false := by rfl) :
    DE X W (.Call (.Name x p) (e :: es) [] pos) (F2c sem dds fs) := by
  obtain ⟨f, fd, ps, dvs, ds, h1, h2, h3, h4, h5, h6⟩ := c.ex
  exact de_call h1 hG hr hg h2 h3 h4 h5 h6 c.nn tk ha hdb he hpl
theorem ds_raiseX (c : ErX1 X.prog X.w X.K X.mg X.base x C fld) (hc : X.calm = true) (hr : Room (1 + 1) X.A) (hg : Gl X x)
    (tk : Takes X W) (he : DE X W e f) (hdb : (x == ("__debug__" : Str)) = false := by decide) (hs : starEach [e] X.env = (false, eval e X.env) :: starEach [] X.env := by rfl) (hpl : (backTo pos (starEach [] X.env)).any (·.1) = false := by rfl) :
    DS X W (.Raise (some (.Call (.Name x p) [e] [] pos)) none pos2) (ofE f fun d δ s => .err C [(fld, d)] δ s) := by
  obtain ⟨fI, fd, ps, h1, h2, h3, h4⟩ := c.ini
  exact ds_raise1 hc c.oex h1 h2 h3 hr h4 hg c.gC tk he hdb hs hpl
end
section
variable {P : Program} {w : World} {K : PySem.W.Frag} {mg : Str → Option Value} {base : Heap}
/-- a def without defaults, by its promise -/
theorem cle_of {x qual : Str} {st : Stmt} {f : Addr} {fd : FuncData} {ps : List Str} {k n : Nat} {sem : FD} (F : FnG P w K mg base k f fd ps (spD K n (arF n sem))) (hF : DefIn K x qual st .none f fd) (hm : mg x = some (.ref f)) (hk : PySem.W.keepIn K (.ref f) = true)
    (h : ∀ (kV doc pm : Value) (an : Option Addr) (cdv ct : Value) (us : List Value), us.length = ps.length → bindArgs (PySem.W.fnOf x qual (defArgs st) (defBody st) (defScope st) .none kV doc pm an cdv ct) ⟨us, []⟩ = pure (ps.zip us)) : Cle P w K mg base x k n [] (arF n sem) := by
  refine ⟨⟨f, fd, ps, [], [], F, hm, hk, ?_, .nil, fun _ _ _ => .nil⟩, arF_n⟩
  obtain ⟨oc, od, kV, doc, pm, an, cdv, ct, osl, rfl, lk, hcd⟩ := hF
  exact .all (h kV doc pm an cdv ct)
/-- a def with defaults, by its promise: those behind the first j stand for what is not written -/
theorem cle_ofD {x qual : Str} {st : Stmt} {f : Addr} {fd : FuncData} {ps : List Str} {k n : Nat} {sem : FD} {dvs : List V} {dds : List D} (F : FnG P w K mg base k f fd ps (spD K n (arF n sem))) (G : FunD K x qual (defArgs st) (defBody st) (defScope st) dvs [] f fd) (hm : mg x = some (.ref f)) (m j : Nat) (hd : dvs ≠ []) (hn : m + (dvs.length - j) = ps.length)
    (h : ∀ (T : Addr) (kV doc pm : Value) (an : Option Addr) (cdv ct : Value) (us its : List Value), us.length = m → its.length = dvs.length →
      ∃ k, bindArgs (PySem.W.fnOf x qual (defArgs st) (defBody st) (defScope st) (.ref T) kV doc pm an cdv ct) ⟨us, []⟩ = seqItems? (.ref T) >>= k ∧ k (some its.toArray) = pure (ps.zip (us ++ its.drop j)))
    (hdd : ∀ (h : Addr) (F : Addr → Prop) (H : Hp), DqA K h F H (dvs.drop j) dds) : Cle P w K mg base x k n dds (arF n sem) := by
  obtain ⟨ds, h1, h2⟩ := G.binds1 (ps := ps) m j hd hn h
  exact ⟨⟨f, fd, ps, dvs.drop j, ds, F, hm, G.kp, h2, h1, hdd⟩, arF_n⟩
/-- __init__ of an own error class, one field -/
theorem init1_okD {x qual fld : Str} {st : Stmt} {f C : Addr} {fd : FuncData} {p1 p2 p3 p4 : Pos} {ps : List Str} (hF : DefIn K x qual st .none f fd) (S : FnScope ps ps (defScope st)) (hps : ps = [("self" : Str), fld]) (hb : defBody st = [.Assign [.Attribute (.Name ("self" : Str) p1) fld p2] (.Name fld p3) p4])
    (T : OexC K C) (hno : PySem.W.findIn K (.ref C) fld = some none) (h1 : (defScope st).names.lookup ("self" : Str) = some .local) (h2 : (defScope st).names.lookup fld = some .local) (hd : (fld == ("__debug__" : Str)) = false) (hcd : (fld == ("__classdict__" : Str)) = false) :
    FnOk P w K mg base CX0 1 f fd ps (spIn1 C fld) := by
  subst hps
  obtain ⟨oc, od, kV, doc, pm, an, cdv, ct, osl, rfl, lk, hcod⟩ := hF
  refine fn_of lk hcod S (fun vs H Q E h => ?_) (fun A outer s H vs Q E hr h => ?_)
  · obtain ⟨a, v, rfl, _⟩ := h
    rfl
  · rw [hb]
    obtain ⟨a, v, rfl, ha, q⟩ := h
    exact ⟨_, (pss_one (ps_ost (pe_var (i := 0) rfl (.inl h1)) (pe_var (i := 1) rfl (.inl h2) hd hcd))).nox, v, rfl, .ref a, rfl, a, C, rfl, T, hno, .inl ⟨ha, q⟩⟩
/-- the class, from what K holds of it -/
theorem erx1_mk {x qual fld : Str} {st : Stmt} {fI C : Addr} {fd : FuncData} {p1 p2 p3 p4 : Pos} (T : OexC K C) (iC : PySem.W.findIn K (.ref C) "__init__" = some (some (.ref fI))) (tI : PySem.W.typeIn K (.ref fI) = some (.type "function"))
    (hF : DefIn K x qual st .none fI fd) (S : FnScope [("self" : Str), fld] [("self" : Str), fld] (defScope st)) (hb : defBody st = [.Assign [.Attribute (.Name ("self" : Str) p1) fld p2] (.Name fld p3) p4])
    (h1 : (defScope st).names.lookup ("self" : Str) = some .local) (h2 : (defScope st).names.lookup fld = some .local) (hd : (fld == ("__debug__" : Str)) = false) (hcd : (fld == ("__classdict__" : Str)) = false)
    (hbi : ∀ (kV doc pm : Value) (an : Option Addr) (cdv ct : Value) (us : List Value), us.length = 2 → bindArgs (PySem.W.fnOf x qual (defArgs st) (defBody st) (defScope st) .none kV doc pm an cdv ct) ⟨us, []⟩ = pure ([("self" : Str), fld].zip us))
    (hno : PySem.W.findIn K (.ref C) fld = some none) (xf : XfC K C) (te : PySem.W.exmOne K (.ref C) (.ref C) = some true) {y : Str} (gC : mg y = some (.ref C)) : ErX1 P w K mg base y C fld := by
  refine ⟨T, ⟨fI, fd, [("self" : Str), fld], iC, tI, init1_okD hF S rfl hb T hno h1 h2 hd hcd, ?_⟩, gC, te, xf, hno⟩
  obtain ⟨oc, od, kV, doc, pm, an, cdv, ct, osl, rfl, lk, hcod⟩ := hF
  exact .all (hbi kV doc pm an cdv ct)
/-! ### the law's own def: the hand is made, then data -/
/-- what makes the hand -/
def spHand (K : PySem.W.Frag) : Sp := fun vs H Q _ => ∃ (a : Addr) (ns : List Int), vs = [.ref a] ∧ SqL K H a (ns.map V.int) ∧ ns.length ≤ 63 ∧
  ∀ (H' : Hp) (h c : Addr) (tot : Int), c ≠ h → H h = none → H c = none → H' c = some (.lst ((ns.map fun n : Int => (n.natAbs : Int)).map V.int)) → H' h = some (.lst [.ref c, .int 0, .int 0, .int tot]) → Q (.ref h) H'
/-- the law's call: it gives True -/
def spLaw (K : PySem.W.Frag) : Sp := fun vs H Q _ => ∃ (a : Addr) (ns : List Int), vs = [.ref a] ∧ SqL K H a (ns.map V.int) ∧ ns.length ≤ 63 ∧ ∀ H', Q (.bl true) H'
/-- the hand at the start -/
def hs0 (ns : List Int) (tot : Int) : HS := ⟨ns.map fun n : Int => (n.natAbs : Int), 0, 0, tot⟩
theorem law_ok {qual : Str} {st : Stmt} {f fh : Addr} {fd fdh : FuncData} {N' : List Str} {k kh : Nat} {body : SD} {rest : List Stmt} {p1 p2 p3 p4 p5 : Pos}
    (hF : DefIn K "law" qual st .none f fd) (S : FnScope ("_law_script" :: "_law_hand_here" :: N') ["_law_script"] (defScope st)) (hb : defBody st = .Assign [.Name "_law_hand_here" p1] (.Call (.Name "_law_hand" p2) [.Name "_law_script" p3] [] p4) p5 :: rest)
    (Fh : FnOk P w K mg base (L2.CX P w) kh fh fdh ["_law_script"] (spHand K)) (hm : mg "_law_hand" = some (.ref fh)) (hk : PySem.W.keepIn K (.ref fh) = true) (hbh : Binds K fdh ["_law_script"] []) (hkk : kh ≤ k)
    (k1 : (defScope st).names.lookup ("_law_script" : Str) = some .local) (k2 : (defScope st).names.lookup ("_law_hand_here" : Str) = some .local) (k3 : ∀ s cdv, (envOfC qual (defScope st) s f cdv).kindOf ("_law_hand" : Str) = some .globalImplicit)
    (hbody : ∀ (cdv : Value) (A : Around) (outer : List Env) (s : Shared) (H : Hp) (E : XK), (A.deeper (envOfC qual (defScope st) s.heap.objs.size f cdv)).guards = some [] → Room k (A.deeper (envOfC qual (defScope st) s.heap.objs.size f cdv)) →
      DSs (cxOf (L2.CX P w) P w K mg base ("_law_script" :: "_law_hand_here" :: N') qual (defScope st) f cdv A outer s H E) (fun cls d _ H => E cls d H) rest body)
    (hv : ∀ (ns : List Int) (tot : Int), ns.length ≤ 63 → ∃ s', body (.un :: .fz .hnd :: List.replicate N'.length .un) (hs0 ns tot) = .rt (.bl true) s') : FnG P w K mg base (k + 1) f fd ["_law_script"] (spLaw K) := by
  refine fnG_ok hF S (fun vs H Q E h => by obtain ⟨a, ns, rfl, _⟩ := h; rfl) fun cdv A outer s H vs Q E hg hr h => ?_
  rw [hb]
  refine ⟨_, pss_cons (ps_set (i := 1) S.nd rfl (.inl k2) (pe_callS (E := fun _ => E0) Fh (hr.mono hkk) (k3 _ _) hm hk hbh (fun σ => passAt takes0 σ) (pa_cons (pe_var (i := 0) rfl (.inl k1)) pa_nil))) (hbody cdv A outer s H E hg hr).ps, ?_⟩
  obtain ⟨a, ns, rfl, hS, hl, q⟩ := h
  refine ⟨.ref a, rfl, a, ns, rfl, hS, hl, fun H' h c tot nch nh nc ec eh => ?_⟩
  obtain ⟨s', hs'⟩ := hv ns tot hl
  refine ⟨⟨h, c, fun b => b = h, H', fun _ => False⟩, .un :: .fz .hnd :: List.replicate N'.length .un, hs0 ns tot, ?_, ?_⟩
  · have no : ∀ (i : Nat) (es : List D), (Sl.un :: Sl.fz D.hnd :: List.replicate N'.length Sl.un)[i]? ≠ some (.ow es) := fun i es e => by
      have m := List.mem_of_getElem? e
      simp only [List.mem_cons, List.mem_replicate] at m
      rcases m with m | m | ⟨_, m⟩ <;> cases m
    refine ⟨Ex.refl _, ⟨rfl, fun b e => ?_⟩, ⟨?_, nch⟩, fun b z => z.elim, ⟨nch, ec, eh⟩, fun i d e => ?_, fun i es e => absurd e (no i es), fun i j es _ _ e => absurd e (no i es), ?_⟩
    · subst e
      show H' b ≠ none
      rw [eh]; intro z; cases z
    · show H' c ≠ none
      rw [ec]; intro z; cases z
    · match i with
      | 0 => cases e
      | 1 => cases e; exact ⟨.ref h, rfl, .hnd⟩
      | i + 2 =>
        have : (List.replicate N'.length Sl.un)[i]? = some (.fz d) := e
        rw [List.getElem?_replicate] at this
        split at this <;> cases this
    · simp [L2.start]
  · rw [hs']
    rintro v H2 ⟨f1, f2, f3⟩
    cases f3
    exact q H2
end
end DL

-- part DLq
set_option maxHeartbeats 1000000
namespace DL
open PySem PySem.Spec PyProof.Rows L2

/-! ### reckoning with what a def makes of data: step by step -/
section
variable {δ δ' δ1 : Dt} {s s1 s2 s3 : HS} {f f2 : ED} {fs : EA} {t t2 : ET} {a b g : SD} {d d1 d2 : D} {ds : List D} {i : Nat} {C : Addr} {fl : List (Str × D)} {p : Pm1} {p2 : Pm2} {pa : PmA} {sem : FD} {dds : List D} {z : Bool}
theorem e_nx (h : a δ s = .nx δ' s1) : seqF a b δ s = b δ' s1 := by unfold seqF; rw [h]
theorem e_rt (h : a δ s = .rt d s1) : seqF a b δ s = .rt d s1 := by unfold seqF; rw [h]
theorem e_er (h : a δ s = .err C fl δ' s1) : seqF a b δ s = .err C fl δ' s1 := by unfold seqF; rw [h]
theorem e_set (h : f δ s = .ok d s1) : setF i f δ s = .nx (δ.set i (.fz d)) s1 := by unfold setF ofE; rw [h]
theorem e_ret (h : f δ s = .ok d s1) : retF f δ s = .rt d s1 := by unfold retF ofE; rw [h]
theorem e_setE (h : f δ s = .err C fl s1) : setF i f δ s = .err C fl δ s1 := by unfold setF ofE; rw [h]
theorem e_raise {k : D → Dt → HS → Fl} (h : f δ s = .ok d s1) : ofE f k δ s = k d δ s1 := by unfold ofE; rw [h]
theorem e_ifT (h : t δ s = .ok true s1) : ifF t a b δ s = a δ s1 := by unfold ifF; rw [h]; rfl
theorem e_ifF (h : t δ s = .ok false s1) : ifF t a b δ s = b δ s1 := by unfold ifF; rw [h]; rfl
theorem e_if (h : t δ s = .ok z s1) : ifF t a b δ s = if z = true then a δ s1 else b δ s1 := by unfold ifF; rw [h]
theorem e_var (h : δ[i]? = some (.fz d) := by rfl) : fVar i δ s = .ok d s := by unfold fVar; rw [h]
theorem e_c : fC d δ s = .ok d s := rfl
theorem e_1 (h : f δ s = .ok d s1) (e : p d s1 = some d1) : F1 p f δ s = .ok d1 s1 := by unfold F1 Re.bind; rw [h]; show Re.of (p d s1) s1 = _; rw [e]; rfl
theorem e_2 (h : f δ s = .ok d s1) (h2 : f2 δ s1 = .ok d1 s2) (e : p2 d d1 s2 = some d2) : F2 p2 f f2 δ s = .ok d2 s2 := by
  unfold F2; rw [h]; show (f2 δ s1).bind _ = _; rw [h2]; show Re.of (p2 d d1 s2) s2 = _; rw [e]; rfl
theorem e_A (h : fs δ s = .ok ds s1) (e : pa ds s1 = some d) : FA pa fs δ s = .ok d s1 := by unfold FA; rw [h]; show Re.of (pa ds s1) s1 = _; rw [e]; rfl
theorem e_nil : aNil δ s = .ok [] s := rfl
theorem e_cons (h : f δ s = .ok d s1) (h2 : fs δ s1 = .ok ds s2) : aCons f fs δ s = .ok (d :: ds) s2 := by unfold aCons; rw [h]; show (fs δ s1).bind _ = _; rw [h2]; rfl
theorem e_a1 (h : f δ s = .ok d s1) : aCons f aNil δ s = .ok [d] s1 := e_cons h e_nil
theorem e_a2 (h : f δ s = .ok d s1) (h2 : f2 δ s1 = .ok d1 s2) : aCons f (aCons f2 aNil) δ s = .ok [d, d1] s2 := e_cons h (e_a1 h2)
theorem e_call (h : fs δ s = .ok ds s1) {r : Re D} (e : sem (ds ++ dds) s1 = r) : F2c sem dds fs δ s = r := by unfold F2c; rw [h]; exact e
theorem e_bl (h : f δ s = .ok (.bl z) s1) : tBl f δ s = .ok z s1 := by unfold tBl; rw [h]; rfl
theorem e_tru (h : f δ s = .ok d s1) (e : truD d = some z) : tTru f δ s = .ok z s1 := by unfold tTru; rw [h]; show Re.of (truD d) s1 = _; rw [e]; rfl
theorem e_not (h : t δ s = .ok z s1) : tNotF t δ s = .ok (!z) s1 := by unfold tNotF; rw [h]; rfl
theorem e_andF (h : t δ s = .ok false s1) : tAndF t t2 δ s = .ok false s1 := by unfold tAndF; rw [h]; rfl
theorem e_andT (h : t δ s = .ok true s1) {r : Re Bool} (h2 : t2 δ s1 = r) : tAndF t t2 δ s = r := by unfold tAndF; rw [h]; exact h2
theorem e_orT (h : t δ s = .ok true s1) : tOrF t t2 δ s = .ok true s1 := by unfold tOrF; rw [h]; rfl
theorem e_orF (h : t δ s = .ok false s1) {r : Re Bool} (h2 : t2 δ s1 = r) : tOrF t t2 δ s = r := by unfold tOrF; rw [h]; exact h2
theorem e_fif (h : t δ s = .ok z s1) {r : Re D} (e : (if z = true then f δ s1 else f2 δ s1) = r) : fIf t f f2 δ s = r := by unfold fIf; rw [h]; exact e
theorem e_fifT (h : t δ s = .ok true s1) {r : Re D} (e : f δ s1 = r) : fIf t f f2 δ s = r := e_fif h e
theorem e_fifF (h : t δ s = .ok false s1) {r : Re D} (e : f2 δ s1 = r) : fIf t f f2 δ s = r := e_fif h e
theorem e_over {q : List D → Option (List D)} {es : List D} (h : fs δ s = .ok ds s1) (e : q ds = some es) : overA q fs δ s = .ok es s1 := by unfold overA; rw [h]; show Re.of (q ds) s1 = _; rw [e]; rfl
theorem e_items (h : f δ s = .ok d s1) (e : itemsD d = some ds) : (fun δ s => (f δ s).bind fun d s1 => Re.of (itemsD d) s1) δ s = .ok ds s1 := by show (f δ s).bind _ = _; rw [h]; show Re.of (itemsD d) s1 = _; rw [e]; rfl
/-- a def's end -/
theorem e_def {n m : Nat} {dsn : List D} (hm : dsn.length = m) (h : b (dsn.map Sl.fz ++ List.replicate (n - dsn.length) Sl.un) s = .rt d s1) : arF m (defF n b) dsn s = .ok d s1 := by
  unfold arF defF; rw [if_pos hm, h]
theorem e_defN {n m : Nat} {dsn : List D} (hm : dsn.length = m) (h : b (dsn.map Sl.fz ++ List.replicate (n - dsn.length) Sl.un) s = .nx δ' s1) : arF m (defF n b) dsn s = .ok .non s1 := by
  unfold arF defF; rw [if_pos hm, h]
theorem e_defE {n m : Nat} {dsn : List D} (hm : dsn.length = m) (h : b (dsn.map Sl.fz ++ List.replicate (n - dsn.length) Sl.un) s = .err C fl δ' s1) : arF m (defF n b) dsn s = .err C fl s1 := by
  unfold arF defF; rw [if_pos hm, h]
end

theorem e_seq {δ δ' : Dt} {s s1 : HS} {a b : SD} {r : Fl} (h : a δ s = .nx δ' s1) (h2 : b δ' s1 = r) : seqF a b δ s = r := (e_nx h).trans h2
/-! ### primitives on ints -/
theorem mulOk_r {i j : Int} (h : j.natAbs < 2 ^ 63) : mulOk i j = true := by unfold mulOk; simp only [h, decide_true, Bool.or_true, Bool.true_or]
theorem mulOk_l {i j : Int} (h : i.natAbs < 2 ^ 63) : mulOk i j = true := by unfold mulOk; simp only [h, decide_true, Bool.true_or]
section
variable {i j : Int} {s : HS}
theorem q_mulr (h : j.natAbs < 2 ^ 63) : mulD (.int i) (.int j) s = some (.int (i * j)) := by show (if mulOk i j = true then _ else _) = _; rw [if_pos (mulOk_r h)]
theorem q_mull (h : i.natAbs < 2 ^ 63) : mulD (.int i) (.int j) s = some (.int (i * j)) := by show (if mulOk i j = true then _ else _) = _; rw [if_pos (mulOk_l h)]
theorem log2_small {n : Nat} (h : n < 2 ^ 63) : n.log2 < 9000 := by
  by_cases z : n = 0
  · subst z; decide
  · have := (Nat.log2_lt z).mpr h
    omega
theorem q_fdiv (h : 0 < j) (h2 : j < 2 ^ 63) : fdivD (.int i) (.int j) s = some (.int (i / j)) := by
  show (if _ then _ else _) = _
  rw [if_pos ⟨h, log2_small (by omega)⟩]
theorem q_mod (h : 0 < j) : modD (.int i) (.int j) s = some (.int (i % j)) := by show (if _ then _ else _) = _; rw [if_pos h]
theorem q_max : max2D [.int i, .int j] s = some (.int (max i j)) := by
  show some (D.int (if j > i then j else i)) = _
  congr 2
  split <;> omega
end
theorem atI_in {α : Type} {xs : List α} {n : Nat} {x : α} (h : xs[n]? = some x) : L2.atI xs (n : Int) = some x := by
  have hn : n < xs.length := (List.getElem?_eq_some_iff.mp h).1
  unfold L2.atI L2.ixN
  rw [if_pos (by omega)]
  split
  · simpa using h
  · omega

/-! ### loops and comprehensions -/
theorem loop_inv {gt : GD} {fb : SD} (I : Nat → Dt → HS → Prop) : ∀ (ds : List D) (n : Nat) (δ : Dt) (s : HS), I n δ s →
    (∀ k d δ s, ds[k]? = some d → I (n + k) δ s → ∃ δ1, gt d δ = some δ1 ∧ ∃ δ2 s2, fb δ1 s = .nx δ2 s2 ∧ I (n + k + 1) δ2 s2) → ∃ δ' s', loopF gt fb ds δ s = .nx δ' s' ∧ I (n + ds.length) δ' s'
  | [], n, δ, s, h, _ => ⟨δ, s, rfl, h⟩
  | d :: ds, n, δ, s, h, st => by
    obtain ⟨δ1, e1, δ2, s2, e2, h2⟩ := st 0 d δ s rfl h
    obtain ⟨δ', s', e3, h3⟩ := loop_inv I ds (n + 1) δ2 s2 h2 fun k d δ s e h => by
      have := st (k + 1) d δ s (by simpa using e) (by rw [show n + (k + 1) = n + 1 + k by omega]; exact h)
      rw [show n + 1 + k + 1 = n + (k + 1) + 1 by omega]
      exact this
    refine ⟨δ', s', ?_, ?_⟩
    · unfold loopF
      rw [e1]
      simp only [e2]
      exact e3
    · rw [List.length_cons, show n + (ds.length + 1) = n + 1 + ds.length by omega]; exact h3
theorem loop_nx {gt : GD} {fb : SD} {d : D} {ds : List D} {δ δ1 δ2 : Dt} {s s2 : HS} (h1 : gt d δ = some δ1) (h2 : fb δ1 s = .nx δ2 s2) : loopF gt fb (d :: ds) δ s = loopF gt fb ds δ2 s2 := by
  rw [loopF]; rw [h1]; simp only [h2]
theorem loop_rt {gt : GD} {fb : SD} {d x : D} {ds : List D} {δ δ1 : Dt} {s s2 : HS} (h1 : gt d δ = some δ1) (h2 : fb δ1 s = .rt x s2) : loopF gt fb (d :: ds) δ s = .rt x s2 := by
  rw [loopF]; rw [h1]; simp only [h2]
theorem for_eq {src : EA} {gt : GD} {fb : SD} {δ : Dt} {s s1 : HS} {ds : List D} (h : src δ s = .ok ds s1) : forF src gt fb δ s = loopF gt fb ds δ s1 := by unfold forF; rw [h]
/-- a comprehension that draws nothing -/
theorem lcL_pure {gt : GD} {ft : ET} {fe : ED} {δ : Dt} {s : HS} {p : D → Bool} {m : D → D} : ∀ {ds : List D}, (∀ d ∈ ds, ∃ δ1, gt d δ = some δ1 ∧ ft δ1 s = .ok (p d) s ∧ (p d = true → fe δ1 s = .ok (m d) s)) → lcL gt ft fe δ ds s = .ok ((ds.filter p).map m) s
  | [], _ => rfl
  | d :: ds, h => by
    obtain ⟨δ1, e1, e2, e3⟩ := h d List.mem_cons_self
    have ih := lcL_pure (gt := gt) (ft := ft) (fe := fe) (δ := δ) (s := s) (p := p) (m := m) (ds := ds) fun d hd => h d (List.mem_cons_of_mem _ hd)
    unfold lcL
    rw [e1]
    simp only [e2, Re.bindN]
    cases z : p d with
    | true =>
      rw [if_pos rfl, e3 z]
      simp only
      rw [ih, List.filter_cons_of_pos z]
      rfl
    | false =>
      rw [if_neg (by simp), ih, List.filter_cons_of_neg (by simp [z])]
theorem lc_pure {src : EA} {gt : GD} {ft : ET} {fe : ED} {vs : List Nat} {δ : Dt} {s s1 : HS} {ds : List D} (p : D → Bool) (m : D → D) (hs : src δ s = .ok ds s1) (hu : vs.all (isUn δ) = true) (hl : ds.length ≤ 1000000)
    (h : ∀ d ∈ ds, ∃ δ1, gt d δ = some δ1 ∧ ft δ1 s1 = .ok (p d) s1 ∧ (p d = true → fe δ1 s1 = .ok (m d) s1)) : lcF src gt ft fe vs δ s = .ok (.lst ((ds.filter p).map m)) s1 := by
  unfold lcF
  rw [hs]
  show (if _ then _ else _) = _
  rw [if_pos (by rw [hu, decide_eq_true hl]; rfl), lcL_pure h]
  rfl
/-- ints, one by one: those under p, each made m -/
theorem lc_ints {src : EA} {gt : GD} {ft : ET} {fe : ED} {vs : List Nat} {δ : Dt} {s s1 : HS} {ns : List Int} (p : Int → Bool) (m : Int → Int) (hs : src δ s = .ok (ns.map .int) s1) (hu : vs.all (isUn δ) = true) (hl : ns.length ≤ 1000000)
    (h : ∀ n ∈ ns, ∃ δ1, gt (.int n) δ = some δ1 ∧ ft δ1 s1 = .ok (p n) s1 ∧ (p n = true → fe δ1 s1 = .ok (.int (m n)) s1)) : lcF src gt ft fe vs δ s = .ok (.lst (((ns.filter p).map m).map .int)) s1 := by
  have q := lc_pure (src := src) (gt := gt) (ft := ft) (fe := fe) (vs := vs) (δ := δ) (fun d => match d with | .int n => p n | _ => false) (fun d => match d with | .int n => .int (m n) | d => d) hs hu (by rw [List.length_map]; exact hl) (fun d hd => by
    obtain ⟨n, hn, rfl⟩ := List.mem_map.mp hd
    exact h n hn)
  rw [q]
  congr 2
  clear q h hl hs
  induction ns with
  | nil => rfl
  | cons n ns ih =>
    rw [List.map_cons]
    cases z : p n with
    | true => rw [List.filter_cons_of_pos (by exact z), List.filter_cons_of_pos z, List.map_cons, List.map_cons, List.map_cons, ih]
    | false => rw [List.filter_cons_of_neg (by simp [z]), List.filter_cons_of_neg (by simp [z]), ih]
/-- a comprehension that draws -/
theorem lcL_draw {gt : GD} {ft : ET} {fe : ED} {δ : Dt} {I : HS → Prop} {A : D → Prop} : ∀ {ds : List D} {s : HS}, I s → (∀ d ∈ ds, ∀ s, I s → ∃ δ1, gt d δ = some δ1 ∧ ft δ1 s = .ok true s ∧ ∃ y s', fe δ1 s = .ok y s' ∧ I s' ∧ A y) → ∃ ys s', lcL gt ft fe δ ds s = .ok ys s' ∧ I s' ∧ (∀ y ∈ ys, A y) ∧ ys.length = ds.length
  | [], s, hi, _ => ⟨[], s, rfl, hi, fun _ h => absurd h List.not_mem_nil, rfl⟩
  | d :: ds, s, hi, h => by
    obtain ⟨δ1, e1, e2, y, s', e3, hi', hy⟩ := h d List.mem_cons_self s hi
    obtain ⟨ys, s2, e4, h2, h3, h4⟩ := lcL_draw (gt := gt) (ft := ft) (fe := fe) (δ := δ) (I := I) (A := A) (ds := ds) hi' fun d hd => h d (List.mem_cons_of_mem _ hd)
    refine ⟨y :: ys, s2, ?_, h2, fun z hz => ?_, by rw [List.length_cons, List.length_cons, h4]⟩
    · unfold lcL
      rw [e1]
      simp only [e2, Re.bindN, if_true, e3, e4]
    · rcases List.mem_cons.mp hz with rfl | hz
      · exact hy
      · exact h3 z hz
theorem lc_draw {src : EA} {gt : GD} {ft : ET} {fe : ED} {vs : List Nat} {δ : Dt} {s s1 : HS} {ds : List D} {I : HS → Prop} {A : D → Prop} (hs : src δ s = .ok ds s1) (hu : vs.all (isUn δ) = true) (hl : ds.length ≤ 1000000) (hi : I s1)
    (h : ∀ d ∈ ds, ∀ s, I s → ∃ δ1, gt d δ = some δ1 ∧ ft δ1 s = .ok true s ∧ ∃ y s', fe δ1 s = .ok y s' ∧ I s' ∧ A y) : ∃ ys s', lcF src gt ft fe vs δ s = .ok (.lst ys) s' ∧ I s' ∧ (∀ y ∈ ys, A y) ∧ ys.length = ds.length := by
  obtain ⟨ys, s', e, h1, h2, h3⟩ := lcL_draw hi h
  refine ⟨ys, s', ?_, h1, h2, h3⟩
  unfold lcF
  rw [hs]
  show (if _ then _ else _) = _
  rw [if_pos (by rw [hu, decide_eq_true hl]; rfl), e]
  rfl
/-- data that are ints -/
theorem dints_of {ys : List D} {A : Int → Prop} (h : ∀ y ∈ ys, ∃ n, y = .int n ∧ A n) : ∃ ns : List Int, ys = ns.map .int ∧ ∀ n ∈ ns, A n := by
  induction ys with
  | nil => exact ⟨[], rfl, fun _ h => absurd h List.not_mem_nil⟩
  | cons y ys ih =>
    obtain ⟨n, rfl, hn⟩ := h y List.mem_cons_self
    obtain ⟨ns, rfl, hns⟩ := ih fun z hz => h z (List.mem_cons_of_mem _ hz)
    refine ⟨n :: ns, rfl, fun m hm => ?_⟩
    rcases List.mem_cons.mp hm with rfl | hm
    · exact hn
    · exact hns m hm

/-! ### repr of small data -/
theorem pl_ints : ∀ {ns : List Int}, (∀ n ∈ ns, n.natAbs < 2 ^ 63) → plDs (ns.map .int) = true ∧ wtDs (ns.map .int) ≤ 67 * ns.length ∧ dpDs (ns.map .int) = 0
  | [], _ => ⟨rfl, Nat.le_refl _, rfl⟩
  | n :: ns, h => by
    obtain ⟨h1, h2, h3⟩ := pl_ints (ns := ns) fun m hm => h m (List.mem_cons_of_mem _ hm)
    have hn := h n List.mem_cons_self
    have hl : n.natAbs.log2 < 63 := by
      by_cases z : n.natAbs = 0
      · rw [z]; decide
      · exact (Nat.log2_lt z).mpr hn
    refine ⟨?_, ?_, ?_⟩
    · show (decide (n.natAbs.log2 < 1900) && plDs (ns.map .int)) = true
      rw [h1, decide_eq_true (by omega)]; rfl
    · show n.natAbs.log2 + 2 + 2 + wtDs (ns.map .int) ≤ 67 * (ns.length + 1)
      omega
    · show max 0 (dpDs (ns.map .int)) = 0
      rw [h3]; rfl
theorem okR_int {n : Int} (h : n.natAbs < 2 ^ 63) : okR (.int n) = true := by
  have := pl_ints (ns := [n]) fun m hm => by rw [List.mem_singleton.mp hm]; exact h
  have hl : n.natAbs.log2 < 63 := by
    by_cases z : n.natAbs = 0
    · rw [z]; decide
    · exact (Nat.log2_lt z).mpr h
  show (decide (n.natAbs.log2 < 1900) && decide (0 ≤ 60) && decide (n.natAbs.log2 + 2 ≤ 16000000)) = true
  rw [decide_eq_true (by omega), decide_eq_true (show n.natAbs.log2 + 2 ≤ 16000000 by omega)]; rfl
theorem okR_lst {ns : List Int} (h : ∀ n ∈ ns, n.natAbs < 2 ^ 63) (hl : ns.length ≤ 100000) : okR (.lst (ns.map .int)) = true := by
  obtain ⟨h1, h2, h3⟩ := pl_ints h
  show (plDs (ns.map .int) && decide (dpDs (ns.map .int) + 1 ≤ 60) && decide (wtDs (ns.map .int) + 2 ≤ 16000000)) = true
  rw [h1, h3, decide_eq_true (by omega), decide_eq_true (by omega)]; rfl
theorem okR_tup {ns : List Int} (h : ∀ n ∈ ns, n.natAbs < 2 ^ 63) (hl : ns.length ≤ 100000) : okR (.tup (ns.map .int)) = true := by
  obtain ⟨h1, h2, h3⟩ := pl_ints h
  show (plDs (ns.map .int) && decide (dpDs (ns.map .int) + 1 ≤ 60) && decide (wtDs (ns.map .int) + 3 ≤ 16000000)) = true
  rw [h1, h3, decide_eq_true (by omega), decide_eq_true (by omega)]; rfl
theorem okR_bl (b : Bool) : okR (.bl b) = true := by cases b <;> decide
/-- repr(x) != repr(y) of the same data -/
theorem e_same {f f2 : ED} {δ : Dt} {s s1 s2 : HS} {d : D} (h1 : f δ s = .ok d s1) (h2 : f2 δ s1 = .ok d s2) (ok : okR d = true) : tBl (F2 neD (FA reprD (aCons f aNil)) (FA reprD (aCons f2 aNil))) δ s = .ok false s2 := by
  have r : ∀ s, reprD [d] s = some (.str (toP d).shown) := fun s => by show (if okR d = true then _ else _) = _; rw [if_pos ok]
  refine e_bl (e_2 (e_A (e_a1 h1) (r _)) (e_A (e_a1 h2) (r _)) ?_)
  show some (D.bl (!decide ((toP d).shown = (toP d).shown))) = _
  rw [decide_eq_true rfl]; rfl
theorem e_sameE {f f2 : ED} {δ : Dt} {s s1 s2 : HS} {d : D} (h1 : f δ s = .ok d s1) (h2 : f2 δ s1 = .ok d s2) (ok : okR d = true) : F2 eqD (FA reprD (aCons f aNil)) (FA reprD (aCons f2 aNil)) δ s = .ok (.bl true) s2 := by
  have r : ∀ s, reprD [d] s = some (.str (toP d).shown) := fun s => by show (if okR d = true then _ else _) = _; rw [if_pos ok]
  refine e_2 (e_A (e_a1 h1) (r _)) (e_A (e_a1 h2) (r _)) ?_
  show some (D.bl (decide ((toP d).shown = (toP d).shown))) = _
  rw [decide_eq_true rfl]
end DL

-- part Pk05
set_option maxHeartbeats 1000000
/-! ### the text of the law threeshapes_k05_whole_shapes_turned_abou -/
namespace K05
open PySem PySem.Spec PyProof.Rows L2 DL
def topS (i : Nat) : Stmt := PySem.Challenge.pw_threeshapes_k05_whole_shapes_turned_abou.main.body.getD i (.Pass ⟨0, 0, 0, 0⟩)
abbrev s_sum_of_shape : Stmt := topS 4
theorem sc_sum_of_shape : FnScope ["shape"] ["shape"] (defScope s_sum_of_shape) := ⟨rfl, rfl, rfl, by decide +kernel, rfl, by decide +kernel, by decide +kernel⟩
abbrev s_weight_of : Stmt := topS 5
theorem sc_weight_of : FnScope ["shape", "at", "part"] ["shape"] (defScope s_weight_of) := ⟨rfl, rfl, rfl, by decide +kernel, rfl, by decide +kernel, by decide +kernel⟩
abbrev s_kind_of_shape : Stmt := topS 6
theorem sc_kind_of_shape : FnScope ["shape", "part"] ["shape"] (defScope s_kind_of_shape) := ⟨rfl, rfl, rfl, by decide +kernel, rfl, by decide +kernel, by decide +kernel⟩
abbrev s_shape_of_kind : Stmt := topS 7
theorem sc_shape_of_kind : FnScope ["kind", "length"] ["kind", "length"] (defScope s_shape_of_kind) := ⟨rfl, rfl, rfl, by decide +kernel, rfl, by decide +kernel, by decide +kernel⟩
abbrev s_is_above : Stmt := topS 8
theorem sc_is_above : FnScope ["one", "other", "length", "ahead", "part", "less"] ["one", "other"] (defScope s_is_above) := ⟨rfl, rfl, rfl, by decide +kernel, rfl, by decide +kernel, by decide +kernel⟩
abbrev s_turned_about : Stmt := topS 9
theorem sc_turned_about : FnScope ["shape", "length", "first", "least", "number", "part"] ["shape", "length"] (defScope s_turned_about) := ⟨rfl, rfl, rfl, by decide +kernel, rfl, by decide +kernel, by decide +kernel⟩
abbrev s_law_hand : Stmt := topS 11
theorem sc_law_hand : FnScope ["_law_script", "_law_total", "_law_cells", "_law_cell"] ["_law_script"] (defScope s_law_hand) := ⟨rfl, rfl, rfl, by decide +kernel, rfl, by decide +kernel, by decide +kernel⟩
abbrev s_law_mixed : Stmt := topS 12
theorem sc_law_mixed : FnScope ["_law_number", "_law_turn", "_law_once", "_law_twice"] ["_law_number", "_law_turn"] (defScope s_law_mixed) := ⟨rfl, rfl, rfl, by decide +kernel, rfl, by decide +kernel, by decide +kernel⟩
abbrev s_law_take : Stmt := topS 13
theorem sc_law_take : FnScope ["_law_hand_here", "_law_many", "_law_cell", "_law_rest"] ["_law_hand_here", "_law_many"] (defScope s_law_take) := ⟨rfl, rfl, rfl, by decide +kernel, rfl, by decide +kernel, by decide +kernel⟩
abbrev s_law_row : Stmt := topS 14
theorem sc_law_row : FnScope ["_law_hand_here", "_law_items"] ["_law_hand_here", "_law_items"] (defScope s_law_row) := ⟨rfl, rfl, rfl, by decide +kernel, rfl, by decide +kernel, by decide +kernel⟩
abbrev s_law_row_drawn : Stmt := topS 15
theorem sc_law_row_drawn : FnScope ["_law_hand_here", "_law_top", "_law_k"] ["_law_hand_here"] (defScope s_law_row_drawn) := ⟨rfl, rfl, rfl, by decide +kernel, rfl, by decide +kernel, by decide +kernel⟩
abbrev s_law_moved : Stmt := topS 16
theorem sc_law_moved : FnScope ["_law_hand_here", "_law_parts", "_law_told", "_law_step", "_law_i", "_law_j"] ["_law_hand_here", "_law_parts"] (defScope s_law_moved) := ⟨rfl, rfl, rfl, by decide +kernel, rfl, by decide +kernel, by decide +kernel⟩
abbrev s_law_turned : Stmt := topS 17
theorem sc_law_turned : FnScope ["_law_parts", "_law_length", "_law_j", "_law_part"] ["_law_parts", "_law_length"] (defScope s_law_turned) := ⟨rfl, rfl, rfl, by decide +kernel, rfl, by decide +kernel, by decide +kernel⟩
abbrev s_law_above : Stmt := topS 18
theorem sc_law_above : FnScope ["_law_one_here", "_law_other", "_law_k"] ["_law_one_here", "_law_other"] (defScope s_law_above) := ⟨rfl, rfl, rfl, by decide +kernel, rfl, by decide +kernel, by decide +kernel⟩
abbrev s_law_padded : Stmt := topS 19
theorem sc_law_padded : FnScope ["_law_kind", "_law_length", "_law_told", "wrong"] ["_law_kind", "_law_length"] (defScope s_law_padded) := ⟨rfl, rfl, rfl, by decide +kernel, rfl, by decide +kernel, by decide +kernel⟩
abbrev s_law_told_turned : Stmt := topS 20
theorem sc_law_told_turned : FnScope ["_law_parts", "_law_length", "_law_told", "wrong"] ["_law_parts", "_law_length"] (defScope s_law_told_turned) := ⟨rfl, rfl, rfl, by decide +kernel, rfl, by decide +kernel, by decide +kernel⟩
abbrev s_law_one : Stmt := topS 21
theorem sc_law_one : FnScope ["_law_hand_here", "_law_parts", "_law_kind", "_law_length", "_law_due", "_law_first", "_law_told", "_law_back", "_law_part", "_law_k"] ["_law_hand_here", "_law_parts"] (defScope s_law_one) := ⟨rfl, rfl, rfl, by decide +kernel, rfl, by decide +kernel, by decide +kernel⟩
abbrev s_law : Stmt := topS 22
theorem sc_law : FnScope ["_law_script", "_law_hand_here", "_law_step", "_law_one_here", "_law_other", "_law_high", "_law_low", "_law_due"] ["_law_script"] (defScope s_law) := ⟨rfl, rfl, rfl, by decide +kernel, rfl, by decide +kernel, by decide +kernel⟩
def b_sum_of_shape : SD := (retF (FA sumD (aCons (fVar 0) aNil)))
def sem_sum_of_shape : FD := arF 1 (defF 1 (b_sum_of_shape))
def lc_weight_of_1 : ED := lcF (overA enum1 (aCons (fVar 0) aNil)) (gpairF 1 2) (fun _ s => .ok true s) (F2 mulD (fVar 1) (fVar 2)) [1, 2]
def b_weight_of : SD := (retF (FA sumD (aCons lc_weight_of_1 aNil)))
def sem_weight_of : FD := arF 1 (defF 3 (b_weight_of))
def lc_kind_of_shape_1 : ED := lcF (fun δ s => ((fVar 0) δ s).bind fun d s1 => Re.of (itemsD d) s1) (gnF 1) (tBl (F2 neD (fVar 1) (fC (.int 0)))) (fVar 1) [1]
def b_kind_of_shape : SD := (retF (FA tupleD (aCons lc_kind_of_shape_1 aNil)))
def sem_kind_of_shape : FD := arF 1 (defF 2 (b_kind_of_shape))
def b_shape_of_kind (C_BadShape : Addr) : SD := (seqF (ifF (tBl (F2 (icmpD fun i j => decide (j < i)) (FA lenD (aCons (fVar 0) aNil)) (fVar 1))) (ofE (fC (.str ("many" : Str))) fun d δ s => .err C_BadShape [(("what" : Str), d)] δ s) nxF)
    (retF (F2 addD (FA tupleD (aCons (fVar 0) aNil)) (F2 mulD (FA mkT (aCons (fC (.int 0)) aNil)) (F2 subD (fVar 1) (FA lenD (aCons (fVar 0) aNil)))))))
def sem_shape_of_kind (C_BadShape : Addr) : FD := arF 2 (defF 2 (b_shape_of_kind C_BadShape))
def lb_is_above_1 : SD := (seqF (setF 3 (F2 subD (F2 addD (fVar 3) (fVar 4)) (fVar 5)))
    (ifF (tBl (F2 (icmpD fun i j => decide (i < j)) (fVar 3) (fC (.int 0)))) (retF (fC (.bl false))) nxF))
def lp_is_above_1 (C_BadShape : Addr) : SD := forF (overA zip2 (aCons (F2c (sem_shape_of_kind C_BadShape) [] (aCons (fVar 0) (aCons (fVar 2) aNil))) (aCons (F2c (sem_shape_of_kind C_BadShape) [] (aCons (fVar 1) (aCons (fVar 2) aNil))) aNil))) (gtupF 2 (gconsF (gnF 4) (gconsF (gnF 5) gnilF))) lb_is_above_1
def b_is_above (C_BadShape : Addr) : SD := (seqF (setF 2 (FA max2D (aCons (FA lenD (aCons (fVar 0) aNil)) (aCons (FA lenD (aCons (fVar 1) aNil)) aNil))))
    (seqF (setF 3 (fC (.int 0)))
    (seqF (lp_is_above_1 C_BadShape)
    (retF (F2 eqD (fVar 3) (fC (.int 0)))))))
def sem_is_above (C_BadShape : Addr) : FD := arF 2 (defF 6 (b_is_above C_BadShape))
def lc_turned_about_1 : ED := lcF (fun δ s => ((fVar 0) δ s).bind fun d s1 => Re.of (itemsD d) s1) (gnF 5) (tBl (F2 (icmpD fun i j => decide (j ≤ i)) (fVar 5) (fVar 4))) (fVar 5) [5]
def lc_turned_about_2 : ED := lcF (overA rng2 (aCons (fC (.int 1)) (aCons (F2 addD (fVar 1) (fC (.int 1))) aNil))) (gnF 4) (fun _ s => .ok true s) (FA lenD (aCons lc_turned_about_1 aNil)) [4]
def b_turned_about (C_BadShape : Addr) : SD := (seqF (setF 2 (fIf (tBl (F2 (icmpD fun i j => decide (j < i)) (FA lenD (aCons (fVar 0) aNil)) (fC (.int 0)))) (F2 ixD (fVar 0) (fC (.int 0))) (fC (.int 0))))
    (seqF (setF 3 (FA max2D (aCons (fVar 2) (aCons (fC (.int 1)) aNil))))
    (seqF (ifF (tBl (F1 isNonD (fVar 1))) (setF 1 (fVar 3)) nxF)
    (seqF (ifF (tBl (F2 (icmpD fun i j => decide (i < j)) (fVar 1) (fVar 3))) (ofE (fC (.str ("many" : Str))) fun d δ s => .err C_BadShape [(("what" : Str), d)] δ s) nxF)
    (retF (FA tupleD (aCons lc_turned_about_2 aNil)))))))
def sem_turned_about (C_BadShape : Addr) : FD := arF 2 (defF 6 (b_turned_about C_BadShape))
def b_law_mixed : SD := (seqF (setF 2 (F2 modD (FA intD (aCons (F2 addD (F2 addD (F2 mulD (fVar 0) (fC (.int 48271))) (F2 mulD (fVar 1) (fC (.int 7919)))) (fC (.int 30011))) aNil)) (fC (.int 2147483399))))
    (seqF (setF 3 (F2 modD (FA intD (aCons (F2 addD (F2 addD (F2 mulD (fVar 2) (fVar 2)) (F2 mulD (fVar 1) (fC (.int 92821)))) (F2 fdivD (fVar 2) (fC (.int 131)))) aNil)) (fC (.int 2147483629))))
    (retF (F2 fdivD (FA intD (aCons (F2 modD (FA intD (aCons (F2 addD (F2 mulD (fVar 3) (fC (.int 69621))) (F2 fdivD (fVar 2) (fC (.int 13)))) aNil)) (fC (.int 2147483587))) aNil)) (fC (.int 32))))))
def sem_law_mixed : FD := arF 2 (defF 4 (b_law_mixed))
def b_law_take : SD := (seqF (ifF (tAndF (tBl (F2 eqD (F2 ixD (fVar 0) (fC (.int 2))) (fC (.int 0)))) (tBl (F2 (icmpD fun i j => decide (i < j)) (F2 ixD (fVar 0) (fC (.int 1))) (FA lenD (aCons (F2 ixD (fVar 0) (fC (.int 0))) aNil))))) (seqF (setF 2 (F2 ixD (F2 ixD (fVar 0) (fC (.int 0))) (F2 ixD (fVar 0) (fC (.int 1)))))
    (seqF (setHF 0 1 (F2 addD (F2 ixD (fVar 0) (fC (.int 1))) (fC (.int 1))))
    (seqF (ifF (tBl (F2 (icmpD fun i j => decide (i < j)) (fVar 2) (F2 powD (fC (.int 10)) (fC (.int 18))))) (retF (F2 modD (FA intD (aCons (F2c sem_law_mixed [] (aCons (F2 modD (FA intD (aCons (fVar 2) aNil)) (fC (.int 2147483399))) (aCons (F2 ixD (fVar 0) (fC (.int 1))) aNil))) aNil)) (fVar 1))) nxF)
    (setHF 0 2 (fVar 2))))) nxF)
    (seqF (ifF (tBl (F2 (icmpD fun i j => decide (j < i)) (F2 ixD (fVar 0) (fC (.int 2))) (fC (.int 0)))) (seqF (setF 3 (F2 ixD (fVar 0) (fC (.int 2))))
    (seqF (setHF 0 2 (F2 fdivD (FA intD (aCons (fVar 3) aNil)) (fVar 1)))
    (retF (F2 modD (FA intD (aCons (fVar 3) aNil)) (fVar 1))))) nxF)
    (seqF (setHF 0 3 (F2 modD (FA intD (aCons (F2 addD (F2 ixD (fVar 0) (fC (.int 3))) (fC (.int 1))) aNil)) (fC (.int 2147483549))))
    (retF (F2 modD (FA intD (aCons (F2c sem_law_mixed [] (aCons (F2 ixD (fVar 0) (fC (.int 3))) (aCons (F2 ixD (fVar 0) (fC (.int 1))) aNil))) aNil)) (fVar 1))))))
def sem_law_take : FD := arF 2 (defF 4 (b_law_take))
def b_law_row : SD := (retF (fIf (tTru (F2c sem_law_take [] (aCons (fVar 0) (aCons (fC (.int 2)) aNil)))) (FA listD (aCons (fVar 1) aNil)) (FA tupleD (aCons (fVar 1) aNil))))
def sem_law_row : FD := arF 2 (defF 2 (b_law_row))
def lc_law_row_drawn_1 : ED := lcF (overA rng1 (aCons (F2c sem_law_take [] (aCons (fVar 0) (aCons (fC (.int 9)) aNil))) aNil)) (gnF 2) (fun _ s => .ok true s) (F2c sem_law_take [] (aCons (fVar 0) (aCons (fVar 1) aNil))) [2]
def b_law_row_drawn : SD := (seqF (setF 1 (fIf (tBl (F2 eqD (F2c sem_law_take [] (aCons (fVar 0) (aCons (fC (.int 16)) aNil))) (fC (.int 15)))) (fC (.int 61)) (F2 ixD (FA mkT (aCons (fC (.int 3)) (aCons (fC (.int 5)) (aCons (fC (.int 13)) (aCons (fC (.int 2)) aNil))))) (F2c sem_law_take [] (aCons (fVar 0) (aCons (fC (.int 4)) aNil))))))
    (retF (F1 revD (FA sortedD (aCons lc_law_row_drawn_1 aNil)))))
def sem_law_row_drawn : FD := arF 1 (defF 3 (b_law_row_drawn))
def lb_law_moved_1 : SD := (ifF (tBl (F2 (icmpD fun i j => decide (j < i)) (lenoF 2) (fC (.int 1)))) (seqF (setF 4 (F2c sem_law_take [] (aCons (fVar 0) (aCons (lenoF 2) aNil))))
    (seqF (setF 5 (F2c sem_law_take [] (aCons (fVar 0) (aCons (lenoF 2) aNil))))
    (ifF (tBl (F2 (icmpD fun i j => decide (j < i)) (ixoF 2 (fVar 5)) (fC (.int 0)))) (seqF (setoF 2 (F2 subD (ixoF 2 (fVar 5)) (fC (.int 1))) (fVar 5))
    (setoF 2 (F2 addD (ixoF 2 (fVar 4)) (fC (.int 1))) (fVar 4))) nxF))) nxF)
def lp_law_moved_1 : SD := forF (overA rng1 (aCons (F2 addD (fC (.int 1)) (F2c sem_law_take [] (aCons (fVar 0) (aCons (fC (.int 4)) aNil)))) aNil)) (gnF 3) lb_law_moved_1
def b_law_moved : SD := (seqF (ownF 2 (aCons (fVar 1) aNil))
    (seqF lp_law_moved_1
    (fun δ s => (retF (F1 revD (FA sortedD (aCons (fVar 2) aNil)))) (frz 2 δ) s)))
def sem_law_moved : FD := arF 2 (defF 6 (b_law_moved))
def lc_law_turned_1 : ED := lcF (fun δ s => ((fVar 0) δ s).bind fun d s1 => Re.of (itemsD d) s1) (gnF 3) (tBl (F2 (icmpD fun i j => decide (j < i)) (fVar 3) (fVar 2))) (fVar 3) [3]
def lc_law_turned_2 : ED := lcF (overA rng1 (aCons (fVar 1) aNil)) (gnF 2) (fun _ s => .ok true s) (FA lenD (aCons lc_law_turned_1 aNil)) [2]
def b_law_turned : SD := (retF (FA tupleD (aCons lc_law_turned_2 aNil)))
def sem_law_turned : FD := arF 2 (defF 4 (b_law_turned))
def lb_law_above_1 : SD := (ifF (tBl (F2 (icmpD fun i j => decide (i < j)) (FA sumD (aCons (fSli (fVar 0) (fun _ s => .ok none s) (fun δ s => ((fVar 2) δ s).bind fun d s1 => Re.of (intOf d) s1)) aNil)) (FA sumD (aCons (fSli (fVar 1) (fun _ s => .ok none s) (fun δ s => ((fVar 2) δ s).bind fun d s1 => Re.of (intOf d) s1)) aNil)))) (retF (fC (.bl false))) nxF)
def lp_law_above_1 : SD := forF (overA rng1 (aCons (fC (.int 10)) aNil)) (gnF 2) lb_law_above_1
def b_law_above : SD := (seqF (ifF (tBl (F2 neD (FA sumD (aCons (fVar 0) aNil)) (FA sumD (aCons (fVar 1) aNil)))) (retF (fC (.bl false))) nxF)
    (seqF lp_law_above_1
    (retF (fC (.bl true)))))
def sem_law_above : FD := arF 2 (defF 3 (b_law_above))
def b_law_padded (C_BadShape : Addr) : SD := (seqF (tryF C_BadShape [] 3 (setF 2 (F2c (sem_shape_of_kind C_BadShape) [] (aCons (fVar 0) (aCons (fVar 1) aNil)))) (fun fs => (setF 2 (FA mkL (aCons (fun _ s => Re.of (fs.lookup ("what" : Str)) s) aNil)))))
    (retF (fVar 2)))
def sem_law_padded (C_BadShape : Addr) : FD := arF 2 (defF 4 (b_law_padded C_BadShape))
def b_law_told_turned (C_BadShape : Addr) : SD := (seqF (tryF C_BadShape [] 3 (setF 2 (F2c (sem_turned_about C_BadShape) [] (aCons (fVar 0) (aCons (fVar 1) aNil)))) (fun fs => (setF 2 (FA mkL (aCons (fun _ s => Re.of (fs.lookup ("what" : Str)) s) aNil)))))
    (retF (fVar 2)))
def sem_law_told_turned (C_BadShape : Addr) : FD := arF 2 (defF 4 (b_law_told_turned C_BadShape))
def lc_law_one_1 : ED := lcF (fun δ s => ((fVar 1) δ s).bind fun d s1 => Re.of (itemsD d) s1) (gnF 8) (tBl (F2 (icmpD fun i j => decide (j < i)) (fVar 8) (fC (.int 0)))) (fVar 8) [8]
def lc_law_one_2 : ED := lcF (overA rng1 (aCons (FA lenD (aCons (fVar 1) aNil)) aNil)) (gnF 9) (fun _ s => .ok true s) (F2 mulD (fVar 9) (F2 ixD (fVar 1) (fVar 9))) [9]
def b_law_one (C_BadShape : Addr) : SD := (seqF (setF 2 (FA tupleD (aCons lc_law_one_1 aNil)))
    (seqF (ifF (tBl (F2 neD (FA reprD (aCons (F2c sem_sum_of_shape [] (aCons (F2c sem_law_row [] (aCons (fVar 0) (aCons (fVar 1) aNil))) aNil)) aNil)) (FA reprD (aCons (FA sumD (aCons (fVar 1) aNil)) aNil)))) (retF (fC (.bl false))) nxF)
    (seqF (ifF (tBl (F2 neD (FA reprD (aCons (F2c sem_weight_of [] (aCons (F2c sem_law_row [] (aCons (fVar 0) (aCons (fVar 1) aNil))) aNil)) aNil)) (FA reprD (aCons (FA sumD (aCons lc_law_one_2 aNil)) aNil)))) (retF (fC (.bl false))) nxF)
    (seqF (ifF (tBl (F2 neD (FA reprD (aCons (F2c sem_kind_of_shape [] (aCons (F2c sem_law_row [] (aCons (fVar 0) (aCons (fVar 1) aNil))) aNil)) aNil)) (FA reprD (aCons (fVar 2) aNil)))) (retF (fC (.bl false))) nxF)
    (seqF (setF 3 (F2c sem_law_take [] (aCons (fVar 0) (aCons (fC (.int 12)) aNil))))
    (seqF (setF 4 (fIf (tBl (F2 (icmpD fun i j => decide (j < i)) (FA lenD (aCons (fVar 1) aNil)) (fVar 3))) (FA mkL (aCons (fC (.str ("many" : Str))) aNil)) (F2 addD (FA tupleD (aCons (fVar 1) aNil)) (F2 mulD (FA mkT (aCons (fC (.int 0)) aNil)) (F2 subD (fVar 3) (FA lenD (aCons (fVar 1) aNil)))))))
    (seqF (ifF (tBl (F2 neD (FA reprD (aCons (F2c (sem_law_padded C_BadShape) [] (aCons (F2c sem_law_row [] (aCons (fVar 0) (aCons (fVar 1) aNil))) (aCons (fVar 3) aNil))) aNil)) (FA reprD (aCons (fVar 4) aNil)))) (retF (fC (.bl false))) nxF)
    (seqF (setF 5 (fIf (tTru (fVar 1)) (F2 ixD (fVar 1) (fC (.int 0))) (fC (.int 0))))
    (seqF (setF 6 (F2c (sem_turned_about C_BadShape) [.non] (aCons (F2c sem_law_row [] (aCons (fVar 0) (aCons (fVar 1) aNil))) aNil)))
    (seqF (ifF (tBl (F2 neD (FA reprD (aCons (fVar 6) aNil)) (FA reprD (aCons (F2c sem_law_turned [] (aCons (fVar 1) (aCons (FA max2D (aCons (fVar 5) (aCons (fC (.int 1)) aNil))) aNil))) aNil)))) (retF (fC (.bl false))) nxF)
    (seqF (setF 7 (F2c (sem_turned_about C_BadShape) [.non] (aCons (fVar 6) aNil)))
    (seqF (ifF (tAndF (tTru (fVar 2)) (tBl (F2 neD (FA reprD (aCons (fVar 7) aNil)) (FA reprD (aCons (fVar 2) aNil))))) (retF (fC (.bl false))) nxF)
    (seqF (setF 3 (FA max2D (aCons (fC (.int 0)) (aCons (F2 addD (F2 subD (fVar 5) (fC (.int 2))) (F2c sem_law_take [] (aCons (fVar 0) (aCons (fC (.int 6)) aNil)))) aNil))))
    (seqF (setF 4 (fIf (tBl (F2 (icmpD fun i j => decide (i < j)) (fVar 3) (FA max2D (aCons (fVar 5) (aCons (fC (.int 1)) aNil))))) (FA mkL (aCons (fC (.str ("many" : Str))) aNil)) (F2c sem_law_turned [] (aCons (fVar 1) (aCons (fVar 3) aNil)))))
    (retF (F2 eqD (FA reprD (aCons (F2c (sem_law_told_turned C_BadShape) [] (aCons (F2c sem_law_row [] (aCons (fVar 0) (aCons (fVar 1) aNil))) (aCons (fVar 3) aNil))) aNil)) (FA reprD (aCons (fVar 4) aNil))))))))))))))))))
def sem_law_one (C_BadShape : Addr) : FD := arF 2 (defF 10 (b_law_one C_BadShape))
def lb_law_1 (C_BadShape : Addr) : SD := (seqF (setF 7 (F2c sem_law_above [] (aCons (fVar 5) (aCons (fVar 6) aNil))))
    (seqF (ifF (tBl (F2 neD (FA reprD (aCons (F2c (sem_is_above C_BadShape) [] (aCons (F2c sem_law_row [] (aCons (fVar 1) (aCons (fVar 5) aNil))) (aCons (F2c sem_law_row [] (aCons (fVar 1) (aCons (fVar 6) aNil))) aNil))) aNil)) (FA reprD (aCons (fVar 7) aNil)))) (retF (fC (.bl false))) nxF)
    (ifF (tBl (F2 neD (FA reprD (aCons (F2c (sem_is_above C_BadShape) [] (aCons (F2c (sem_turned_about C_BadShape) [.non] (aCons (fVar 6) aNil)) (aCons (F2c (sem_turned_about C_BadShape) [.non] (aCons (fVar 5) aNil)) aNil))) aNil)) (FA reprD (aCons (fVar 7) aNil)))) (retF (fC (.bl false))) nxF)))
def lp_law_1 (C_BadShape : Addr) : SD := forF (fun δ s => ((FA mkT (aCons (FA mkT (aCons (fVar 3) (aCons (fVar 4) aNil))) (aCons (FA mkT (aCons (fVar 4) (aCons (fVar 3) aNil))) (aCons (FA mkT (aCons (fVar 3) (aCons (fVar 3) aNil))) aNil)))) δ s).bind fun d s1 => Re.of (itemsD d) s1) (gtupF 2 (gconsF (gnF 5) (gconsF (gnF 6) gnilF))) (lb_law_1 C_BadShape)
def lb_law_2 (C_BadShape : Addr) : SD := (seqF (setF 3 (F2c sem_law_row_drawn [] (aCons (fVar 1) aNil)))
    (seqF (setF 4 (fIf (tTru (F2c sem_law_take [] (aCons (fVar 1) (aCons (fC (.int 4)) aNil)))) (F2c sem_law_moved [] (aCons (fVar 1) (aCons (fVar 3) aNil))) (F2c sem_law_row_drawn [] (aCons (fVar 1) aNil))))
    (seqF (ifF (tOrF (tNotF (tTru (F2c (sem_law_one C_BadShape) [] (aCons (fVar 1) (aCons (fVar 3) aNil))))) (tNotF (tTru (F2c (sem_law_one C_BadShape) [] (aCons (fVar 1) (aCons (fVar 4) aNil)))))) (retF (fC (.bl false))) nxF)
    (lp_law_1 C_BadShape))))
def lp_law_2 (C_BadShape : Addr) : SD := forF (overA rng1 (aCons (fC (.int 4)) aNil)) (gnF 2) (lb_law_2 C_BadShape)
def b_law (C_BadShape : Addr) : SD := (seqF (lp_law_2 C_BadShape)
    (retF (fC (.bl true))))
section
variable {P : Program} {w : World} {K : PySem.W.Frag} {mg : Str → Option Value} {base : Heap} {C_BadShape : Addr}
theorem ok_sum_of_shape {f : Addr} {fd : FuncData} {dV : Value} (hF : DefIn K "sum_of_shape" "sum_of_shape" s_sum_of_shape dV f fd)
    (n_sum : mg "sum" = none) : FnG P w K mg base 1 f fd ["shape"] (spD K 1 sem_sum_of_shape) :=
  def_ok (k := 0) hF sc_sum_of_shape rfl fun cdv A outer s H E hG hr => by
    have nd := sc_sum_of_shape.nd
    exact (dss_one (ds_ret (de_callB (call_sumA rfl) p_sum (by rfl) n_sum (by decide +kernel) (da_cons (de_var 0) da_nil))))
theorem ok_weight_of {f : Addr} {fd : FuncData} {dV : Value} (hF : DefIn K "weight_of" "weight_of" s_weight_of dV f fd)
    (n_enumerate : mg "enumerate" = none)
    (n_sum : mg "sum" = none) : FnG P w K mg base 1 f fd ["shape"] (spD K 1 sem_weight_of) :=
  def_ok (k := 0) hF sc_weight_of rfl fun cdv A outer s H E hG hr => by
    have nd := sc_weight_of.nd
    exact (dss_one (ds_ret (de_callB (call_sumA rfl) p_sum (by rfl) n_sum (by decide +kernel) (da_cons (de_lc rfl nd (di_enum (by rfl) n_enumerate (da_cons (de_var 0) da_nil)) (blkOk_by (own := [(("at" : Str), 1), (("part" : Str), 2)]) (by rfl)) ⟨_, fun _ _ _ _ _ => pg_tup rfl (pgs_cons (pg_name (i := 1) nd rfl (by first | exact Or.inl rfl | exact Or.inr rfl)) (pgs_cons (pg_name (i := 2) nd rfl (by first | exact Or.inl rfl | exact Or.inr rfl)) pgs_nil)), dgr_pair 1 2⟩ (keep_pair 1 2) (by intro i h; exact h) (fun _ _ _ _ _ => dts_nil) (fun _ _ _ _ _ => (de_bin o_mul p_mul (de_var 1) (de_var 2)))) da_nil))))
theorem ok_kind_of_shape {f : Addr} {fd : FuncData} {dV : Value} (hF : DefIn K "kind_of_shape" "kind_of_shape" s_kind_of_shape dV f fd)
    (n_tuple : mg "tuple" = none) : FnG P w K mg base 1 f fd ["shape"] (spD K 1 sem_kind_of_shape) :=
  def_ok (k := 0) hF sc_kind_of_shape rfl fun cdv A outer s H E hG hr => by
    have nd := sc_kind_of_shape.nd
    exact (dss_one (ds_ret (de_callTy call_tuple_of p_tuple (by rfl) n_tuple (by decide +kernel) (da_cons (de_lc rfl nd (di_seq (de_var 0)) (blkOk_by (own := [(("part" : Str), 1)]) (by rfl)) ⟨gName 1, fun _ _ _ _ _ => pg_name (i := 1) nd rfl (by first | exact Or.inl rfl | exact Or.inr rfl), dgr_name 1⟩ (keep_name 1) (by intro i h; exact h) (fun _ _ _ _ _ => dts_one (dt_cmp op_ne p_ne (de_var 1) de_int (nomark _))) (fun _ _ _ _ _ => (de_var 1))) da_nil))))
theorem ok_shape_of_kind {f : Addr} {fd : FuncData} {dV : Value} (hF : DefIn K "shape_of_kind" "shape_of_kind" s_shape_of_kind dV f fd)
    (n_len : mg "len" = none)
    (n_tuple : mg "tuple" = none)
    (x_BadShape : ErX1 P w K mg base "BadShape" C_BadShape "what") : FnG P w K mg base 3 f fd ["kind", "length"] (spD K 2 (sem_shape_of_kind C_BadShape)) :=
  def_ok (k := 2) hF sc_shape_of_kind rfl fun cdv A outer s H E hG hr => by
    have nd := sc_shape_of_kind.nd
    exact (dss_cons (ds_if (dt_cmp op_gt (p_icmp (c := fun i j => decide (j < i))) (de_callB call_len_seq p_len (by rfl) n_len (by decide +kernel) (da_cons (de_var 0) da_nil)) (de_var 1) (nomark _)) (dss_one (ds_raiseX x_BadShape rfl (hr.mono (by decide)) rfl (takes_of rfl rfl rfl rfl) de_str)) dss_nil)
      (dss_one (ds_ret (de_bin o_add p_add (de_callTy call_tuple_of p_tuple (by rfl) n_tuple (by decide +kernel) (da_cons (de_var 0) da_nil)) (de_bin o_mul p_mul (de_tup (da_cons de_int da_nil)) (de_bin op_sub p_sub (de_var 1) (de_callB call_len_seq p_len (by rfl) n_len (by decide +kernel) (da_cons (de_var 0) da_nil))))))))
theorem ok_is_above {f : Addr} {fd : FuncData} {dV : Value} (hF : DefIn K "is_above" "is_above" s_is_above dV f fd)
    (n_len : mg "len" = none)
    (n_max : mg "max" = none)
    (n_zip : mg "zip" = none)
    (c_shape_of_kind : Cle P w K mg base "shape_of_kind" 3 2 [] (sem_shape_of_kind C_BadShape)) : FnG P w K mg base 4 f fd ["one", "other"] (spD K 2 (sem_is_above C_BadShape)) :=
  def_ok (k := 3) hF sc_is_above rfl fun cdv A outer s H E hG hr => by
    have nd := sc_is_above.nd
    exact (dss_cons (ds_set 2 nd (de_callB (call_max2 rfl) p_max2 (by rfl) n_max (by decide +kernel) (da_cons (de_callB call_len_seq p_len (by rfl) n_len (by decide +kernel) (da_cons (de_var 0) da_nil)) (da_cons (de_callB call_len_seq p_len (by rfl) n_len (by decide +kernel) (da_cons (de_var 1) da_nil)) da_nil))))
      (dss_cons (ds_set 3 nd de_int)
      (dss_cons (ds_for (passes_of rfl) rfl (di_zip (by rfl) n_zip (da_cons (de_callC c_shape_of_kind hG (hr.mono (by decide)) (by rfl) (takes_of rfl rfl rfl rfl) (da_cons (de_var 0) (da_cons (de_var 2) da_nil))) (da_cons (de_callC c_shape_of_kind hG (hr.mono (by decide)) (by rfl) (takes_of rfl rfl rfl rfl) (da_cons (de_var 1) (da_cons (de_var 2) da_nil))) da_nil))) (dg_tup rfl (dgs_cons (dg_name 4 nd) (dgs_cons (dg_name 5 nd) dgs_nil))) (dss_cons (ds_set 3 nd (de_bin op_sub p_sub (de_bin o_add p_add (de_var 3) (de_var 4)) (de_var 5)))
      (dss_one (ds_if (dt_cmp op_lt (p_icmp (c := fun i j => decide (i < j))) (de_var 3) de_int (nomark _)) (dss_one (ds_ret de_bl)) dss_nil))))
      (dss_one (ds_ret (de_cmp op_eq p_eq (de_var 3) de_int (nomark _)))))))
theorem ok_turned_about {f : Addr} {fd : FuncData} {dV : Value} (hF : DefIn K "turned_about" "turned_about" s_turned_about dV f fd)
    (n_len : mg "len" = none)
    (n_max : mg "max" = none)
    (n_range : mg "range" = none)
    (n_tuple : mg "tuple" = none)
    (x_BadShape : ErX1 P w K mg base "BadShape" C_BadShape "what") : FnG P w K mg base 3 f fd ["shape", "length"] (spD K 2 (sem_turned_about C_BadShape)) :=
  def_ok (k := 2) hF sc_turned_about rfl fun cdv A outer s H E hG hr => by
    have nd := sc_turned_about.nd
    exact (dss_cons (ds_set 2 nd (de_if (dt_cmp op_gt (p_icmp (c := fun i j => decide (j < i))) (de_callB call_len_seq p_len (by rfl) n_len (by decide +kernel) (da_cons (de_var 0) da_nil)) de_int (nomark _)) (de_ix o_ix p_ix (de_var 0) de_int (fun _ _ => rfl)) de_int))
      (dss_cons (ds_set 3 nd (de_callB (call_max2 rfl) p_max2 (by rfl) n_max (by decide +kernel) (da_cons (de_var 2) (da_cons de_int da_nil))))
      (dss_cons (ds_if (dt_isN (de_var 1)) (dss_one (ds_set 1 nd (de_var 3))) dss_nil)
      (dss_cons (ds_if (dt_cmp op_lt (p_icmp (c := fun i j => decide (i < j))) (de_var 1) (de_var 3) (nomark _)) (dss_one (ds_raiseX x_BadShape rfl (hr.mono (by decide)) rfl (takes_of rfl rfl rfl rfl) de_str)) dss_nil)
      (dss_one (ds_ret (de_callTy call_tuple_of p_tuple (by rfl) n_tuple (by decide +kernel) (da_cons (de_lc rfl nd (di_range2 (by rfl) n_range (da_cons de_int (da_cons (de_bin o_add p_add (de_var 1) de_int) da_nil))) (blkOk_by (own := [(("number" : Str), 4)]) (by rfl)) ⟨gName 4, fun _ _ _ _ _ => pg_name (i := 4) nd rfl (by first | exact Or.inl rfl | exact Or.inr rfl), dgr_name 4⟩ (keep_name 4) (by intro i h; exact h) (fun _ _ _ _ _ => dts_nil) (fun _ _ _ _ _ => (de_callB call_len_seq p_len (by rfl) n_len (by decide +kernel) (da_cons (de_lc rfl nd (di_seq (de_var 0)) (blkOk_by (own := [(("part" : Str), 5)]) (by rfl)) ⟨gName 5, fun _ _ _ _ _ => pg_name (i := 5) nd rfl (by first | exact Or.inl rfl | exact Or.inr rfl), dgr_name 5⟩ (keep_name 5) (by intro i h; exact h) (fun _ _ _ _ _ => dts_one (dt_cmp op_ge (p_icmp (c := fun i j => decide (j ≤ i))) (de_var 5) (de_var 4) (nomark _))) (fun _ _ _ _ _ => (de_var 5))) da_nil)))) da_nil))))))))
theorem ok_law_hand {f : Addr} {fd : FuncData} (hF : DefIn K "_law_hand" "_law_hand" s_law_hand .none f fd) (kp : PySem.W.keepIn K (.ref f) = true) (n_len : mg "len" = none) (n_int : mg "int" = none) (n_abs : mg "abs" = none) :
    FnOk P w K mg base (L2.CX P w) 1 f fd ["_law_script"] (spHand K) := by
  refine Fun.okX (k := 0) ⟨hF, kp⟩ sc_law_hand (fun vs H Q E h => by obtain ⟨a, ns, rfl, _⟩ := h; rfl) fun cdv A outer s H vs Q E hr h => ?_
  have nd := sc_law_hand.nd
  obtain ⟨a, ns, rfl, hS, hl, q⟩ := h
  refine ⟨_, pss_cons (ps_set (i := 1) nd rfl (.inl rfl) (pe_op op_add (pe_callB call_len_seq (by rfl) n_len (by decide +kernel) (pa_cons (pv 0) pa_nil)) pe_int))
    (pss_cons (ps_set (i := 2) nd rfl (.inl rfl) (pe_lst pa_nil))
    (pss_cons (ps_for (passes_of rfl) rfl (pi_list (pv 0)) (pg_name (i := 3) nd rfl (.inl rfl))
      (pss_cons (ps_set (i := 1) nd rfl (.inl rfl) (pe_op op_mod (pe_callTy call_int1 (by rfl) n_int (by decide +kernel) (pa_cons (pe_op op_add (pe_op op_mul (pv 1) pe_int) (pe_callTy call_int1 (by rfl) n_int (by decide +kernel) (pa_cons (pv 3) pa_nil))) pa_nil)) pe_int))
      (pss_one (ps_expr (pe_bm PySem.F.plainAttrs_list PySem.F.slot_list_append PySem.F.type_list_append mt_append (pv 2) (pa_cons (pe_callB call_abs (by rfl) n_abs (by decide +kernel) (pa_cons (pe_callTy call_int1 (by rfl) n_int (by decide +kernel) (pa_cons (pv 3) pa_nil)) pa_nil)) pa_nil))))))
    (pss_one (ps_ret (pe_lst (pa_cons (pv 2) (pa_cons pe_int (pa_cons pe_int (pa_cons (pv 1) pa_nil))))))))), ?_⟩
  refine ⟨.ref a, rfl, a, ns.map V.int, rfl, .inl hS, _, _, rfl, rfl, Nat.zero_le _, fun c nc => ?_⟩
  have s1 : Same H (upd H c (.lst [])) := same_upd nc
  refine ⟨.ref a, rfl, a, rfl, ⟨_, s1.seq hS⟩, for_list (K := _) (a := a) (xs := ns.map V.int) (fun i σ H' => ∃ (t : Int) (v : Option V), σ = [some (.ref a), some (.int t), some (.ref c), v] ∧ Same H H' ∧ H' c = some (.lst (((ns.take i).map fun n : Int => (n.natAbs : Int)).map V.int)))
    ⟨_, none, rfl, s1, upd_same⟩ (fun i σ H' _ ⟨_, _, _, sm, _⟩ => sm.seq hS) ?_ ?_⟩
  · rintro i y σ H' hi ⟨t, v, rfl, sm, ec⟩
    obtain ⟨z, hz, rfl⟩ : ∃ z, ns[i]? = some z ∧ y = V.int z := by
      rw [List.getElem?_map] at hi
      cases e : ns[i]? with
      | none => rw [e] at hi; cases hi
      | some z => rw [e] at hi; exact ⟨z, rfl, (Option.some.inj hi).symm⟩
    refine ⟨_, rfl, _, _, rfl, rfl, .inr ⟨by decide, by decide⟩, _, rfl, .inl ⟨_, rfl, _, _, rfl, rfl, .inl ⟨_, rfl, _, _, rfl, rfl, (by decide : (0 : Int) < _), ?_⟩⟩⟩
    refine ⟨.ref c, rfl, .inl ⟨rfl, _, .inl (.inl ec)⟩, _, rfl, .inl ⟨_, rfl, _, rfl, c, _, _, rfl, rfl, ec, ?_, ?_⟩⟩
    · rw [List.length_map, List.length_map, List.length_take]
      exact Nat.lt_of_le_of_lt (Nat.min_le_left _ _) (small1000 (by
        have : i < ns.length := (List.getElem?_eq_some_iff.mp hz).1
        omega))
    · refine ⟨_, some (.int z), rfl, fun b o e => ?_, ?_⟩
      · rw [upd_ne (ne_of_none e nc)]
        exact sm _ _ e
      · rw [upd_same, List.take_add_one, hz, List.map_append, List.map_append]
        have e2 : (if z < 0 then -z else z) = (z.natAbs : Int) := by
          split <;> omega
        rw [e2]
        rfl
  · rintro σ H' ⟨t, v, rfl, sm, ec⟩
    rw [List.length_map, List.take_length] at ec
    refine ⟨_, rfl, _, rfl, line6 (show 4 ≤ 1000000 by decide), fun h nh => ?_⟩
    have nhc : c ≠ h := ne_of_none ec nh
    refine q _ h c t nhc ?_ nc ?_ upd_same
    · cases e : H h with
      | none => rfl
      | some o => rw [sm _ _ e] at nh; cases nh
    · rw [upd_ne nhc]
      exact ec

theorem ok_law_mixed {f : Addr} {fd : FuncData} {dV : Value} (hF : DefIn K "_law_mixed" "_law_mixed" s_law_mixed dV f fd)
    (n_int : mg "int" = none) : FnG P w K mg base 1 f fd ["_law_number", "_law_turn"] (spD K 2 sem_law_mixed) :=
  def_ok (k := 0) hF sc_law_mixed rfl fun cdv A outer s H E hG hr => by
    have nd := sc_law_mixed.nd
    exact (dss_cons (ds_set 2 nd (de_bin op_mod p_mod (de_callTy call_int1 p_intc (by rfl) n_int (by decide +kernel) (da_cons (de_bin o_add p_add (de_bin o_add p_add (de_bin o_mul p_mul (de_var 0) de_int) (de_bin o_mul p_mul (de_var 1) de_int)) de_int) da_nil)) de_int))
      (dss_cons (ds_set 3 nd (de_bin op_mod p_mod (de_callTy call_int1 p_intc (by rfl) n_int (by decide +kernel) (da_cons (de_bin o_add p_add (de_bin o_add p_add (de_bin o_mul p_mul (de_var 2) (de_var 2)) (de_bin o_mul p_mul (de_var 1) de_int)) (de_bin op_fdivW p_fdiv (de_var 2) de_int)) da_nil)) de_int))
      (dss_one (ds_ret (de_bin op_fdivW p_fdiv (de_callTy call_int1 p_intc (by rfl) n_int (by decide +kernel) (da_cons (de_bin op_mod p_mod (de_callTy call_int1 p_intc (by rfl) n_int (by decide +kernel) (da_cons (de_bin o_add p_add (de_bin o_mul p_mul (de_var 3) de_int) (de_bin op_fdivW p_fdiv (de_var 2) de_int)) da_nil)) de_int) da_nil)) de_int)))))
theorem ok_law_take {f : Addr} {fd : FuncData} {dV : Value} (hF : DefIn K "_law_take" "_law_take" s_law_take dV f fd)
    (n_int : mg "int" = none)
    (n_len : mg "len" = none)
    (c_law_mixed : Cle P w K mg base "_law_mixed" 1 2 [] sem_law_mixed) : FnG P w K mg base 2 f fd ["_law_hand_here", "_law_many"] (spD K 2 sem_law_take) :=
  def_ok (k := 1) hF sc_law_take rfl fun cdv A outer s H E hG hr => by
    have nd := sc_law_take.nd
    exact (dss_cons (ds_if (dw_and (dt_cmp op_eq p_eq (de_ix o_ix p_ix (de_var 0) de_int (fun _ _ => rfl)) de_int (nomark _)) (dw_and1 (dt_cmp op_lt (p_icmp (c := fun i j => decide (i < j))) (de_ix o_ix p_ix (de_var 0) de_int (fun _ _ => rfl)) (de_callB call_len_seq p_len (by rfl) n_len (by decide +kernel) (da_cons (de_ix o_ix p_ix (de_var 0) de_int (fun _ _ => rfl)) da_nil)) (nomark _)))).dt (dss_cons (ds_set 2 nd (de_ix o_ix p_ix (de_ix o_ix p_ix (de_var 0) de_int (fun _ _ => rfl)) (de_ix o_ix p_ix (de_var 0) de_int (fun _ _ => rfl)) (fun _ _ => rfl)))
      (dss_cons (ds_setHand 0 1 (de_bin o_add p_add (de_ix o_ix p_ix (de_var 0) de_int (fun _ _ => rfl)) de_int))
      (dss_cons (ds_if (dt_cmp op_lt (p_icmp (c := fun i j => decide (i < j))) (de_var 2) (de_bin op_pow p_pow de_int de_int) (nomark _)) (dss_one (ds_ret (de_bin op_mod p_mod (de_callTy call_int1 p_intc (by rfl) n_int (by decide +kernel) (da_cons (de_callC c_law_mixed hG (hr.mono (by decide)) (by rfl) (takes_of rfl rfl rfl rfl) (da_cons (de_bin op_mod p_mod (de_callTy call_int1 p_intc (by rfl) n_int (by decide +kernel) (da_cons (de_var 2) da_nil)) de_int) (da_cons (de_ix o_ix p_ix (de_var 0) de_int (fun _ _ => rfl)) da_nil))) da_nil)) (de_var 1)))) dss_nil)
      (dss_one (ds_setHand 0 2 (de_var 2)))))) dss_nil)
      (dss_cons (ds_if (dt_cmp op_gt (p_icmp (c := fun i j => decide (j < i))) (de_ix o_ix p_ix (de_var 0) de_int (fun _ _ => rfl)) de_int (nomark _)) (dss_cons (ds_set 3 nd (de_ix o_ix p_ix (de_var 0) de_int (fun _ _ => rfl)))
      (dss_cons (ds_setHand 0 2 (de_bin op_fdivW p_fdiv (de_callTy call_int1 p_intc (by rfl) n_int (by decide +kernel) (da_cons (de_var 3) da_nil)) (de_var 1)))
      (dss_one (ds_ret (de_bin op_mod p_mod (de_callTy call_int1 p_intc (by rfl) n_int (by decide +kernel) (da_cons (de_var 3) da_nil)) (de_var 1)))))) dss_nil)
      (dss_cons (ds_setHand 0 3 (de_bin op_mod p_mod (de_callTy call_int1 p_intc (by rfl) n_int (by decide +kernel) (da_cons (de_bin o_add p_add (de_ix o_ix p_ix (de_var 0) de_int (fun _ _ => rfl)) de_int) da_nil)) de_int))
      (dss_one (ds_ret (de_bin op_mod p_mod (de_callTy call_int1 p_intc (by rfl) n_int (by decide +kernel) (da_cons (de_callC c_law_mixed hG (hr.mono (by decide)) (by rfl) (takes_of rfl rfl rfl rfl) (da_cons (de_ix o_ix p_ix (de_var 0) de_int (fun _ _ => rfl)) (da_cons (de_ix o_ix p_ix (de_var 0) de_int (fun _ _ => rfl)) da_nil))) da_nil)) (de_var 1)))))))
theorem ok_law_row {f : Addr} {fd : FuncData} {dV : Value} (hF : DefIn K "_law_row" "_law_row" s_law_row dV f fd)
    (n_list : mg "list" = none)
    (n_tuple : mg "tuple" = none)
    (c_law_take : Cle P w K mg base "_law_take" 2 2 [] sem_law_take) : FnG P w K mg base 3 f fd ["_law_hand_here", "_law_items"] (spD K 2 sem_law_row) :=
  def_ok (k := 2) hF sc_law_row rfl fun cdv A outer s H E hG hr => by
    have nd := sc_law_row.nd
    exact (dss_one (ds_ret (de_if (dt_tru (de_callC c_law_take hG (hr.mono (by decide)) (by rfl) (takes_of rfl rfl rfl rfl) (da_cons (de_var 0) (da_cons de_int da_nil)))) (de_callTy call_list_of p_list (by rfl) n_list (by decide +kernel) (da_cons (de_var 1) da_nil)) (de_callTy call_tuple_of p_tuple (by rfl) n_tuple (by decide +kernel) (da_cons (de_var 1) da_nil)))))
theorem ok_law_row_drawn {f : Addr} {fd : FuncData} {dV : Value} (hF : DefIn K "_law_row_drawn" "_law_row_drawn" s_law_row_drawn dV f fd)
    (n_range : mg "range" = none)
    (n_sorted : mg "sorted" = none)
    (c_law_take : Cle P w K mg base "_law_take" 2 2 [] sem_law_take) : FnG P w K mg base 3 f fd ["_law_hand_here"] (spD K 1 sem_law_row_drawn) :=
  def_ok (k := 2) hF sc_law_row_drawn rfl fun cdv A outer s H E hG hr => by
    have nd := sc_law_row_drawn.nd
    exact (dss_cons (ds_set 1 nd (de_if (dt_cmp op_eq p_eq (de_callC c_law_take hG (hr.mono (by decide)) (by rfl) (takes_of rfl rfl rfl rfl) (da_cons (de_var 0) (da_cons de_int da_nil))) de_int (nomark _)) de_int (de_ix o_ix p_ix (de_tup (da_cons de_int (da_cons de_int (da_cons de_int (da_cons de_int da_nil))))) (de_callC c_law_take hG (hr.mono (by decide)) (by rfl) (takes_of rfl rfl rfl rfl) (da_cons (de_var 0) (da_cons de_int da_nil))) (fun _ _ => rfl))))
      (dss_one (ds_ret (de_rev (de_callB cr_sortedI p_sorted (by rfl) n_sorted (by decide +kernel) (da_cons (de_lc rfl nd (di_range1 (by rfl) n_range (da_cons (de_callC c_law_take hG (hr.mono (by decide)) (by rfl) (takes_of rfl rfl rfl rfl) (da_cons (de_var 0) (da_cons de_int da_nil))) da_nil)) (blkOk_by (own := [(("_law_k" : Str), 2)]) (by rfl)) ⟨gName 2, fun _ _ _ _ _ => pg_name (i := 2) nd rfl (by first | exact Or.inl rfl | exact Or.inr rfl), dgr_name 2⟩ (keep_name 2) (by intro i h; exact h) (fun _ _ _ _ _ => dts_nil) (fun _ _ _ _ _ => (de_callC c_law_take hG (hr.mono (by decide)) (by rfl) takes0 (da_cons (de_var 0) (da_cons (de_var 1) da_nil))))) da_nil))))))
theorem ok_law_moved {f : Addr} {fd : FuncData} {dV : Value} (hF : DefIn K "_law_moved" "_law_moved" s_law_moved dV f fd)
    (n_len : mg "len" = none)
    (n_list : mg "list" = none)
    (n_range : mg "range" = none)
    (n_sorted : mg "sorted" = none)
    (c_law_take : Cle P w K mg base "_law_take" 2 2 [] sem_law_take) : FnG P w K mg base 3 f fd ["_law_hand_here", "_law_parts"] (spD K 2 sem_law_moved) :=
  def_ok (k := 2) hF sc_law_moved rfl fun cdv A outer s H E hG hr => by
    have nd := sc_law_moved.nd
    exact (dss_cons (ds_ownList 2 nd (da_cons (de_var 1) da_nil) (by rfl) (by decide +kernel) n_list (by decide +kernel))
      (dss_cons (ds_for (passes_of rfl) rfl (di_range1 (by rfl) n_range (da_cons (de_bin o_add p_add de_int (de_callC c_law_take hG (hr.mono (by decide)) (by rfl) (takes_of rfl rfl rfl rfl) (da_cons (de_var 0) (da_cons de_int da_nil)))) da_nil)) (dg_name 3 nd) (dss_one (ds_if (dt_cmp op_gt (p_icmp (c := fun i j => decide (j < i))) (de_leno 2 (by rfl) n_len (by decide +kernel)) de_int (nomark _)) (dss_cons (ds_set 4 nd (de_callC c_law_take hG (hr.mono (by decide)) (by rfl) (takes_of rfl rfl rfl rfl) (da_cons (de_var 0) (da_cons (de_leno 2 (by rfl) n_len (by decide +kernel)) da_nil))))
      (dss_cons (ds_set 5 nd (de_callC c_law_take hG (hr.mono (by decide)) (by rfl) (takes_of rfl rfl rfl rfl) (da_cons (de_var 0) (da_cons (de_leno 2 (by rfl) n_len (by decide +kernel)) da_nil))))
      (dss_one (ds_if (dt_cmp op_gt (p_icmp (c := fun i j => decide (j < i))) (de_ixo 2 (de_var 5) (fun _ _ => rfl)) de_int (nomark _)) (dss_cons (ds_setIxo 2 (de_bin op_sub p_sub (de_ixo 2 (de_var 5) (fun _ _ => rfl)) de_int) (de_var 5))
      (dss_one (ds_setIxo 2 (de_bin o_add p_add (de_ixo 2 (de_var 4) (fun _ _ => rfl)) de_int) (de_var 4)))) dss_nil)))) dss_nil)))
      (dss_frz 2 (dss_one (ds_ret (de_rev (de_callB cr_sortedI p_sorted (by rfl) n_sorted (by decide +kernel) (da_cons (de_var 2) da_nil))))))))
theorem ok_law_turned {f : Addr} {fd : FuncData} {dV : Value} (hF : DefIn K "_law_turned" "_law_turned" s_law_turned dV f fd)
    (n_len : mg "len" = none)
    (n_range : mg "range" = none)
    (n_tuple : mg "tuple" = none) : FnG P w K mg base 1 f fd ["_law_parts", "_law_length"] (spD K 2 sem_law_turned) :=
  def_ok (k := 0) hF sc_law_turned rfl fun cdv A outer s H E hG hr => by
    have nd := sc_law_turned.nd
    exact (dss_one (ds_ret (de_callTy call_tuple_of p_tuple (by rfl) n_tuple (by decide +kernel) (da_cons (de_lc rfl nd (di_range1 (by rfl) n_range (da_cons (de_var 1) da_nil)) (blkOk_by (own := [(("_law_j" : Str), 2)]) (by rfl)) ⟨gName 2, fun _ _ _ _ _ => pg_name (i := 2) nd rfl (by first | exact Or.inl rfl | exact Or.inr rfl), dgr_name 2⟩ (keep_name 2) (by intro i h; exact h) (fun _ _ _ _ _ => dts_nil) (fun _ _ _ _ _ => (de_callB call_len_seq p_len (by rfl) n_len (by decide +kernel) (da_cons (de_lc rfl nd (di_seq (de_var 0)) (blkOk_by (own := [(("_law_part" : Str), 3)]) (by rfl)) ⟨gName 3, fun _ _ _ _ _ => pg_name (i := 3) nd rfl (by first | exact Or.inl rfl | exact Or.inr rfl), dgr_name 3⟩ (keep_name 3) (by intro i h; exact h) (fun _ _ _ _ _ => dts_one (dt_cmp op_gt (p_icmp (c := fun i j => decide (j < i))) (de_var 3) (de_var 2) (nomark _))) (fun _ _ _ _ _ => (de_var 3))) da_nil)))) da_nil))))
theorem ok_law_above {f : Addr} {fd : FuncData} {dV : Value} (hF : DefIn K "_law_above" "_law_above" s_law_above dV f fd)
    (n_range : mg "range" = none)
    (n_sum : mg "sum" = none) : FnG P w K mg base 1 f fd ["_law_one_here", "_law_other"] (spD K 2 sem_law_above) :=
  def_ok (k := 0) hF sc_law_above rfl fun cdv A outer s H E hG hr => by
    have nd := sc_law_above.nd
    exact (dss_cons (ds_if (dt_cmp op_ne p_ne (de_callB (call_sumA rfl) p_sum (by rfl) n_sum (by decide +kernel) (da_cons (de_var 0) da_nil)) (de_callB (call_sumA rfl) p_sum (by rfl) n_sum (by decide +kernel) (da_cons (de_var 1) da_nil)) (nomark _)) (dss_one (ds_ret de_bl)) dss_nil)
      (dss_cons (ds_for (passes_of rfl) rfl (di_range1 (by rfl) n_range (da_cons de_int da_nil)) (dg_name 2 nd) (dss_one (ds_if (dt_cmp op_lt (p_icmp (c := fun i j => decide (i < j))) (de_callB (call_sumA rfl) p_sum (by rfl) n_sum (by decide +kernel) (da_cons (de_slice (de_var 0) do_none (do_some (de_var 2))) da_nil)) (de_callB (call_sumA rfl) p_sum (by rfl) n_sum (by decide +kernel) (da_cons (de_slice (de_var 1) do_none (do_some (de_var 2))) da_nil)) (nomark _)) (dss_one (ds_ret de_bl)) dss_nil)))
      (dss_one (ds_ret de_bl))))
theorem ok_law_padded {f : Addr} {fd : FuncData} {dV : Value} (hF : DefIn K "_law_padded" "_law_padded" s_law_padded dV f fd)
    (c_shape_of_kind : Cle P w K mg base "shape_of_kind" 3 2 [] (sem_shape_of_kind C_BadShape))
    (x_BadShape : ErX1 P w K mg base "BadShape" C_BadShape "what") : FnG P w K mg base 4 f fd ["_law_kind", "_law_length"] (spD K 2 (sem_law_padded C_BadShape)) :=
  def_ok (k := 3) hF sc_law_padded rfl fun cdv A outer s H E hG hr => by
    have nd := sc_law_padded.nd
    exact (dss_cons (ds_try_as 3 nd ⟨rfl, by decide, .inl x_BadShape.gC⟩ (takes_of rfl rfl rfl rfl) x_BadShape.te (os := []) (fun _ h => absurd h List.not_mem_nil) (fun W1 pn xe tk1 ps1 => (dss_one (ds_set 2 nd (de_callC c_shape_of_kind hG (hr.mono (by decide)) (by rfl) tk1 (da_cons (de_var 0) (da_cons (de_var 1) da_nil)))))) (fun a oe dx fs pn hz hf => (ss_set 2 nd (se_lst (sa_cons (se_attr x_BadShape.xf x_BadShape.noF hz hf) sa_nil)))))
      (dss_one (ds_ret (de_var 2))))
theorem ok_law_told_turned {f : Addr} {fd : FuncData} {dV : Value} (hF : DefIn K "_law_told_turned" "_law_told_turned" s_law_told_turned dV f fd)
    (c_turned_about : Cle P w K mg base "turned_about" 3 2 [] (sem_turned_about C_BadShape))
    (x_BadShape : ErX1 P w K mg base "BadShape" C_BadShape "what") : FnG P w K mg base 4 f fd ["_law_parts", "_law_length"] (spD K 2 (sem_law_told_turned C_BadShape)) :=
  def_ok (k := 3) hF sc_law_told_turned rfl fun cdv A outer s H E hG hr => by
    have nd := sc_law_told_turned.nd
    exact (dss_cons (ds_try_as 3 nd ⟨rfl, by decide, .inl x_BadShape.gC⟩ (takes_of rfl rfl rfl rfl) x_BadShape.te (os := []) (fun _ h => absurd h List.not_mem_nil) (fun W1 pn xe tk1 ps1 => (dss_one (ds_set 2 nd (de_callC c_turned_about hG (hr.mono (by decide)) (by rfl) tk1 (da_cons (de_var 0) (da_cons (de_var 1) da_nil)))))) (fun a oe dx fs pn hz hf => (ss_set 2 nd (se_lst (sa_cons (se_attr x_BadShape.xf x_BadShape.noF hz hf) sa_nil)))))
      (dss_one (ds_ret (de_var 2))))
theorem ok_law_one {f : Addr} {fd : FuncData} {dV : Value} (hF : DefIn K "_law_one" "_law_one" s_law_one dV f fd)
    (n_len : mg "len" = none)
    (n_max : mg "max" = none)
    (n_range : mg "range" = none)
    (n_repr : mg "repr" = none)
    (n_sum : mg "sum" = none)
    (n_tuple : mg "tuple" = none)
    (c_law_padded : Cle P w K mg base "_law_padded" 4 2 [] (sem_law_padded C_BadShape))
    (c_law_row : Cle P w K mg base "_law_row" 3 2 [] sem_law_row)
    (c_law_take : Cle P w K mg base "_law_take" 2 2 [] sem_law_take)
    (c_law_told_turned : Cle P w K mg base "_law_told_turned" 4 2 [] (sem_law_told_turned C_BadShape))
    (c_law_turned : Cle P w K mg base "_law_turned" 1 2 [] sem_law_turned)
    (c_kind_of_shape : Cle P w K mg base "kind_of_shape" 1 1 [] sem_kind_of_shape)
    (c_sum_of_shape : Cle P w K mg base "sum_of_shape" 1 1 [] sem_sum_of_shape)
    (c_turned_about_d1 : Cle P w K mg base "turned_about" 3 2 [.non] (sem_turned_about C_BadShape))
    (c_weight_of : Cle P w K mg base "weight_of" 1 1 [] sem_weight_of) : FnG P w K mg base 5 f fd ["_law_hand_here", "_law_parts"] (spD K 2 (sem_law_one C_BadShape)) :=
  def_ok (k := 4) hF sc_law_one rfl fun cdv A outer s H E hG hr => by
    have nd := sc_law_one.nd
    exact (dss_cons (ds_set 2 nd (de_callTy call_tuple_of p_tuple (by rfl) n_tuple (by decide +kernel) (da_cons (de_lc rfl nd (di_seq (de_var 1)) (blkOk_by (own := [(("_law_part" : Str), 8)]) (by rfl)) ⟨gName 8, fun _ _ _ _ _ => pg_name (i := 8) nd rfl (by first | exact Or.inl rfl | exact Or.inr rfl), dgr_name 8⟩ (keep_name 8) (by intro i h; exact h) (fun _ _ _ _ _ => dts_one (dt_cmp op_gt (p_icmp (c := fun i j => decide (j < i))) (de_var 8) de_int (nomark _))) (fun _ _ _ _ _ => (de_var 8))) da_nil)))
      (dss_cons (ds_if (dt_cmp op_ne p_ne (de_callB (call_repr (k := 0) hG (hr.mono (Nat.zero_le _))) p_repr (by rfl) n_repr (by decide +kernel) (da_cons (de_callC c_sum_of_shape hG (hr.mono (by decide)) (by rfl) (takes_of rfl rfl rfl rfl) (da_cons (de_callC c_law_row hG (hr.mono (by decide)) (by rfl) (takes_of rfl rfl rfl rfl) (da_cons (de_var 0) (da_cons (de_var 1) da_nil))) da_nil)) da_nil)) (de_callB (call_repr (k := 0) hG (hr.mono (Nat.zero_le _))) p_repr (by rfl) n_repr (by decide +kernel) (da_cons (de_callB (call_sumA rfl) p_sum (by rfl) n_sum (by decide +kernel) (da_cons (de_var 1) da_nil)) da_nil)) (nomark _)) (dss_one (ds_ret de_bl)) dss_nil)
      (dss_cons (ds_if (dt_cmp op_ne p_ne (de_callB (call_repr (k := 0) hG (hr.mono (Nat.zero_le _))) p_repr (by rfl) n_repr (by decide +kernel) (da_cons (de_callC c_weight_of hG (hr.mono (by decide)) (by rfl) (takes_of rfl rfl rfl rfl) (da_cons (de_callC c_law_row hG (hr.mono (by decide)) (by rfl) (takes_of rfl rfl rfl rfl) (da_cons (de_var 0) (da_cons (de_var 1) da_nil))) da_nil)) da_nil)) (de_callB (call_repr (k := 0) hG (hr.mono (Nat.zero_le _))) p_repr (by rfl) n_repr (by decide +kernel) (da_cons (de_callB (call_sumA rfl) p_sum (by rfl) n_sum (by decide +kernel) (da_cons (de_lc rfl nd (di_range1 (by rfl) n_range (da_cons (de_callB call_len_seq p_len (by rfl) n_len (by decide +kernel) (da_cons (de_var 1) da_nil)) da_nil)) (blkOk_by (own := [(("_law_k" : Str), 9)]) (by rfl)) ⟨gName 9, fun _ _ _ _ _ => pg_name (i := 9) nd rfl (by first | exact Or.inl rfl | exact Or.inr rfl), dgr_name 9⟩ (keep_name 9) (by intro i h; exact h) (fun _ _ _ _ _ => dts_nil) (fun _ _ _ _ _ => (de_bin o_mul p_mul (de_var 9) (de_ix o_ix p_ix (de_var 1) (de_var 9) (fun _ _ => rfl))))) da_nil)) da_nil)) (nomark _)) (dss_one (ds_ret de_bl)) dss_nil)
      (dss_cons (ds_if (dt_cmp op_ne p_ne (de_callB (call_repr (k := 0) hG (hr.mono (Nat.zero_le _))) p_repr (by rfl) n_repr (by decide +kernel) (da_cons (de_callC c_kind_of_shape hG (hr.mono (by decide)) (by rfl) (takes_of rfl rfl rfl rfl) (da_cons (de_callC c_law_row hG (hr.mono (by decide)) (by rfl) (takes_of rfl rfl rfl rfl) (da_cons (de_var 0) (da_cons (de_var 1) da_nil))) da_nil)) da_nil)) (de_callB (call_repr (k := 0) hG (hr.mono (Nat.zero_le _))) p_repr (by rfl) n_repr (by decide +kernel) (da_cons (de_var 2) da_nil)) (nomark _)) (dss_one (ds_ret de_bl)) dss_nil)
      (dss_cons (ds_set 3 nd (de_callC c_law_take hG (hr.mono (by decide)) (by rfl) (takes_of rfl rfl rfl rfl) (da_cons (de_var 0) (da_cons de_int da_nil))))
      (dss_cons (ds_set 4 nd (de_if (dt_cmp op_gt (p_icmp (c := fun i j => decide (j < i))) (de_callB call_len_seq p_len (by rfl) n_len (by decide +kernel) (da_cons (de_var 1) da_nil)) (de_var 3) (nomark _)) (de_lst (da_cons de_str da_nil)) (de_bin o_add p_add (de_callTy call_tuple_of p_tuple (by rfl) n_tuple (by decide +kernel) (da_cons (de_var 1) da_nil)) (de_bin o_mul p_mul (de_tup (da_cons de_int da_nil)) (de_bin op_sub p_sub (de_var 3) (de_callB call_len_seq p_len (by rfl) n_len (by decide +kernel) (da_cons (de_var 1) da_nil)))))))
      (dss_cons (ds_if (dt_cmp op_ne p_ne (de_callB (call_repr (k := 0) hG (hr.mono (Nat.zero_le _))) p_repr (by rfl) n_repr (by decide +kernel) (da_cons (de_callC c_law_padded hG (hr.mono (by decide)) (by rfl) (takes_of rfl rfl rfl rfl) (da_cons (de_callC c_law_row hG (hr.mono (by decide)) (by rfl) (takes_of rfl rfl rfl rfl) (da_cons (de_var 0) (da_cons (de_var 1) da_nil))) (da_cons (de_var 3) da_nil))) da_nil)) (de_callB (call_repr (k := 0) hG (hr.mono (Nat.zero_le _))) p_repr (by rfl) n_repr (by decide +kernel) (da_cons (de_var 4) da_nil)) (nomark _)) (dss_one (ds_ret de_bl)) dss_nil)
      (dss_cons (ds_set 5 nd (de_if (dt_tru (de_var 1)) (de_ix o_ix p_ix (de_var 1) de_int (fun _ _ => rfl)) de_int))
      (dss_cons (ds_set 6 nd (de_callC c_turned_about_d1 hG (hr.mono (by decide)) (by rfl) (takes_of rfl rfl rfl rfl) (da_cons (de_callC c_law_row hG (hr.mono (by decide)) (by rfl) (takes_of rfl rfl rfl rfl) (da_cons (de_var 0) (da_cons (de_var 1) da_nil))) da_nil)))
      (dss_cons (ds_if (dt_cmp op_ne p_ne (de_callB (call_repr (k := 0) hG (hr.mono (Nat.zero_le _))) p_repr (by rfl) n_repr (by decide +kernel) (da_cons (de_var 6) da_nil)) (de_callB (call_repr (k := 0) hG (hr.mono (Nat.zero_le _))) p_repr (by rfl) n_repr (by decide +kernel) (da_cons (de_callC c_law_turned hG (hr.mono (by decide)) (by rfl) (takes_of rfl rfl rfl rfl) (da_cons (de_var 1) (da_cons (de_callB (call_max2 rfl) p_max2 (by rfl) n_max (by decide +kernel) (da_cons (de_var 5) (da_cons de_int da_nil))) da_nil))) da_nil)) (nomark _)) (dss_one (ds_ret de_bl)) dss_nil)
      (dss_cons (ds_set 7 nd (de_callC c_turned_about_d1 hG (hr.mono (by decide)) (by rfl) (takes_of rfl rfl rfl rfl) (da_cons (de_var 6) da_nil)))
      (dss_cons (ds_if (dw_and (dt_tru (de_var 2)) (dw_and1 (dt_cmp op_ne p_ne (de_callB (call_repr (k := 0) hG (hr.mono (Nat.zero_le _))) p_repr (by rfl) n_repr (by decide +kernel) (da_cons (de_var 7) da_nil)) (de_callB (call_repr (k := 0) hG (hr.mono (Nat.zero_le _))) p_repr (by rfl) n_repr (by decide +kernel) (da_cons (de_var 2) da_nil)) (nomark _)))).dt (dss_one (ds_ret de_bl)) dss_nil)
      (dss_cons (ds_set 3 nd (de_callB (call_max2 rfl) p_max2 (by rfl) n_max (by decide +kernel) (da_cons de_int (da_cons (de_bin o_add p_add (de_bin op_sub p_sub (de_var 5) de_int) (de_callC c_law_take hG (hr.mono (by decide)) (by rfl) (takes_of rfl rfl rfl rfl) (da_cons (de_var 0) (da_cons de_int da_nil)))) da_nil))))
      (dss_cons (ds_set 4 nd (de_if (dt_cmp op_lt (p_icmp (c := fun i j => decide (i < j))) (de_var 3) (de_callB (call_max2 rfl) p_max2 (by rfl) n_max (by decide +kernel) (da_cons (de_var 5) (da_cons de_int da_nil))) (nomark _)) (de_lst (da_cons de_str da_nil)) (de_callC c_law_turned hG (hr.mono (by decide)) (by rfl) (takes_of rfl rfl rfl rfl) (da_cons (de_var 1) (da_cons (de_var 3) da_nil)))))
      (dss_one (ds_ret (de_cmp op_eq p_eq (de_callB (call_repr (k := 0) hG (hr.mono (Nat.zero_le _))) p_repr (by rfl) n_repr (by decide +kernel) (da_cons (de_callC c_law_told_turned hG (hr.mono (by decide)) (by rfl) (takes_of rfl rfl rfl rfl) (da_cons (de_callC c_law_row hG (hr.mono (by decide)) (by rfl) (takes_of rfl rfl rfl rfl) (da_cons (de_var 0) (da_cons (de_var 1) da_nil))) (da_cons (de_var 3) da_nil))) da_nil)) (de_callB (call_repr (k := 0) hG (hr.mono (Nat.zero_le _))) p_repr (by rfl) n_repr (by decide +kernel) (da_cons (de_var 4) da_nil)) (nomark _))))))))))))))))))
theorem ok_law {f fh : Addr} {fd fdh : FuncData} (hF : DefIn K "law" "law" s_law .none f fd) (Fh : FnOk P w K mg base (L2.CX P w) 1 fh fdh ["_law_script"] (spHand K)) (g_hand : mg "_law_hand" = some (.ref fh)) (kp_hand : PySem.W.keepIn K (.ref fh) = true) (b_hand : Binds K fdh ["_law_script"] [])
    (n_range : mg "range" = none)
    (n_repr : mg "repr" = none)
    (c_law_above : Cle P w K mg base "_law_above" 1 2 [] sem_law_above)
    (c_law_moved : Cle P w K mg base "_law_moved" 3 2 [] sem_law_moved)
    (c_law_one : Cle P w K mg base "_law_one" 5 2 [] (sem_law_one C_BadShape))
    (c_law_row : Cle P w K mg base "_law_row" 3 2 [] sem_law_row)
    (c_law_row_drawn : Cle P w K mg base "_law_row_drawn" 3 1 [] sem_law_row_drawn)
    (c_law_take : Cle P w K mg base "_law_take" 2 2 [] sem_law_take)
    (c_is_above : Cle P w K mg base "is_above" 4 2 [] (sem_is_above C_BadShape))
    (c_turned_about_d1 : Cle P w K mg base "turned_about" 3 2 [.non] (sem_turned_about C_BadShape))
    (hv : ∀ (ns : List Int) (tot : Int), ns.length ≤ 63 → ∃ s', b_law C_BadShape (.un :: .fz .hnd :: List.replicate 6 .un) (hs0 ns tot) = .rt (.bl true) s') : FnG P w K mg base 6 f fd ["_law_script"] (spLaw K) :=
  law_ok hF sc_law rfl Fh g_hand kp_hand b_hand (by decide) rfl rfl (fun _ _ => rfl) (fun cdv A outer s H E hG hr => by
    have nd := sc_law.nd
    exact (dss_cons (ds_for (passes_of rfl) rfl (di_range1 (by rfl) n_range (da_cons de_int da_nil)) (dg_name 2 nd) (dss_cons (ds_set 3 nd (de_callC c_law_row_drawn hG (hr.mono (by decide)) (by rfl) (takes_of rfl rfl rfl rfl) (da_cons (de_var 1) da_nil)))
      (dss_cons (ds_set 4 nd (de_if (dt_tru (de_callC c_law_take hG (hr.mono (by decide)) (by rfl) (takes_of rfl rfl rfl rfl) (da_cons (de_var 1) (da_cons de_int da_nil)))) (de_callC c_law_moved hG (hr.mono (by decide)) (by rfl) (takes_of rfl rfl rfl rfl) (da_cons (de_var 1) (da_cons (de_var 3) da_nil))) (de_callC c_law_row_drawn hG (hr.mono (by decide)) (by rfl) (takes_of rfl rfl rfl rfl) (da_cons (de_var 1) da_nil))))
      (dss_cons (ds_if (dw_or (dt_not (dt_tru (de_callC c_law_one hG (hr.mono (by decide)) (by rfl) (takes_of rfl rfl rfl rfl) (da_cons (de_var 1) (da_cons (de_var 3) da_nil))))) (dw_or1 (dt_not (dt_tru (de_callC c_law_one hG (hr.mono (by decide)) (by rfl) (takes_of rfl rfl rfl rfl) (da_cons (de_var 1) (da_cons (de_var 4) da_nil))))))).dt (dss_one (ds_ret de_bl)) dss_nil)
      (dss_one (ds_for (passes_of rfl) rfl (di_seq (de_tup (da_cons (de_tup (da_cons (de_var 3) (da_cons (de_var 4) da_nil))) (da_cons (de_tup (da_cons (de_var 4) (da_cons (de_var 3) da_nil))) (da_cons (de_tup (da_cons (de_var 3) (da_cons (de_var 3) da_nil))) da_nil))))) (dg_tup rfl (dgs_cons (dg_name 5 nd) (dgs_cons (dg_name 6 nd) dgs_nil))) (dss_cons (ds_set 7 nd (de_callC c_law_above hG (hr.mono (by decide)) (by rfl) (takes_of rfl rfl rfl rfl) (da_cons (de_var 5) (da_cons (de_var 6) da_nil))))
      (dss_cons (ds_if (dt_cmp op_ne p_ne (de_callB (call_repr (k := 0) hG (hr.mono (Nat.zero_le _))) p_repr (by rfl) n_repr (by decide +kernel) (da_cons (de_callC c_is_above hG (hr.mono (by decide)) (by rfl) (takes_of rfl rfl rfl rfl) (da_cons (de_callC c_law_row hG (hr.mono (by decide)) (by rfl) (takes_of rfl rfl rfl rfl) (da_cons (de_var 1) (da_cons (de_var 5) da_nil))) (da_cons (de_callC c_law_row hG (hr.mono (by decide)) (by rfl) (takes_of rfl rfl rfl rfl) (da_cons (de_var 1) (da_cons (de_var 6) da_nil))) da_nil))) da_nil)) (de_callB (call_repr (k := 0) hG (hr.mono (Nat.zero_le _))) p_repr (by rfl) n_repr (by decide +kernel) (da_cons (de_var 7) da_nil)) (nomark _)) (dss_one (ds_ret de_bl)) dss_nil)
      (dss_one (ds_if (dt_cmp op_ne p_ne (de_callB (call_repr (k := 0) hG (hr.mono (Nat.zero_le _))) p_repr (by rfl) n_repr (by decide +kernel) (da_cons (de_callC c_is_above hG (hr.mono (by decide)) (by rfl) (takes_of rfl rfl rfl rfl) (da_cons (de_callC c_turned_about_d1 hG (hr.mono (by decide)) (by rfl) (takes_of rfl rfl rfl rfl) (da_cons (de_var 6) da_nil)) (da_cons (de_callC c_turned_about_d1 hG (hr.mono (by decide)) (by rfl) (takes_of rfl rfl rfl rfl) (da_cons (de_var 5) da_nil)) da_nil))) da_nil)) (de_callB (call_repr (k := 0) hG (hr.mono (Nat.zero_le _))) p_repr (by rfl) n_repr (by decide +kernel) (da_cons (de_var 7) da_nil)) (nomark _)) (dss_one (ds_ret de_bl)) dss_nil))))))))))
      (dss_one (ds_ret de_bl)))) hv
end
end K05

-- part Mk05
set_option maxHeartbeats 1000000
namespace K05
open PySem PySem.Spec PyProof.Rows L2 DL

/-! ### draws -/
structure Hok (s : HS) : Prop where
  ce : ∀ c ∈ s.cells, 0 ≤ c
  po : 0 ≤ s.pos
  re : 0 ≤ s.rest
theorem mixed_ok (n k : Int) (s : HS) : ∃ t, sem_law_mixed [.int n, .int k] s = .ok (.int t) s := by
  exact ⟨_, e_def rfl (e_seq (e_set (e_2 (e_A (e_a1 (e_2 (e_2 (e_2 e_var e_c (q_mulr (by decide))) (e_2 e_var e_c (q_mulr (by decide))) rfl) e_c rfl)) rfl) e_c (q_mod (by decide))))
    (e_seq (e_set (e_2 (e_A (e_a1 (e_2 (e_2 (e_2 e_var e_var (q_mulr (by omega))) (e_2 e_var e_c (q_mulr (by decide))) rfl) (e_2 e_var e_c (q_fdiv (by decide) (by decide))) rfl)) rfl) e_c (q_mod (by decide))))
    (e_ret (e_2 (e_A (e_a1 (e_2 (e_A (e_a1 (e_2 (e_2 e_var e_c (q_mulr (by decide))) (e_2 e_var e_c (q_fdiv (by decide) (by decide))) rfl)) rfl) e_c (q_mod (by decide)))) rfl) e_c (q_fdiv (by decide) (by decide))))))⟩
theorem take_ok (m : Int) (hm : 0 < m) (h2 : m < 2 ^ 63) (s : HS) (ok : Hok s) : ∃ t s', sem_law_take [.hnd, .int m] s = .ok (.int t) s' ∧ 0 ≤ t ∧ t < m ∧ Hok s' := by
  obtain ⟨cells, pos, rest, tot⟩ := s
  have hc := ok.ce
  have hp := ok.po
  have hr := ok.re
  simp only at hc hp hr
  have md : ∀ x : Int, 0 ≤ x % m ∧ x % m < m := fun x => ⟨Int.emod_nonneg _ (by omega), Int.emod_lt_of_pos _ hm⟩
  -- the part behind the first if
  have tail : ∀ (d2 d3 : Sl) (s : HS), Hok s → ∃ t s', seqF (ifF (tBl (F2 (icmpD fun i j => decide (j < i)) (F2 ixD (fVar 0) (fC (.int 2))) (fC (.int 0)))) (seqF (setF 3 (F2 ixD (fVar 0) (fC (.int 2))))
    (seqF (setHF 0 2 (F2 fdivD (FA intD (aCons (fVar 3) aNil)) (fVar 1)))
    (retF (F2 modD (FA intD (aCons (fVar 3) aNil)) (fVar 1))))) nxF)
    (seqF (setHF 0 3 (F2 modD (FA intD (aCons (F2 addD (F2 ixD (fVar 0) (fC (.int 3))) (fC (.int 1))) aNil)) (fC (.int 2147483549))))
    (retF (F2 modD (FA intD (aCons (F2c sem_law_mixed [] (aCons (F2 ixD (fVar 0) (fC (.int 3))) (aCons (F2 ixD (fVar 0) (fC (.int 1))) aNil))) aNil)) (fVar 1)))) [.fz .hnd, .fz (.int m), d2, d3] s = .rt (.int t) s' ∧ 0 ≤ t ∧ t < m ∧ Hok s' := by
    rintro d2 d3 ⟨cells, pos, rest, tot⟩ ok
    by_cases z : 0 < rest
    · refine ⟨rest % m, ⟨cells, pos, rest / m, tot⟩, e_rt ((e_ifT (e_bl (e_2 (e_2 (e_var) e_c rfl) e_c ?_))).trans (e_seq (e_set (e_2 (e_var) e_c rfl)) (e_seq (δ' := [.fz .hnd, .fz (.int m), d2, .fz (.int rest)]) (s1 := ⟨cells, pos, rest / m, tot⟩) ?_ (e_ret (e_2 (e_A (e_a1 e_var) rfl) e_var (q_mod hm)))))), (md _).1, (md _).2, ok.ce, ok.po, ?_⟩
      · show some (D.bl (decide (0 < rest))) = _
        rw [decide_eq_true z]
      · unfold setHF ofE
        rw [e_2 (d2 := .int (rest / m)) (e_A (e_a1 e_var) rfl) e_var (q_fdiv hm h2)]
        rfl
      · exact Int.ediv_nonneg ok.re (by omega)
    · obtain ⟨t, ht⟩ := mixed_ok ((tot + 1) % 2147483549) pos ⟨cells, pos, rest, (tot + 1) % 2147483549⟩
      refine ⟨t % m, ⟨cells, pos, rest, (tot + 1) % 2147483549⟩, e_seq (δ' := [.fz .hnd, .fz (.int m), d2, d3]) (s1 := ⟨cells, pos, rest, tot⟩) ((e_ifF (e_bl (e_2 (e_2 (e_var) e_c rfl) e_c ?_))).trans rfl) (e_seq (δ' := [.fz .hnd, .fz (.int m), d2, d3]) (s1 := ⟨cells, pos, rest, (tot + 1) % 2147483549⟩) ?_ (e_ret (e_2 (e_A (e_a1 (e_call (e_a2 (e_2 e_var e_c rfl) (e_2 e_var e_c rfl)) ht)) rfl) e_var (q_mod hm)))), (md _).1, (md _).2, ok.ce, ok.po, ok.re⟩
      · show some (D.bl (decide (0 < rest))) = _
        rw [decide_eq_false z]
      · unfold setHF ofE
        rw [e_2 (d2 := .int ((tot + 1) % 2147483549)) (e_A (e_a1 (e_2 (e_2 e_var e_c rfl) e_c rfl)) rfl) e_c (q_mod (by decide))]
        rfl
  have fin : ∀ (x : Fl), (∃ t s', x = .rt (.int t) s' ∧ 0 ≤ t ∧ t < m ∧ Hok s') → b_law_take [.fz .hnd, .fz (.int m), .un, .un] ⟨cells, pos, rest, tot⟩ = x → ∃ t s', sem_law_take [.hnd, .int m] ⟨cells, pos, rest, tot⟩ = .ok (.int t) s' ∧ 0 ≤ t ∧ t < m ∧ Hok s' := by
    rintro x ⟨t, s', rfl, h1, h2, h3⟩ h
    exact ⟨t, s', e_def rfl h, h1, h2, h3⟩
  -- the tests of the first if
  have t1 : (tBl (F2 eqD (F2 ixD (fVar 0) (fC (.int 2))) (fC (.int 0)))) [.fz .hnd, .fz (.int m), .un, .un] ⟨cells, pos, rest, tot⟩ = .ok (decide (rest = 0)) ⟨cells, pos, rest, tot⟩ := e_bl (e_2 (e_2 e_var e_c rfl) e_c rfl)
  have t2 : (tBl (F2 (icmpD fun i j => decide (i < j)) (F2 ixD (fVar 0) (fC (.int 1))) (FA lenD (aCons (F2 ixD (fVar 0) (fC (.int 0))) aNil)))) [.fz .hnd, .fz (.int m), .un, .un] ⟨cells, pos, rest, tot⟩ = .ok (decide (pos < ((cells.map D.int).length : Nat))) ⟨cells, pos, rest, tot⟩ := e_bl (e_2 (e_2 e_var e_c rfl) (e_A (e_a1 (e_2 e_var e_c rfl)) rfl) rfl)
  by_cases z1 : rest = 0
  · by_cases z2 : pos < ((cells.map D.int).length : Nat)
    · rw [decide_eq_true z1] at t1
      rw [decide_eq_true z2] at t2
      obtain ⟨p, rfl⟩ : ∃ p : Nat, pos = p := ⟨pos.toNat, by omega⟩
      rw [List.length_map] at z2
      obtain ⟨c, hcc⟩ : ∃ c, cells[p]? = some c := ⟨cells[p]'(by omega), List.getElem?_eq_getElem (by omega)⟩
      have c0 : 0 ≤ c := hc c (List.mem_of_getElem? hcc)
      have ix : ixD (.lst (cells.map D.int)) (.int p) ⟨cells, p, rest, tot⟩ = some (.int c) := atI_in (by rw [List.getElem?_map, hcc]; rfl)
      have s3 : setF 2 (F2 ixD (F2 ixD (fVar 0) (fC (.int 0))) (F2 ixD (fVar 0) (fC (.int 1)))) [.fz .hnd, .fz (.int m), .un, .un] ⟨cells, p, rest, tot⟩ = .nx [.fz .hnd, .fz (.int m), .fz (.int c), .un] ⟨cells, p, rest, tot⟩ := e_set (e_2 (e_2 e_var e_c rfl) (e_2 e_var e_c rfl) ix)
      have s4 : setHF 0 1 (F2 addD (F2 ixD (fVar 0) (fC (.int 1))) (fC (.int 1))) [.fz .hnd, .fz (.int m), .fz (.int c), .un] ⟨cells, p, rest, tot⟩ = .nx [.fz .hnd, .fz (.int m), .fz (.int c), .un] ⟨cells, p + 1, rest, tot⟩ := by
        unfold setHF ofE
        rw [e_2 (d2 := .int ((p : Int) + 1)) (e_2 e_var e_c rfl) e_c rfl]
        rfl
      have t5 : (tBl (F2 (icmpD fun i j => decide (i < j)) (fVar 2) (F2 powD (fC (.int 10)) (fC (.int 18))))) [.fz .hnd, .fz (.int m), .fz (.int c), .un] ⟨cells, p + 1, rest, tot⟩ = .ok (decide (c < 10 ^ 18)) ⟨cells, p + 1, rest, tot⟩ := e_bl (e_2 (d1 := .int (10 ^ 18)) e_var (e_2 e_c e_c rfl) rfl)
      by_cases z5 : c < 10 ^ 18
      · rw [decide_eq_true z5] at t5
        obtain ⟨t, ht⟩ := mixed_ok (c % 2147483399) (p + 1) ⟨cells, p + 1, rest, tot⟩
        refine fin _ ⟨t % m, ⟨cells, p + 1, rest, tot⟩, rfl, (md _).1, (md _).2, hc, by show (0 : Int) ≤ p + 1; omega, hr⟩ ?_
        unfold b_law_take
        refine e_rt ((e_ifT ((e_andT t1 t2))).trans (e_seq s3 (e_seq s4 (e_rt ((e_ifT t5).trans (e_ret (e_2 (e_A (e_a1 (e_call (e_a2 (e_2 (e_A (e_a1 e_var) rfl) e_c (q_mod (by decide))) (e_2 e_var e_c rfl)) ht)) rfl) e_var (q_mod hm))))))))
      · rw [decide_eq_false z5] at t5
        have ok2 : Hok ⟨cells, p + 1, c, tot⟩ := ⟨hc, by show (0 : Int) ≤ p + 1; omega, c0⟩
        refine fin _ (tail (.fz (.int c)) .un ⟨cells, p + 1, c, tot⟩ ok2) ?_
        unfold b_law_take
        refine e_seq ((e_ifT ((e_andT t1 t2))).trans (e_seq s3 (e_seq s4 (e_seq (δ' := [.fz .hnd, .fz (.int m), .fz (.int c), .un]) (s1 := ⟨cells, p + 1, rest, tot⟩) ((e_ifF t5).trans rfl) ?_)))) rfl
        unfold setHF ofE
        rw [e_var]
        rfl
    · rw [decide_eq_false z2] at t2
      rw [decide_eq_true z1] at t1
      exact fin _ (tail .un .un _ ok) (e_seq ((e_ifF (e_andT t1 t2)).trans rfl) rfl)
  · rw [decide_eq_false z1] at t1
    exact fin _ (tail .un .un _ ok) (e_seq ((e_ifF (e_andF t1)).trans rfl) rfl)
end K05

-- part Nk05
set_option maxHeartbeats 1000000
namespace K05
open PySem PySem.Spec PyProof.Rows L2 DL

/-- a row of ints, as a list or a tuple -/
def Sq (d : D) (ns : List Int) : Prop := d = .lst (ns.map .int) ∨ d = .tup (ns.map .int)
/-- a shape: falling, not below 0 -/
structure Pt (ns : List Int) : Prop where
  so : ns.Pairwise (· ≥ ·)
  bd : ∀ n ∈ ns, 0 ≤ n ∧ n ≤ 100
  le : ns.length ≤ 8
theorem row_ok (d : D) (ns : List Int) (h : Sq d ns) (s : HS) (ok : Hok s) : ∃ d' s', sem_law_row [.hnd, d] s = .ok d' s' ∧ Sq d' ns ∧ Hok s' := by
  obtain ⟨t, s1, e, _, _, ok1⟩ := take_ok 2 (by decide) (by decide) s ok
  have h1 : ∀ δ : Dt, δ[0]? = some (.fz .hnd) → F2c sem_law_take [] (aCons (fVar 0) (aCons (fC (.int 2)) aNil)) δ s = .ok (.int t) s1 := fun δ h => e_call (e_a2 (e_var h) e_c) e
  by_cases z : t = 0
  · refine ⟨.tup (ns.map .int), s1, e_def rfl ?_, .inr rfl, ok1⟩
    refine e_ret (e_fifF (e_tru (h1 _ rfl) (by show some _ = _; rw [z]; rfl)) (e_A (e_a1 e_var) ?_))
    rcases h with rfl | rfl <;> rfl
  · refine ⟨.lst (ns.map .int), s1, e_def rfl ?_, .inl rfl, ok1⟩
    refine e_ret (e_fifT (e_tru (h1 _ rfl) (by simp [truD, z])) (e_A (e_a1 e_var) ?_))
    rcases h with rfl | rfl <;> rfl
theorem rev_sort (ns : List Int) : (sortI ns).reverse.Pairwise (· ≥ ·) := List.pairwise_reverse.mpr (sortI_sorted ns)
theorem pt_sort {ns : List Int} (bd : ∀ n ∈ ns, 0 ≤ n ∧ n ≤ 100) (le : ns.length ≤ 8) : Pt (sortI ns).reverse :=
  ⟨rev_sort ns, fun n hn => bd n ((sortI_perm ns).mem_iff.mp (List.mem_reverse.mp hn)), by rw [List.length_reverse, (sortI_perm ns).length_eq]; exact le⟩
theorem sort_rev {fs : ED} {δ : Dt} {s s1 : HS} {ns : List Int} (h : fs δ s = .ok (.lst (ns.map .int)) s1) : F1 revD (FA sortedD (aCons fs aNil)) δ s = .ok (.lst (((sortI ns).reverse).map .int)) s1 := by
  refine e_1 (e_A (d := .lst ((sortI ns).map .int)) (e_a1 h) ?_) ?_
  · show (DL.intsD (ns.map D.int)).map _ = _
    rw [intsD_map]; rfl
  · show some (D.lst ((sortI ns).map D.int).reverse) = _
    rw [List.map_reverse]
theorem drawn_ok (s : HS) (ok : Hok s) : ∃ ns s', sem_law_row_drawn [.hnd] s = .ok (.lst (ns.map .int)) s' ∧ Pt ns ∧ (∀ n ∈ ns, n ≤ 60) ∧ Hok s' := by
  have top : ∃ (t : Int) (s1 : HS), (fIf (tBl (F2 eqD (F2c sem_law_take [] (aCons (fVar 0) (aCons (fC (.int 16)) aNil))) (fC (.int 15)))) (fC (.int 61)) (F2 ixD (FA mkT (aCons (fC (.int 3)) (aCons (fC (.int 5)) (aCons (fC (.int 13)) (aCons (fC (.int 2)) aNil))))) (F2c sem_law_take [] (aCons (fVar 0) (aCons (fC (.int 4)) aNil))))) [.fz .hnd, .un, .un] s = .ok (.int t) s1 ∧ 0 < t ∧ t ≤ 61 ∧ Hok s1 := by
    obtain ⟨u, s1, e, u0, u1, ok1⟩ := take_ok 16 (by decide) (by decide) s ok
    by_cases z : u = 15
    · refine ⟨61, s1, e_fifT (e_bl (e_2 (e_call (e_a2 e_var e_c) e) e_c ?_)) e_c, by decide, by decide, ok1⟩
      show some (D.bl (decide (u = 15))) = _
      rw [decide_eq_true z]
    · obtain ⟨v, s2, e2, v0, v1, ok2⟩ := take_ok 4 (by decide) (by decide) s1 ok1
      have hv : ∃ t : Int, (ixD (.tup [.int 3, .int 5, .int 13, .int 2]) (.int v) s2 = some (.int t)) ∧ 0 < t ∧ t ≤ 61 := by
        have : v = 0 ∨ v = 1 ∨ v = 2 ∨ v = 3 := by omega
        rcases this with rfl | rfl | rfl | rfl
        · exact ⟨3, rfl, by decide, by decide⟩
        · exact ⟨5, rfl, by decide, by decide⟩
        · exact ⟨13, rfl, by decide, by decide⟩
        · exact ⟨2, rfl, by decide, by decide⟩
      obtain ⟨t, ht, t0, t1⟩ := hv
      refine ⟨t, s2, e_fifF (e_bl (e_2 (e_call (e_a2 e_var e_c) e) e_c ?_)) (e_2 (e_A (e_cons e_c (e_cons e_c (e_a2 e_c e_c))) rfl) (e_call (e_a2 e_var e_c) e2) ht), t0, t1, ok2⟩
      show some (D.bl (decide (u = 15))) = _
      rw [decide_eq_false z]
  obtain ⟨t, s1, e1, t0, t1, ok1⟩ := top
  obtain ⟨m, s2, e2, m0, m1, ok2⟩ := take_ok 9 (by decide) (by decide) s1 ok1
  have lc : ∃ ys s3, lc_law_row_drawn_1 [.fz .hnd, .fz (.int t), .un] s1 = .ok (.lst ys) s3 ∧ Hok s3 ∧ (∀ y ∈ ys, ∃ n, y = .int n ∧ (0 ≤ n ∧ n ≤ 60)) ∧ ys.length = m.toNat := by
    obtain ⟨ys, s3, a1, a2, a3, a4⟩ := lc_draw (src := overA rng1 (aCons (F2c sem_law_take [] (aCons (fVar 0) (aCons (fC (.int 9)) aNil))) aNil)) (gt := gnF 2) (ft := fun _ s => .ok true s) (fe := F2c sem_law_take [] (aCons (fVar 0) (aCons (fVar 1) aNil))) (vs := [2]) (δ := [.fz .hnd, .fz (.int t), .un]) (s := s1) (s1 := s2) (ds := rngD 0 m.toNat) (I := Hok) (A := fun y => ∃ n, y = .int n ∧ (0 ≤ n ∧ n ≤ 60))
      (e_over (e_a1 (e_call (e_a2 e_var e_c) e2)) (by show (if _ then _ else _) = _; rw [if_pos (by omega)])) rfl (by simp [rngD]; omega) ok2 (fun d _ s ok => by
        obtain ⟨v, s4, e4, v0, v1, ok4⟩ := take_ok t t0 (by omega) s ok
        exact ⟨_, rfl, rfl, .int v, s4, e_call (e_a2 e_var e_var) e4, ok4, v, rfl, v0, by omega⟩)
    exact ⟨ys, s3, a1, a2, a3, by rw [a4]; simp [rngD]⟩
  obtain ⟨ys, s3, a1, a2, a3, a4⟩ := lc
  obtain ⟨ns, rfl, hb⟩ := dints_of a3
  rw [List.length_map] at a4
  refine ⟨(sortI ns).reverse, s3, e_def rfl (e_seq (e_set e1) (e_ret (sort_rev a1))), pt_sort (fun n hn => ⟨(hb n hn).1, by have := (hb n hn).2; omega⟩) (by omega), fun n hn => (hb n ((sortI_perm ns).mem_iff.mp (List.mem_reverse.mp hn))).2, a2⟩
end K05

-- part Ok05
set_option maxHeartbeats 1000000
namespace K05
open PySem PySem.Spec PyProof.Rows L2 DL

theorem moved_step {ms : List Int} {b : Int} (hb : ∀ n ∈ ms, 0 ≤ n ∧ n ≤ b) {i j : Nat} (hi : i < ms.length) (hj : j < ms.length) (z : 0 < ms[j]) :
    ∀ n ∈ (ms.set j (ms[j] - 1)).set i (((ms.set j (ms[j] - 1))[i]'(by simpa using hi)) + 1), 0 ≤ n ∧ n ≤ b + 1 := by
  have h1 : ∀ n ∈ ms.set j (ms[j] - 1), 0 ≤ n ∧ n ≤ b := fun n hn => by
    rcases List.mem_or_eq_of_mem_set hn with h | rfl
    · exact hb n h
    · have := hb _ (List.getElem_mem hj); omega
  intro n hn
  rcases List.mem_or_eq_of_mem_set hn with h | rfl
  · have := h1 n h; omega
  · have := h1 _ (List.getElem_mem (h := by simpa using hi)); omega
theorem ix_own {ms : List Int} {i : Nat} (hi : i < ms.length) {f : ED} {δ : Dt} {s s1 : HS} (h : δ[2]? = some (.ow (ms.map .int))) (hf : f δ s = .ok (.int i) s1) : ixoF 2 f δ s = .ok (.int ms[i]) s1 := by
  unfold ixoF
  rw [h]
  simp only
  rw [hf]
  show Re.of (atI _ _) s1 = _
  rw [atI_in (by rw [List.getElem?_map, List.getElem?_eq_getElem hi]; rfl)]
  rfl
theorem set_own {ms : List Int} {i : Nat} {v : Int} (hi : i < ms.length) {f f2 : ED} {δ : Dt} {s s1 s2 : HS} (h : δ[2]? = some (.ow (ms.map .int))) (hf : f δ s = .ok (.int v) s1) (hf2 : f2 δ s1 = .ok (.int i) s2) : setoF 2 f f2 δ s = .nx (δ.set 2 (.ow ((ms.set i v).map .int))) s2 := by
  unfold setoF ofE
  rw [hf]
  simp only
  rw [h, hf2]
  simp only
  have : L2.ixN (ms.map D.int).length (i : Int) = some i := by
    unfold L2.ixN
    rw [List.length_map, if_pos (by omega)]
    split
    · simp
    · omega
  rw [this, List.map_set]
theorem moved_ok (d : D) (ns : List Int) (h : Sq d ns) (hp : ∀ n ∈ ns, 0 ≤ n ∧ n ≤ 60) (hl : ns.length ≤ 8) (s : HS) (ok : Hok s) : ∃ ms s', sem_law_moved [.hnd, d] s = .ok (.lst (ms.map .int)) s' ∧ Pt ms ∧ Hok s' := by
  obtain ⟨t, s1, e1, t0, t1, ok1⟩ := take_ok 4 (by decide) (by decide) s ok
  have own : ownF 2 (aCons (fVar 1) aNil) [.fz .hnd, .fz d, .un, .un, .un, .un] s = .nx [.fz .hnd, .fz d, .ow (ns.map .int), .un, .un, .un] s := by
    unfold ownF
    rw [e_A (d := .lst (ns.map .int)) (e_a1 e_var) (by rcases h with rfl | rfl <;> rfl)]
    rfl
  have src : overA rng1 (aCons (F2 addD (fC (.int 1)) (F2c sem_law_take [] (aCons (fVar 0) (aCons (fC (.int 4)) aNil)))) aNil) [.fz .hnd, .fz d, .ow (ns.map .int), .un, .un, .un] s = .ok (rngD 0 (1 + t).toNat) s1 :=
    e_over (e_a1 (e_2 e_c (e_call (e_a2 e_var e_c) e1) rfl)) (by show (if _ then _ else _) = _; rw [if_pos (by omega)])
  obtain ⟨δ', s2, e2, ms, y3, y4, y5, rfl, ok2, hl2, hb2⟩ := loop_inv (gt := gnF 3) (fb := lb_law_moved_1) (fun k δ s => ∃ (ms : List Int) (y3 y4 y5 : Sl), δ = [.fz .hnd, .fz d, .ow (ms.map .int), y3, y4, y5] ∧ Hok s ∧ ms.length = ns.length ∧ ∀ n ∈ ms, 0 ≤ n ∧ n ≤ 60 + (k : Int))
    (rngD 0 (1 + t).toNat) 0 [.fz .hnd, .fz d, .ow (ns.map .int), .un, .un, .un] s1 ⟨ns, _, _, _, rfl, ok1, rfl, fun n hn => by have := hp n hn; omega⟩ (by
      rintro k dd δ s e ⟨ms, y3, y4, y5, rfl, ok, hl2, hb⟩
      have hb' : ∀ n ∈ ms, 0 ≤ n ∧ n ≤ 60 + ((0 + k + 1 : Nat) : Int) := fun n hn => by have := hb n hn; omega
      refine ⟨_, rfl, ?_⟩
      have tst : (tBl (F2 (icmpD fun i j => decide (j < i)) (lenoF 2) (fC (.int 1)))) [.fz .hnd, .fz d, .ow (ms.map .int), .fz dd, y4, y5] s = .ok (decide (1 < ((ms.map D.int).length : Int))) s := e_bl (e_2 rfl e_c rfl)
      by_cases z1 : 1 < ((ms.map D.int).length : Int)
      · rw [decide_eq_true z1] at tst
        rw [List.length_map] at z1
        obtain ⟨i, s3, e3, i0, i1, ok3⟩ := take_ok (ms.map D.int).length (by rw [List.length_map]; omega) (by rw [List.length_map]; omega) s ok
        obtain ⟨j, s4, e4, j0, j1, ok4⟩ := take_ok (ms.map D.int).length (by rw [List.length_map]; omega) (by rw [List.length_map]; omega) s3 ok3
        rw [List.length_map] at i1 j1
        obtain ⟨i, rfl⟩ : ∃ p : Nat, i = p := ⟨i.toNat, by omega⟩
        obtain ⟨j, rfl⟩ : ∃ p : Nat, j = p := ⟨j.toNat, by omega⟩
        have hi : i < ms.length := by omega
        have hj : j < ms.length := by omega
        have s_4 : setF 4 (F2c sem_law_take [] (aCons (fVar 0) (aCons (lenoF 2) aNil))) [.fz .hnd, .fz d, .ow (ms.map .int), .fz dd, y4, y5] s = .nx [.fz .hnd, .fz d, .ow (ms.map .int), .fz dd, .fz (.int i), y5] s3 := e_set (e_call (e_a2 e_var rfl) e3)
        have s_5 : setF 5 (F2c sem_law_take [] (aCons (fVar 0) (aCons (lenoF 2) aNil))) [.fz .hnd, .fz d, .ow (ms.map .int), .fz dd, .fz (.int i), y5] s3 = .nx [.fz .hnd, .fz d, .ow (ms.map .int), .fz dd, .fz (.int i), .fz (.int j)] s4 := e_set (e_call (e_a2 e_var rfl) e4)
        have t2 : (tBl (F2 (icmpD fun i j => decide (j < i)) (ixoF 2 (fVar 5)) (fC (.int 0)))) [.fz .hnd, .fz d, .ow (ms.map .int), .fz dd, .fz (.int i), .fz (.int j)] s4 = .ok (decide (0 < ms[j])) s4 := e_bl (e_2 (ix_own hj rfl e_var) e_c rfl)
        by_cases z2 : 0 < ms[j]
        · rw [decide_eq_true z2] at t2
          have hi' : i < (ms.set j (ms[j] - 1)).length := by simpa using hi
          refine ⟨[.fz .hnd, .fz d, .ow (((ms.set j (ms[j] - 1)).set i ((ms.set j (ms[j] - 1))[i] + 1)).map .int), .fz dd, .fz (.int i), .fz (.int j)], s4, (e_ifT tst).trans (e_seq s_4 (e_seq s_5 ((e_ifT t2).trans (e_seq (set_own hj rfl (e_2 (ix_own hj rfl e_var) e_c rfl) e_var) (set_own hi' rfl (e_2 (ix_own hi' rfl e_var) e_c rfl) e_var))))), _, _, _, _, rfl, ok4, by simpa using hl2, ?_⟩
          have := moved_step hb hi hj z2
          intro n hn
          have := this n hn
          omega
        · rw [decide_eq_false z2] at t2
          exact ⟨_, s4, (e_ifT tst).trans (e_seq s_4 (e_seq s_5 ((e_ifF t2).trans rfl))), ms, _, _, _, rfl, ok4, hl2, hb'⟩
      · rw [decide_eq_false z1] at tst
        exact ⟨_, s, (e_ifF tst).trans rfl, ms, _, _, _, rfl, ok, hl2, hb'⟩)
  refine ⟨(sortI ms).reverse, s2, e_def rfl (e_seq own (e_seq ((for_eq src).trans e2) (e_ret (sort_rev (e_var (by rfl)))))), pt_sort (fun n hn => ?_) (by omega), ok2⟩
  have := hb2 n hn
  have : (rngD 0 (1 + t).toNat).length = (1 + t).toNat := by simp [rngD]
  omega
end K05

-- part Rk05
set_option maxHeartbeats 1000000
namespace DL

/-! ### shapes turned about: plain mathematics -/
def conj (a : List Int) (L : Nat) : List Int := (List.range L).map fun j : Nat => ((a.filter fun p => decide ((j : Int) < p)).length : Int)
def mins (a : List Int) (j : Nat) : Int := (a.map fun p => min p (j : Int)).sum
def dom (a b : List Int) : Prop := a.sum = b.sum ∧ ∀ t : Nat, (b.take t).sum ≤ (a.take t).sum
theorem conj_get {a : List Int} {L i : Nat} (h : i < (conj a L).length) : (conj a L)[i] = ((a.filter fun p => decide ((i : Int) < p)).length : Int) := by simp [conj]
theorem mins_step {a : List Int} (m : Nat) : mins a (m + 1) = mins a m + ((a.filter fun p => decide ((m : Int) < p)).length : Int) := by
  unfold mins
  induction a with
  | nil => rfl
  | cons x a ih =>
    rw [List.map_cons, List.map_cons, List.sum_cons, List.sum_cons, ih]
    by_cases h : (m : Int) < x
    · rw [List.filter_cons_of_pos (by simpa using h), List.length_cons]
      omega
    · rw [List.filter_cons_of_neg (by simpa using h)]
      omega
theorem mins_zero {a : List Int} (h : ∀ p ∈ a, 0 ≤ p) : mins a 0 = 0 := by
  unfold mins
  induction a with
  | nil => rfl
  | cons x a ih =>
    rw [List.map_cons, List.sum_cons, ih fun p hp => h p (List.mem_cons_of_mem _ hp)]
    have := h x List.mem_cons_self
    omega
theorem conj_sum {a : List Int} (h : ∀ p ∈ a, 0 ≤ p) : ∀ m : Nat, (conj a m).sum = mins a m
  | 0 => by rw [mins_zero h]; rfl
  | m + 1 => by
    rw [mins_step, ← conj_sum h m]
    unfold conj
    rw [List.range_succ, List.map_append, List.sum_append]
    simp
theorem mins_cap {a : List Int} {L t : Nat} (h : ∀ p ∈ a, p ≤ (L : Int)) : mins a (min t L) = mins a t := by
  unfold mins
  congr 1
  refine List.map_congr_left fun p hp => ?_
  have := h p hp
  omega
theorem mins_all {a : List Int} {L : Nat} (h : ∀ p ∈ a, p ≤ (L : Int)) : mins a L = a.sum := by
  unfold mins
  have : (a.map fun p => min p (L : Int)) = a.map id := List.map_congr_left fun p hp => by have := h p hp; show min p (L : Int) = p; omega
  rw [this, List.map_id]
theorem conj_take {a : List Int} {L t : Nat} (h0 : ∀ p ∈ a, 0 ≤ p) (h : ∀ p ∈ a, p ≤ (L : Int)) : ((conj a L).take t).sum = mins a t := by
  have : (conj a L).take t = conj a (min t L) := by
    unfold conj
    rw [← List.map_take, List.take_range]
  rw [this, conj_sum h0, mins_cap h]
theorem conj_all {a : List Int} {L : Nat} (h0 : ∀ p ∈ a, 0 ≤ p) (h : ∀ p ∈ a, p ≤ (L : Int)) : (conj a L).sum = a.sum := by rw [conj_sum h0, mins_all h]
theorem cut_le (j : Nat) : ∀ {a : List Int} (k : Nat), (∀ p ∈ a, 0 ≤ p) → (a.take k).sum + mins a j ≤ (k : Int) * j + a.sum
  | [], k, _ => by
    have : (0 : Int) ≤ (k : Int) * j := Int.mul_nonneg (by omega) (by omega)
    simp [mins]; exact this
  | x :: a, 0, h => by
    have ih := cut_le (a := a) j 0 fun p hp => h p (List.mem_cons_of_mem _ hp)
    unfold mins at ih ⊢
    rw [List.map_cons, List.sum_cons, List.sum_cons]
    simp at ih ⊢
    omega
  | x :: a, k + 1, h => by
    have ih := cut_le (a := a) j k fun p hp => h p (List.mem_cons_of_mem _ hp)
    unfold mins at ih ⊢
    rw [List.map_cons, List.sum_cons, List.sum_cons, List.take_succ_cons, List.sum_cons]
    have : ((k + 1 : Nat) : Int) * j = (k : Int) * j + j := by rw [Int.natCast_add, Int.add_mul]; simp
    rw [this]
    omega
theorem mins_le_all {a : List Int} {j : Nat} (h : ∀ p ∈ a, p ≤ (j : Int)) : mins a j = a.sum := mins_all h
/-- each cut across is met by one along -/
theorem cut_row {j : Nat} : ∀ {a : List Int}, a.Pairwise (· ≥ ·) → ∃ k : Nat, (a.take k).sum + mins a j = (k : Int) * j + a.sum
  | [], _ => ⟨0, by simp [mins]⟩
  | x :: a, so => by
    rw [List.pairwise_cons] at so
    by_cases h : (j : Int) < x
    · obtain ⟨k, e⟩ := cut_row (j := j) so.2
      refine ⟨k + 1, ?_⟩
      unfold mins at e ⊢
      rw [List.map_cons, List.sum_cons, List.sum_cons, List.take_succ_cons, List.sum_cons]
      have : ((k + 1 : Nat) : Int) * j = (k : Int) * j + j := by rw [Int.natCast_add, Int.add_mul]; simp
      rw [this]
      omega
    · refine ⟨0, ?_⟩
      rw [mins_all (a := x :: a) fun p hp => ?_]
      · simp
      · rcases List.mem_cons.mp hp with rfl | hp
        · omega
        · have := so.1 p hp; omega
/-- .. and each along by one across -/
theorem cut_col : ∀ {a : List Int} (k : Nat), a.Pairwise (· ≥ ·) → (∀ p ∈ a, 0 ≤ p) → ∃ j : Nat, (∀ u : Int, 0 ≤ u → (∀ p ∈ a, p ≤ u) → (j : Int) ≤ u) ∧ (a.take k).sum + mins a j = (k : Int) * j + a.sum
  | [], k, _, _ => ⟨0, fun u h _ => h, by simp [mins]⟩
  | x :: a, 0, so, h => by
    rw [List.pairwise_cons] at so
    have hx := h x List.mem_cons_self
    refine ⟨x.toNat, fun u _ hu => by have := hu x List.mem_cons_self; omega, ?_⟩
    rw [mins_all (a := x :: a) fun p hp => ?_]
    · simp
    · rcases List.mem_cons.mp hp with rfl | hp
      · omega
      · have := so.1 p hp; omega
  | x :: a, k + 1, so, h => by
    rw [List.pairwise_cons] at so
    have hx := h x List.mem_cons_self
    obtain ⟨j, hj, e⟩ := cut_col k so.2 fun p hp => h p (List.mem_cons_of_mem _ hp)
    have hjx := hj x hx fun p hp => so.1 p hp
    refine ⟨j, fun u h0 hu => hj u h0 fun p hp => hu p (List.mem_cons_of_mem _ hp), ?_⟩
    unfold mins at e ⊢
    rw [List.map_cons, List.sum_cons, List.sum_cons, List.take_succ_cons, List.sum_cons]
    have : ((k + 1 : Nat) : Int) * j = (k : Int) * j + j := by rw [Int.natCast_add, Int.add_mul]; simp
    rw [this]
    omega
/-- turning about turns the order about -/
theorem dom_conj {a b : List Int} {La Lb : Nat} (sa : a.Pairwise (· ≥ ·)) (sb : b.Pairwise (· ≥ ·)) (a0 : ∀ p ∈ a, 0 ≤ p) (b0 : ∀ p ∈ b, 0 ≤ p) (ha : ∀ p ∈ a, p ≤ (La : Int)) (hb : ∀ p ∈ b, p ≤ (Lb : Int)) : dom (conj b Lb) (conj a La) ↔ dom a b := by
  unfold dom
  rw [conj_all a0 ha, conj_all b0 hb]
  constructor
  · rintro ⟨e, h⟩
    refine ⟨e.symm, fun k => ?_⟩
    obtain ⟨j, _, ej⟩ := cut_col k sa a0
    have h1 := cut_le (a := b) j k b0
    have h2 := h j
    rw [conj_take a0 ha, conj_take b0 hb] at h2
    omega
  · rintro ⟨e, h⟩
    refine ⟨e.symm, fun j => ?_⟩
    rw [conj_take a0 ha, conj_take b0 hb]
    obtain ⟨k, ek⟩ := cut_row (j := j) sb
    have h1 := cut_le (a := a) j k a0
    have h2 := h k
    omega
theorem cnt_lt {j : Int} : ∀ {a : List Int} {i : Nat} (hi : i < a.length), a.Pairwise (· ≥ ·) → ((i : Int) < ((a.filter fun p => decide (j < p)).length : Int) ↔ j < a[i])
  | x :: a, i, hi, so => by
    rw [List.pairwise_cons] at so
    by_cases h : j < x
    · rw [List.filter_cons_of_pos (by simpa using h), List.length_cons]
      match i with
      | 0 => simp only [List.getElem_cons_zero, h, iff_true]; omega
      | i + 1 =>
        have ih := cnt_lt (j := j) (a := a) (i := i) (by simpa using hi) so.2
        rw [List.getElem_cons_succ, ← ih]
        omega
    · have hn : (x :: a).filter (fun p => decide (j < p)) = [] := List.filter_eq_nil_iff.mpr fun p hp => by
        rcases List.mem_cons.mp hp with rfl | hp
        · simpa using h
        · have := so.1 p hp; simp; omega
      rw [hn]
      have hm := List.getElem_mem hi
      have : (x :: a)[i] ≤ x := by
        rcases List.mem_cons.mp hm with e | hm
        · omega
        · exact so.1 _ hm
      simp
      omega
theorem cnt_range (L : Nat) {x : Int} (h0 : 0 ≤ x) (h : x ≤ L) (f : Nat → Int) (i : Int) (hf : ∀ j < L, (i < f j ↔ (j : Int) < x)) : ((((List.range L).map f).filter fun q => decide (i < q)).length : Int) = x := by
  rw [List.filter_map, List.length_map]
  have : ((List.range L).filter ((fun q => decide (i < q)) ∘ f)) = (List.range L).filter (fun j => decide (j < x.toNat)) := List.filter_congr fun j hj => by
    have := hf j (List.mem_range.mp hj)
    show decide (i < f j) = decide (j < x.toNat)
    apply decide_eq_decide.mpr
    omega
  rw [this]
  have : ∀ (L m : Nat), m ≤ L → ((List.range L).filter (fun j => decide (j < m))).length = m := by
    intro L
    induction L with
    | zero => intro m hm; have : m = 0 := by omega
              subst this; rfl
    | succ L ih =>
      intro m hm
      rw [List.range_succ, List.filter_append, List.length_append]
      by_cases z : m ≤ L
      · rw [ih m z, List.filter_cons_of_neg (by simp; omega)]
        rfl
      · have : m = L + 1 := by omega
        subst this
        rw [List.filter_cons_of_pos (by simp)]
        have : (List.range L).filter (fun j => decide (j < L + 1)) = List.range L := List.filter_eq_self.mpr fun j hj => by have := List.mem_range.mp hj; simp; omega
        rw [this]; simp
  rw [this L x.toNat (by omega)]
  omega
theorem kind_take {a : List Int} (so : a.Pairwise (· ≥ ·)) : a.filter (fun p => decide (0 < p)) = a.take (a.filter (fun p => decide (0 < p))).length := by
  induction a with
  | nil => rfl
  | cons x a ih =>
    rw [List.pairwise_cons] at so
    by_cases h : 0 < x
    · rw [List.filter_cons_of_pos (by simpa using h), List.length_cons, List.take_succ_cons, ← ih so.2]
    · have hn : (x :: a).filter (fun p => decide (0 < p)) = [] := List.filter_eq_nil_iff.mpr fun p hp => by
        rcases List.mem_cons.mp hp with rfl | hp
        · simpa using h
        · have := so.1 p hp; simp; omega
      rw [hn]; rfl
/-- turned about twice -/
theorem conj_conj {a : List Int} {L : Nat} (so : a.Pairwise (· ≥ ·)) (a0 : ∀ p ∈ a, 0 ≤ p) (hL : ∀ p ∈ a, p ≤ (L : Int)) : conj (conj a L) (a.filter (fun p => decide (0 < p))).length = a.filter (fun p => decide (0 < p)) := by
  have hk := kind_take so
  have hle : (a.filter (fun p => decide (0 < p))).length ≤ a.length := List.length_filter_le _ _
  generalize hm : (a.filter (fun p => decide (0 < p))).length = m at hk hle
  rw [hk]
  refine List.ext_getElem (by simp [conj]; omega) fun i h1 h2 => ?_
  have hi : i < a.length := by simp [conj] at h1; omega
  rw [List.getElem_take]
  rw [conj_get]
  have hmem := List.getElem_mem hi
  exact cnt_range L (a0 _ hmem) (hL _ hmem) _ i fun j _ => cnt_lt (j := (j : Int)) hi so
theorem sum_bd {B : Int} : ∀ {ns : List Int}, (∀ n ∈ ns, 0 ≤ n ∧ n ≤ B) → 0 ≤ ns.sum ∧ ns.sum ≤ B * ns.length
  | [], _ => by simp
  | n :: ns, h => by
    have ih := sum_bd (ns := ns) fun m hm => h m (List.mem_cons_of_mem _ hm)
    have := h n List.mem_cons_self
    rw [List.sum_cons, List.length_cons]
    have e : B * ((ns.length + 1 : Nat) : Int) = B * ns.length + B := by rw [Int.natCast_add, Int.mul_add]; simp
    rw [e]
    omega
theorem conj_bd {a : List Int} {L : Nat} : ∀ q ∈ conj a L, 0 ≤ q ∧ q ≤ a.length := fun q hq => by
  obtain ⟨j, _, rfl⟩ := List.mem_map.mp hq
  have := List.length_filter_le (fun p => decide ((j : Int) < p)) a
  omega
theorem conj_so {a : List Int} {L : Nat} : (conj a L).Pairwise (· ≥ ·) := by
  unfold conj
  rw [List.pairwise_map]
  refine List.pairwise_lt_range.imp fun {i j} hij => ?_
  have : ((a.filter fun p => decide ((j : Int) < p)).length) ≤ ((a.filter fun p => decide ((i : Int) < p)).length) := by
    rw [← List.countP_eq_length_filter, ← List.countP_eq_length_filter]
    refine List.countP_mono_left fun p _ h => ?_
    simp at h ⊢
    omega
  omega
theorem conj_len {a : List Int} {L : Nat} : (conj a L).length = L := by simp [conj]
theorem pad_take {a : List Int} {k t : Nat} : ((a ++ List.replicate k (0 : Int)).take t).sum = (a.take t).sum := by
  rw [List.take_append, List.sum_append, List.take_replicate, List.sum_replicate_int]
  simp
theorem pad_sum {a : List Int} {k : Nat} : (a ++ List.replicate k (0 : Int)).sum = a.sum := by
  rw [List.sum_append, List.sum_replicate_int]
  simp
end DL

-- part Sk05
set_option maxHeartbeats 1000000
namespace K05
open PySem PySem.Spec PyProof.Rows L2 DL

theorem Sq.items {d : D} {ns : List Int} (h : Sq d ns) : itemsD d = some (ns.map .int) := by rcases h with rfl | rfl <;> rfl
theorem Sq.len {d : D} {ns : List Int} (h : Sq d ns) (s : HS) : lenD [d] s = some (.int (ns.length : Nat)) := by
  rcases h with rfl | rfl <;> (show some (D.int ((ns.map D.int).length : Nat)) = _; rw [List.length_map])
theorem Sq.sum {d : D} {ns : List Int} (h : Sq d ns) (s : HS) : sumD [d] s = some (.int ns.sum) := by
  rcases h with rfl | rfl <;> (show (DL.intsD (ns.map D.int)).map _ = _; rw [intsD_map]; rfl)
theorem Sq.tup {d : D} {ns : List Int} (h : Sq d ns) (s : HS) : tupleD [d] s = some (.tup (ns.map .int)) := by rcases h with rfl | rfl <;> rfl
theorem Sq.ix {d : D} {ns : List Int} (h : Sq d ns) (s : HS) {i : Nat} (hi : i < ns.length) : ixD d (.int i) s = some (.int ns[i]) := by
  have : atI (ns.map D.int) (i : Int) = some (.int ns[i]) := atI_in (by rw [List.getElem?_map, List.getElem?_eq_getElem hi]; rfl)
  rcases h with rfl | rfl <;> exact this
theorem sum_ok {d : D} {ns : List Int} (h : Sq d ns) (s : HS) : sem_sum_of_shape [d] s = .ok (.int ns.sum) s := e_def rfl (e_ret (e_A (e_a1 e_var) (h.sum s)))
theorem kind_ok {d : D} {ns : List Int} (h : Sq d ns) (hl : ns.length ≤ 1000) (s : HS) : sem_kind_of_shape [d] s = .ok (.tup ((ns.filter fun p => !decide (p = 0)).map .int)) s := by
  refine e_def rfl (e_ret (e_A (d := .tup ((ns.filter fun p => !decide (p = 0)).map .int)) (e_a1 (d := .lst ((ns.filter fun p => !decide (p = 0)).map .int)) ?_) rfl))
  have := lc_ints (src := fun δ s => ((fVar 0) δ s).bind fun d s1 => Re.of (itemsD d) s1) (gt := gnF 1) (ft := tBl (F2 neD (fVar 1) (fC (.int 0)))) (fe := fVar 1) (vs := [1]) (δ := [.fz d, .un]) (s := s) (fun p => !decide (p = 0)) id (e_items e_var h.items) rfl (by omega) fun n _ => ⟨_, rfl, e_bl (e_2 e_var e_c rfl), fun _ => e_var⟩
  rw [List.map_id] at this
  exact this
/-- sum of the products by place -/
def wts (ns : List Int) : List Int := (List.range ns.length).map fun k : Nat => (k : Int) * ns.getD k 0
theorem en_wts : ∀ (ns : List Int) (n : Nat), (enD n (ns.map .int)).map (fun d => match d with | .tup [.int i, .int x] => D.int (i * x) | d => d) = ((List.range ns.length).map fun k : Nat => ((n + k : Nat) : Int) * ns.getD k 0).map .int
  | [], _ => rfl
  | x :: ns, n => by
    have ih := en_wts ns (n + 1)
    show D.int ((n : Int) * x) :: (enD (n + 1) (ns.map .int)).map _ = _
    rw [ih, List.length_cons, List.range_succ_eq_map, List.map_cons, List.map_cons, List.map_map, List.map_map, List.map_map]
    refine congr (congrArg List.cons ?_) ?_
    · simp
    · refine List.map_congr_left fun k _ => ?_
      simp only [Function.comp, List.getD_cons_succ]
      rw [show n + 1 + k = n + k.succ by omega]
theorem en_mem {ns : List Int} {d : D} : ∀ {n : Nat}, d ∈ enD n (ns.map .int) → ∃ i x : Int, d = .tup [.int i, .int x] ∧ 0 ≤ i ∧ i < n + ns.length := by
  induction ns with
  | nil => intro n h; cases h
  | cons x ns ih =>
    intro n h
    rcases List.mem_cons.mp (show d ∈ D.tup [.int (n : Nat), .int x] :: enD (n + 1) (ns.map .int) from h) with rfl | h
    · exact ⟨n, x, rfl, by omega, by rw [List.length_cons]; omega⟩
    · obtain ⟨i, y, rfl, h1, h2⟩ := ih h
      exact ⟨i, y, rfl, h1, by rw [List.length_cons]; omega⟩
theorem weight_ok {d : D} {ns : List Int} (h : Sq d ns) (hl : ns.length ≤ 1000) (s : HS) : sem_weight_of [d] s = .ok (.int (wts ns).sum) s := by
  have q : lc_weight_of_1 [.fz d, .un, .un] s = .ok (.lst ((wts ns).map .int)) s := by
    have := lc_pure (src := overA enum1 (aCons (fVar 0) aNil)) (gt := gpairF 1 2) (ft := fun _ s => .ok true s) (fe := F2 mulD (fVar 1) (fVar 2)) (vs := [1, 2]) (δ := [.fz d, .un, .un]) (s := s) (fun _ => true) (fun d => match d with | .tup [.int i, .int x] => D.int (i * x) | d => d) (ds := enD 0 (ns.map .int)) (e_over (e_a1 e_var) (by rcases h with rfl | rfl <;> rfl)) rfl (by rw [enD_len, List.length_map]; omega) (fun d hd => by
      obtain ⟨i, x, rfl, h0, h1⟩ := en_mem hd
      exact ⟨_, rfl, rfl, fun _ => e_2 e_var e_var (q_mull (by omega))⟩)
    rw [List.filter_eq_self.mpr (fun _ _ => rfl), en_wts] at this
    simp only [Nat.zero_add] at this
    exact this
  exact e_def rfl (e_ret (e_A (e_a1 q) (Sq.sum (ns := wts ns) (.inl rfl) s)))
theorem zeros (k : Nat) : (List.replicate k [D.int 0]).flatten = (List.replicate k (0 : Int)).map .int := by
  induction k with
  | zero => rfl
  | succ k ih => rw [List.replicate_succ, List.flatten_cons, ih, List.replicate_succ, List.map_cons]; rfl
theorem pad_eq {ns : List Int} (hl : ns.length ≤ 1000) {L : Int} (h0 : (ns.length : Int) ≤ L) (h1 : L ≤ 1000) {f1 f2 f3 : ED} {δ : Dt} {s : HS} {d : D} (h : Sq d ns) (e1 : f1 δ s = .ok d s) (e2 : f2 δ s = .ok (.int L) s) (e3 : f3 δ s = .ok d s) :
    F2 addD (FA tupleD (aCons f1 aNil)) (F2 mulD (FA mkT (aCons (fC (.int 0)) aNil)) (F2 subD f2 (FA lenD (aCons f3 aNil)))) δ s = .ok (.tup ((ns ++ List.replicate (L - ns.length).toNat 0).map .int)) s := by
  refine e_2 (e_A (e_a1 e1) (h.tup s)) (e_2 (d := .tup [.int 0]) (d1 := .int (L - ns.length)) (d2 := .tup ((List.replicate (L - ns.length).toNat (0 : Int)).map .int)) (e_A (e_a1 e_c) rfl) (e_2 e2 (e_A (e_a1 e3) (h.len s)) rfl) ?_) ?_
  · show (if ([D.int 0]).length ≤ 1000 ∧ _ then _ else _) = _
    rw [if_pos ⟨by decide, by omega, by omega⟩, zeros]
  · show (if _ then _ else _) = _
    rw [if_pos (by simp; omega), List.map_append]
theorem shape_ok (C : Addr) {d : D} {ns : List Int} (h : Sq d ns) (hl : ns.length ≤ 1000) {L : Int} (h1 : L ≤ 1000) (s : HS) : sem_shape_of_kind C [d, .int L] s = if L < ns.length then .err C [(("what" : Str), .str ("many" : Str))] s else .ok (.tup ((ns ++ List.replicate (L - ns.length).toNat 0).map .int)) s := by
  have t : (tBl (F2 (icmpD fun i j => decide (j < i)) (FA lenD (aCons (fVar 0) aNil)) (fVar 1))) [.fz d, .fz (.int L)] s = .ok (decide (L < ns.length)) s := e_bl (e_2 (e_A (e_a1 e_var) (h.len s)) e_var rfl)
  by_cases z : L < ns.length
  · rw [if_pos z]
    rw [decide_eq_true z] at t
    exact e_defE rfl (e_er ((e_ifT t).trans (e_raise e_c)))
  · rw [if_neg z]
    rw [decide_eq_false z] at t
    exact e_def rfl (e_seq ((e_ifF t).trans rfl) (e_ret (pad_eq hl (by omega) h1 h e_var e_var e_var)))
/-- the first part, or 0 -/
def fst0 (ns : List Int) : Int := ns.headD 0
theorem conj_map {α : Type} (L : Nat) (f g : Nat → α) (h : ∀ j < L, f j = g j) : (List.range L).map f = (List.range L).map g := List.map_congr_left fun j hj => h j (List.mem_range.mp hj)
theorem turned_lc {d : D} {ns : List Int} (h : Sq d ns) (hl : ns.length ≤ 1000) {L : Int} (h0 : 0 ≤ L) (h1 : L ≤ 1000) {y2 y3 : Sl} (s : HS) : lc_turned_about_2 [.fz d, .fz (.int L), y2, y3, .un, .un] s = .ok (.lst ((conj ns L.toNat).map .int)) s := by
  have inner : ∀ n : Int, lc_turned_about_1 [.fz d, .fz (.int L), y2, y3, .fz (.int n), .un] s = .ok (.lst ((ns.filter fun p => decide (n ≤ p)).map .int)) s := fun n => by
    have := lc_ints (src := fun δ s => ((fVar 0) δ s).bind fun d s1 => Re.of (itemsD d) s1) (gt := gnF 5) (ft := tBl (F2 (icmpD fun i j => decide (j ≤ i)) (fVar 5) (fVar 4))) (fe := fVar 5) (vs := [5]) (δ := [.fz d, .fz (.int L), y2, y3, .fz (.int n), .un]) (s := s) (fun p => decide (n ≤ p)) id (e_items e_var h.items) rfl (by omega) fun m _ => ⟨_, rfl, e_bl (e_2 e_var e_var rfl), fun _ => e_var⟩
    rw [List.map_id] at this
    exact this
  have := lc_ints (src := overA rng2 (aCons (fC (.int 1)) (aCons (F2 addD (fVar 1) (fC (.int 1))) aNil))) (gt := gnF 4) (ft := fun _ s => .ok true s) (fe := FA lenD (aCons lc_turned_about_1 aNil)) (vs := [4]) (δ := [.fz d, .fz (.int L), y2, y3, .un, .un]) (s := s) (s1 := s) (ns := (List.range L.toNat).map fun i : Nat => 1 + (i : Int)) (fun _ => true) (fun n => ((ns.filter fun p => decide (n ≤ p)).length : Int))
    (e_over (e_a2 e_c (e_2 e_var e_c rfl)) (by
      show (if _ then some (rngD 1 (L + 1 - 1).toNat) else none) = _
      rw [if_pos (by omega), show L + 1 - 1 = L by omega]
      unfold rngD
      rw [List.map_map]
      rfl)) rfl (by simp; omega) fun n _ => ⟨_, rfl, rfl, fun _ => e_A (e_a1 (inner n)) (by show some (D.int _) = _; rw [List.length_map])⟩
  have e : ((List.range L.toNat).map fun i : Nat => 1 + (i : Int)).map (fun n => ((ns.filter fun p => decide (n ≤ p)).length : Int)) = conj ns L.toNat := by
    rw [List.map_map]
    refine conj_map _ _ _ fun j _ => ?_
    show ((ns.filter fun p => decide (1 + (j : Int) ≤ p)).length : Int) = _
    congr 2
    exact List.filter_congr fun p _ => decide_eq_decide.mpr (by omega)
  rw [List.filter_eq_self.mpr (fun _ _ => rfl), e] at this
  exact this
theorem fst_eq {d : D} {ns : List Int} (h : Sq d ns) {ys : List Sl} (s : HS) : (fIf (tBl (F2 (icmpD fun i j => decide (j < i)) (FA lenD (aCons (fVar 0) aNil)) (fC (.int 0)))) (F2 ixD (fVar 0) (fC (.int 0))) (fC (.int 0))) (.fz d :: ys) s = .ok (.int (fst0 ns)) s := by
  have t : (tBl (F2 (icmpD fun i j => decide (j < i)) (FA lenD (aCons (fVar 0) aNil)) (fC (.int 0)))) (.fz d :: ys) s = .ok (decide ((0 : Int) < (ns.length : Nat))) s := e_bl (e_2 (e_A (e_a1 e_var) (h.len s)) e_c rfl)
  cases ns with
  | nil => exact e_fifF t e_c
  | cons x ns =>
    rw [decide_eq_true (by rw [List.length_cons]; omega)] at t
    exact e_fifT t (e_2 e_var e_c (h.ix s (i := 0) (by simp)))
/-- turned about, a length given -/
theorem turned_ok (C : Addr) {d : D} {ns : List Int} (h : Sq d ns) (hl : ns.length ≤ 1000) {L : Int} (h1 : L ≤ 1000) (s : HS) : sem_turned_about C [d, .int L] s = if L < max (fst0 ns) 1 then .err C [(("what" : Str), .str ("many" : Str))] s else .ok (.tup ((conj ns L.toNat).map .int)) s := by
  have s2 : setF 2 (fIf (tBl (F2 (icmpD fun i j => decide (j < i)) (FA lenD (aCons (fVar 0) aNil)) (fC (.int 0)))) (F2 ixD (fVar 0) (fC (.int 0))) (fC (.int 0))) [.fz d, .fz (.int L), .un, .un, .un, .un] s = .nx [.fz d, .fz (.int L), .fz (.int (fst0 ns)), .un, .un, .un] s := e_set (fst_eq h s)
  have s3 : setF 3 (FA max2D (aCons (fVar 2) (aCons (fC (.int 1)) aNil))) [.fz d, .fz (.int L), .fz (.int (fst0 ns)), .un, .un, .un] s = .nx [.fz d, .fz (.int L), .fz (.int (fst0 ns)), .fz (.int (max (fst0 ns) 1)), .un, .un] s := e_set (e_A (e_a2 e_var e_c) q_max)
  have s4 : ifF (tBl (F1 isNonD (fVar 1))) (setF 1 (fVar 3)) nxF [.fz d, .fz (.int L), .fz (.int (fst0 ns)), .fz (.int (max (fst0 ns) 1)), .un, .un] s = .nx [.fz d, .fz (.int L), .fz (.int (fst0 ns)), .fz (.int (max (fst0 ns) 1)), .un, .un] s := (e_ifF (e_bl (e_1 e_var rfl))).trans rfl
  have t : (tBl (F2 (icmpD fun i j => decide (i < j)) (fVar 1) (fVar 3))) [.fz d, .fz (.int L), .fz (.int (fst0 ns)), .fz (.int (max (fst0 ns) 1)), .un, .un] s = .ok (decide (L < max (fst0 ns) 1)) s := e_bl (e_2 e_var e_var rfl)
  by_cases z : L < max (fst0 ns) 1
  · rw [if_pos z]
    rw [decide_eq_true z] at t
    exact e_defE rfl (e_seq s2 (e_seq s3 (e_seq s4 (e_er ((e_ifT t).trans (e_raise e_c))))))
  · rw [if_neg z]
    rw [decide_eq_false z] at t
    exact e_def rfl (e_seq s2 (e_seq s3 (e_seq s4 (e_seq ((e_ifF t).trans rfl) (e_ret (e_A (e_a1 (turned_lc h hl (by omega) h1 s)) rfl))))))
/-- .. none given -/
theorem turned0_ok (C : Addr) {d : D} {ns : List Int} (h : Sq d ns) (hl : ns.length ≤ 1000) (h1 : fst0 ns ≤ 1000) (s : HS) : sem_turned_about C [d, .non] s = .ok (.tup ((conj ns (max (fst0 ns) 1).toNat).map .int)) s := by
  have s2 : setF 2 (fIf (tBl (F2 (icmpD fun i j => decide (j < i)) (FA lenD (aCons (fVar 0) aNil)) (fC (.int 0)))) (F2 ixD (fVar 0) (fC (.int 0))) (fC (.int 0))) [.fz d, .fz .non, .un, .un, .un, .un] s = .nx [.fz d, .fz .non, .fz (.int (fst0 ns)), .un, .un, .un] s := e_set (fst_eq h s)
  have s3 : setF 3 (FA max2D (aCons (fVar 2) (aCons (fC (.int 1)) aNil))) [.fz d, .fz .non, .fz (.int (fst0 ns)), .un, .un, .un] s = .nx [.fz d, .fz .non, .fz (.int (fst0 ns)), .fz (.int (max (fst0 ns) 1)), .un, .un] s := e_set (e_A (e_a2 e_var e_c) q_max)
  have s4 : ifF (tBl (F1 isNonD (fVar 1))) (setF 1 (fVar 3)) nxF [.fz d, .fz .non, .fz (.int (fst0 ns)), .fz (.int (max (fst0 ns) 1)), .un, .un] s = .nx [.fz d, .fz (.int (max (fst0 ns) 1)), .fz (.int (fst0 ns)), .fz (.int (max (fst0 ns) 1)), .un, .un] s := (e_ifT (e_bl (e_1 e_var rfl))).trans (e_set e_var)
  have t : (tBl (F2 (icmpD fun i j => decide (i < j)) (fVar 1) (fVar 3))) [.fz d, .fz (.int (max (fst0 ns) 1)), .fz (.int (fst0 ns)), .fz (.int (max (fst0 ns) 1)), .un, .un] s = .ok false s := e_bl (e_2 e_var e_var (by show some (D.bl (decide _)) = _; rw [decide_eq_false (by omega)]))
  exact e_def rfl (e_seq s2 (e_seq s3 (e_seq s4 (e_seq ((e_ifF t).trans rfl) (e_ret (e_A (e_a1 (turned_lc h hl (by omega) (by omega) s)) rfl))))))
theorem lturned_ok {d : D} {ns : List Int} (h : Sq d ns) (hl : ns.length ≤ 1000) {L : Int} (h0 : 0 ≤ L) (h1 : L ≤ 1000) (s : HS) : sem_law_turned [d, .int L] s = .ok (.tup ((conj ns L.toNat).map .int)) s := by
  have inner : ∀ n : Int, lc_law_turned_1 [.fz d, .fz (.int L), .fz (.int n), .un] s = .ok (.lst ((ns.filter fun p => decide (n < p)).map .int)) s := fun n => by
    have := lc_ints (src := fun δ s => ((fVar 0) δ s).bind fun d s1 => Re.of (itemsD d) s1) (gt := gnF 3) (ft := tBl (F2 (icmpD fun i j => decide (j < i)) (fVar 3) (fVar 2))) (fe := fVar 3) (vs := [3]) (δ := [.fz d, .fz (.int L), .fz (.int n), .un]) (s := s) (fun p => decide (n < p)) id (e_items e_var h.items) rfl (by omega) fun m _ => ⟨_, rfl, e_bl (e_2 e_var e_var rfl), fun _ => e_var⟩
    rw [List.map_id] at this
    exact this
  have := lc_ints (src := overA rng1 (aCons (fVar 1) aNil)) (gt := gnF 2) (ft := fun _ s => .ok true s) (fe := FA lenD (aCons lc_law_turned_1 aNil)) (vs := [2]) (δ := [.fz d, .fz (.int L), .un, .un]) (s := s) (s1 := s) (ns := (List.range L.toNat).map fun i : Nat => 0 + (i : Int)) (fun _ => true) (fun n => ((ns.filter fun p => decide (n < p)).length : Int))
    (e_over (e_a1 e_var) (by
      show (if _ then some (rngD 0 L.toNat) else none) = _
      rw [if_pos (by omega)]
      unfold rngD
      rw [List.map_map]
      rfl)) rfl (by simp; omega) fun n _ => ⟨_, rfl, rfl, fun _ => e_A (e_a1 (inner n)) (by show some (D.int _) = _; rw [List.length_map])⟩
  have e : ((List.range L.toNat).map fun i : Nat => 0 + (i : Int)).map (fun n => ((ns.filter fun p => decide (n < p)).length : Int)) = conj ns L.toNat := by
    rw [List.map_map]
    refine conj_map _ _ _ fun j _ => ?_
    show ((ns.filter fun p => decide (0 + (j : Int) < p)).length : Int) = _
    rw [Int.zero_add]
  rw [List.filter_eq_self.mpr (fun _ _ => rfl), e] at this
  exact e_def rfl (e_ret (e_A (d := .tup ((conj ns L.toNat).map .int)) (e_a1 this) rfl))
end K05

-- part Tk05
set_option maxHeartbeats 1000000
namespace K05
open PySem PySem.Spec PyProof.Rows L2 DL

theorem above_loop {d1 d2 d3 : D} {s : HS} : ∀ (xs ys : List Int) (ah : Int) (y4 y5 : Sl), 0 ≤ ah → xs.length = ys.length →
    (∃ (z4 z5 : Sl), loopF (gtupF 2 (gconsF (gnF 4) (gconsF (gnF 5) gnilF))) lb_is_above_1 (zpD (xs.map .int) (ys.map .int)) [.fz d1, .fz d2, .fz d3, .fz (.int ah), y4, y5] s = .nx [.fz d1, .fz d2, .fz d3, .fz (.int (ah + xs.sum - ys.sum)), z4, z5] s ∧ ∀ t : Nat, 0 ≤ ah + (xs.take t).sum - (ys.take t).sum) ∨
    (loopF (gtupF 2 (gconsF (gnF 4) (gconsF (gnF 5) gnilF))) lb_is_above_1 (zpD (xs.map .int) (ys.map .int)) [.fz d1, .fz d2, .fz d3, .fz (.int ah), y4, y5] s = .rt (.bl false) s ∧ ∃ t : Nat, ah + (xs.take t).sum - (ys.take t).sum < 0)
  | [], [], ah, y4, y5, h, _ => .inl ⟨y4, y5, by simp [zpD, loopF], fun t => by simp; exact h⟩
  | [], _ :: _, _, _, _, _, hl => by simp at hl
  | _ :: _, [], _, _, _, _, hl => by simp at hl
  | x :: xs, y :: ys, ah, y4, y5, h, hl => by
    have hl' : xs.length = ys.length := by simpa using hl
    have g : gtupF 2 (gconsF (gnF 4) (gconsF (gnF 5) gnilF)) (.tup [.int x, .int y]) [.fz d1, .fz d2, .fz d3, .fz (.int ah), y4, y5] = some [.fz d1, .fz d2, .fz d3, .fz (.int ah), .fz (.int x), .fz (.int y)] := rfl
    have s3 : setF 3 (F2 subD (F2 addD (fVar 3) (fVar 4)) (fVar 5)) [.fz d1, .fz d2, .fz d3, .fz (.int ah), .fz (.int x), .fz (.int y)] s = .nx [.fz d1, .fz d2, .fz d3, .fz (.int (ah + x - y)), .fz (.int x), .fz (.int y)] s := e_set (e_2 (e_2 e_var e_var rfl) e_var rfl)
    have t : (tBl (F2 (icmpD fun i j => decide (i < j)) (fVar 3) (fC (.int 0)))) [.fz d1, .fz d2, .fz d3, .fz (.int (ah + x - y)), .fz (.int x), .fz (.int y)] s = .ok (decide (ah + x - y < 0)) s := e_bl (e_2 e_var e_c rfl)
    have tk : ∀ t : Nat, ah + ((x :: xs).take (t + 1)).sum - ((y :: ys).take (t + 1)).sum = (ah + x - y) + (xs.take t).sum - (ys.take t).sum := fun t => by
      rw [List.take_succ_cons, List.take_succ_cons, List.sum_cons, List.sum_cons]; omega
    by_cases z : ah + x - y < 0
    · rw [decide_eq_true z] at t
      refine .inr ⟨loop_rt g (e_seq s3 ((e_ifT t).trans (e_ret e_c))), 1, ?_⟩
      rw [tk 0]; simp; exact z
    · rw [decide_eq_false z] at t
      have b : lb_is_above_1 [.fz d1, .fz d2, .fz d3, .fz (.int ah), .fz (.int x), .fz (.int y)] s = .nx [.fz d1, .fz d2, .fz d3, .fz (.int (ah + x - y)), .fz (.int x), .fz (.int y)] s := e_seq s3 ((e_ifF t).trans rfl)
      have e : loopF (gtupF 2 (gconsF (gnF 4) (gconsF (gnF 5) gnilF))) lb_is_above_1 (zpD ((x :: xs).map .int) ((y :: ys).map .int)) [.fz d1, .fz d2, .fz d3, .fz (.int ah), y4, y5] s = loopF (gtupF 2 (gconsF (gnF 4) (gconsF (gnF 5) gnilF))) lb_is_above_1 (zpD (xs.map .int) (ys.map .int)) [.fz d1, .fz d2, .fz d3, .fz (.int (ah + x - y)), .fz (.int x), .fz (.int y)] s := loop_nx g b
      rw [e]
      rcases above_loop (d1 := d1) (d2 := d2) (d3 := d3) (s := s) xs ys (ah + x - y) (.fz (.int x)) (.fz (.int y)) (by omega) hl' with ⟨z4, z5, e1, h1⟩ | ⟨e1, t, h1⟩
      · refine .inl ⟨z4, z5, ?_, fun t => ?_⟩
        · rw [e1, List.sum_cons, List.sum_cons, show ah + (x + xs.sum) - (y + ys.sum) = ah + x - y + xs.sum - ys.sum by omega]
        · match t with
          | 0 => simp; exact h
          | t + 1 => rw [tk t]; exact h1 t
      · exact .inr ⟨e1, t + 1, by rw [tk t]; exact h1⟩
theorem above_ok (C : Addr) {d1 d2 : D} {a b : List Int} (ha : Sq d1 a) (hb : Sq d2 b) (la : a.length ≤ 1000) (lb : b.length ≤ 1000) (s : HS) : ∃ z, sem_is_above C [d1, d2] s = .ok (.bl z) s ∧ (z = true ↔ dom a b) := by
  have hm1 : (max (a.length : Int) b.length) ≤ 1000 := by omega
  have s2 : setF 2 (FA max2D (aCons (FA lenD (aCons (fVar 0) aNil)) (aCons (FA lenD (aCons (fVar 1) aNil)) aNil))) [.fz d1, .fz d2, .un, .un, .un, .un] s = .nx [.fz d1, .fz d2, .fz (.int (max (a.length : Int) b.length)), .un, .un, .un] s := e_set (e_A (e_a2 (e_A (e_a1 e_var) (ha.len s)) (e_A (e_a1 e_var) (hb.len s))) q_max)
  have s3 : setF 3 (fC (.int 0)) [.fz d1, .fz d2, .fz (.int (max (a.length : Int) b.length)), .un, .un, .un] s = .nx [.fz d1, .fz d2, .fz (.int (max (a.length : Int) b.length)), .fz (.int 0), .un, .un] s := e_set e_c
  have pa := shape_ok C ha la hm1 s
  have pb := shape_ok C hb lb hm1 s
  rw [if_neg (by omega)] at pa pb
  have src : overA zip2 (aCons (F2c (sem_shape_of_kind C) [] (aCons (fVar 0) (aCons (fVar 2) aNil))) (aCons (F2c (sem_shape_of_kind C) [] (aCons (fVar 1) (aCons (fVar 2) aNil))) aNil)) [.fz d1, .fz d2, .fz (.int (max (a.length : Int) b.length)), .fz (.int 0), .un, .un] s = .ok (zpD ((a ++ List.replicate (max (a.length : Int) b.length - a.length).toNat 0).map .int) ((b ++ List.replicate (max (a.length : Int) b.length - b.length).toNat 0).map .int)) s :=
    e_over (e_a2 (e_call (e_a2 e_var e_var) pa) (e_call (e_a2 e_var e_var) pb)) rfl
  rcases above_loop (d1 := d1) (d2 := d2) (d3 := .int (max (a.length : Int) b.length)) (s := s) (a ++ List.replicate (max (a.length : Int) b.length - a.length).toNat 0) (b ++ List.replicate (max (a.length : Int) b.length - b.length).toNat 0) 0 .un .un (by omega) (by simp; omega) with ⟨z4, z5, e1, h1⟩ | ⟨e1, t, h1⟩
  · rw [pad_sum, pad_sum] at e1
    refine ⟨decide (0 + a.sum - b.sum = 0), e_def rfl (e_seq s2 (e_seq s3 (e_seq ((for_eq src).trans e1) (e_ret (e_2 e_var e_c rfl))))), ?_⟩
    rw [decide_eq_true_eq]
    refine ⟨fun e => ⟨by omega, fun t => ?_⟩, fun e => by have := e.1; omega⟩
    have := h1 t
    rw [pad_take, pad_take] at this
    omega
  · refine ⟨false, e_def rfl (e_seq s2 (e_seq s3 (e_rt ((for_eq src).trans e1)))), ?_⟩
    rw [pad_take, pad_take] at h1
    refine ⟨fun e => by simp at e, fun e => ?_⟩
    have := e.2 t
    omega
theorem cut_k {ns : List Int} (k : Nat) : DL.cutD (ns.map D.int) none (some (k : Int)) = (ns.take k).map .int := by
  unfold DL.cutD
  rw [HT.sIx_nat]
  show ((ns.map D.int).drop 0).take (min k (ns.map D.int).length - 0) = _
  rw [List.drop_zero, Nat.sub_zero, List.map_take, List.length_map]
  by_cases h : k ≤ ns.length
  · rw [Nat.min_eq_left h]
  · rw [Nat.min_eq_right (by omega), List.take_of_length_le (by simp), List.take_of_length_le (by simp; omega)]
theorem labove_loop {a b : List Int} {s : HS} : ∀ (n k : Nat) (y : Sl),
    (∃ z, loopF (gnF 2) lb_law_above_1 ((List.range' k n).map fun i : Nat => D.int (i : Int)) [.fz (.lst (a.map .int)), .fz (.lst (b.map .int)), y] s = .nx [.fz (.lst (a.map .int)), .fz (.lst (b.map .int)), z] s ∧ ∀ t, k ≤ t → t < k + n → (b.take t).sum ≤ (a.take t).sum) ∨
    (loopF (gnF 2) lb_law_above_1 ((List.range' k n).map fun i : Nat => D.int (i : Int)) [.fz (.lst (a.map .int)), .fz (.lst (b.map .int)), y] s = .rt (.bl false) s ∧ ∃ t, (a.take t).sum < (b.take t).sum)
  | 0, k, y => .inl ⟨y, rfl, fun t h1 h2 => by omega⟩
  | n + 1, k, y => by
    rw [List.range'_succ, List.map_cons]
    have sl : ∀ (i : Nat) (ns : List Int), [Sl.fz (.lst (a.map .int)), .fz (.lst (b.map .int)), .fz (.int (k : Int))][i]? = some (.fz (.lst (ns.map .int))) → FA sumD (aCons (fSli (fVar i) (fun _ s => .ok none s) (fun δ s => ((fVar 2) δ s).bind fun d s1 => Re.of (intOf d) s1)) aNil) [.fz (.lst (a.map .int)), .fz (.lst (b.map .int)), .fz (.int (k : Int))] s = .ok (.int (ns.take k).sum) s := fun i ns h => by
      refine e_A (d := .int (ns.take k).sum) (e_a1 (d := .lst ((ns.take k).map .int)) ?_) (Sq.sum (ns := ns.take k) (.inl rfl) s)
      unfold fSli
      rw [e_var h]
      show Re.of (some (D.lst (DL.cutD (ns.map D.int) none (some (k : Int))))) s = _
      rw [cut_k]; rfl
    have t : (tBl (F2 (icmpD fun i j => decide (i < j)) (FA sumD (aCons (fSli (fVar 0) (fun _ s => .ok none s) (fun δ s => ((fVar 2) δ s).bind fun d s1 => Re.of (intOf d) s1)) aNil)) (FA sumD (aCons (fSli (fVar 1) (fun _ s => .ok none s) (fun δ s => ((fVar 2) δ s).bind fun d s1 => Re.of (intOf d) s1)) aNil)))) [.fz (.lst (a.map .int)), .fz (.lst (b.map .int)), .fz (.int (k : Int))] s = .ok (decide ((a.take k).sum < (b.take k).sum)) s := e_bl (e_2 (sl 0 a rfl) (sl 1 b rfl) rfl)
    by_cases z : (a.take k).sum < (b.take k).sum
    · rw [decide_eq_true z] at t
      exact .inr ⟨loop_rt rfl ((e_ifT t).trans (e_ret e_c)), k, z⟩
    · rw [decide_eq_false z] at t
      have e := loop_nx (gt := gnF 2) (fb := lb_law_above_1) (d := .int (k : Int)) (ds := (List.range' (k + 1) n).map fun i : Nat => D.int (i : Int)) (δ := [.fz (.lst (a.map .int)), .fz (.lst (b.map .int)), y]) (s := s) rfl ((e_ifF t).trans rfl)
      rw [e]
      rcases labove_loop (a := a) (b := b) (s := s) n (k + 1) (.fz (.int (k : Int))) with ⟨w, e1, h1⟩ | h1
      · refine .inl ⟨w, e1, fun t h2 h3 => ?_⟩
        by_cases hk : t = k
        · subst hk; omega
        · exact h1 t (by omega) (by omega)
      · exact .inr h1
theorem labove_ok {a b : List Int} (la : a.length ≤ 8) (lb : b.length ≤ 8) (s : HS) : ∃ z, sem_law_above [.lst (a.map .int), .lst (b.map .int)] s = .ok (.bl z) s ∧ (z = true ↔ dom a b) := by
  have t : (tBl (F2 neD (FA sumD (aCons (fVar 0) aNil)) (FA sumD (aCons (fVar 1) aNil)))) [.fz (.lst (a.map .int)), .fz (.lst (b.map .int)), .un] s = .ok (!decide (a.sum = b.sum)) s := e_bl (e_2 (e_A (e_a1 e_var) (Sq.sum (.inl rfl) s)) (e_A (e_a1 e_var) (Sq.sum (.inl rfl) s)) rfl)
  by_cases z : a.sum = b.sum
  · rw [decide_eq_true z] at t
    have src : overA rng1 (aCons (fC (.int 10)) aNil) [.fz (.lst (a.map .int)), .fz (.lst (b.map .int)), .un] s = .ok ((List.range' 0 10).map fun i : Nat => D.int (i : Int)) s := e_over (e_a1 e_c) rfl
    rcases labove_loop (a := a) (b := b) (s := s) 10 0 .un with ⟨w, e1, h1⟩ | ⟨e1, t1, h1⟩
    · refine ⟨true, e_def rfl (e_seq ((e_ifF t).trans rfl) (e_seq ((for_eq src).trans e1) (e_ret e_c))), fun _ => ⟨z, fun t => ?_⟩, fun _ => rfl⟩
      by_cases ht : t < 10
      · exact h1 t (by omega) (by omega)
      · rw [List.take_of_length_le (by omega), List.take_of_length_le (by omega), z]
        exact Int.le_refl _
    · refine ⟨false, e_def rfl (e_seq ((e_ifF t).trans rfl) (e_rt ((for_eq src).trans e1))), fun e => by simp at e, fun e => ?_⟩
      have := e.2 t1
      omega
  · rw [decide_eq_false z] at t
    exact ⟨false, e_def rfl (e_rt ((e_ifT t).trans (e_ret e_c))), fun e => by simp at e, fun e => absurd e.1 z⟩
theorem try_ok {C : Addr} {os : List Addr} {i : Nat} {fb : SD} {fsu : List (Str × D) → SD} {δ δ' : Dt} {s s' : HS} (h : fb δ s = .nx δ' s') : tryF C os i fb fsu δ s = .nx δ' s' := by unfold tryF; rw [h]
theorem try_er {C : Addr} {os : List Addr} {i : Nat} {fb : SD} {fsu : List (Str × D) → SD} {δ δ' δ2 : Dt} {s s' s2 : HS} {fl : List (Str × D)} (h : fb δ s = .err C fl δ' s') (hu : isUn δ' i = true) (h2 : fsu fl δ' s' = .nx δ2 s2) (hu2 : isUn δ2 i = true) : tryF C os i fb fsu δ s = .nx δ2 s2 := by
  unfold tryF
  rw [h]
  simp only [if_true, hu, h2, hu2]
theorem padded_ok (C : Addr) {d : D} {ns : List Int} (h : Sq d ns) (hl : ns.length ≤ 1000) {L : Int} (h1 : L ≤ 1000) (s : HS) : sem_law_padded C [d, .int L] s = .ok (if L < ns.length then .lst [.str ("many" : Str)] else .tup ((ns ++ List.replicate (L - ns.length).toNat 0).map .int)) s := by
  have q := shape_ok C h hl h1 s
  by_cases z : L < ns.length
  · rw [if_pos z] at q ⊢
    exact e_def rfl (e_seq (try_er (e_setE (e_call (e_a2 e_var e_var) q)) rfl (e_set (e_A (e_a1 rfl) rfl)) rfl) (e_ret e_var))
  · rw [if_neg z] at q ⊢
    exact e_def rfl (e_seq (try_ok (e_set (e_call (e_a2 e_var e_var) q))) (e_ret e_var))
theorem told_ok (C : Addr) {d : D} {ns : List Int} (h : Sq d ns) (hl : ns.length ≤ 1000) {L : Int} (h1 : L ≤ 1000) (s : HS) : sem_law_told_turned C [d, .int L] s = .ok (if L < max (fst0 ns) 1 then .lst [.str ("many" : Str)] else .tup ((conj ns L.toNat).map .int)) s := by
  have q := turned_ok C h hl h1 s
  by_cases z : L < max (fst0 ns) 1
  · rw [if_pos z] at q ⊢
    exact e_def rfl (e_seq (try_er (e_setE (e_call (e_a2 e_var e_var) q)) rfl (e_set (e_A (e_a1 rfl) rfl)) rfl) (e_ret e_var))
  · rw [if_neg z] at q ⊢
    exact e_def rfl (e_seq (try_ok (e_set (e_call (e_a2 e_var e_var) q))) (e_ret e_var))
end K05

-- part Uk05
set_option maxHeartbeats 2000000
namespace K05
open PySem PySem.Spec PyProof.Rows L2 DL

theorem rng1_ok {L : Int} (h0 : 0 ≤ L) (h1 : L ≤ 1000000) : rng1 [.int L] = some (rngD 0 L.toNat) := by
  show (if _ then some (rngD 0 L.toNat) else none) = _
  rw [if_pos (by omega)]
theorem nat63 {n : Int} (h0 : 0 ≤ n) (h : n ≤ 1000000) : n.natAbs < 2 ^ 63 := by omega
theorem okm : okR (.lst [.str ("many" : Str)]) = true := by decide +kernel
theorem wts_bd {ns : List Int} (p : Pt ns) : ∀ q ∈ wts ns, 0 ≤ q ∧ q ≤ 800 := fun q hq => by
  obtain ⟨k, hk, rfl⟩ := List.mem_map.mp hq
  have hk := List.mem_range.mp hk
  have hl := p.le
  have e : ns.getD k 0 = ns[k] := by rw [List.getD_eq_getElem?_getD, List.getElem?_eq_getElem hk]; rfl
  have := p.bd _ (List.getElem_mem hk)
  rw [e]
  have h1 : (0 : Int) ≤ k * ns[k] := Int.mul_nonneg (by omega) this.1
  have h2 : (k : Int) * ns[k] ≤ 8 * 100 := Int.mul_le_mul (by omega) this.2 this.1 (by omega)
  omega
theorem fst_bd {ns : List Int} (p : Pt ns) : 0 ≤ fst0 ns ∧ fst0 ns ≤ 100 ∧ ∀ q ∈ ns, q ≤ fst0 ns := by
  have so := p.so
  have bd := p.bd
  cases ns with
  | nil => exact ⟨by decide, by decide, fun q h => by cases h⟩
  | cons x r =>
    have := bd x List.mem_cons_self
    refine ⟨this.1, this.2, fun q hq => ?_⟩
    rw [List.pairwise_cons] at so
    rcases List.mem_cons.mp hq with rfl | hq
    · exact Int.le_refl _
    · exact so.1 q hq
theorem conj_fst {ns : List Int} (p : Pt ns) : fst0 (conj ns (max (fst0 ns) 1).toNat) = ((ns.filter fun p => decide (0 < p)).length : Int) := by
  have h := fst_bd p
  obtain ⟨m, hm⟩ : ∃ m, (max (fst0 ns) 1).toNat = m + 1 := ⟨(max (fst0 ns) 1).toNat - 1, by omega⟩
  rw [hm]
  unfold conj
  rw [List.range_succ_eq_map, List.map_cons]
  rfl
theorem filt_eq {ns : List Int} (p : Pt ns) : (ns.filter fun q => !decide (q = 0)) = ns.filter fun q => decide (0 < q) := List.filter_congr fun q hq => by
  have := p.bd q hq
  by_cases z : q = 0
  · subst z; rfl
  · rw [decide_eq_false z, decide_eq_true (show 0 < q by omega)]; rfl
theorem one_ok (C : Addr) {ns : List Int} (p : Pt ns) (s : HS) (ok : Hok s) : ∃ s', sem_law_one C [.hnd, .lst (ns.map .int)] s = .ok (.bl true) s' ∧ Hok s' := by
  have hl8 := p.le
  have hl : ns.length ≤ 1000 := by omega
  have hb := fst_bd p
  have hP : Sq (.lst (ns.map .int)) ns := .inl rfl
  have rows : ∀ (δ : Dt), δ[0]? = some (.fz .hnd) → δ[1]? = some (.fz (.lst (ns.map .int))) → ∀ s, Hok s → ∃ d' s', F2c sem_law_row [] (aCons (fVar 0) (aCons (fVar 1) aNil)) δ s = .ok d' s' ∧ Sq d' ns ∧ Hok s' := fun δ h0 h1 s ok => by
    obtain ⟨d', s', e, h, ok'⟩ := row_ok _ ns hP s ok
    exact ⟨d', s', e_call (e_a2 (e_var h0) (e_var h1)) e, h, ok'⟩
  -- the kind
  let kd := ns.filter fun q => decide (0 < q)
  have kdb : ∀ q ∈ kd, q.natAbs < 2 ^ 63 := fun q hq => by have := p.bd q (List.mem_filter.mp hq).1; omega
  have kdl : kd.length ≤ 8 := Nat.le_trans (List.length_filter_le _ _) hl8
  have w2 : setF 2 (FA tupleD (aCons lc_law_one_1 aNil)) [.fz .hnd, .fz (.lst (ns.map .int)), .un, .un, .un, .un, .un, .un, .un, .un] s = .nx [.fz .hnd, .fz (.lst (ns.map .int)), .fz (.tup (kd.map .int)), .un, .un, .un, .un, .un, .un, .un] s := by
    have := lc_ints (src := fun δ s => ((fVar 1) δ s).bind fun d s1 => Re.of (itemsD d) s1) (gt := gnF 8) (ft := tBl (F2 (icmpD fun i j => decide (j < i)) (fVar 8) (fC (.int 0)))) (fe := fVar 8) (vs := [8]) (δ := [.fz .hnd, .fz (.lst (ns.map .int)), .un, .un, .un, .un, .un, .un, .un, .un]) (s := s) (fun q => decide (0 < q)) id (e_items e_var hP.items) rfl (by omega) fun m _ => ⟨_, rfl, e_bl (e_2 e_var e_c rfl), fun _ => e_var⟩
    rw [List.map_id] at this
    exact e_set (e_A (e_a1 this) rfl)
  -- the sum
  obtain ⟨d1, s1, r1, q1, ok1⟩ := rows [.fz .hnd, .fz (.lst (ns.map .int)), .fz (.tup (kd.map .int)), .un, .un, .un, .un, .un, .un, .un] rfl rfl s ok
  have hs := sum_bd p.bd
  have c1 := e_same (e_call (sem := sem_sum_of_shape) (dds := []) (e_a1 r1) (sum_ok q1 s1)) (e_A (e_a1 (f := fVar 1) (e_var rfl)) (hP.sum s1)) (okR_int (nat63 hs.1 (by omega)))
  -- the weight
  obtain ⟨d2, s2, r2, q2, ok2⟩ := rows [.fz .hnd, .fz (.lst (ns.map .int)), .fz (.tup (kd.map .int)), .un, .un, .un, .un, .un, .un, .un] rfl rfl s1 ok1
  have wl : lc_law_one_2 [.fz .hnd, .fz (.lst (ns.map .int)), .fz (.tup (kd.map .int)), .un, .un, .un, .un, .un, .un, .un] s2 = .ok (.lst ((wts ns).map .int)) s2 := by
    have := lc_ints (src := overA rng1 (aCons (FA lenD (aCons (fVar 1) aNil)) aNil)) (gt := gnF 9) (ft := fun _ s => .ok true s) (fe := F2 mulD (fVar 9) (F2 ixD (fVar 1) (fVar 9))) (vs := [9]) (δ := [.fz .hnd, .fz (.lst (ns.map .int)), .fz (.tup (kd.map .int)), .un, .un, .un, .un, .un, .un, .un]) (s := s2) (s1 := s2) (ns := (List.range ns.length).map fun i : Nat => 0 + (i : Int)) (fun _ => true) (fun n => n * ns.getD n.toNat 0)
      (e_over (e_a1 (e_A (e_a1 e_var) (hP.len s2))) (by
        rw [rng1_ok (by omega) (by omega)]
        unfold rngD
        rw [List.map_map, Int.toNat_natCast]
        rfl)) rfl (by simp; omega) fun n hn => by
          obtain ⟨i, hi, rfl⟩ := List.mem_map.mp hn
          have hi := List.mem_range.mp hi
          rw [Int.zero_add]
          refine ⟨_, rfl, rfl, fun _ => e_2 e_var (e_2 e_var e_var (hP.ix s2 hi)) ?_⟩
          rw [q_mull (by omega), Int.toNat_natCast, List.getD_eq_getElem?_getD, List.getElem?_eq_getElem hi]
          rfl
    have e : (((List.range ns.length).map fun i : Nat => 0 + (i : Int)).map fun n => n * ns.getD n.toNat 0) = wts ns := by
      rw [List.map_map]
      refine conj_map _ _ _ fun j _ => ?_
      show (0 + (j : Int)) * ns.getD (0 + (j : Int)).toNat 0 = _
      rw [Int.zero_add, Int.toNat_natCast]
    rw [List.filter_eq_self.mpr (fun _ _ => rfl), e] at this
    exact this
  have hw := sum_bd (wts_bd p)
  have hwl : (wts ns).length ≤ 8 := by simp [wts]; omega
  have c2 := e_same (e_call (sem := sem_weight_of) (dds := []) (e_a1 r2) (weight_ok q2 hl s2)) (e_A (e_a1 wl) (Sq.sum (ns := wts ns) (.inl rfl) s2)) (okR_int (nat63 hw.1 (by omega)))
  -- the kind told
  obtain ⟨d3, s3, r3, q3, ok3⟩ := rows [.fz .hnd, .fz (.lst (ns.map .int)), .fz (.tup (kd.map .int)), .un, .un, .un, .un, .un, .un, .un] rfl rfl s2 ok2
  have k3 := kind_ok q3 hl s3
  rw [filt_eq p] at k3
  have c3 := e_same (f2 := fVar 2) (e_call (sem := sem_kind_of_shape) (dds := []) (e_a1 r3) k3) (e_var rfl) (okR_tup kdb (Nat.le_trans kdl (by decide)))
  -- a length
  obtain ⟨L, s4, e4, L0, L1, ok4⟩ := take_ok 12 (by decide) (by decide) s3 ok3
  have w3 : setF 3 (F2c sem_law_take [] (aCons (fVar 0) (aCons (fC (.int 12)) aNil))) [.fz .hnd, .fz (.lst (ns.map .int)), .fz (.tup (kd.map .int)), .un, .un, .un, .un, .un, .un, .un] s3 = .nx [.fz .hnd, .fz (.lst (ns.map .int)), .fz (.tup (kd.map .int)), .fz (.int L), .un, .un, .un, .un, .un, .un] s4 := e_set (e_call (e_a2 e_var e_c) e4)
  let due : D := if L < ns.length then .lst [.str ("many" : Str)] else .tup ((ns ++ List.replicate (L - ns.length).toNat 0).map .int)
  have okdue : okR due = true := by
    show okR (if L < ns.length then _ else _) = true
    by_cases z : L < ns.length
    · rw [if_pos z]; exact okm
    · rw [if_neg z]
      refine okR_tup (fun q hq => ?_) (by simp; omega)
      rcases List.mem_append.mp hq with hq | hq
      · have := p.bd q hq; omega
      · rw [(List.mem_replicate.mp hq).2]; decide
  have w4 : setF 4 (fIf (tBl (F2 (icmpD fun i j => decide (j < i)) (FA lenD (aCons (fVar 1) aNil)) (fVar 3))) (FA mkL (aCons (fC (.str ("many" : Str))) aNil)) (F2 addD (FA tupleD (aCons (fVar 1) aNil)) (F2 mulD (FA mkT (aCons (fC (.int 0)) aNil)) (F2 subD (fVar 3) (FA lenD (aCons (fVar 1) aNil))))))
      [.fz .hnd, .fz (.lst (ns.map .int)), .fz (.tup (kd.map .int)), .fz (.int L), .un, .un, .un, .un, .un, .un] s4 = .nx [.fz .hnd, .fz (.lst (ns.map .int)), .fz (.tup (kd.map .int)), .fz (.int L), .fz due, .un, .un, .un, .un, .un] s4 := by
    have t : (tBl (F2 (icmpD fun i j => decide (j < i)) (FA lenD (aCons (fVar 1) aNil)) (fVar 3))) [.fz .hnd, .fz (.lst (ns.map .int)), .fz (.tup (kd.map .int)), .fz (.int L), .un, .un, .un, .un, .un, .un] s4 = .ok (decide (L < ns.length)) s4 := e_bl (e_2 (e_A (e_a1 e_var) (hP.len s4)) e_var rfl)
    show _ = Fl.nx [.fz .hnd, .fz (.lst (ns.map .int)), .fz (.tup (kd.map .int)), .fz (.int L), .fz (if L < ns.length then .lst [.str ("many" : Str)] else .tup ((ns ++ List.replicate (L - ns.length).toNat 0).map .int)), .un, .un, .un, .un, .un] s4
    by_cases z : L < ns.length
    · rw [decide_eq_true z] at t
      rw [if_pos z]
      exact e_set (e_fifT t (e_A (e_a1 e_c) rfl))
    · rw [decide_eq_false z] at t
      rw [if_neg z]
      exact e_set (e_fifF t (pad_eq hl (by omega) (by omega) hP e_var e_var e_var))
  obtain ⟨d5, s5, r5, q5, ok5⟩ := rows [.fz .hnd, .fz (.lst (ns.map .int)), .fz (.tup (kd.map .int)), .fz (.int L), .fz due, .un, .un, .un, .un, .un] rfl rfl s4 ok4
  have c5 := e_same (f2 := fVar 4) (e_call (sem := sem_law_padded C) (dds := []) (e_a2 r5 (f2 := fVar 3) (e_var rfl)) (padded_ok C q5 hl (by omega) s5)) (e_var rfl) okdue
  -- the first part
  have w5 : setF 5 (fIf (tTru (fVar 1)) (F2 ixD (fVar 1) (fC (.int 0))) (fC (.int 0))) [.fz .hnd, .fz (.lst (ns.map .int)), .fz (.tup (kd.map .int)), .fz (.int L), .fz due, .un, .un, .un, .un, .un] s5 = .nx [.fz .hnd, .fz (.lst (ns.map .int)), .fz (.tup (kd.map .int)), .fz (.int L), .fz due, .fz (.int (fst0 ns)), .un, .un, .un, .un] s5 := by
    refine e_set ?_
    cases ns with
    | nil => exact e_fifF (e_tru e_var rfl) e_c
    | cons x r => exact e_fifT (e_tru e_var rfl) (e_2 e_var e_c (hP.ix s5 (i := 0) (by simp)))
  -- turned about
  obtain ⟨d6, s6, r6, q6, ok6⟩ := rows [.fz .hnd, .fz (.lst (ns.map .int)), .fz (.tup (kd.map .int)), .fz (.int L), .fz due, .fz (.int (fst0 ns)), .un, .un, .un, .un] rfl rfl s5 ok5
  let M := (max (fst0 ns) 1).toNat
  have hM : ∀ q ∈ ns, q ≤ (M : Int) := fun q hq => by have := hb.2.2 q hq; show q ≤ ((max (fst0 ns) 1).toNat : Int); omega
  have cb : ∀ K : Nat, ∀ q ∈ conj ns K, q.natAbs < 2 ^ 63 := fun K q hq => by have := conj_bd q hq; omega
  let T : D := .tup ((conj ns M).map .int)
  have qT : Sq T (conj ns M) := .inr rfl
  have w6 : setF 6 (F2c (sem_turned_about C) [.non] (aCons (F2c sem_law_row [] (aCons (fVar 0) (aCons (fVar 1) aNil))) aNil)) [.fz .hnd, .fz (.lst (ns.map .int)), .fz (.tup (kd.map .int)), .fz (.int L), .fz due, .fz (.int (fst0 ns)), .un, .un, .un, .un] s5 = .nx [.fz .hnd, .fz (.lst (ns.map .int)), .fz (.tup (kd.map .int)), .fz (.int L), .fz due, .fz (.int (fst0 ns)), .fz T, .un, .un, .un] s6 := e_set (e_call (e_a1 r6) (turned0_ok C q6 hl (by omega) s6))
  have c6 := e_same (f := fVar 6) (f2 := F2c sem_law_turned [] (aCons (fVar 1) (aCons (FA max2D (aCons (fVar 5) (aCons (fC (.int 1)) aNil))) aNil))) (δ := [.fz .hnd, .fz (.lst (ns.map .int)), .fz (.tup (kd.map .int)), .fz (.int L), .fz due, .fz (.int (fst0 ns)), .fz T, .un, .un, .un]) (s := s6) (d := T) e_var (e_call (e_a2 e_var (e_A (e_a2 e_var e_c) q_max)) (lturned_ok hP hl (by omega) (by omega) s6)) (okR_tup (cb M) (by rw [conj_len]; omega))
  -- .. and back
  let B : D := .tup ((conj (conj ns M) (max (fst0 (conj ns M)) 1).toNat).map .int)
  have hcf : fst0 (conj ns M) = (kd.length : Int) := conj_fst p
  have w7 : setF 7 (F2c (sem_turned_about C) [.non] (aCons (fVar 6) aNil)) [.fz .hnd, .fz (.lst (ns.map .int)), .fz (.tup (kd.map .int)), .fz (.int L), .fz due, .fz (.int (fst0 ns)), .fz T, .un, .un, .un] s6 = .nx [.fz .hnd, .fz (.lst (ns.map .int)), .fz (.tup (kd.map .int)), .fz (.int L), .fz due, .fz (.int (fst0 ns)), .fz T, .fz B, .un, .un] s6 := e_set (e_call (e_a1 e_var) (turned0_ok C qT (by rw [conj_len]; omega) (by rw [hcf]; omega) s6))
  have c7 : tAndF (tTru (fVar 2)) (tBl (F2 neD (FA reprD (aCons (fVar 7) aNil)) (FA reprD (aCons (fVar 2) aNil)))) [.fz .hnd, .fz (.lst (ns.map .int)), .fz (.tup (kd.map .int)), .fz (.int L), .fz due, .fz (.int (fst0 ns)), .fz T, .fz B, .un, .un] s6 = .ok false s6 := by
    by_cases z : kd = []
    · refine e_andF (e_tru e_var ?_)
      rw [z]; rfl
    · have hpos : 0 < kd.length := List.length_pos_iff.mpr z
      have eB : B = .tup (kd.map .int) := by
        show D.tup ((conj (conj ns M) (max (fst0 (conj ns M)) 1).toNat).map .int) = _
        rw [hcf, show (max (kd.length : Int) 1).toNat = kd.length by omega, conj_conj p.so (fun q hq => (p.bd q hq).1) hM]
      rw [eB]
      refine e_andT (e_tru (z := true) e_var ?_) (e_same e_var e_var (okR_tup kdb (Nat.le_trans kdl (by decide))))
      show some (!(kd.map D.int).isEmpty) = some true
      cases hk : kd with
      | nil => exact absurd hk z
      | cons a r => rfl
  -- another length
  obtain ⟨v, s7, e7, v0, v1, ok7⟩ := take_ok 6 (by decide) (by decide) s6 ok6
  let L2 : Int := max 0 (fst0 ns - 2 + v)
  have w8 : setF 3 (FA max2D (aCons (fC (.int 0)) (aCons (F2 addD (F2 subD (fVar 5) (fC (.int 2))) (F2c sem_law_take [] (aCons (fVar 0) (aCons (fC (.int 6)) aNil)))) aNil))) [.fz .hnd, .fz (.lst (ns.map .int)), .fz (.tup (kd.map .int)), .fz (.int L), .fz due, .fz (.int (fst0 ns)), .fz T, .fz B, .un, .un] s6 = .nx [.fz .hnd, .fz (.lst (ns.map .int)), .fz (.tup (kd.map .int)), .fz (.int L2), .fz due, .fz (.int (fst0 ns)), .fz T, .fz B, .un, .un] s7 := e_set (e_A (e_a2 e_c (e_2 (e_2 e_var e_c rfl) (e_call (e_a2 e_var e_c) e7) rfl)) q_max)
  let due2 : D := if L2 < max (fst0 ns) 1 then .lst [.str ("many" : Str)] else .tup ((conj ns L2.toNat).map .int)
  have w9 : setF 4 (fIf (tBl (F2 (icmpD fun i j => decide (i < j)) (fVar 3) (FA max2D (aCons (fVar 5) (aCons (fC (.int 1)) aNil))))) (FA mkL (aCons (fC (.str ("many" : Str))) aNil)) (F2c sem_law_turned [] (aCons (fVar 1) (aCons (fVar 3) aNil)))) [.fz .hnd, .fz (.lst (ns.map .int)), .fz (.tup (kd.map .int)), .fz (.int L2), .fz due, .fz (.int (fst0 ns)), .fz T, .fz B, .un, .un] s7 = .nx [.fz .hnd, .fz (.lst (ns.map .int)), .fz (.tup (kd.map .int)), .fz (.int L2), .fz due2, .fz (.int (fst0 ns)), .fz T, .fz B, .un, .un] s7 := by
    have t : (tBl (F2 (icmpD fun i j => decide (i < j)) (fVar 3) (FA max2D (aCons (fVar 5) (aCons (fC (.int 1)) aNil))))) [.fz .hnd, .fz (.lst (ns.map .int)), .fz (.tup (kd.map .int)), .fz (.int L2), .fz due, .fz (.int (fst0 ns)), .fz T, .fz B, .un, .un] s7 = .ok (decide (L2 < max (fst0 ns) 1)) s7 := e_bl (e_2 e_var (e_A (e_a2 e_var e_c) q_max) rfl)
    show _ = Fl.nx [.fz .hnd, .fz (.lst (ns.map .int)), .fz (.tup (kd.map .int)), .fz (.int L2), .fz (if L2 < max (fst0 ns) 1 then .lst [.str ("many" : Str)] else .tup ((conj ns L2.toNat).map .int)), .fz (.int (fst0 ns)), .fz T, .fz B, .un, .un] s7
    by_cases z : L2 < max (fst0 ns) 1
    · rw [decide_eq_true z] at t
      rw [if_pos z]
      exact e_set (e_fifT t (e_A (e_a1 e_c) rfl))
    · rw [decide_eq_false z] at t
      rw [if_neg z]
      exact e_set (e_fifF t (e_call (e_a2 e_var e_var) (lturned_ok hP hl (by show (0 : Int) ≤ max 0 _; omega) (by show max 0 (fst0 ns - 2 + v) ≤ 1000; omega) s7)))
  have okdue2 : okR due2 = true := by
    show okR (if L2 < max (fst0 ns) 1 then _ else _) = true
    by_cases z : L2 < max (fst0 ns) 1
    · rw [if_pos z]; exact okm
    · rw [if_neg z]
      exact okR_tup (cb _) (by rw [conj_len]; show (max 0 (fst0 ns - 2 + v)).toNat ≤ 100000; omega)
  obtain ⟨d8, s8, r8, q8, ok8⟩ := rows [.fz .hnd, .fz (.lst (ns.map .int)), .fz (.tup (kd.map .int)), .fz (.int L2), .fz due2, .fz (.int (fst0 ns)), .fz T, .fz B, .un, .un] rfl rfl s7 ok7
  have c8 := e_sameE (f2 := fVar 4) (e_call (sem := sem_law_told_turned C) (dds := []) (e_a2 r8 (f2 := fVar 3) (e_var rfl)) (told_ok C q8 hl (by show max 0 (fst0 ns - 2 + v) ≤ 1000; omega) s8)) (e_var rfl) okdue2
  exact ⟨s8, e_def rfl (e_seq w2 (e_seq ((e_ifF c1).trans rfl) (e_seq ((e_ifF c2).trans rfl) (e_seq ((e_ifF c3).trans rfl) (e_seq w3 (e_seq w4 (e_seq ((e_ifF c5).trans rfl) (e_seq w5 (e_seq w6 (e_seq ((e_ifF c6).trans rfl) (e_seq w7 (e_seq ((e_ifF c7).trans rfl) (e_seq w8 (e_seq w9 (e_ret c8))))))))))))))), ok8⟩
end K05

-- part Vk05
set_option maxHeartbeats 2000000
namespace K05
open PySem PySem.Spec PyProof.Rows L2 DL

theorem bl_eq {a b : Bool} {p : Prop} (ha : a = true ↔ p) (hb : b = true ↔ p) : a = b := by
  cases a <;> cases b <;> simp at ha hb ⊢
  · exact ha hb
  · exact hb ha
/-- one pair -/
theorem pair_ok (C : Addr) {a b : List Int} (pa : Pt a) (pb : Pt b) {y0 y2 y3 y4 y7 : Sl} (s : HS) (ok : Hok s) : ∃ z s', lb_law_1 C [y0, .fz .hnd, y2, y3, y4, .fz (.lst (a.map .int)), .fz (.lst (b.map .int)), y7] s = .nx [y0, .fz .hnd, y2, y3, y4, .fz (.lst (a.map .int)), .fz (.lst (b.map .int)), .fz (.bl z)] s' ∧ Hok s' := by
  have la := pa.le
  have lb := pb.le
  have ba := fst_bd pa
  have bb := fst_bd pb
  have Pa : Sq (.lst (a.map .int)) a := .inl rfl
  have Pb : Sq (.lst (b.map .int)) b := .inl rfl
  obtain ⟨z, e, hz⟩ := labove_ok la lb s
  have w7 : setF 7 (F2c sem_law_above [] (aCons (fVar 5) (aCons (fVar 6) aNil))) [y0, .fz .hnd, y2, y3, y4, .fz (.lst (a.map .int)), .fz (.lst (b.map .int)), y7] s = .nx [y0, .fz .hnd, y2, y3, y4, .fz (.lst (a.map .int)), .fz (.lst (b.map .int)), .fz (.bl z)] s := e_set (e_call (e_a2 e_var e_var) e)
  obtain ⟨d1, s1, r1, q1, ok1⟩ := row_ok _ a Pa s ok
  obtain ⟨d2, s2, r2, q2, ok2⟩ := row_ok _ b Pb s1 ok1
  obtain ⟨z1, e1, hz1⟩ := above_ok C q1 q2 (by omega) (by omega) s2
  rw [bl_eq hz1 hz] at e1
  have c1 := e_same (δ := [y0, .fz .hnd, y2, y3, y4, .fz (.lst (a.map .int)), .fz (.lst (b.map .int)), .fz (.bl z)]) (f2 := fVar 7) (e_call (sem := sem_is_above C) (dds := []) (e_a2 (e_call (sem := sem_law_row) (dds := []) (e_a2 (f := fVar 1) (f2 := fVar 5) (e_var rfl) (e_var rfl)) r1) (e_call (sem := sem_law_row) (dds := []) (e_a2 (f := fVar 1) (f2 := fVar 6) (e_var rfl) (e_var rfl)) r2)) e1) (e_var rfl) (okR_bl z)
  have t1 := turned0_ok C Pb (by omega) (by omega) s2
  have t2 := turned0_ok C Pa (by omega) (by omega) s2
  obtain ⟨z2, e2, hz2⟩ := above_ok C (d1 := .tup ((conj b (max (fst0 b) 1).toNat).map .int)) (d2 := .tup ((conj a (max (fst0 a) 1).toNat).map .int)) (.inr rfl) (.inr rfl) (by rw [conj_len]; omega) (by rw [conj_len]; omega) s2
  rw [dom_conj pa.so pb.so (fun q hq => (pa.bd q hq).1) (fun q hq => (pb.bd q hq).1) (fun q hq => by have := ba.2.2 q hq; omega) (fun q hq => by have := bb.2.2 q hq; omega)] at hz2
  rw [bl_eq hz2 hz] at e2
  have c2 := e_same (δ := [y0, .fz .hnd, y2, y3, y4, .fz (.lst (a.map .int)), .fz (.lst (b.map .int)), .fz (.bl z)]) (f2 := fVar 7) (e_call (sem := sem_is_above C) (dds := []) (e_a2 (e_call (sem := sem_turned_about C) (dds := [.non]) (e_a1 (f := fVar 6) (e_var rfl)) t1) (e_call (sem := sem_turned_about C) (dds := [.non]) (e_a1 (f := fVar 5) (e_var rfl)) t2)) e2) (e_var rfl) (okR_bl z)
  exact ⟨z, s2, e_seq w7 (e_seq ((e_ifF c1).trans rfl) ((e_ifF c2).trans rfl)), ok2⟩
theorem step_ok (C : Addr) (y0 y2 y3 y4 y5 y6 y7 : Sl) (s : HS) (ok : Hok s) : ∃ z3 z4 z5 z6 z7 s', lb_law_2 C [y0, .fz .hnd, y2, y3, y4, y5, y6, y7] s = .nx [y0, .fz .hnd, y2, z3, z4, z5, z6, z7] s' ∧ Hok s' := by
  obtain ⟨a, s1, e1, pa, ha, ok1⟩ := drawn_ok s ok
  have w3 : setF 3 (F2c sem_law_row_drawn [] (aCons (fVar 1) aNil)) [y0, .fz .hnd, y2, y3, y4, y5, y6, y7] s = .nx [y0, .fz .hnd, y2, .fz (.lst (a.map .int)), y4, y5, y6, y7] s1 := e_set (e_call (e_a1 e_var) e1)
  obtain ⟨t, s2, e2, t0, t1, ok2⟩ := take_ok 4 (by decide) (by decide) s1 ok1
  have w4 : ∃ b s3, setF 4 (fIf (tTru (F2c sem_law_take [] (aCons (fVar 1) (aCons (fC (.int 4)) aNil)))) (F2c sem_law_moved [] (aCons (fVar 1) (aCons (fVar 3) aNil))) (F2c sem_law_row_drawn [] (aCons (fVar 1) aNil))) [y0, .fz .hnd, y2, .fz (.lst (a.map .int)), y4, y5, y6, y7] s1 = .nx [y0, .fz .hnd, y2, .fz (.lst (a.map .int)), .fz (.lst (b.map .int)), y5, y6, y7] s3 ∧ Pt b ∧ Hok s3 := by
    by_cases z : t = 0
    · obtain ⟨b, s3, e3, pb, _, ok3⟩ := drawn_ok s2 ok2
      exact ⟨b, s3, e_set (e_fifF (e_tru (e_call (e_a2 e_var e_c) e2) (by rw [z]; rfl)) (e_call (e_a1 e_var) e3)), pb, ok3⟩
    · obtain ⟨b, s3, e3, pb, ok3⟩ := moved_ok (.lst (a.map .int)) a (.inl rfl) (fun n hn => ⟨(pa.bd n hn).1, ha n hn⟩) pa.le s2 ok2
      exact ⟨b, s3, e_set (e_fifT (e_tru (e_call (e_a2 e_var e_c) e2) (by simp [truD, z])) (e_call (e_a2 e_var e_var) e3)), pb, ok3⟩
  obtain ⟨b, s3, w4, pb, ok3⟩ := w4
  obtain ⟨s4, e4, ok4⟩ := one_ok C pa s3 ok3
  obtain ⟨s5, e5, ok5⟩ := one_ok C pb s4 ok4
  have c : tOrF (tNotF (tTru (F2c (sem_law_one C) [] (aCons (fVar 1) (aCons (fVar 3) aNil))))) (tNotF (tTru (F2c (sem_law_one C) [] (aCons (fVar 1) (aCons (fVar 4) aNil))))) [y0, .fz .hnd, y2, .fz (.lst (a.map .int)), .fz (.lst (b.map .int)), y5, y6, y7] s3 = .ok false s5 := e_orF (e_not (e_tru (e_call (e_a2 e_var e_var) e4) rfl)) (e_not (e_tru (e_call (e_a2 e_var e_var) e5) rfl))
  have src : (fun δ s => ((FA mkT (aCons (FA mkT (aCons (fVar 3) (aCons (fVar 4) aNil))) (aCons (FA mkT (aCons (fVar 4) (aCons (fVar 3) aNil))) (aCons (FA mkT (aCons (fVar 3) (aCons (fVar 3) aNil))) aNil)))) δ s).bind fun d s1 => Re.of (itemsD d) s1) [y0, .fz .hnd, y2, .fz (.lst (a.map .int)), .fz (.lst (b.map .int)), y5, y6, y7] s5 = .ok [.tup [.lst (a.map .int), .lst (b.map .int)], .tup [.lst (b.map .int), .lst (a.map .int)], .tup [.lst (a.map .int), .lst (a.map .int)]] s5 :=
    e_items (e_A (e_cons (e_A (e_a2 e_var e_var) rfl) (e_a2 (e_A (e_a2 e_var e_var) rfl) (e_A (e_a2 e_var e_var) rfl))) rfl) rfl
  obtain ⟨z1, s6, e6, ok6⟩ := pair_ok C pa pb (y0 := y0) (y2 := y2) (y3 := .fz (.lst (a.map .int))) (y4 := .fz (.lst (b.map .int))) (y7 := y7) s5 ok5
  obtain ⟨z2, s7, e7, ok7⟩ := pair_ok C pb pa (y0 := y0) (y2 := y2) (y3 := .fz (.lst (a.map .int))) (y4 := .fz (.lst (b.map .int))) (y7 := .fz (.bl z1)) s6 ok6
  obtain ⟨z3, s8, e8, ok8⟩ := pair_ok C pa pa (y0 := y0) (y2 := y2) (y3 := .fz (.lst (a.map .int))) (y4 := .fz (.lst (b.map .int))) (y7 := .fz (.bl z2)) s7 ok7
  refine ⟨_, _, _, _, _, s8, e_seq w3 (e_seq w4 (e_seq ((e_ifF c).trans rfl) ((for_eq src).trans ((loop_nx rfl e6).trans ((loop_nx rfl e7).trans ((loop_nx rfl e8).trans rfl)))))), ok8⟩
theorem math : ∀ (C_BadShape : Addr) (ns : List Int) (tot : Int), ns.length ≤ 63 → ∃ s', b_law C_BadShape (.un :: .fz .hnd :: List.replicate 6 .un) (hs0 ns tot) = .rt (.bl true) s' := fun C ns tot _ => by
  have ok0 : Hok (hs0 ns tot) := ⟨fun c hc => by
    obtain ⟨n, _, rfl⟩ := List.mem_map.mp hc
    omega, Int.le_refl _, Int.le_refl _⟩
  have src : overA rng1 (aCons (fC (.int 4)) aNil) (.un :: .fz .hnd :: List.replicate 6 .un) (hs0 ns tot) = .ok (rngD 0 4) (hs0 ns tot) := e_over (e_a1 e_c) (rng1_ok (by decide) (by decide))
  obtain ⟨δ', s', e, _⟩ := loop_inv (gt := gnF 2) (fb := lb_law_2 C) (fun _ δ s => ∃ y0 y2 y3 y4 y5 y6 y7, δ = [y0, .fz .hnd, y2, y3, y4, y5, y6, y7] ∧ Hok s) (rngD 0 4) 0 (.un :: .fz .hnd :: List.replicate 6 .un) (hs0 ns tot) ⟨_, _, _, _, _, _, _, rfl, ok0⟩ (by
    rintro k d δ s _ ⟨y0, y2, y3, y4, y5, y6, y7, rfl, ok⟩
    obtain ⟨z3, z4, z5, z6, z7, s', e, ok'⟩ := step_ok C y0 (.fz d) y3 y4 y5 y6 y7 s ok
    exact ⟨_, rfl, _, s', e, _, _, _, _, _, _, _, rfl, ok'⟩)
  exact ⟨s', e_seq ((for_eq src).trans e) (e_ret e_c)⟩
end K05

-- part Ek05
set_option maxHeartbeats 1000000
namespace K05
open PySem PySem.Spec PyProof.Rows L2 DL
abbrev i_BadShape : Stmt := inCls 0 (topS 2)
theorem sci_BadShape : FnScope ["self", "what"] ["self", "what"] (defScope i_BadShape) := ⟨rfl, rfl, rfl, by decide +kernel, rfl, by decide +kernel, by decide +kernel⟩
theorem all_mk {P : Program} {w : World} {K : PySem.W.Frag} {h : Heap} {mg : Str → Option Value} {fa f_sum_of_shape f_weight_of f_kind_of_shape f_shape_of_kind f_is_above f_turned_about f_law_hand f_law_mixed f_law_take f_law_row f_law_row_drawn f_law_moved f_law_turned f_law_above f_law_padded f_law_told_turned f_law_one f_law T_turned_about C_BadShape fI_BadShape N_BadShape : Addr} (X : K.In h) (G : h.Ns mainGlobals mg) (hfa : mg "law" = some (.ref fa))
    {od_sum_of_shape an_sum_of_shape od_weight_of an_weight_of od_kind_of_shape an_kind_of_shape od_shape_of_kind an_shape_of_kind od_is_above an_is_above od_turned_about an_turned_about od_law_hand an_law_hand od_law_mixed an_law_mixed od_law_take an_law_take od_law_row an_law_row od_law_row_drawn an_law_row_drawn od_law_moved an_law_moved od_law_turned an_law_turned od_law_above an_law_above od_law_padded an_law_padded od_law_told_turned an_law_told_turned od_law_one an_law_one od_law an_law iod_BadShape ian_BadShape dd_BadShape : Option Addr} {sl_sum_of_shape sl_weight_of sl_kind_of_shape sl_shape_of_kind sl_is_above sl_turned_about sl_law_hand sl_law_mixed sl_law_take sl_law_row sl_law_row_drawn sl_law_moved sl_law_turned sl_law_above sl_law_padded sl_law_told_turned sl_law_one sl_law isl_BadShape : Array (Option Value)} {oc_sum_of_shape kV_sum_of_shape dc_sum_of_shape pm_sum_of_shape cd_sum_of_shape ct_sum_of_shape oc_weight_of kV_weight_of dc_weight_of pm_weight_of cd_weight_of ct_weight_of oc_kind_of_shape kV_kind_of_shape dc_kind_of_shape pm_kind_of_shape cd_kind_of_shape ct_kind_of_shape oc_shape_of_kind kV_shape_of_kind dc_shape_of_kind pm_shape_of_kind cd_shape_of_kind ct_shape_of_kind oc_is_above kV_is_above dc_is_above pm_is_above cd_is_above ct_is_above oc_turned_about kV_turned_about dc_turned_about pm_turned_about cd_turned_about ct_turned_about oc_law_hand kV_law_hand dc_law_hand pm_law_hand cd_law_hand ct_law_hand oc_law_mixed kV_law_mixed dc_law_mixed pm_law_mixed cd_law_mixed ct_law_mixed oc_law_take kV_law_take dc_law_take pm_law_take cd_law_take ct_law_take oc_law_row kV_law_row dc_law_row pm_law_row cd_law_row ct_law_row oc_law_row_drawn kV_law_row_drawn dc_law_row_drawn pm_law_row_drawn cd_law_row_drawn ct_law_row_drawn oc_law_moved kV_law_moved dc_law_moved pm_law_moved cd_law_moved ct_law_moved oc_law_turned kV_law_turned dc_law_turned pm_law_turned cd_law_turned ct_law_turned oc_law_above kV_law_above dc_law_above pm_law_above cd_law_above ct_law_above oc_law_padded kV_law_padded dc_law_padded pm_law_padded cd_law_padded ct_law_padded oc_law_told_turned kV_law_told_turned dc_law_told_turned pm_law_told_turned cd_law_told_turned ct_law_told_turned oc_law_one kV_law_one dc_law_one pm_law_one cd_law_one ct_law_one oc_law kV_law dc_law pm_law cd_law ct_law ioc_BadShape ikV_BadShape idc_BadShape ipm_BadShape icd_BadShape ict_BadShape : Value} {ob_turned_about : Obj} {m_turned_about : Nat} {nm_BadShape q_BadShape : Str} {bs_BadShape bm_BadShape sub_BadShape : List Value} {sn_BadShape : List Str} {ab_BadShape : Bool} {col_BadShape : Option Bool} {m0_BadShape m1_BadShape m2_BadShape m3_BadShape m5_BadShape : Option Value}
    (z_abs : PySem.W.nsIn K mainGlobals "abs" = some none)
    (z_enumerate : PySem.W.nsIn K mainGlobals "enumerate" = some none)
    (z_int : PySem.W.nsIn K mainGlobals "int" = some none)
    (z_len : PySem.W.nsIn K mainGlobals "len" = some none)
    (z_list : PySem.W.nsIn K mainGlobals "list" = some none)
    (z_max : PySem.W.nsIn K mainGlobals "max" = some none)
    (z_range : PySem.W.nsIn K mainGlobals "range" = some none)
    (z_repr : PySem.W.nsIn K mainGlobals "repr" = some none)
    (z_sorted : PySem.W.nsIn K mainGlobals "sorted" = some none)
    (z_sum : PySem.W.nsIn K mainGlobals "sum" = some none)
    (z_tuple : PySem.W.nsIn K mainGlobals "tuple" = some none)
    (z_zip : PySem.W.nsIn K mainGlobals "zip" = some none)
    (a_sum_of_shape : PySem.W.nsIn K mainGlobals "sum_of_shape" = some (some (.ref f_sum_of_shape)))
    (l_sum_of_shape : K.lookup f_sum_of_shape = some ⟨oc_sum_of_shape, od_sum_of_shape, .func (PySem.W.fnOf "sum_of_shape" "sum_of_shape" (defArgs s_sum_of_shape) (defBody s_sum_of_shape) (defScope s_sum_of_shape) .none kV_sum_of_shape dc_sum_of_shape pm_sum_of_shape an_sum_of_shape cd_sum_of_shape ct_sum_of_shape), sl_sum_of_shape⟩)
    (d_sum_of_shape : PySem.W.codeIn K cd_sum_of_shape "sum_of_shape" = true)
    (k_sum_of_shape : PySem.W.keepIn K (.ref f_sum_of_shape) = true)
    (a_weight_of : PySem.W.nsIn K mainGlobals "weight_of" = some (some (.ref f_weight_of)))
    (l_weight_of : K.lookup f_weight_of = some ⟨oc_weight_of, od_weight_of, .func (PySem.W.fnOf "weight_of" "weight_of" (defArgs s_weight_of) (defBody s_weight_of) (defScope s_weight_of) .none kV_weight_of dc_weight_of pm_weight_of an_weight_of cd_weight_of ct_weight_of), sl_weight_of⟩)
    (d_weight_of : PySem.W.codeIn K cd_weight_of "weight_of" = true)
    (k_weight_of : PySem.W.keepIn K (.ref f_weight_of) = true)
    (a_kind_of_shape : PySem.W.nsIn K mainGlobals "kind_of_shape" = some (some (.ref f_kind_of_shape)))
    (l_kind_of_shape : K.lookup f_kind_of_shape = some ⟨oc_kind_of_shape, od_kind_of_shape, .func (PySem.W.fnOf "kind_of_shape" "kind_of_shape" (defArgs s_kind_of_shape) (defBody s_kind_of_shape) (defScope s_kind_of_shape) .none kV_kind_of_shape dc_kind_of_shape pm_kind_of_shape an_kind_of_shape cd_kind_of_shape ct_kind_of_shape), sl_kind_of_shape⟩)
    (d_kind_of_shape : PySem.W.codeIn K cd_kind_of_shape "kind_of_shape" = true)
    (k_kind_of_shape : PySem.W.keepIn K (.ref f_kind_of_shape) = true)
    (a_shape_of_kind : PySem.W.nsIn K mainGlobals "shape_of_kind" = some (some (.ref f_shape_of_kind)))
    (l_shape_of_kind : K.lookup f_shape_of_kind = some ⟨oc_shape_of_kind, od_shape_of_kind, .func (PySem.W.fnOf "shape_of_kind" "shape_of_kind" (defArgs s_shape_of_kind) (defBody s_shape_of_kind) (defScope s_shape_of_kind) .none kV_shape_of_kind dc_shape_of_kind pm_shape_of_kind an_shape_of_kind cd_shape_of_kind ct_shape_of_kind), sl_shape_of_kind⟩)
    (d_shape_of_kind : PySem.W.codeIn K cd_shape_of_kind "shape_of_kind" = true)
    (k_shape_of_kind : PySem.W.keepIn K (.ref f_shape_of_kind) = true)
    (a_is_above : PySem.W.nsIn K mainGlobals "is_above" = some (some (.ref f_is_above)))
    (l_is_above : K.lookup f_is_above = some ⟨oc_is_above, od_is_above, .func (PySem.W.fnOf "is_above" "is_above" (defArgs s_is_above) (defBody s_is_above) (defScope s_is_above) .none kV_is_above dc_is_above pm_is_above an_is_above cd_is_above ct_is_above), sl_is_above⟩)
    (d_is_above : PySem.W.codeIn K cd_is_above "is_above" = true)
    (k_is_above : PySem.W.keepIn K (.ref f_is_above) = true)
    (a_turned_about : PySem.W.nsIn K mainGlobals "turned_about" = some (some (.ref f_turned_about)))
    (l_turned_about : K.lookup f_turned_about = some ⟨oc_turned_about, od_turned_about, .func (PySem.W.fnOf "turned_about" "turned_about" (defArgs s_turned_about) (defBody s_turned_about) (defScope s_turned_about) (.ref T_turned_about) kV_turned_about dc_turned_about pm_turned_about an_turned_about cd_turned_about ct_turned_about), sl_turned_about⟩)
    (d_turned_about : PySem.W.codeIn K cd_turned_about "turned_about" = true)
    (k_turned_about : PySem.W.keepIn K (.ref f_turned_about) = true)
    (t_turned_about : K.lookup T_turned_about = some ob_turned_about)
    (u_turned_about : ob_turned_about.data = .seq #[.none] m_turned_about)
    (a_law_hand : PySem.W.nsIn K mainGlobals "_law_hand" = some (some (.ref f_law_hand)))
    (l_law_hand : K.lookup f_law_hand = some ⟨oc_law_hand, od_law_hand, .func (PySem.W.fnOf "_law_hand" "_law_hand" (defArgs s_law_hand) (defBody s_law_hand) (defScope s_law_hand) .none kV_law_hand dc_law_hand pm_law_hand an_law_hand cd_law_hand ct_law_hand), sl_law_hand⟩)
    (d_law_hand : PySem.W.codeIn K cd_law_hand "_law_hand" = true)
    (k_law_hand : PySem.W.keepIn K (.ref f_law_hand) = true)
    (a_law_mixed : PySem.W.nsIn K mainGlobals "_law_mixed" = some (some (.ref f_law_mixed)))
    (l_law_mixed : K.lookup f_law_mixed = some ⟨oc_law_mixed, od_law_mixed, .func (PySem.W.fnOf "_law_mixed" "_law_mixed" (defArgs s_law_mixed) (defBody s_law_mixed) (defScope s_law_mixed) .none kV_law_mixed dc_law_mixed pm_law_mixed an_law_mixed cd_law_mixed ct_law_mixed), sl_law_mixed⟩)
    (d_law_mixed : PySem.W.codeIn K cd_law_mixed "_law_mixed" = true)
    (k_law_mixed : PySem.W.keepIn K (.ref f_law_mixed) = true)
    (a_law_take : PySem.W.nsIn K mainGlobals "_law_take" = some (some (.ref f_law_take)))
    (l_law_take : K.lookup f_law_take = some ⟨oc_law_take, od_law_take, .func (PySem.W.fnOf "_law_take" "_law_take" (defArgs s_law_take) (defBody s_law_take) (defScope s_law_take) .none kV_law_take dc_law_take pm_law_take an_law_take cd_law_take ct_law_take), sl_law_take⟩)
    (d_law_take : PySem.W.codeIn K cd_law_take "_law_take" = true)
    (k_law_take : PySem.W.keepIn K (.ref f_law_take) = true)
    (a_law_row : PySem.W.nsIn K mainGlobals "_law_row" = some (some (.ref f_law_row)))
    (l_law_row : K.lookup f_law_row = some ⟨oc_law_row, od_law_row, .func (PySem.W.fnOf "_law_row" "_law_row" (defArgs s_law_row) (defBody s_law_row) (defScope s_law_row) .none kV_law_row dc_law_row pm_law_row an_law_row cd_law_row ct_law_row), sl_law_row⟩)
    (d_law_row : PySem.W.codeIn K cd_law_row "_law_row" = true)
    (k_law_row : PySem.W.keepIn K (.ref f_law_row) = true)
    (a_law_row_drawn : PySem.W.nsIn K mainGlobals "_law_row_drawn" = some (some (.ref f_law_row_drawn)))
    (l_law_row_drawn : K.lookup f_law_row_drawn = some ⟨oc_law_row_drawn, od_law_row_drawn, .func (PySem.W.fnOf "_law_row_drawn" "_law_row_drawn" (defArgs s_law_row_drawn) (defBody s_law_row_drawn) (defScope s_law_row_drawn) .none kV_law_row_drawn dc_law_row_drawn pm_law_row_drawn an_law_row_drawn cd_law_row_drawn ct_law_row_drawn), sl_law_row_drawn⟩)
    (d_law_row_drawn : PySem.W.codeIn K cd_law_row_drawn "_law_row_drawn" = true)
    (k_law_row_drawn : PySem.W.keepIn K (.ref f_law_row_drawn) = true)
    (a_law_moved : PySem.W.nsIn K mainGlobals "_law_moved" = some (some (.ref f_law_moved)))
    (l_law_moved : K.lookup f_law_moved = some ⟨oc_law_moved, od_law_moved, .func (PySem.W.fnOf "_law_moved" "_law_moved" (defArgs s_law_moved) (defBody s_law_moved) (defScope s_law_moved) .none kV_law_moved dc_law_moved pm_law_moved an_law_moved cd_law_moved ct_law_moved), sl_law_moved⟩)
    (d_law_moved : PySem.W.codeIn K cd_law_moved "_law_moved" = true)
    (k_law_moved : PySem.W.keepIn K (.ref f_law_moved) = true)
    (a_law_turned : PySem.W.nsIn K mainGlobals "_law_turned" = some (some (.ref f_law_turned)))
    (l_law_turned : K.lookup f_law_turned = some ⟨oc_law_turned, od_law_turned, .func (PySem.W.fnOf "_law_turned" "_law_turned" (defArgs s_law_turned) (defBody s_law_turned) (defScope s_law_turned) .none kV_law_turned dc_law_turned pm_law_turned an_law_turned cd_law_turned ct_law_turned), sl_law_turned⟩)
    (d_law_turned : PySem.W.codeIn K cd_law_turned "_law_turned" = true)
    (k_law_turned : PySem.W.keepIn K (.ref f_law_turned) = true)
    (a_law_above : PySem.W.nsIn K mainGlobals "_law_above" = some (some (.ref f_law_above)))
    (l_law_above : K.lookup f_law_above = some ⟨oc_law_above, od_law_above, .func (PySem.W.fnOf "_law_above" "_law_above" (defArgs s_law_above) (defBody s_law_above) (defScope s_law_above) .none kV_law_above dc_law_above pm_law_above an_law_above cd_law_above ct_law_above), sl_law_above⟩)
    (d_law_above : PySem.W.codeIn K cd_law_above "_law_above" = true)
    (k_law_above : PySem.W.keepIn K (.ref f_law_above) = true)
    (a_law_padded : PySem.W.nsIn K mainGlobals "_law_padded" = some (some (.ref f_law_padded)))
    (l_law_padded : K.lookup f_law_padded = some ⟨oc_law_padded, od_law_padded, .func (PySem.W.fnOf "_law_padded" "_law_padded" (defArgs s_law_padded) (defBody s_law_padded) (defScope s_law_padded) .none kV_law_padded dc_law_padded pm_law_padded an_law_padded cd_law_padded ct_law_padded), sl_law_padded⟩)
    (d_law_padded : PySem.W.codeIn K cd_law_padded "_law_padded" = true)
    (k_law_padded : PySem.W.keepIn K (.ref f_law_padded) = true)
    (a_law_told_turned : PySem.W.nsIn K mainGlobals "_law_told_turned" = some (some (.ref f_law_told_turned)))
    (l_law_told_turned : K.lookup f_law_told_turned = some ⟨oc_law_told_turned, od_law_told_turned, .func (PySem.W.fnOf "_law_told_turned" "_law_told_turned" (defArgs s_law_told_turned) (defBody s_law_told_turned) (defScope s_law_told_turned) .none kV_law_told_turned dc_law_told_turned pm_law_told_turned an_law_told_turned cd_law_told_turned ct_law_told_turned), sl_law_told_turned⟩)
    (d_law_told_turned : PySem.W.codeIn K cd_law_told_turned "_law_told_turned" = true)
    (k_law_told_turned : PySem.W.keepIn K (.ref f_law_told_turned) = true)
    (a_law_one : PySem.W.nsIn K mainGlobals "_law_one" = some (some (.ref f_law_one)))
    (l_law_one : K.lookup f_law_one = some ⟨oc_law_one, od_law_one, .func (PySem.W.fnOf "_law_one" "_law_one" (defArgs s_law_one) (defBody s_law_one) (defScope s_law_one) .none kV_law_one dc_law_one pm_law_one an_law_one cd_law_one ct_law_one), sl_law_one⟩)
    (d_law_one : PySem.W.codeIn K cd_law_one "_law_one" = true)
    (k_law_one : PySem.W.keepIn K (.ref f_law_one) = true)
    (a_law : PySem.W.nsIn K mainGlobals "law" = some (some (.ref f_law)))
    (l_law : K.lookup f_law = some ⟨oc_law, od_law, .func (PySem.W.fnOf "law" "law" (defArgs s_law) (defBody s_law) (defScope s_law) .none kV_law dc_law pm_law an_law cd_law ct_law), sl_law⟩)
    (d_law : PySem.W.codeIn K cd_law "law" = true)
    (k_law : PySem.W.keepIn K (.ref f_law) = true)
    (aC_BadShape : PySem.W.nsIn K mainGlobals "BadShape" = some (some (.ref C_BadShape)))
    (xL_BadShape : K.lookup C_BadShape = some (excClassObj nm_BadShape q_BadShape C_BadShape N_BadShape bs_BadShape bm_BadShape true sn_BadShape sub_BadShape ab_BadShape col_BadShape dd_BadShape m0_BadShape m1_BadShape m2_BadShape m3_BadShape m5_BadShape "ValueError.__new__"))
    (rv_BadShape : PySem.HandSPX.refsVE bm_BadShape = true)
    (sa_BadShape : PySem.W.findIn K (.ref C_BadShape) "__setattr__" = some (some (.builtin "object.__setattr__")))
    (ga_BadShape : PySem.W.findIn K (.ref C_BadShape) "__getattribute__" = some (some (.builtin "BaseException.__getattribute__")))
    (gg_BadShape : PySem.W.findIn K (.ref C_BadShape) "__getattr__" = some none)
    (nb_BadShape : PySem.W.findIn K (.ref C_BadShape) "what" = some none)
    (ai_BadShape : PySem.W.findIn K (.ref C_BadShape) "__init__" = some (some (.ref fI_BadShape)))
    (ti_BadShape : PySem.W.typeIn K (.ref fI_BadShape) = some (.type "function"))
    (li_BadShape : K.lookup fI_BadShape = some ⟨ioc_BadShape, iod_BadShape, .func (PySem.W.fnOf "__init__" "BadShape.__init__" (defArgs i_BadShape) (defBody i_BadShape) (defScope i_BadShape) .none ikV_BadShape idc_BadShape ipm_BadShape ian_BadShape icd_BadShape ict_BadShape), isl_BadShape⟩)
    (ci_BadShape : PySem.W.codeIn K icd_BadShape "BadShape.__init__" = true)
    (kC_BadShape : PySem.W.keepIn K (.ref C_BadShape) = true)
    (eC_BadShape : PySem.W.subIn K (.ref C_BadShape) (.type "BaseException") = some true)
    (tC_BadShape : PySem.W.typeIn K (.ref C_BadShape) = some (.type "type"))
    (hC_BadShape : PySem.W.hasDictIn K C_BadShape = true)
    (te_BadShape : PySem.W.exmOne K (.ref C_BadShape) (.ref C_BadShape) = some true)
    (hv : ∀ (C_BadShape : Addr) (ns : List Int) (tot : Int), ns.length ≤ 63 → ∃ s', b_law C_BadShape (.un :: .fz .hnd :: List.replicate 6 .un) (hs0 ns tot) = .rt (.bl true) s') :
    ∃ fd : FuncData, (∀ (s : Shared) (u : Value), BindsTo s fd ⟨[u], []⟩ [("_law_script", u)]) ∧ ∀ base : Heap, K.In base → base.Ns mainGlobals mg → FnG P w K mg base 6 fa fd ["_law_script"] (spLaw K) := by
  have e := hfa.symm.trans (PySem.W.mg_of X G a_law)
  cases e
  have n_abs := PySem.W.mg_none_of X G z_abs
  have n_enumerate := PySem.W.mg_none_of X G z_enumerate
  have n_int := PySem.W.mg_none_of X G z_int
  have n_len := PySem.W.mg_none_of X G z_len
  have n_list := PySem.W.mg_none_of X G z_list
  have n_max := PySem.W.mg_none_of X G z_max
  have n_range := PySem.W.mg_none_of X G z_range
  have n_repr := PySem.W.mg_none_of X G z_repr
  have n_sorted := PySem.W.mg_none_of X G z_sorted
  have n_sum := PySem.W.mg_none_of X G z_sum
  have n_tuple := PySem.W.mg_none_of X G z_tuple
  have n_zip := PySem.W.mg_none_of X G z_zip
  have F_sum_of_shape : DefIn K "sum_of_shape" "sum_of_shape" s_sum_of_shape .none f_sum_of_shape _ := ⟨_, _, _, _, _, _, _, _, _, rfl, l_sum_of_shape, d_sum_of_shape⟩
  have F_weight_of : DefIn K "weight_of" "weight_of" s_weight_of .none f_weight_of _ := ⟨_, _, _, _, _, _, _, _, _, rfl, l_weight_of, d_weight_of⟩
  have F_kind_of_shape : DefIn K "kind_of_shape" "kind_of_shape" s_kind_of_shape .none f_kind_of_shape _ := ⟨_, _, _, _, _, _, _, _, _, rfl, l_kind_of_shape, d_kind_of_shape⟩
  have F_shape_of_kind : DefIn K "shape_of_kind" "shape_of_kind" s_shape_of_kind .none f_shape_of_kind _ := ⟨_, _, _, _, _, _, _, _, _, rfl, l_shape_of_kind, d_shape_of_kind⟩
  have F_is_above : DefIn K "is_above" "is_above" s_is_above .none f_is_above _ := ⟨_, _, _, _, _, _, _, _, _, rfl, l_is_above, d_is_above⟩
  have F_turned_about : DefIn K "turned_about" "turned_about" s_turned_about (.ref T_turned_about) f_turned_about _ := ⟨_, _, _, _, _, _, _, _, _, rfl, l_turned_about, d_turned_about⟩
  have F_law_hand : DefIn K "_law_hand" "_law_hand" s_law_hand .none f_law_hand _ := ⟨_, _, _, _, _, _, _, _, _, rfl, l_law_hand, d_law_hand⟩
  have F_law_mixed : DefIn K "_law_mixed" "_law_mixed" s_law_mixed .none f_law_mixed _ := ⟨_, _, _, _, _, _, _, _, _, rfl, l_law_mixed, d_law_mixed⟩
  have F_law_take : DefIn K "_law_take" "_law_take" s_law_take .none f_law_take _ := ⟨_, _, _, _, _, _, _, _, _, rfl, l_law_take, d_law_take⟩
  have F_law_row : DefIn K "_law_row" "_law_row" s_law_row .none f_law_row _ := ⟨_, _, _, _, _, _, _, _, _, rfl, l_law_row, d_law_row⟩
  have F_law_row_drawn : DefIn K "_law_row_drawn" "_law_row_drawn" s_law_row_drawn .none f_law_row_drawn _ := ⟨_, _, _, _, _, _, _, _, _, rfl, l_law_row_drawn, d_law_row_drawn⟩
  have F_law_moved : DefIn K "_law_moved" "_law_moved" s_law_moved .none f_law_moved _ := ⟨_, _, _, _, _, _, _, _, _, rfl, l_law_moved, d_law_moved⟩
  have F_law_turned : DefIn K "_law_turned" "_law_turned" s_law_turned .none f_law_turned _ := ⟨_, _, _, _, _, _, _, _, _, rfl, l_law_turned, d_law_turned⟩
  have F_law_above : DefIn K "_law_above" "_law_above" s_law_above .none f_law_above _ := ⟨_, _, _, _, _, _, _, _, _, rfl, l_law_above, d_law_above⟩
  have F_law_padded : DefIn K "_law_padded" "_law_padded" s_law_padded .none f_law_padded _ := ⟨_, _, _, _, _, _, _, _, _, rfl, l_law_padded, d_law_padded⟩
  have F_law_told_turned : DefIn K "_law_told_turned" "_law_told_turned" s_law_told_turned .none f_law_told_turned _ := ⟨_, _, _, _, _, _, _, _, _, rfl, l_law_told_turned, d_law_told_turned⟩
  have F_law_one : DefIn K "_law_one" "_law_one" s_law_one .none f_law_one _ := ⟨_, _, _, _, _, _, _, _, _, rfl, l_law_one, d_law_one⟩
  have F_law : DefIn K "law" "law" s_law .none fa _ := ⟨_, _, _, _, _, _, _, _, _, rfl, l_law, d_law⟩
  refine ⟨PySem.W.fnOf "law" "law" (defArgs s_law) (defBody s_law) (defScope s_law) .none kV_law dc_law pm_law an_law cd_law ct_law, fun s v => .of_eq rfl, fun base _ _ => ?_⟩
  have x_BadShape : ErX1 P w K mg base "BadShape" C_BadShape "what" := erx1_mk (st := i_BadShape) ⟨⟨nm_BadShape, q_BadShape, N_BadShape, bs_BadShape, bm_BadShape, sn_BadShape, sub_BadShape, ab_BadShape, col_BadShape, dd_BadShape, m0_BadShape, m1_BadShape, m2_BadShape, m3_BadShape, m5_BadShape, xL_BadShape, rv_BadShape⟩, sa_BadShape, eC_BadShape, tC_BadShape, kC_BadShape⟩ ai_BadShape ti_BadShape ⟨_, _, _, _, _, _, _, _, _, rfl, li_BadShape, ci_BadShape⟩ sci_BadShape rfl rfl rfl rfl rfl (fun _ _ _ _ _ _ us hl => match us, hl with | [_, _], _ => rfl) nb_BadShape ⟨ga_BadShape, gg_BadShape, eC_BadShape, hC_BadShape⟩ te_BadShape (PySem.W.mg_of X G aC_BadShape)
  have ok_sum_of_shape := ok_sum_of_shape (P := P) (w := w) (mg := mg) (base := base) F_sum_of_shape n_sum
  have c_sum_of_shape : Cle P w K mg base "sum_of_shape" 1 1 [] sem_sum_of_shape := cle_of ok_sum_of_shape F_sum_of_shape (PySem.W.mg_of X G a_sum_of_shape) k_sum_of_shape (fun _ _ _ _ _ _ us hl => match us, hl with | [_], _ => rfl)
  have ok_weight_of := ok_weight_of (P := P) (w := w) (mg := mg) (base := base) F_weight_of n_enumerate n_sum
  have c_weight_of : Cle P w K mg base "weight_of" 1 1 [] sem_weight_of := cle_of ok_weight_of F_weight_of (PySem.W.mg_of X G a_weight_of) k_weight_of (fun _ _ _ _ _ _ us hl => match us, hl with | [_], _ => rfl)
  have ok_kind_of_shape := ok_kind_of_shape (P := P) (w := w) (mg := mg) (base := base) F_kind_of_shape n_tuple
  have c_kind_of_shape : Cle P w K mg base "kind_of_shape" 1 1 [] sem_kind_of_shape := cle_of ok_kind_of_shape F_kind_of_shape (PySem.W.mg_of X G a_kind_of_shape) k_kind_of_shape (fun _ _ _ _ _ _ us hl => match us, hl with | [_], _ => rfl)
  have ok_shape_of_kind := ok_shape_of_kind (P := P) (w := w) (mg := mg) (base := base) F_shape_of_kind n_len n_tuple x_BadShape
  have c_shape_of_kind : Cle P w K mg base "shape_of_kind" 3 2 [] (sem_shape_of_kind C_BadShape) := cle_of ok_shape_of_kind F_shape_of_kind (PySem.W.mg_of X G a_shape_of_kind) k_shape_of_kind (fun _ _ _ _ _ _ us hl => match us, hl with | [_, _], _ => rfl)
  have ok_is_above := ok_is_above (P := P) (w := w) (mg := mg) (base := base) F_is_above n_len n_max n_zip c_shape_of_kind
  have c_is_above : Cle P w K mg base "is_above" 4 2 [] (sem_is_above C_BadShape) := cle_of ok_is_above F_is_above (PySem.W.mg_of X G a_is_above) k_is_above (fun _ _ _ _ _ _ us hl => match us, hl with | [_, _], _ => rfl)
  have ok_turned_about := ok_turned_about (P := P) (w := w) (mg := mg) (base := base) F_turned_about n_len n_max n_range n_tuple x_BadShape
  have c_turned_about : Cle P w K mg base "turned_about" 3 2 [] (sem_turned_about C_BadShape) := cle_ofD (dvs := [V.non]) ok_turned_about ⟨⟨_, _, _, _, _, _, _, _, _, _, rfl, l_turned_about, d_turned_about, .inr ⟨by simp, T_turned_about, ob_turned_about, _, m_turned_about, rfl, t_turned_about, u_turned_about, (.cons rfl .nil)⟩, .inl rfl⟩, k_turned_about⟩ (PySem.W.mg_of X G a_turned_about) 2 1 (by simp) rfl (fun _ _ _ _ _ _ _ us its hu hi => match us, its, hu, hi with | [_, _], [_], _, _ => ⟨_, rfl, rfl⟩) (fun _ _ _ => .nil)
  have c_turned_about_d1 : Cle P w K mg base "turned_about" 3 2 [.non] (sem_turned_about C_BadShape) := cle_ofD (dvs := [V.non]) ok_turned_about ⟨⟨_, _, _, _, _, _, _, _, _, _, rfl, l_turned_about, d_turned_about, .inr ⟨by simp, T_turned_about, ob_turned_about, _, m_turned_about, rfl, t_turned_about, u_turned_about, (.cons rfl .nil)⟩, .inl rfl⟩, k_turned_about⟩ (PySem.W.mg_of X G a_turned_about) 1 0 (by simp) rfl (fun _ _ _ _ _ _ _ us its hu hi => match us, its, hu, hi with | [_], [_], _, _ => ⟨_, rfl, rfl⟩) (fun _ _ _ => (.cons .non .nil))
  have ok_law_mixed := ok_law_mixed (P := P) (w := w) (mg := mg) (base := base) F_law_mixed n_int
  have c_law_mixed : Cle P w K mg base "_law_mixed" 1 2 [] sem_law_mixed := cle_of ok_law_mixed F_law_mixed (PySem.W.mg_of X G a_law_mixed) k_law_mixed (fun _ _ _ _ _ _ us hl => match us, hl with | [_, _], _ => rfl)
  have ok_law_take := ok_law_take (P := P) (w := w) (mg := mg) (base := base) F_law_take n_int n_len c_law_mixed
  have c_law_take : Cle P w K mg base "_law_take" 2 2 [] sem_law_take := cle_of ok_law_take F_law_take (PySem.W.mg_of X G a_law_take) k_law_take (fun _ _ _ _ _ _ us hl => match us, hl with | [_, _], _ => rfl)
  have ok_law_row := ok_law_row (P := P) (w := w) (mg := mg) (base := base) F_law_row n_list n_tuple c_law_take
  have c_law_row : Cle P w K mg base "_law_row" 3 2 [] sem_law_row := cle_of ok_law_row F_law_row (PySem.W.mg_of X G a_law_row) k_law_row (fun _ _ _ _ _ _ us hl => match us, hl with | [_, _], _ => rfl)
  have ok_law_row_drawn := ok_law_row_drawn (P := P) (w := w) (mg := mg) (base := base) F_law_row_drawn n_range n_sorted c_law_take
  have c_law_row_drawn : Cle P w K mg base "_law_row_drawn" 3 1 [] sem_law_row_drawn := cle_of ok_law_row_drawn F_law_row_drawn (PySem.W.mg_of X G a_law_row_drawn) k_law_row_drawn (fun _ _ _ _ _ _ us hl => match us, hl with | [_], _ => rfl)
  have ok_law_moved := ok_law_moved (P := P) (w := w) (mg := mg) (base := base) F_law_moved n_len n_list n_range n_sorted c_law_take
  have c_law_moved : Cle P w K mg base "_law_moved" 3 2 [] sem_law_moved := cle_of ok_law_moved F_law_moved (PySem.W.mg_of X G a_law_moved) k_law_moved (fun _ _ _ _ _ _ us hl => match us, hl with | [_, _], _ => rfl)
  have ok_law_turned := ok_law_turned (P := P) (w := w) (mg := mg) (base := base) F_law_turned n_len n_range n_tuple
  have c_law_turned : Cle P w K mg base "_law_turned" 1 2 [] sem_law_turned := cle_of ok_law_turned F_law_turned (PySem.W.mg_of X G a_law_turned) k_law_turned (fun _ _ _ _ _ _ us hl => match us, hl with | [_, _], _ => rfl)
  have ok_law_above := ok_law_above (P := P) (w := w) (mg := mg) (base := base) F_law_above n_range n_sum
  have c_law_above : Cle P w K mg base "_law_above" 1 2 [] sem_law_above := cle_of ok_law_above F_law_above (PySem.W.mg_of X G a_law_above) k_law_above (fun _ _ _ _ _ _ us hl => match us, hl with | [_, _], _ => rfl)
  have ok_law_padded := ok_law_padded (P := P) (w := w) (mg := mg) (base := base) F_law_padded c_shape_of_kind x_BadShape
  have c_law_padded : Cle P w K mg base "_law_padded" 4 2 [] (sem_law_padded C_BadShape) := cle_of ok_law_padded F_law_padded (PySem.W.mg_of X G a_law_padded) k_law_padded (fun _ _ _ _ _ _ us hl => match us, hl with | [_, _], _ => rfl)
  have ok_law_told_turned := ok_law_told_turned (P := P) (w := w) (mg := mg) (base := base) F_law_told_turned c_turned_about x_BadShape
  have c_law_told_turned : Cle P w K mg base "_law_told_turned" 4 2 [] (sem_law_told_turned C_BadShape) := cle_of ok_law_told_turned F_law_told_turned (PySem.W.mg_of X G a_law_told_turned) k_law_told_turned (fun _ _ _ _ _ _ us hl => match us, hl with | [_, _], _ => rfl)
  have ok_law_one := ok_law_one (P := P) (w := w) (mg := mg) (base := base) F_law_one n_len n_max n_range n_repr n_sum n_tuple c_law_padded c_law_row c_law_take c_law_told_turned c_law_turned c_kind_of_shape c_sum_of_shape c_turned_about_d1 c_weight_of
  have c_law_one : Cle P w K mg base "_law_one" 5 2 [] (sem_law_one C_BadShape) := cle_of ok_law_one F_law_one (PySem.W.mg_of X G a_law_one) k_law_one (fun _ _ _ _ _ _ us hl => match us, hl with | [_, _], _ => rfl)
  have okh := ok_law_hand (P := P) (w := w) (mg := mg) (base := base) F_law_hand k_law_hand n_len n_int n_abs
  exact ok_law F_law okh (PySem.W.mg_of X G a_law_hand) k_law_hand (.all (fun us hl => match us, hl with | [_], _ => rfl)) n_range n_repr c_law_above c_law_moved c_law_one c_law_row c_law_row_drawn c_law_take c_is_above c_turned_about_d1 (hv _)
end K05

-- part Fk05
set_option maxHeartbeats 1000000
open PySem PySem.W PyProof.Rows
set_option maxHeartbeats 0 in
theorem PySem.Challenge.cw_threeshapes_k05_whole_shapes_turned_abou_holds : PySem.Challenge.rw_threeshapes_k05_whole_shapes_turned_abou.Holds := by
  w_on; o_law; k_head; (case hw => w_witness2)
  k_fill
  refine DL.walkG (l := PySem.Challenge.rw_threeshapes_k05_whole_shapes_turned_abou) (n := 63) (k := 6) (x := "_law_script") (sp := DL.spLaw) rfl (by decide) rfl ⟨rfl, by decide, by decide⟩ (fun w h Y => PySem.W.kIn_of Y) ?F (fun K H a ns hl _ hS => ⟨a, ns, rfl, hS, hl, fun _ => rfl⟩)
  case F =>
    intro w mg fa h KX G hmg
    refine' K05.all_mk KX G hmg ?z_abs ?z_enumerate ?z_int ?z_len ?z_list ?z_max ?z_range ?z_repr ?z_sorted ?z_sum ?z_tuple ?z_zip ?a_sum_of_shape ?l_sum_of_shape ?d_sum_of_shape ?k_sum_of_shape ?a_weight_of ?l_weight_of ?d_weight_of ?k_weight_of ?a_kind_of_shape ?l_kind_of_shape ?d_kind_of_shape ?k_kind_of_shape ?a_shape_of_kind ?l_shape_of_kind ?d_shape_of_kind ?k_shape_of_kind ?a_is_above ?l_is_above ?d_is_above ?k_is_above ?a_turned_about ?l_turned_about ?d_turned_about ?k_turned_about ?t_turned_about ?u_turned_about ?a_law_hand ?l_law_hand ?d_law_hand ?k_law_hand ?a_law_mixed ?l_law_mixed ?d_law_mixed ?k_law_mixed ?a_law_take ?l_law_take ?d_law_take ?k_law_take ?a_law_row ?l_law_row ?d_law_row ?k_law_row ?a_law_row_drawn ?l_law_row_drawn ?d_law_row_drawn ?k_law_row_drawn ?a_law_moved ?l_law_moved ?d_law_moved ?k_law_moved ?a_law_turned ?l_law_turned ?d_law_turned ?k_law_turned ?a_law_above ?l_law_above ?d_law_above ?k_law_above ?a_law_padded ?l_law_padded ?d_law_padded ?k_law_padded ?a_law_told_turned ?l_law_told_turned ?d_law_told_turned ?k_law_told_turned ?a_law_one ?l_law_one ?d_law_one ?k_law_one ?a_law ?l_law ?d_law ?k_law ?aC_BadShape ?xL_BadShape ?rv_BadShape ?sa_BadShape ?ga_BadShape ?gg_BadShape ?nb_BadShape ?ai_BadShape ?ti_BadShape ?li_BadShape ?ci_BadShape ?kC_BadShape ?eC_BadShape ?tC_BadShape ?hC_BadShape ?te_BadShape K05.math
    (case z_abs => k_is)
    (case z_enumerate => k_is)
    (case z_int => k_is)
    (case z_len => k_is)
    (case z_list => k_is)
    (case z_max => k_is)
    (case z_range => k_is)
    (case z_repr => k_is)
    (case z_sorted => k_is)
    (case z_sum => k_is)
    (case z_tuple => k_is)
    (case z_zip => k_is)
    (case a_sum_of_shape => k_is)
    (case l_sum_of_shape => k_is)
    (case d_sum_of_shape => k_is)
    (case k_sum_of_shape => k_is)
    (case a_weight_of => k_is)
    (case l_weight_of => k_is)
    (case d_weight_of => k_is)
    (case k_weight_of => k_is)
    (case a_kind_of_shape => k_is)
    (case l_kind_of_shape => k_is)
    (case d_kind_of_shape => k_is)
    (case k_kind_of_shape => k_is)
    (case a_shape_of_kind => k_is)
    (case l_shape_of_kind => k_is)
    (case d_shape_of_kind => k_is)
    (case k_shape_of_kind => k_is)
    (case a_is_above => k_is)
    (case l_is_above => k_is)
    (case d_is_above => k_is)
    (case k_is_above => k_is)
    (case a_turned_about => k_is)
    (case l_turned_about => k_is)
    (case d_turned_about => k_is)
    (case k_turned_about => k_is)
    (case t_turned_about => k_is)
    (case u_turned_about => rfl)
    (case a_law_hand => k_is)
    (case l_law_hand => k_is)
    (case d_law_hand => k_is)
    (case k_law_hand => k_is)
    (case a_law_mixed => k_is)
    (case l_law_mixed => k_is)
    (case d_law_mixed => k_is)
    (case k_law_mixed => k_is)
    (case a_law_take => k_is)
    (case l_law_take => k_is)
    (case d_law_take => k_is)
    (case k_law_take => k_is)
    (case a_law_row => k_is)
    (case l_law_row => k_is)
    (case d_law_row => k_is)
    (case k_law_row => k_is)
    (case a_law_row_drawn => k_is)
    (case l_law_row_drawn => k_is)
    (case d_law_row_drawn => k_is)
    (case k_law_row_drawn => k_is)
    (case a_law_moved => k_is)
    (case l_law_moved => k_is)
    (case d_law_moved => k_is)
    (case k_law_moved => k_is)
    (case a_law_turned => k_is)
    (case l_law_turned => k_is)
    (case d_law_turned => k_is)
    (case k_law_turned => k_is)
    (case a_law_above => k_is)
    (case l_law_above => k_is)
    (case d_law_above => k_is)
    (case k_law_above => k_is)
    (case a_law_padded => k_is)
    (case l_law_padded => k_is)
    (case d_law_padded => k_is)
    (case k_law_padded => k_is)
    (case a_law_told_turned => k_is)
    (case l_law_told_turned => k_is)
    (case d_law_told_turned => k_is)
    (case k_law_told_turned => k_is)
    (case a_law_one => k_is)
    (case l_law_one => k_is)
    (case d_law_one => k_is)
    (case k_law_one => k_is)
    (case a_law => k_is)
    (case l_law => k_is)
    (case d_law => k_is)
    (case k_law => k_is)
    (case aC_BadShape => k_is)
    (case xL_BadShape => k_is)
    (case rv_BadShape => first | rfl | decide +kernel | k_is)
    (case sa_BadShape => k_is)
    (case ga_BadShape => k_is)
    (case gg_BadShape => k_is)
    (case nb_BadShape => k_is)
    (case ai_BadShape => k_is)
    (case ti_BadShape => k_is)
    (case li_BadShape => k_is)
    (case ci_BadShape => k_is)
    (case kC_BadShape => k_is)
    (case eC_BadShape => k_is)
    (case tC_BadShape => k_is)
    (case hC_BadShape => k_is)
    (case te_BadShape => first | k_is | rfl | decide +kernel)

