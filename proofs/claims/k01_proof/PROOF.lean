import PyProof.Rows.All
import Wide.All
import OpenK.AllK
import Wide.FinOn
import HandS.ForMost
import HandS.IsInst
import HandS.Deep
import HandS.DictComp
import HandS.Flow
import HandS.Style
import HandS.StrMore
import HandS.TupAny
import HandS.TupMul
import HandS.Conv
import HandS.Wide
import KE.SortData
import KE.DatumIndex
import HandS.ExcValue
import KE.KRevSl
import HandS.ExcInit
import HandS.ExcIs
import HandS.ExcField
import HandS.MakeKwOnly
import KE.KExcIs
import PySem.Challenge.RW_roomrings_k01_forms_and_errors
set_option Elab.async false
set_option linter.all false
set_option maxRecDepth 100000
set_option maxHeartbeats 1900000
/-! Pz: programs read at the level of plain data. -/
namespace Pz
open PySem L2

/-! ### canonical readings -/
section
variable {X : Cx}
def wE (X : Cx) (e : Expr) : TE := fun st hp q => ∀ pn s, Inv X pn st hp s → wpAny (model X.prog X.w) X.A (eval e X.env) (EP X pn st q) X.xe s
def wT (X : Cx) (e : Expr) : TT := fun st hp q => ∀ pn s, Inv X pn st hp s → wpAny (model X.prog X.w) X.A (isTrue e X.env (eval e X.env)) (TP X pn st q) X.xe s
def wA (X : Cx) (es : List Expr) : TA := fun st hp q => ∀ po pn s, Inv X pn st hp s → wpAny (model X.prog X.w) X.A (spliced (backTo po (starEach es X.env))) (AP X pn st q) X.xe s
def wS (X : Cx) (c : Stmt) : TS := fun D st hp => ∀ pn s, Inv X pn st hp s → wpAny (model X.prog X.w) X.A (exec c X.env) (SP X pn D) X.xe s
def wB (X : Cx) (cs : List Stmt) : TS := fun D st hp => ∀ pn s, Inv X pn st hp s → wpAny (model X.prog X.w) X.A (execs cs X.env) (SP X pn D) X.xe s
theorem peW {e : Expr} : PE X e (wE X e) := ⟨fun pn s _ _ _ iv h => h pn s iv⟩
theorem ptW {e : Expr} : PT X e (wT X e) := ⟨fun pn s _ _ _ iv h => h pn s iv⟩
theorem paW {es : List Expr} : PA X es (wA X es) := ⟨fun po pn s _ _ _ iv h => h po pn s iv⟩
theorem psW {c : Stmt} : PS X c (wS X c) := ⟨fun pn s _ _ _ iv h => h pn s iv⟩
theorem pbW {cs : List Stmt} : PSs X cs (wB X cs) := ⟨fun pn s _ _ _ iv h => h pn s iv⟩
theorem wE_of {e : Expr} {t : TE} (h : PE X e t) {st : L2.St} {hp : Hp} {q : VK} (z : t st hp q) : wE X e st hp q := fun pn s iv => h.run pn s st hp q iv z
theorem wT_of {e : Expr} {t : TT} (h : PT X e t) {st : L2.St} {hp : Hp} {q : Bool → Hp → Prop} (z : t st hp q) : wT X e st hp q := fun pn s iv => h.run pn s st hp q iv z
theorem wA_of {es : List Expr} {t : TA} (h : PA X es t) {st : L2.St} {hp : Hp} {q : List V → Hp → Prop} (z : t st hp q) : wA X es st hp q := fun po pn s iv => h.run po pn s st hp q iv z
theorem wS_of {c : Stmt} {t : TS} (h : PS X c t) {D : Ends} {st : L2.St} {hp : Hp} (z : t D st hp) : wS X c D st hp := fun pn s iv => h.run pn s st hp D iv z
theorem wB_of {cs : List Stmt} {t : TS} (h : PSs X cs t) {D : Ends} {st : L2.St} {hp : Hp} (z : t D st hp) : wB X cs D st hp := fun pn s iv => h.run pn s st hp D iv z
end

/-! ### plain data -/
/-- what a name holds: data, or the spool -/
inductive W where
  | d (x : PyData)
  | sp
/-- a slot: nothing, a value, a list of its own -/
inductive S where
  | un
  | val (w : W)
  | own (xs : List PyData)
/-- what an expression gives: a value, a new list, the own list of a slot -/
inductive R where
  | val (w : W)
  | fr (xs : List PyData)
  | pk (i : Nat) (xs : List PyData)
structure Exn where
  cls : Nat
  fs : List PyData
abbrev Rho := List S
abbrev XQ := Exn → Bool
abbrev KE := R → Rho → Bool
abbrev M := XQ → Rho → KE → Bool
structure KS where
  nx : Rho → Bool
  rt : W → Bool
  bk : Rho → Bool := fun _ => false
  ct : Rho → Bool := fun _ => false
abbrev MS := XQ → Rho → KS → Bool

theorem sub_seqL {K : PySem.W.Frag} {H H' : Hp} (s : ∀ b o, H b = some o → H' b = some o) {p : Addr} {vs : List V} (h : SqL K H p vs) : SqL K H' p vs := by
  obtain (h | ⟨o, h⟩) | h := h
  · exact Or.inl (Or.inl (s _ _ h))
  · exact Or.inl (Or.inr ⟨o, s _ _ h⟩)
  · exact Or.inr h
theorem sub_seqT {K : PySem.W.Frag} {H H' : Hp} (s : ∀ b o, H b = some o → H' b = some o) {p : Addr} {vs : List V} (h : SqT K H p vs) : SqT K H' p vs := by
  obtain (h | ⟨o, h⟩) | h := h
  · exact Or.inl (Or.inl (s _ _ h))
  · exact Or.inl (Or.inr ⟨o, s _ _ h⟩)
  · exact Or.inr h
mutual
/-- the value stands for this data -/
inductive Dq (K : PySem.W.Frag) (H : Hp) : V → PyData → Prop
  | non : Dq K H .non .none
  | bl (b : Bool) : Dq K H (.bl b) (.bool b)
  | int (i : Int) : Dq K H (.int i) (.int i)
  | str (z : Str) : Dq K H (.str z) (.str z)
  | lst {p : Addr} {vs : List V} {xs : List PyData} : H p = some (.lst vs) → DqA K H vs xs → Dq K H (.ref p) (.list xs)
  | tup {p : Addr} {vs : List V} {xs : List PyData} : SqT K H p vs → DqA K H vs xs → Dq K H (.ref p) (.tuple xs)
inductive DqA (K : PySem.W.Frag) (H : Hp) : List V → List PyData → Prop
  | nil : DqA K H [] []
  | cons {v : V} {vs : List V} {x : PyData} {xs : List PyData} : Dq K H v x → DqA K H vs xs → DqA K H (v :: vs) (x :: xs)
end
mutual
theorem dp_sub {K : PySem.W.Frag} {H H' : Hp} (s : ∀ b o, H b = some o → H' b = some o) : ∀ {v : V} {x : PyData}, Dq K H v x → Dq K H' v x
  | _, _, .non => .non
  | _, _, .bl b => .bl b
  | _, _, .int i => .int i
  | _, _, .str z => .str z
  | _, _, .lst h1 h2 => .lst (s _ _ h1) (dpa_sub s h2)
  | _, _, .tup h1 h2 => .tup (sub_seqT s h1) (dpa_sub s h2)
theorem dpa_sub {K : PySem.W.Frag} {H H' : Hp} (s : ∀ b o, H b = some o → H' b = some o) : ∀ {vs : List V} {xs : List PyData}, DqA K H vs xs → DqA K H' vs xs
  | _, _, .nil => .nil
  | _, _, .cons h1 h2 => .cons (dp_sub s h1) (dpa_sub s h2)
end
mutual
theorem Dq.dp {K : PySem.W.Frag} {H : Hp} : ∀ {v : V} {x : PyData}, Dq K H v x → Dp K H v x
  | _, _, .non => .non
  | _, _, .bl b => .bl b
  | _, _, .int i => .int i
  | _, _, .str z => .str z
  | _, _, .lst h1 h2 => .lst (SqL.of h1) (DqA.dp h2)
  | _, _, .tup h1 h2 => .tup h1 (DqA.dp h2)
theorem DqA.dp {K : PySem.W.Frag} {H : Hp} : ∀ {vs : List V} {xs : List PyData}, DqA K H vs xs → DpAll K H vs xs
  | _, _, .nil => .nil
  | _, _, .cons h1 h2 => .cons (Dq.dp h1) (DqA.dp h2)
end
theorem DqA.length {K : PySem.W.Frag} {H : Hp} : ∀ {vs : List V} {xs : List PyData}, DqA K H vs xs → vs.length = xs.length
  | _, _, .nil => rfl
  | _, _, .cons _ q => by rw [List.length_cons, List.length_cons, q.length]
theorem DqA.get {K : PySem.W.Frag} {H : Hp} : ∀ {vs : List V} {xs : List PyData} {i : Nat} {x : PyData}, DqA K H vs xs → xs[i]? = some x → ∃ v, vs[i]? = some v ∧ Dq K H v x
  | _, _, _, _, .nil, e => by simp at e  -- none
  | _, _, 0, _, .cons h _, e => by simp at e; subst e; exact ⟨_, rfl, h⟩
  | _, _, i + 1, x, .cons _ h, e => by
    obtain ⟨v, h1, h2⟩ := DqA.get (i := i) (x := x) h (by simpa using e)
    exact ⟨v, by simpa using h1, h2⟩
theorem DqA.append {K : PySem.W.Frag} {H : Hp} : ∀ {vs ws : List V} {xs ys : List PyData}, DqA K H vs xs → DqA K H ws ys → DqA K H (vs ++ ws) (xs ++ ys)
  | _, _, _, _, .nil, t => t
  | _, _, _, _, .cons h q, t => .cons h (DqA.append q t)
theorem DqA.take {K : PySem.W.Frag} {H : Hp} : ∀ {vs : List V} {xs : List PyData} (n : Nat), DqA K H vs xs → DqA K H (vs.take n) (xs.take n)
  | _, _, 0, _ => .nil
  | _, _, _ + 1, .nil => .nil
  | _, _, n + 1, .cons h q => .cons h (DqA.take n q)
theorem DqA.drop {K : PySem.W.Frag} {H : Hp} : ∀ {vs : List V} {xs : List PyData} (n : Nat), DqA K H vs xs → DqA K H (vs.drop n) (xs.drop n)
  | _, _, 0, h => h
  | _, _, _ + 1, .nil => .nil
  | _, _, n + 1, .cons _ q => DqA.drop n q
theorem DqA.reverse {K : PySem.W.Frag} {H : Hp} : ∀ {vs : List V} {xs : List PyData}, DqA K H vs xs → DqA K H vs.reverse xs.reverse
  | _, _, .nil => .nil
  | _, _, .cons h q => by
    rw [List.reverse_cons]; rw [List.reverse_cons]
    exact DqA.append (DqA.reverse q) (.cons h .nil)

/-- the names of a spool's parts -/
def spNames : List Str := ["cells", "next", "rest", "turn"]
/-- the spool at a: its cells, and three numbers -/
def SpOk (a : Addr) (H0 H : Hp) (nm : List Str) : Prop := ∃ (l : Addr) (ns : List Int) (p r t : Int) (k1 k2 k3 k4 : Str), (nm = [k1, k2, k3, k4] ∧ [k1, k2, k3, k4] = spNames) ∧
  H a = some (.dK [(Sum.inr k1, .ref l), (Sum.inr k2, .int p), (Sum.inr k3, .int r), (Sum.inr k4, .int t)]) ∧ H0 l = some (.lst (ns.map V.int))
theorem SpOk.sub {a : Addr} {H0 H0' H : Hp} {nm : List Str} (s : ∀ b o, H0 b = some o → H0' b = some o) : SpOk a H0 H nm → SpOk a H0' H nm := fun ⟨l, ns, p, r, t, k1, k2, k3, k4, h1, h2, h3⟩ => ⟨l, ns, p, r, t, k1, k2, k3, k4, h1, h2, s _ _ h3⟩

/-- where one stands: the written part, the spool, its names, the heap at the entry, the part of it that no one changes -/
structure G where
  K : PySem.W.Frag
  a : Addr
  nm : List Str
  B0 : Hp
  B : Hp
  lv : Nat

def RW (K : PySem.W.Frag) (a : Addr) (H0 : Hp) (v : V) : W → Prop
  | .d x => Dq K H0 v x
  | .sp => v = .ref a

structure Rel (g : G) (H0 : Hp) (ow : Nat → Addr) (r : Rho) (st : L2.St) (H : Hp) : Prop where
  sub : ∀ b o, H0 b = some o → H b = some o
  sp : SpOk g.a H0 H g.nm
  spn : H0 g.a = none
  b0 : ∀ b o, g.B0 b = some o → H0 b = some o
  bb : ∀ b o, b ≠ g.a → g.B b = some o → H b = some o
  nf : ∀ b o, b ≠ g.a → g.B b = some o → g.B0 b = none → H0 b = none
  len : r.length = st.length
  val : ∀ (i : Nat) (w : W), r[i]? = some (S.val w) → ∃ v, st[i]? = some (some v) ∧ RW g.K g.a H0 v w
  own : ∀ (i : Nat) (xs : List PyData), r[i]? = some (S.own xs) → st[i]? = some (some (.ref (ow i))) ∧ H0 (ow i) = none ∧ g.B (ow i) = none ∧ ow i ≠ g.a ∧ ∃ vs, H (ow i) = some (.lst vs) ∧ DqA g.K H0 vs xs
  dis : ∀ (i j : Nat) (xs ys : List PyData), r[i]? = some (S.own xs) → r[j]? = some (S.own ys) → i ≠ j → ow i ≠ ow j

/-- no slot's own list stands at b -/
def NotOwn (ow : Nat → Addr) (r : Rho) (b : Addr) : Prop := ∀ (i : Nat) (ys : List PyData), r[i]? = some (S.own ys) → ow i ≠ b

/-- a list that is frozen at p -/
def Fz (K : PySem.W.Frag) (H0 : Hp) (p : Addr) (xs : List PyData) : Prop := ∃ vs, H0 p = some (.lst vs) ∧ DqA K H0 vs xs
theorem Fz.sub {K : PySem.W.Frag} {H H' : Hp} (s : ∀ b o, H b = some o → H' b = some o) {p : Addr} {xs : List PyData} : Fz K H p xs → Fz K H' p xs := fun ⟨vs, h1, h2⟩ => ⟨vs, s _ _ h1, dpa_sub s h2⟩
theorem Fz.dp {K : PySem.W.Frag} {H : Hp} {p : Addr} {xs : List PyData} : Fz K H p xs → Dq K H (.ref p) (.list xs) := fun ⟨_, h1, h2⟩ => .lst h1 h2
/-- from one moment of an expression to a later one -/
structure Ste (g : G) (ow : Nat → Addr) (H0 : Hp) (r : Rho) (H : Hp) (H0' : Hp) (r' : Rho) (H' : Hp) : Prop where
  s0 : ∀ b o, H0 b = some o → H0' b = some o
  sh : ∀ b o, b ≠ g.a → H b = some o → H' b = some o
  nf : ∀ b o, b ≠ g.a → H b = some o → H0 b = none → NotOwn ow r b → H0' b = none
  ro : ∀ i : Nat, r'[i]? = r[i]? ∨ ∃ xs, r[i]? = some (S.own xs) ∧ r'[i]? = some (S.val (.d (.list xs))) ∧ Fz g.K H0' (ow i) xs

def RR (g : G) (H0 : Hp) (ow : Nat → Addr) (r : Rho) (H : Hp) (v : V) : R → Prop
  | .val w => RW g.K g.a H0 v w
  | .fr xs => ∃ p vs, v = .ref p ∧ H0 p = none ∧ g.B p = none ∧ p ≠ g.a ∧ NotOwn ow r p ∧ H p = some (.lst vs) ∧ DqA g.K H0 vs xs
  | .pk i xs => v = .ref (ow i) ∧ ow i ≠ g.a ∧ (∃ vs, H (ow i) = some (.lst vs) ∧ DqA g.K H0 vs xs) ∧ (r[i]? = some (S.own xs) ∨ Fz g.K H0 (ow i) xs)

section
variable {g : G} {ow : Nat → Addr} {H0 H0' H0'' : Hp} {r r' r'' : Rho} {H H' H'' : Hp} {st : L2.St} {v : V}
theorem Ste.refl : Ste g ow H0 r H H0 r H := ⟨fun _ _ h => h, fun _ _ _ h => h, fun _ _ _ _ h _ => h, fun _ => .inl rfl⟩
theorem Ste.own (s : Ste g ow H0 r H H0' r' H') {i : Nat} {ys : List PyData} (h : r'[i]? = some (S.own ys)) : r[i]? = some (S.own ys) := by
  rcases s.ro i with q | ⟨xs, _, q, _⟩
  · rw [← q]; exact h
  · rw [h] at q; cases q
theorem Ste.trans (s : Ste g ow H0 r H H0' r' H') (t : Ste g ow H0' r' H' H0'' r'' H'') : Ste g ow H0 r H H0'' r'' H'' where
  s0 b o h := t.s0 b o (s.s0 b o h)
  sh b o n h := t.sh b o n (s.sh b o n h)
  nf b o n h1 h2 h3 := t.nf b o n (s.sh b o n h1) (s.nf b o n h1 h2 h3) fun i ys q => h3 i ys (s.own q)
  ro i := by
    rcases t.ro i with q | ⟨xs, q1, q2, q3⟩
    · rw [q]
      rcases s.ro i with z | ⟨xs, z1, z2, z3⟩
      · exact .inl z
      · exact .inr ⟨xs, z1, z2, z3.sub t.s0⟩
    · exact .inr ⟨xs, s.own q1, q2, q3⟩
theorem RW.keep {K : PySem.W.Frag} {a : Addr} (s : ∀ b o, H0 b = some o → H0' b = some o) : ∀ {w : W}, RW K a H0 v w → RW K a H0' v w
  | .d _, h => dp_sub s h
  | .sp, h => h
theorem RR.keep (s : Ste g ow H0 r H H0' r' H') : ∀ {z : R}, RR g H0 ow r H v z → RR g H0' ow r' H' v z
  | .val _, h => RW.keep s.s0 h
  | .fr _, ⟨p, vs, e, n0, nb, na, no, hp, hd⟩ => ⟨p, vs, e, s.nf p _ na hp n0 no, nb, na, fun i ys q => no i ys (s.own q), s.sh p _ na hp, dpa_sub s.s0 hd⟩
  | .pk i xs, ⟨e, na, ⟨vs, hp, hd⟩, h⟩ => by
    refine ⟨e, na, ⟨vs, s.sh _ _ na hp, dpa_sub s.s0 hd⟩, ?_⟩
    rcases h with h | h
    · rcases s.ro i with q | ⟨ys, q1, _, q3⟩
      · exact .inl (q.trans h)
      · rw [h] at q1
        cases q1
        exact .inr q3
    · exact .inr (h.sub s.s0)

/-- the data of a result -/
def R.dat : R → Option PyData
  | .val (.d x) => some x
  | .val .sp => none
  | .fr xs => some (.list xs)
  | .pk _ xs => some (.list xs)
theorem RR.dp (e : Rel g H0 ow r st H) : ∀ {z : R} {x : PyData}, RR g H0 ow r H v z → z.dat = some x → Dq g.K H v x
  | .val (.d _), _, h, q => by cases q; exact dp_sub e.sub h
  | .val .sp, _, _, q => by cases q
  | .fr _, _, ⟨_, _, ev, _, _, _, _, hp, hd⟩, q => by cases q; rw [ev]; exact .lst hp (dpa_sub e.sub hd)
  | .pk _ _, _, ⟨ev, _, ⟨_, hp, hd⟩, _⟩, q => by cases q; rw [ev]; exact .lst hp (dpa_sub e.sub hd)
/-- the items of a list, frozen -/
theorem RR.items (e : Rel g H0 ow r st H) : ∀ {z : R} {xs : List PyData}, RR g H0 ow r H v z → z.dat = some (.list xs) → ∃ p vs, v = .ref p ∧ H p = some (.lst vs) ∧ DqA g.K H0 vs xs
  | .val (.d _), _, h, q => by
    cases q
    cases (show Dq g.K H0 v _ from h) with
    | lst h1 h2 => exact ⟨_, _, rfl, e.sub _ _ h1, h2⟩
  | .val .sp, _, _, q => by cases q
  | .fr _, _, ⟨p, vs, ev, _, _, _, _, hp, hd⟩, q => by cases q; exact ⟨p, vs, ev, hp, hd⟩
  | .pk _ _, _, ⟨ev, _, ⟨vs, hp, hd⟩, _⟩, q => by cases q; exact ⟨_, vs, ev, hp, hd⟩
/-- a result that isn't a list is frozen data -/
theorem RR.froz : ∀ {z : R} {x : PyData}, RR g H0 ow r H v z → z.dat = some x → (∀ xs, x ≠ .list xs) → Dq g.K H0 v x
  | .val (.d _), _, h, q, _ => by cases q; exact h
  | .val .sp, _, _, q, _ => by cases q
  | .fr _, _, _, q, n => by cases q; exact absurd rfl (n _)
  | .pk _ _, _, _, q, n => by cases q; exact absurd rfl (n _)
/-- a new object, not owned, is frozen -/
theorem Rel.freeze (e : Rel g H0 ow r st H) {p : Addr} {o : HO} (hp : H p = some o) (n0 : H0 p = none) (nb : g.B p = none) (na : p ≠ g.a) (no : NotOwn ow r p) :
    Rel g (upd H0 p o) ow r st H ∧ ∀ b u, H0 b = some u → upd H0 p o b = some u := by
  have s : ∀ b u, H0 b = some u → upd H0 p o b = some u := fun b u q => by rw [upd_ne (ne_of_none q n0)]; exact q
  refine ⟨⟨fun b u q => ?_, e.sp.sub s, by rw [upd_ne (Ne.symm na)]; exact e.spn, fun b u q => s b u (e.b0 b u q), e.bb, fun b u n h1 h2 => ?_, e.len, fun i w q => ?_, fun i xs q => ?_, e.dis⟩, s⟩
  · by_cases c : b = p
    · subst c; rw [upd_same] at q; cases q; exact hp
    · rw [upd_ne c] at q; exact e.sub b u q
  · have c : b ≠ p := fun z => by rw [z, nb] at h1; cases h1
    rw [upd_ne c]; exact e.nf b u n h1 h2
  · obtain ⟨v, h1, h2⟩ := e.val i w q
    exact ⟨v, h1, h2.keep s⟩
  · obtain ⟨h1, h2, h3, h4, vs, h5, h6⟩ := e.own i xs q
    exact ⟨h1, by rw [upd_ne (no i xs q)]; exact h2, h3, h4, vs, h5, dpa_sub s h6⟩
/-- the state behind a new object -/
theorem Rel.new (e : Rel g H0 ow r st H) {p : Addr} {o : HO} (hp : H p = none) : Rel g H0 ow r st (upd H p o) ∧ H0 p = none ∧ g.B p = none ∧ p ≠ g.a ∧ NotOwn ow r p ∧ Ste g ow H0 r H H0 r (upd H p o) := by
  have n0 : H0 p = none := by
    cases q : H0 p with
    | none => rfl
    | some u => rw [e.sub p u q] at hp; cases hp
  have na : p ≠ g.a := fun z => by
    obtain ⟨_, _, _, _, _, _, _, _, _, _, h, _⟩ := e.sp
    rw [← z, hp] at h; cases h
  have nb : g.B p = none := by
    cases q : g.B p with
    | none => rfl
    | some u => rw [e.bb p u na q] at hp; cases hp
  have no : NotOwn ow r p := fun i ys q z => by
    obtain ⟨_, _, _, _, vs, h5, _⟩ := e.own i ys q
    rw [z, hp] at h5; cases h5
  have ne : ∀ b u, H b = some u → b ≠ p := fun b u q => ne_of_none q hp
  refine ⟨⟨fun b u q => ?_, ?_, e.spn, e.b0, fun b u n q => ?_, e.nf, e.len, e.val, fun i xs q => ?_, e.dis⟩, n0, nb, na, no, ⟨fun _ _ h => h, fun b u n q => ?_, fun _ _ _ _ h _ => h, fun _ => .inl rfl⟩⟩
  · rw [upd_ne (ne b u (e.sub b u q))]; exact e.sub b u q
  · obtain ⟨l, ns, x1, x2, x3, k1, k2, k3, k4, hn, h1, h2⟩ := e.sp
    exact ⟨l, ns, x1, x2, x3, k1, k2, k3, k4, hn, by rw [upd_ne (ne _ _ h1)]; exact h1, h2⟩
  · rw [upd_ne (ne b u (e.bb b u n q))]; exact e.bb b u n q
  · obtain ⟨h1, h2, h3, h4, vs, h5, h6⟩ := e.own i xs q
    exact ⟨h1, h2, h3, h4, vs, by rw [upd_ne (ne _ _ h5)]; exact h5, h6⟩
  · rw [upd_ne (ne b u q)]; exact q
/-- .. a new tuple of frozen things -/
theorem Rel.newT (e : Rel g H0 ow r st H) {p : Addr} {vs : List V} {xs : List PyData} (hp : H p = none) (hd : DqA g.K H0 vs xs) :
    Rel g (upd H0 p (.tup vs)) ow r st (upd H p (.tup vs)) ∧ Ste g ow H0 r H (upd H0 p (.tup vs)) r (upd H p (.tup vs)) ∧ Dq g.K (upd H0 p (.tup vs)) (.ref p) (.tuple xs) := by
  obtain ⟨e1, n0, nb, na, no, s1⟩ := e.new (o := .tup vs) hp
  obtain ⟨e2, s2⟩ := e1.freeze upd_same n0 nb na no
  refine ⟨e2, ⟨s2, s1.sh, fun b u n h1 h2 _ => ?_, fun _ => .inl rfl⟩, .tup (SqT.of upd_same) (dpa_sub s2 hd)⟩
  rw [upd_ne (ne_of_none h1 hp)]; exact h2
/-- .. a new list of frozen things -/
theorem Rel.newL (e : Rel g H0 ow r st H) {p : Addr} {vs : List V} {xs : List PyData} (hp : H p = none) (hd : DqA g.K H0 vs xs) :
    Rel g H0 ow r st (upd H p (.lst vs)) ∧ Ste g ow H0 r H H0 r (upd H p (.lst vs)) ∧ RR g H0 ow r (upd H p (.lst vs)) (.ref p) (.fr xs) := by
  obtain ⟨e1, n0, nb, na, no, s1⟩ := e.new (o := .lst vs) hp
  exact ⟨e1, s1, p, vs, rfl, n0, nb, na, no, upd_same, hd⟩

/-- what a result is worth where it is kept; an own list is given up -/
def R.esc : R → Rho → W × Rho
  | .val w, r => (w, r)
  | .fr xs, r => (.d (.list xs), r)
  | .pk i xs, r => (.d (.list xs), match r[i]? with
    | some (S.own _) => r.set i (.val (.d (.list xs)))
    | _ => r)
def NewOf (H : Hp) (v : V) : R → Prop
  | .fr _ => ∀ p, v = .ref p → H p = none
  | _ => True
/-- what holds behind an expression -/
structure Pst (g : G) (ow : Nat → Addr) (st : L2.St) (H0 : Hp) (r : Rho) (H : Hp) (H0' : Hp) (r' : Rho) (H' : Hp) (v : V) (z : R) : Prop where
  e : Rel g H0' ow r' st H'
  s : Ste g ow H0 r H H0' r' H'
  rr : RR g H0' ow r' H' v z
  nw : NewOf H v z
/-- .. where the result is kept -/
structure Pse (g : G) (ow : Nat → Addr) (st : L2.St) (H0 : Hp) (r : Rho) (H : Hp) (H0' : Hp) (r' : Rho) (H' : Hp) (v : V) (w : W) : Prop where
  e : Rel g H0' ow r' st H'
  s : Ste g ow H0 r H H0' r' H'
  rw : RW g.K g.a H0' v w
theorem Pst.esc {z : R} (p : Pst g ow st H0 r H H0' r' H' v z) : ∃ H0'', Pse g ow st H0 r H H0'' (z.esc r').2 H' v (z.esc r').1 := by
  obtain ⟨e, s, rr, nw⟩ := p
  cases z with
  | val w => exact ⟨H0', e, s, rr⟩
  | fr xs =>
    obtain ⟨p, vs, ev, n0, nb, na, no, hp, hd⟩ := rr
    have np : H p = none := nw p ev
    obtain ⟨e2, s2⟩ := e.freeze hp n0 nb na no
    refine ⟨_, e2, ⟨fun b u q => s2 b u (s.s0 b u q), s.sh, fun b u n h1 h2 h3 => ?_, fun i => ?_⟩, ?_⟩
    · rw [upd_ne (ne_of_none h1 np)]; exact s.nf b u n h1 h2 h3
    · rcases s.ro i with q | ⟨ys, q1, q2, q3⟩
      · exact .inl q
      · exact .inr ⟨ys, q1, q2, q3.sub s2⟩
    · rw [ev]; exact Dq.lst upd_same (dpa_sub s2 hd)
  | pk i xs =>
    obtain ⟨ev, na, ⟨vs, hp, hd⟩, h⟩ := rr
    rcases h with h | h
    · have el : (R.esc (.pk i xs) r') = (.d (.list xs), r'.set i (.val (.d (.list xs)))) := by
        show (W.d (.list xs), match r'[i]? with | some (S.own _) => r'.set i (.val (.d (.list xs))) | _ => r') = _
        rw [h]
      rw [el]
      obtain ⟨h1, h2, h3, h4, vs2, h5, h6⟩ := e.own i xs h
      rw [hp] at h5
      cases h5
      have hi : i < r'.length := (List.getElem?_eq_some_iff.mp h).1
      have s2 : ∀ b u, H0' b = some u → upd H0' (ow i) (.lst vs) b = some u := fun b u q => by rw [upd_ne (ne_of_none q h2)]; exact q
      have hD : Fz g.K (upd H0' (ow i) (.lst vs)) (ow i) xs := ⟨vs, upd_same, dpa_sub s2 hd⟩
      have own' : ∀ {j : Nat} {ys : List PyData}, (r'.set i (S.val (.d (.list xs))))[j]? = some (S.own ys) → j ≠ i ∧ r'[j]? = some (S.own ys) := fun {j ys} q => by
        by_cases c : i = j
        · subst c; rw [List.getElem?_set_self hi] at q; cases q
        · rw [List.getElem?_set_ne c] at q; exact ⟨Ne.symm c, q⟩
      refine ⟨upd H0' (ow i) (.lst vs), ⟨fun b u q => ?_, e.sp.sub s2, by rw [upd_ne (Ne.symm h4)]; exact e.spn, fun b u q => s2 b u (e.b0 b u q), e.bb, fun b u n q1 q2 => ?_, by rw [List.length_set]; exact e.len, fun j w q => ?_, fun j ys q => ?_, fun j l ys zs q1 q2 n => e.dis j l ys zs (own' q1).2 (own' q2).2 n⟩,
        ⟨fun b u q => s2 b u (s.s0 b u q), s.sh, fun b u n q1 q2 q3 => ?_, fun j => ?_⟩, by rw [ev]; exact hD.dp⟩
      · by_cases c : b = ow i
        · subst c; rw [upd_same] at q; cases q; exact hp
        · rw [upd_ne c] at q; exact e.sub b u q
      · have c : b ≠ ow i := fun z => by rw [z, h3] at q1; cases q1
        rw [upd_ne c]; exact e.nf b u n q1 q2
      · by_cases c : i = j
        · subst c
          rw [List.getElem?_set_self hi] at q
          cases q
          exact ⟨_, h1, hD.dp⟩
        · rw [List.getElem?_set_ne c] at q
          obtain ⟨v', z1, z2⟩ := e.val j w q
          exact ⟨v', z1, z2.keep s2⟩
      · obtain ⟨c, q'⟩ := own' q
        obtain ⟨z1, z2, z3, z4, us, z5, z6⟩ := e.own j ys q'
        exact ⟨z1, by rw [upd_ne (e.dis j i ys xs q' h c)]; exact z2, z3, z4, us, z5, dpa_sub s2 z6⟩
      · rw [upd_ne (fun z => q3 i xs (s.own h) z.symm)]; exact s.nf b u n q1 q2 q3
      · by_cases c : i = j
        · subst c
          exact .inr ⟨xs, s.own h, List.getElem?_set_self hi, hD⟩
        · rw [List.getElem?_set_ne c]
          rcases s.ro j with q | ⟨ys, q1, q2, q3⟩
          · exact .inl q
          · exact .inr ⟨ys, q1, q2, q3.sub s2⟩
    · have h0 : ∀ ys, r'[i]? ≠ some (S.own ys) := fun ys q => by
        obtain ⟨_, h2, _⟩ := e.own i ys q
        obtain ⟨us, h3, _⟩ := h
        rw [h2] at h3
        cases h3
      have el : (R.esc (.pk i xs) r') = (.d (.list xs), r') := by
        show (W.d (.list xs), match r'[i]? with | some (S.own _) => r'.set i (.val (.d (.list xs))) | _ => r') = _
        cases c : r'[i]? with
        | none => rfl
        | some q =>
          cases q with
          | un => rfl
          | val w => rfl
          | own ys => exact absurd c (h0 ys)
      rw [el]
      exact ⟨H0', e, s, by rw [ev]; exact h.dp⟩
end
end Pz

set_option Elab.async false
set_option linter.all false
set_option maxRecDepth 100000
set_option maxHeartbeats 1900000
namespace Pz
open PySem L2

/-- the context fits -/
structure XOk (X : Cx) (g : G) (xq : XQ) : Prop where
  K : X.K = g.K
  calm : X.calm = true
  rm : Room g.lv X.A
theorem XOk.hu {X : Cx} {g : G} {xq : XQ} (x : XOk X g xq) : X.A.units + 64 < cLine := x.rm.units

/-- an expression is read as m -/
structure SE (X : Cx) (g : G) (e : Expr) (m : M) : Prop where
  run : ∀ (xq : XQ) (ow : Nat → Addr) (H0 : Hp) (r : Rho) (st : L2.St) (H : Hp) (k : KE), XOk X g xq → Rel g H0 ow r st H → m xq r k = true → ∀ Q : VK, (∀ v z H0' r' H', Pst g ow st H0 r H H0' r' H' v z → k z r' = true → Q v H') → wE X e st H Q
instance {X : Cx} {g : G} {e : Expr} {m : M} : CoeFun (SE X g e m) (fun _ => ∀ (xq : XQ) (ow : Nat → Addr) (H0 : Hp) (r : Rho) (st : L2.St) (H : Hp) (k : KE), XOk X g xq → Rel g H0 ow r st H → m xq r k = true → ∀ Q : VK, (∀ v z H0' r' H', Pst g ow st H0 r H H0' r' H' v z → k z r' = true → Q v H') → wE X e st H Q) := ⟨fun h => h.run⟩
abbrev MT := XQ → Rho → (Bool → Rho → Bool) → Bool
/-- a test is read as m -/
structure STt (X : Cx) (g : G) (e : Expr) (m : MT) : Prop where
  run : ∀ (xq : XQ) (ow : Nat → Addr) (H0 : Hp) (r : Rho) (st : L2.St) (H : Hp) (k : Bool → Rho → Bool), XOk X g xq → Rel g H0 ow r st H → m xq r k = true → ∀ Q : Bool → Hp → Prop, (∀ b H0' r' H', Rel g H0' ow r' st H' → Ste g ow H0 r H H0' r' H' → k b r' = true → Q b H') → wT X e st H Q
instance {X : Cx} {g : G} {e : Expr} {m : MT} : CoeFun (STt X g e m) (fun _ => ∀ (xq : XQ) (ow : Nat → Addr) (H0 : Hp) (r : Rho) (st : L2.St) (H : Hp) (k : Bool → Rho → Bool), XOk X g xq → Rel g H0 ow r st H → m xq r k = true → ∀ Q : Bool → Hp → Prop, (∀ b H0' r' H', Rel g H0' ow r' st H' → Ste g ow H0 r H H0' r' H' → k b r' = true → Q b H') → wT X e st H Q) := ⟨fun h => h.run⟩

section
variable {X : Cx} {g : G} {ow : Nat → Addr} {H0 H0' H0'' : Hp} {r r' r'' : Rho} {H H' H'' : Hp} {st : L2.St} {v v1 v2 : V} {z z1 z2 : R} {e a b : Expr} {ma mb : M} {pos : Pos}

theorem Ste.fresh (s : Ste g ow H0 r H H0' r' H') {p : Addr} (h : H' p = none) (n : p ≠ g.a) : H p = none := by
  cases q : H p with
  | none => rfl
  | some o => rw [s.sh p o n q] at h; cases h
/-- nothing changed but what is said -/
theorem Pst.stay (e : Rel g H0 ow r st H) {w : W} (h : RW g.K g.a H0 v w) : Pst g ow st H0 r H H0 r H v (.val w) := ⟨e, Ste.refl, h, trivial⟩
theorem Pst.dat (e : Rel g H0 ow r st H) {x : PyData} (h : Dq g.K H0 v x) : Pst g ow st H0 r H H0 r H v (.val (.d x)) := .stay (w := .d x) e h
theorem Pst.bl (e : Rel g H0 ow r st H) (b : Bool) : Pst g ow st H0 r H H0 r H (.bl b) (.val (.d (.bool b))) := .dat e (Dq.bl b)
theorem Pst.int (e : Rel g H0 ow r st H) (i : Int) : Pst g ow st H0 r H H0 r H (.int i) (.val (.d (.int i))) := .dat e (Dq.int i)
theorem Pst.str (e : Rel g H0 ow r st H) (x : Str) : Pst g ow st H0 r H H0 r H (.str x) (.val (.d (.str x))) := .dat e (Dq.str x)
theorem Pst.newL (e : Rel g H0 ow r st H) {p : Addr} {vs : List V} {xs : List PyData} (hp : H p = none) (hd : DqA g.K H0 vs xs) : Pst g ow st H0 r H H0 r (upd H p (.lst vs)) (.ref p) (.fr xs) := by
  obtain ⟨h1, h2, h3⟩ := e.newL hp hd
  exact ⟨h1, h2, h3, fun q eq => by cases eq; exact hp⟩
theorem Pst.newT (e : Rel g H0 ow r st H) {p : Addr} {vs : List V} {xs : List PyData} (hp : H p = none) (hd : DqA g.K H0 vs xs) : Pst g ow st H0 r H (upd H0 p (.tup vs)) r (upd H p (.tup vs)) (.ref p) (.val (.d (.tuple xs))) := by
  obtain ⟨h1, h2, h3⟩ := e.newT hp hd
  exact ⟨h1, h2, h3, trivial⟩
/-- behind an earlier moment -/
theorem Pst.after (s : Ste g ow H0 r H H0' r' H') (p : Pst g ow st H0' r' H' H0'' r'' H'' v z) : Pst g ow st H0 r H H0'' r'' H'' v z := by
  refine ⟨p.e, s.trans p.s, p.rr, ?_⟩
  cases z with
  | val w => trivial
  | pk i xs => trivial
  | fr xs =>
    obtain ⟨q, vs, ev, _, _, na, _⟩ := p.rr
    exact fun q' ev' => s.fresh (p.nw q' ev') (by rw [ev] at ev'; cases ev'; exact na)

/-! ### constants, names -/
def mC (d : PyData) : M := fun _ r k => k (.val (.d d)) r
theorem se_c {c : V} {d : PyData} (h : PE X e (tC c)) (hd : ∀ (K : PySem.W.Frag) (hp : Hp), Dq K hp c d) : SE X g e (mC d) := .mk fun xq ow H0 r st H k xo er hm Q post => wE_of h (post _ _ _ _ _ (.dat er (hd _ _)) hm)
theorem se_int {i : Int} {j} : SE X g (.Constant (.int i) j pos) (mC (.int i)) := se_c pe_int fun _ _ => .int i
theorem se_bl {i : Bool} {j} : SE X g (.Constant (.bool i) j pos) (mC (.bool i)) := se_c pe_bl fun _ _ => .bl i
theorem se_non {j} : SE X g (.Constant .none j pos) (mC .none) := se_c pe_non fun _ _ => .non
theorem se_str {x : Str} {j} : SE X g (.Constant (.str x) j pos) (mC (.str x)) := se_c pe_str fun _ _ => .str x
def mV (i : Nat) : M := fun _ r k => match r[i]? with
  | some (S.val w) => k (.val w) r
  | some (S.own xs) => k (.pk i xs) r
  | _ => false
theorem se_var {i : Nat} {x : Str} (h : PE X (.Name x pos) (tVar i)) : SE X g (.Name x pos) (mV i) := .mk fun xq ow H0 r st H k xo er hm Q post => by
  unfold mV at hm
  refine wE_of h ?_
  split at hm
  · rename_i w hw
    obtain ⟨v, h1, h2⟩ := er.val i w hw
    exact ⟨v, h1, post _ _ _ _ _ (.stay er h2) hm⟩
  · rename_i xs hw
    obtain ⟨h1, h2, h3, h4, vs, h5, h6⟩ := er.own i xs hw
    exact ⟨_, h1, post _ (.pk i xs) _ _ _ ⟨er, Ste.refl, ⟨rfl, h4, ⟨vs, h5, h6⟩, .inl hw⟩, trivial⟩ hm⟩
  · cases hm
/-- a constant of the module -/
theorem se_glob {x : Str} {c : V} {d : PyData} (h : PE X (.Name x pos) (tC c)) (hd : ∀ (K : PySem.W.Frag) (hp : Hp), Dq K hp c d) : SE X g (.Name x pos) (mC d) := se_c h hd

/-! ### two operands, one operand -/
def mB (f : R → R → Rho → KE → Bool) (ma mb : M) : M := fun xq r k => ma xq r fun y1 r1 => mb xq r1 fun y2 r2 => f y1 y2 r2 k
/-- what is known of an operation -/
def OpB (X : Cx) (g : G) (rr : R2) (f : R → R → Rho → KE → Bool) : Prop := ∀ (xq : XQ) (ow : Nat → Addr) (H0 : Hp) (r : Rho) (st : L2.St) (H : Hp) (k : KE) (v1 v2 : V) (z1 z2 : R), XOk X g xq → Rel g H0 ow r st H → RR g H0 ow r H v1 z1 → RR g H0 ow r H v2 z2 → f z1 z2 r k = true →
  ∀ Q : VK, (∀ v z H0' r' H', Pst g ow st H0 r H H0' r' H' v z → k z r' = true → Q v H') → rr v1 v2 H Q
theorem se_bin {rr : R2} {f : R → R → Rho → KE → Bool} (hp : PE X e (tOp rr (wE X a) (wE X b))) (hf : OpB X g rr f) (ha : SE X g a ma) (hb : SE X g b mb) : SE X g e (mB f ma mb) := .mk fun xq ow H0 r st H k xo er hm Q post => by
  refine wE_of hp ?_
  refine ha xq ow H0 r st H _ xo er hm _ fun v1 z1 H01 r1 H1 p1 hm1 => ?_
  refine hb xq ow H01 r1 st H1 _ xo p1.e hm1 _ fun v2 z2 H02 r2 H2 p2 hm2 => ?_
  exact hf xq ow H02 r2 st H2 k v1 v2 z1 z2 xo p2.e (p1.rr.keep p2.s) p2.rr hm2 Q fun v z H03 r3 H3 p3 hk => post v z H03 r3 H3 (.after (p1.s.trans p2.s) p3) hk
def mU (f : R → Rho → KE → Bool) (ma : M) : M := fun xq r k => ma xq r fun y r1 => f y r1 k
def OpU (X : Cx) (g : G) (rr : V → Hp → VK → Prop) (f : R → Rho → KE → Bool) : Prop := ∀ (xq : XQ) (ow : Nat → Addr) (H0 : Hp) (r : Rho) (st : L2.St) (H : Hp) (k : KE) (v1 : V) (z1 : R), XOk X g xq → Rel g H0 ow r st H → RR g H0 ow r H v1 z1 → f z1 r k = true →
  ∀ Q : VK, (∀ v z H0' r' H', Pst g ow st H0 r H H0' r' H' v z → k z r' = true → Q v H') → rr v1 H Q
theorem se_un {rr : V → Hp → VK → Prop} {f : R → Rho → KE → Bool} (hp : PE X e (fun st hp q => wE X a st hp fun x h1 => rr x h1 q)) (hf : OpU X g rr f) (ha : SE X g a ma) : SE X g e (mU f ma) := .mk fun xq ow H0 r st H k xo er hm Q post => by
  refine wE_of hp ?_
  refine ha xq ow H0 r st H _ xo er hm _ fun v1 z1 H01 r1 H1 p1 hm1 => ?_
  exact hf xq ow H01 r1 st H1 k v1 z1 xo p1.e p1.rr hm1 Q fun v z H03 r3 H3 p3 hk => post v z H03 r3 H3 (.after p1.s p3) hk

/-! ### arithmetic -/
def isL (x : PyData) : Bool := match x with
  | .list _ => true
  | _ => false
def fI (f : Int → Int → PyData) (ok : Int → Int → Bool) : R → R → Rho → KE → Bool := fun z1 z2 r k => match z1.dat, z2.dat with
  | some (.int i), some (.int j) => ok i j && k (.val (.d (f i j))) r
  | _, _ => false
theorem RR.int (er : Rel g H0 ow r st H) {i : Int} (h : RR g H0 ow r H v z) (e : z.dat = some (.int i)) : v = .int i := by
  cases h.dp er e; rfl
theorem RR.str (er : Rel g H0 ow r st H) {x : Str} (h : RR g H0 ow r H v z) (e : z.dat = some (.str x)) : v = .str x := by
  cases h.dp er e; rfl
theorem RR.bl (er : Rel g H0 ow r st H) {x : Bool} (h : RR g H0 ow r H v z) (e : z.dat = some (.bool x)) : v = .bl x := by
  cases h.dp er e; rfl
theorem RR.tup (er : Rel g H0 ow r st H) {xs : List PyData} (h : RR g H0 ow r H v z) (e : z.dat = some (.tuple xs)) : ∃ p vs, v = .ref p ∧ SqT g.K H p vs ∧ DqA g.K H0 vs xs := by
  have q := h.froz e (fun _ q => by cases q)
  cases q with
  | tup h1 h2 => exact ⟨_, _, rfl, sub_seqT er.sub h1, h2⟩
theorem opb_ints {C : Int → Int → Prop} {gv : Int → Int → V} {f : Int → Int → PyData} {ok : Int → Int → Bool} (hc : ∀ i j, ok i j = true → C i j) (hv : ∀ (K : PySem.W.Frag) (hp : Hp) i j, Dq K hp (gv i j) (f i j)) : OpB X g (rI C gv) (fI f ok) := fun xq ow H0 r st H k v1 v2 z1 z2 xo er h1 h2 hm Q post => by
  unfold fI at hm
  split at hm
  · rename_i i j e1 e2
    rw [Bool.and_eq_true] at hm
    exact ⟨i, j, h1.int er e1, h2.int er e2, hc i j hm.1, post _ _ _ _ _ (.dat er (hv _ _ i j)) hm.2⟩
  · cases hm
theorem opb_ints0 {gv : Int → Int → V} {f : Int → Int → PyData} (hv : ∀ (K : PySem.W.Frag) (hp : Hp) i j, Dq K hp (gv i j) (f i j)) : OpB X g (rI0 gv) (fI f fun _ _ => true) := fun xq ow H0 r st H k v1 v2 z1 z2 xo er h1 h2 hm Q post => by
  unfold fI at hm
  split at hm
  · rename_i i j e1 e2
    rw [Bool.true_and] at hm
    exact ⟨i, j, h1.int er e1, h2.int er e2, post _ _ _ _ _ (.dat er (hv _ _ i j)) hm⟩
  · cases hm
def mSub : M → M → M := mB (fI (fun i j => .int (i - j)) fun _ _ => true)
theorem se_sub (ha : SE X g a ma) (hb : SE X g b mb) : SE X g (.BinOp a .Sub b pos) (mSub ma mb) := se_bin (pe_op op_sub peW peW) (opb_ints0 fun _ _ i j => .int _) ha hb
def mMul : M → M → M := mB (fI (fun i j => .int (i * j)) fun i j => (decide (-(2 ^ 64) < i) && decide (i < 2 ^ 64)) || (decide (-(2 ^ 64) < j) && decide (j < 2 ^ 64)))
theorem se_mul (ha : SE X g a ma) (hb : SE X g b mb) : SE X g (.BinOp a .Mult b pos) (mMul ma mb) := se_bin (pe_op op_mul peW peW) (opb_ints (fun i j h => by
  rw [Bool.or_eq_true, Bool.and_eq_true, Bool.and_eq_true] at h
  exact h.elim (fun q => .inl ⟨of_decide_eq_true q.1, of_decide_eq_true q.2⟩) fun q => .inr ⟨of_decide_eq_true q.1, of_decide_eq_true q.2⟩) fun _ _ i j => .int _) ha hb
def mMod : M → M → M := mB (fI (fun i j => .int (i % j)) fun _ j => decide (0 < j))
theorem se_mod (ha : SE X g a ma) (hb : SE X g b mb) : SE X g (.BinOp a .Mod b pos) (mMod ma mb) := se_bin (pe_op op_mod peW peW) (opb_ints (fun i j h => of_decide_eq_true h) fun _ _ i j => .int _) ha hb
def mFdiv : M → M → M := mB (fI (fun i j => .int (i / j)) fun _ j => decide (0 < j) && decide (j < 1073741824))
theorem se_fdiv (ha : SE X g a ma) (hb : SE X g b mb) : SE X g (.BinOp a .FloorDiv b pos) (mFdiv ma mb) := se_bin (pe_op op_fdiv peW peW) (opb_ints (fun i j h => by
  rw [Bool.and_eq_true] at h
  exact ⟨of_decide_eq_true h.1, of_decide_eq_true h.2⟩) fun _ _ i j => .int _) ha hb
def mPow : M → M → M := mB (fI (fun i j => .int (i ^ j.toNat)) fun i j => decide (0 ≤ j) && (decide (j ≤ 1000000) && decide (i.natAbs < 2 ^ 64)))
theorem se_pow (ha : SE X g a ma) (hb : SE X g b mb) : SE X g (.BinOp a .Pow b pos) (mPow ma mb) := se_bin (pe_op op_pow peW peW) (opb_ints (fun i j h => by
  rw [Bool.and_eq_true, Bool.and_eq_true] at h
  exact ⟨of_decide_eq_true h.1, of_decide_eq_true h.2.1, of_decide_eq_true h.2.2⟩) fun _ _ i j => .int _) ha hb
def fNeg : R → Rho → KE → Bool := fun z r k => match z.dat with
  | some (.int i) => k (.val (.d (.int (-i)))) r
  | _ => false
def mNeg : M → M := mU fNeg
theorem se_neg (ha : SE X g a ma) : SE X g (.UnaryOp .USub a pos) (mNeg ma) := se_un (pe_un un_neg peW) (fun xq ow H0 r st H k v1 z1 xo er h1 hm Q post => by
  unfold fNeg at hm
  split at hm
  · rename_i i e1
    exact ⟨i, h1.int er e1, post _ _ _ _ _ (.int er _) hm⟩
  · cases hm) ha

/-! ### + -/
theorem op_or {f : Value → Value → Sem Value} {p q : R2} (h : OpR X f p) (h' : OpR X f q) : OpR X f (fun x y hp k => p x y hp k ∨ q x y hp k) := fun pn s st hp x y v u k iv rx ry z =>
  z.elim (h pn s st hp x y v u k iv rx ry) (h' pn s st hp x y v u k iv rx ry)
def rPlus (K : PySem.W.Frag) : R2 := fun x y hp k => rI0 (fun i j => .int (i + j)) x y hp k ∨ ((∃ i j, x = .str i ∧ y = .str j ∧ i.length + j.length ≤ sizeLine ∧ k (.str (i ++ j)) hp) ∨ (rCat x y hp k ∨ rCatA K x y hp k))
theorem op_plus : OpR X (binaryOp .Add) (rPlus X.K) := op_or op_add (op_or op_add_str (op_or op_cat op_catA))
def fAdd : R → R → Rho → KE → Bool := fun z1 z2 r k => match z1.dat, z2.dat with
  | some (.int i), some (.int j) => k (.val (.d (.int (i + j)))) r
  | some (.str x), some (.str y) => decide (x.length + y.length ≤ sizeLine) && k (.val (.d (.str (x ++ y)))) r
  | some (.list xs), some (.list ys) => decide (xs.length + ys.length ≤ sizeLine) && k (.fr (xs ++ ys)) r
  | some (.tuple xs), some (.tuple ys) => decide (xs.length + ys.length ≤ sizeLine) && k (.val (.d (.tuple (xs ++ ys)))) r
  | _, _ => false
theorem nil_of_len {K : PySem.W.Frag} {hp : Hp} {vs : List V} {xs : List PyData} (h : DqA K hp vs xs) (e : vs = []) : xs = [] := by
  subst e; cases h; rfl
def mAdd : M → M → M := mB fAdd
theorem se_add (ha : SE X g a ma) (hb : SE X g b mb) : SE X g (.BinOp a .Add b pos) (mAdd ma mb) := se_bin (pe_op op_plus peW peW) (fun xq ow H0 r st H k v1 v2 z1 z2 xo er h1 h2 hm Q post => by
  unfold fAdd at hm
  split at hm
  · rename_i i j e1 e2
    exact .inl ⟨i, j, h1.int er e1, h2.int er e2, post _ _ _ _ _ (.int er _) hm⟩
  · rename_i x y e1 e2
    rw [Bool.and_eq_true] at hm
    exact .inr (.inl ⟨x, y, h1.str er e1, h2.str er e2, of_decide_eq_true hm.1, post _ _ _ _ _ (.str er _) hm.2⟩)
  · rename_i xs ys e1 e2
    rw [Bool.and_eq_true] at hm
    obtain ⟨p, vs, ev, hp, hd⟩ := h1.items er e1
    obtain ⟨p', vs', ev', hp', hd'⟩ := h2.items er e2
    refine .inr (.inr (.inl ⟨p, p', vs, vs', ev, ev', hp, hp', by rw [hd.length, hd'.length]; exact of_decide_eq_true hm.1, fun q hq => post _ _ _ _ _ (.newL er hq (hd.append hd')) hm.2⟩))
  · rename_i xs ys e1 e2
    rw [Bool.and_eq_true] at hm
    obtain ⟨p, vs, ev, hp, hd⟩ := h1.tup er e1
    obtain ⟨p', vs', ev', hp', hd'⟩ := h2.tup er e2
    have f1 := h1.froz e1 (fun _ q => by cases q)
    have f2 := h2.froz e2 (fun _ q => by cases q)
    refine .inr (.inr (.inr ⟨p, p', vs, vs', ev, ev', by rw [xo.K]; exact hp, by rw [xo.K]; exact hp', by rw [hd.length, hd'.length]; exact of_decide_eq_true hm.1, fun q => ?_, fun _ q => ?_, fun _ _ q hq => post _ _ _ _ _ (.newT er hq (hd.append hd')) hm.2⟩))
    · have e : xs = [] := nil_of_len hd q
      subst e
      rw [List.nil_append] at hm
      rw [← ev']
      exact post _ _ _ _ _ (.dat er f2) hm.2
    · have e : ys = [] := nil_of_len hd' q
      subst e
      rw [List.append_nil] at hm
      rw [← ev]
      exact post _ _ _ _ _ (.dat er f1) hm.2
  · cases hm) ha hb

/-! ### comparisons -/
theorem se_cmp {op : CmpOp} {rr : R2} {f : R → R → Rho → KE → Bool} (ho : OpR X (compareOp op) rr) (hf : OpB X g rr f) (hk : behindInMarks op b = false) (ha : SE X g a ma) (hb : SE X g b mb) : SE X g (.Compare a [op] [b] pos) (mB f ma mb) := se_bin (pe_cmpR ho peW peW hk) hf ha hb
def tV (m : M) : MT := fun xq r k => m xq r fun z r1 => match z.dat with
  | some (.bool b) => k b r1
  | _ => false
theorem st_cmp {op : CmpOp} {rr : R2} {f : R → R → Rho → KE → Bool} (ho : OpR X (compareOp op) rr) (hf : OpB X g rr f) (hk : behindInMarks op b = false) (ha : SE X g a ma) (hb : SE X g b mb) : STt X g (.Compare a [op] [b] pos) (tV (mB f ma mb)) := .mk fun xq ow H0 r st H k xo er hm Q post => by
  refine wT_of (pt_cmpR ho peW peW hk) ?_
  refine ha xq ow H0 r st H _ xo er hm _ fun v1 z1 H01 r1 H1 p1 hm1 => ?_
  refine hb xq ow H01 r1 st H1 _ xo p1.e hm1 _ fun v2 z2 H02 r2 H2 p2 hm2 => ?_
  refine hf xq ow H02 r2 st H2 _ v1 v2 z1 z2 xo p2.e (p1.rr.keep p2.s) p2.rr hm2 _ fun v z H03 r3 H3 p3 hk => ?_
  split at hk
  · rename_i bb e1
    exact ⟨bb, p3.rr.bl p3.e e1, post _ _ _ _ p3.e ((p1.s.trans p2.s).trans p3.s) hk⟩
  · cases hk
/-- a value that is a truth value, as a test -/
theorem st_val {m : M} (h : ∀ t, PE X e t → PT X e (tB t)) (he : SE X g e m) : STt X g e (tV m) := .mk fun xq ow H0 r st H k xo er hm Q post => by
  refine wT_of (h _ peW) ?_
  refine he xq ow H0 r st H _ xo er hm _ fun v1 z1 H01 r1 H1 p1 hm1 => ?_
  split at hm1
  · rename_i bb e1
    exact ⟨bb, p1.rr.bl p1.e e1, post _ _ _ _ p1.e p1.s hm1⟩
  · cases hm1
def fEq (neg : Bool) : R → R → Rho → KE → Bool := fun z1 z2 r k => match z1.dat, z2.dat with
  | some (.str x), some (.str y) => k (.val (.d (.bool (xor neg (x == y))))) r
  | some x, some y => SeqAt.shaped x && (SeqAt.shaped y && k (.val (.d (.bool (xor neg (PyData.eqv x y))))) r)
  | _, _ => false
def rEqX (K : PySem.W.Frag) : R2 := fun x y hp k => rEq x y hp k ∨ rEqD K x y hp k
def rNeX (K : PySem.W.Frag) : R2 := fun x y hp k => rNe x y hp k ∨ rNeD K x y hp k
theorem op_eqX (hu : X.A.units + 64 < cLine) : OpR X (compareOp .Eq) (rEqX X.K) := op_or op_eq (op_eqD hu)
theorem op_neX (hu : X.A.units + 64 < cLine) : OpR X (compareOp .NotEq) (rNeX X.K) := op_or op_ne (op_neD hu)
theorem opb_eq : OpB X g (rEqX X.K) (fEq false) := fun xq ow H0 r st H k v1 v2 z1 z2 xo er h1 h2 hm Q post => by
  unfold fEq at hm
  split at hm
  · rename_i x y e1 e2
    rw [Bool.false_xor] at hm
    refine .inl ⟨by rw [h1.str er e1, h2.str er e2]; rfl, ?_⟩
    rw [h1.str er e1, h2.str er e2, dec_str]
    exact post _ _ _ _ _ (.bl er _) hm
  · rename_i x y _ e1 e2
    rw [Bool.and_eq_true, Bool.and_eq_true, Bool.false_xor] at hm
    exact .inr ⟨x, y, by rw [xo.K]; exact (h1.dp er e1).dp, by rw [xo.K]; exact (h2.dp er e2).dp, hm.1, hm.2.1, post _ _ _ _ _ (.bl er _) hm.2.2⟩
  · cases hm
theorem opb_ne : OpB X g (rNeX X.K) (fEq true) := fun xq ow H0 r st H k v1 v2 z1 z2 xo er h1 h2 hm Q post => by
  unfold fEq at hm
  split at hm
  · rename_i x y e1 e2
    rw [Bool.true_xor] at hm
    refine .inl ⟨by rw [h1.str er e1, h2.str er e2]; rfl, ?_⟩
    rw [h1.str er e1, h2.str er e2, dec_str]
    exact post _ _ _ _ _ (.bl er _) hm
  · rename_i x y _ e1 e2
    rw [Bool.and_eq_true, Bool.and_eq_true, Bool.true_xor] at hm
    exact .inr ⟨x, y, by rw [xo.K]; exact (h1.dp er e1).dp, by rw [xo.K]; exact (h2.dp er e2).dp, hm.1, hm.2.1, post _ _ _ _ _ (.bl er _) hm.2.2⟩
  · cases hm
end
end Pz

set_option Elab.async false
set_option linter.all false
set_option maxRecDepth 100000
set_option maxHeartbeats 1900000
namespace Pz
open PySem L2
section
variable {X : Cx} {g : G} {ow : Nat → Addr} {H0 H0' H0'' : Hp} {r r' r'' : Rho} {H H' H'' : Hp} {st : L2.St} {v v1 v2 : V} {z z1 z2 : R} {e a b : Expr} {ma mb mc : M} {pos : Pos} {ta tb : MT} {rest : List Expr}

/-! ### orders of ints -/
def fRel (f : Int → Int → Bool) : R → R → Rho → KE → Bool := fI (fun i j => .bool (f i j)) fun _ _ => true
theorem opb_rel {f : Int → Int → Bool} : OpB X g (rI0 fun i j => .bl (f i j)) (fRel f) := opb_ints0 fun _ _ i j => .bl _

/-! ### and, or, not, a if t else b -/
def mAnd (ma mb : M) : M := fun xq r k => ma xq r fun y r1 => match y.dat with
  | some (.bool true) => mb xq r1 k
  | some (.bool false) => k (.val (.d (.bool false))) r1
  | _ => false
def mOr (ma mb : M) : M := fun xq r k => ma xq r fun y r1 => match y.dat with
  | some (.bool false) => mb xq r1 k
  | some (.bool true) => k (.val (.d (.bool true))) r1
  | _ => false
def mNot (ma : M) : M := mU (fun y r k => match y.dat with
  | some (.bool b) => k (.val (.d (.bool (!b)))) r
  | _ => false) ma
theorem se_one {op} (ha : SE X g a ma) : SE X g (.BoolOp op [a] pos) ma := .mk fun xq ow H0 r st H k xo er hm Q post => wE_of (pe_one peW) (ha xq ow H0 r st H k xo er hm Q post)
theorem se_and (ha : SE X g a ma) (hb : SE X g (.BoolOp .And (b :: rest) pos) mb) : SE X g (.BoolOp .And (a :: b :: rest) pos) (mAnd ma mb) := .mk fun xq ow H0 r st H k xo er hm Q post => by
  refine wE_of (pe_and peW peW) ?_
  refine ha xq ow H0 r st H _ xo er hm _ fun v1 z1 H01 r1 H1 p1 hm1 => ?_
  split at hm1
  · rename_i e1
    refine ⟨true, p1.rr.bl p1.e e1, ?_⟩
    rw [if_pos rfl]
    exact hb xq ow H01 r1 st H1 k xo p1.e hm1 Q fun v z H03 r3 H3 p3 hk => post v z H03 r3 H3 (.after p1.s p3) hk
  · rename_i e1
    refine ⟨false, p1.rr.bl p1.e e1, ?_⟩
    rw [if_neg (Bool.false_ne_true)]
    exact post _ _ _ _ _ (.after p1.s (.bl p1.e false)) hm1
  · cases hm1
theorem se_or (ha : SE X g a ma) (hb : SE X g (.BoolOp .Or (b :: rest) pos) mb) : SE X g (.BoolOp .Or (a :: b :: rest) pos) (mOr ma mb) := .mk fun xq ow H0 r st H k xo er hm Q post => by
  refine wE_of (pe_or peW peW) ?_
  refine ha xq ow H0 r st H _ xo er hm _ fun v1 z1 H01 r1 H1 p1 hm1 => ?_
  split at hm1
  · rename_i e1
    refine ⟨false, p1.rr.bl p1.e e1, ?_⟩
    rw [if_neg (Bool.false_ne_true)]
    exact hb xq ow H01 r1 st H1 k xo p1.e hm1 Q fun v z H03 r3 H3 p3 hk => post v z H03 r3 H3 (.after p1.s p3) hk
  · rename_i e1
    refine ⟨true, p1.rr.bl p1.e e1, ?_⟩
    rw [if_pos rfl]
    exact post _ _ _ _ _ (.after p1.s (.bl p1.e true)) hm1
  · cases hm1
theorem se_not (ha : SE X g a ma) : SE X g (.UnaryOp .Not a pos) (mNot ma) := .mk fun xq ow H0 r st H k xo er hm Q post => by
  refine wE_of (pe_not peW) ?_
  refine ha xq ow H0 r st H _ xo er hm _ fun v1 z1 H01 r1 H1 p1 hm1 => ?_
  dsimp only at hm1
  split at hm1
  · rename_i bb e1
    exact ⟨bb, p1.rr.bl p1.e e1, post _ _ _ _ _ (.after p1.s (.bl p1.e _)) hm1⟩
  · cases hm1
def tAndT (ta tb : MT) : MT := fun xq r k => ta xq r fun b r1 => if b = true then tb xq r1 k else k false r1
def tOrT (ta tb : MT) : MT := fun xq r k => ta xq r fun b r1 => if b = true then k true r1 else tb xq r1 k
def tNotT (ta : MT) : MT := fun xq r k => ta xq r fun b r1 => k (!b) r1
/-- a part of an and, an or -/
structure SWt (X : Cx) (g : G) (e : Expr) (m : MT) : Prop where
  run : ∀ (xq : XQ) (ow : Nat → Addr) (H0 : Hp) (r : Rho) (st : L2.St) (H : Hp) (k : Bool → Rho → Bool), XOk X g xq → Rel g H0 ow r st H → m xq r k = true → ∀ Q : Bool → Hp → Prop, (∀ b H0' r' H', Rel g H0' ow r' st H' → Ste g ow H0 r H H0' r' H' → k b r' = true → Q b H') → ∀ (wh : Sem Value) pn s, Inv X pn st H s → wpAny (model X.prog X.w) X.A (isTrue e X.env wh) (TP X pn st Q) X.xe s
instance {X : Cx} {g : G} {e : Expr} {m : MT} : CoeFun (SWt X g e m) (fun _ => ∀ (xq : XQ) (ow : Nat → Addr) (H0 : Hp) (r : Rho) (st : L2.St) (H : Hp) (k : Bool → Rho → Bool), XOk X g xq → Rel g H0 ow r st H → m xq r k = true → ∀ Q : Bool → Hp → Prop, (∀ b H0' r' H', Rel g H0' ow r' st H' → Ste g ow H0 r H H0' r' H' → k b r' = true → Q b H') → ∀ (wh : Sem Value) pn s, Inv X pn st H s → wpAny (model X.prog X.w) X.A (isTrue e X.env wh) (TP X pn st Q) X.xe s) := ⟨fun h => h.run⟩
def tW (X : Cx) (e : Expr) : TT := fun st hp q => ∀ (wh : Sem Value) pn s, Inv X pn st hp s → wpAny (model X.prog X.w) X.A (isTrue e X.env wh) (TP X pn st q) X.xe s
theorem pwW : PW X e (tW X e) := ⟨fun wh pn s _ _ _ iv h => h wh pn s iv⟩
theorem st_bool {m : MT} (h : SWt X g e m) : STt X g e m := .mk fun xq ow H0 r st H k xo er hm Q post pn s iv => h xq ow H0 r st H k xo er hm Q post _ pn s iv
theorem sw_one {op} (hp : PW X (.BoolOp op [a] pos) (wT X a)) (ha : STt X g a ta) : SWt X g (.BoolOp op [a] pos) ta := .mk fun xq ow H0 r st H k xo er hm Q post wh pn s iv =>
  hp.run wh pn s st H Q iv (ha xq ow H0 r st H k xo er hm Q post)
theorem sw_and1 (ha : STt X g a ta) : SWt X g (.BoolOp .And [a] pos) ta := sw_one (pw_and1 ptW) ha
theorem sw_or1 (ha : STt X g a ta) : SWt X g (.BoolOp .Or [a] pos) ta := sw_one (pw_or1 ptW) ha
theorem sw_and (ha : STt X g a ta) (hb : SWt X g (.BoolOp .And (b :: rest) pos) tb) : SWt X g (.BoolOp .And (a :: b :: rest) pos) (tAndT ta tb) := .mk fun xq ow H0 r st H k xo er hm Q post wh pn s iv => by
  refine (pw_and ptW pwW).run wh pn s st H Q iv ?_
  refine ha xq ow H0 r st H _ xo er hm _ fun c H01 r1 H1 e1 s1 hm1 => ?_
  cases c with
  | true =>
    rw [if_pos rfl] at hm1 ⊢
    exact hb xq ow H01 r1 st H1 k xo e1 hm1 Q fun c' H02 r2 H2 e2 s2 hk => post c' H02 r2 H2 e2 (s1.trans s2) hk
  | false =>
    rw [if_neg Bool.false_ne_true] at hm1 ⊢
    exact post false H01 r1 H1 e1 s1 hm1
theorem sw_or (ha : STt X g a ta) (hb : SWt X g (.BoolOp .Or (b :: rest) pos) tb) : SWt X g (.BoolOp .Or (a :: b :: rest) pos) (tOrT ta tb) := .mk fun xq ow H0 r st H k xo er hm Q post wh pn s iv => by
  refine (pw_or ptW pwW).run wh pn s st H Q iv ?_
  refine ha xq ow H0 r st H _ xo er hm _ fun c H01 r1 H1 e1 s1 hm1 => ?_
  cases c with
  | true =>
    rw [if_pos rfl] at hm1 ⊢
    exact post true H01 r1 H1 e1 s1 hm1
  | false =>
    rw [if_neg Bool.false_ne_true] at hm1 ⊢
    exact hb xq ow H01 r1 st H1 k xo e1 hm1 Q fun c' H02 r2 H2 e2 s2 hk => post c' H02 r2 H2 e2 (s1.trans s2) hk
theorem st_not (ha : STt X g a ta) : STt X g (.UnaryOp .Not a pos) (tNotT ta) := .mk fun xq ow H0 r st H k xo er hm Q post => by
  refine wT_of (pt_not ptW) ?_
  exact ha xq ow H0 r st H _ xo er hm _ fun c H01 r1 H1 e1 s1 hm1 => post _ _ _ _ e1 s1 hm1
@[irreducible] def mIf (t : MT) (ma mb : M) : M := fun xq r k => t xq r fun b r1 => if b = true then ma xq r1 k else mb xq r1 k
theorem se_if {c : Expr} (hc : STt X g c ta) (ha : SE X g a ma) (hb : SE X g b mb) : SE X g (.IfExp c a b pos) (mIf ta ma mb) := .mk fun xq ow H0 r st H k xo er hm Q post => by
  unfold mIf at hm
  refine wE_of (pe_ifExp ptW peW peW) ?_
  refine hc xq ow H0 r st H _ xo er hm _ fun c H01 r1 H1 e1 s1 hm1 => ?_
  cases c with
  | true =>
    rw [if_pos rfl] at hm1 ⊢
    exact ha xq ow H01 r1 st H1 k xo e1 hm1 Q fun v z H03 r3 H3 p3 hk => post v z H03 r3 H3 (.after s1 p3) hk
  | false =>
    rw [if_neg Bool.false_ne_true] at hm1 ⊢
    exact hb xq ow H01 r1 st H1 k xo e1 hm1 Q fun v z H03 r3 H3 p3 hk => post v z H03 r3 H3 (.after s1 p3) hk

/-! ### items: displays, arguments that are kept -/
abbrev MA := XQ → Rho → (List W → Rho → Bool) → Bool
/-- what is kept, one after another -/
inductive RWs (g : G) (H0 : Hp) : List V → List W → Prop
  | nil : RWs g H0 [] []
  | cons {v : V} {vs : List V} {w : W} {ws : List W} : RW g.K g.a H0 v w → RWs g H0 vs ws → RWs g H0 (v :: vs) (w :: ws)
theorem RWs.keep (s : ∀ b o, H0 b = some o → H0' b = some o) : ∀ {vs : List V} {ws : List W}, RWs g H0 vs ws → RWs g H0' vs ws
  | _, _, .nil => .nil
  | _, _, .cons h t => .cons (h.keep s) (RWs.keep s t)
theorem RWs.length : ∀ {vs : List V} {ws : List W}, RWs g H0 vs ws → vs.length = ws.length
  | _, _, .nil => rfl
  | _, _, .cons _ t => by rw [List.length_cons, List.length_cons, t.length]
structure SAs (X : Cx) (g : G) (es : List Expr) (m : MA) : Prop where
  run : ∀ (xq : XQ) (ow : Nat → Addr) (H0 : Hp) (r : Rho) (st : L2.St) (H : Hp) (k : List W → Rho → Bool), XOk X g xq → Rel g H0 ow r st H → m xq r k = true → ∀ Q : List V → Hp → Prop, (∀ vs ws H0' r' H', Rel g H0' ow r' st H' → Ste g ow H0 r H H0' r' H' → RWs g H0' vs ws → k ws r' = true → Q vs H') → wA X es st H Q
instance {X : Cx} {g : G} {es : List Expr} {m : MA} : CoeFun (SAs X g es m) (fun _ => ∀ (xq : XQ) (ow : Nat → Addr) (H0 : Hp) (r : Rho) (st : L2.St) (H : Hp) (k : List W → Rho → Bool), XOk X g xq → Rel g H0 ow r st H → m xq r k = true → ∀ Q : List V → Hp → Prop, (∀ vs ws H0' r' H', Rel g H0' ow r' st H' → Ste g ow H0 r H H0' r' H' → RWs g H0' vs ws → k ws r' = true → Q vs H') → wA X es st H Q) := ⟨fun h => h.run⟩
def aNil : MA := fun _ r k => k [] r
def aCons (m : M) (ms : MA) : MA := fun xq r k => m xq r fun y r1 => ms xq (y.esc r1).2 fun ws r2 => k ((y.esc r1).1 :: ws) r2
theorem sa_nil : SAs X g [] aNil := .mk fun xq ow H0 r st H k xo er hm Q post => wA_of pa_nil (post [] [] _ _ _ er Ste.refl .nil hm)
def noStar : Expr → Bool
  | .Starred _ _ => false
  | _ => true
theorem star_step {e : Expr} {es : List Expr} {env : Env} (h : noStar e = true) : starEach (e :: es) env = (false, eval e env) :: starEach es env := by
  cases e <;> first | rfl | cases h
theorem sa_cons {es : List Expr} {ms : MA} (ha : SE X g e ma) (hr : SAs X g es ms) (h0 : noStar e = true := by rfl) : SAs X g (e :: es) (aCons ma ms) := have hs : starEach (e :: es) X.env = (false, eval e X.env) :: starEach es X.env := star_step h0
  .mk fun xq ow H0 r st H k xo er hm Q post => by
  refine wA_of (pa_cons peW paW hs) ?_
  refine ha xq ow H0 r st H _ xo er hm _ fun v1 z1 H01 r1 H1 p1 hm1 => ?_
  obtain ⟨H02, p2⟩ := p1.esc
  refine hr xq ow H02 _ st H1 _ xo p2.e hm1 _ fun vs ws H03 r3 H3 e3 s3 w3 hk => ?_
  exact post _ _ _ _ _ e3 (p2.s.trans s3) (.cons (p2.rw.keep s3.s0) w3) hk
/-- all of them data -/
def dats : List W → Option (List PyData)
  | [] => some []
  | .d x :: ws => (dats ws).map (x :: ·)
  | .sp :: _ => none
theorem RWs.dq : ∀ {vs : List V} {ws : List W} {xs : List PyData}, RWs g H0 vs ws → dats ws = some xs → DqA g.K H0 vs xs
  | _, _, _, .nil, e => by cases e; exact .nil
  | _, .d x :: ws, xs, .cons h t, e => by
    unfold dats at e
    cases q : dats ws with
    | none => (rw [q] at e); cases e
    | some ys =>
      rw [q] at e
      cases e
      exact .cons h (t.dq q)
  | _, .sp :: ws, xs, .cons h t, e => by cases e
def mTup (ms : MA) : M := fun xq r k => ms xq r fun ws r1 => match dats ws with
  | some xs => decide (xs.length ≤ sizeLine) && k (.val (.d (.tuple xs))) r1
  | none => false
def mLst (ms : MA) : M := fun xq r k => ms xq r fun ws r1 => match dats ws with
  | some xs => decide (xs.length ≤ sizeLine) && k (.fr xs) r1
  | none => false
theorem se_tup {es : List Expr} {ms : MA} {x1} (h : SAs X g es ms) : SE X g (.Tuple es x1 pos) (mTup ms) := .mk fun xq ow H0 r st H k xo er hm Q post => by
  refine wE_of (pe_tup paW) ?_
  refine h xq ow H0 r st H _ xo er hm _ fun vs ws H01 r1 H1 e1 s1 w1 hm1 => ?_
  split at hm1
  · rename_i xs eq
    rw [Bool.and_eq_true] at hm1
    have hd := w1.dq eq
    exact ⟨by rw [hd.length]; exact of_decide_eq_true hm1.1, fun p hp => post _ _ _ _ _ (.after s1 (.newT e1 hp hd)) hm1.2⟩
  · cases hm1
theorem se_lst {es : List Expr} {ms : MA} (h : SAs X g es ms) : SE X g (.List es pos) (mLst ms) := .mk fun xq ow H0 r st H k xo er hm Q post => by
  refine wE_of (pe_lst paW) ?_
  refine h xq ow H0 r st H _ xo er hm _ fun vs ws H01 r1 H1 e1 s1 w1 hm1 => ?_
  split at hm1
  · rename_i xs eq
    rw [Bool.and_eq_true] at hm1
    have hd := w1.dq eq
    exact ⟨by rw [hd.length]; exact of_decide_eq_true hm1.1, fun p hp => post _ _ _ _ _ (.after s1 (.newL e1 hp hd)) hm1.2⟩
  · cases hm1

/-! ### built-ins of one argument -/
theorem wA1 {q : List V → Hp → Prop} (hs : starEach [e] X.env = (false, eval e X.env) :: starEach [] X.env) (h : wE X e st H fun x h1 => q [x] h1) : wA X [e] st H q := wA_of (pa_cons peW pa_nil hs) h
def OpC (X : Cx) (g : G) (rr : List V → Hp → VK → Prop) (f : R → Rho → KE → Bool) : Prop := OpU X g (fun x hp q => rr [x] hp q) f
theorem se_b1 {x : Str} {p : Pos} {rr : List V → Hp → VK → Prop} {f : R → Rho → KE → Bool} (hp : PE X (.Call (.Name x p) [e] [] pos) (tCB rr (wA X [e]))) (hf : OpC X g rr f) (ha : SE X g e ma) (hs : starEach [e] X.env = (false, eval e X.env) :: starEach [] X.env := by rfl) :
    SE X g (.Call (.Name x p) [e] [] pos) (mU f ma) := .mk fun xq ow H0 r st H k xo er hm Q post => by
  refine wE_of hp (wA1 hs ?_)
  refine ha xq ow H0 r st H _ xo er hm _ fun v1 z1 H01 r1 H1 p1 hm1 => ?_
  exact hf xq ow H01 r1 st H1 k v1 z1 xo p1.e p1.rr hm1 Q fun v z H03 r3 H3 p3 hk => post v z H03 r3 H3 (.after p1.s p3) hk
def fLen : R → Rho → KE → Bool := fun y r k => match y.dat with
  | some (.str x) => decide (x.length ≤ sizeLine) && k (.val (.d (.int x.length))) r
  | some (.list xs) => k (.val (.d (.int xs.length))) r
  | some (.tuple xs) => k (.val (.d (.int xs.length))) r
  | _ => false
def rLen (K : PySem.W.Frag) : List V → Hp → VK → Prop := fun xs hp q => ∃ x n, xs = [x] ∧ LenV K x hp n ∧ q (.int n) hp
theorem opc_len : OpC X g (rLen X.K) fLen := fun xq ow H0 r st H k v1 z1 xo er h1 hm Q post => by
  unfold fLen at hm
  split at hm
  · rename_i x e1
    rw [Bool.and_eq_true] at hm
    rw [h1.str er e1]
    exact ⟨_, x.length, rfl, ⟨of_decide_eq_true hm.1, rfl⟩, post _ _ _ _ _ (.int er _) hm.2⟩
  · rename_i xs e1
    obtain ⟨p, vs, ev, hp, hd⟩ := h1.items er e1
    rw [ev]
    exact ⟨_, vs.length, rfl, .inl ⟨vs, SqL.of hp, rfl⟩, by rw [hd.length]; exact post _ _ _ _ _ (.int er _) hm⟩
  · rename_i xs e1
    obtain ⟨p, vs, ev, hp, hd⟩ := h1.tup er e1
    rw [ev]
    exact ⟨_, vs.length, rfl, .inr ⟨vs, by rw [xo.K]; exact hp, rfl⟩, by rw [hd.length]; exact post _ _ _ _ _ (.int er _) hm⟩
  · cases hm
def mLen : M → M := mU fLen
theorem se_len {p : Pos} (hp : PE X (.Call (.Name "len" p) [e] [] pos) (tCB (rLen X.K) (wA X [e]))) (ha : SE X g e ma) (hs : starEach [e] X.env = (false, eval e X.env) :: starEach [] X.env := by rfl) : SE X g (.Call (.Name "len" p) [e] [] pos) (mLen ma) := se_b1 hp opc_len ha hs
def fTuple : R → Rho → KE → Bool := fun y r k => match y.dat with
  | some (.list xs) => k (.val (.d (.tuple xs))) r
  | some (.tuple xs) => k (.val (.d (.tuple xs))) r
  | _ => false
def rTuple (K : PySem.W.Frag) : List V → Hp → VK → Prop := fun xs H Q => ∃ p ys, xs = [.ref p] ∧ ((SqL K H p ys ∧ ∀ l, H l = none → Q (.ref l) (upd H l (.tup ys))) ∨ (SqT K H p ys ∧ Q (.ref p) H))
theorem opc_tuple : OpC X g (rTuple X.K) fTuple := fun xq ow H0 r st H k v1 z1 xo er h1 hm Q post => by
  unfold fTuple at hm
  split at hm
  · rename_i xs e1
    obtain ⟨p, vs, ev, hp, hd⟩ := h1.items er e1
    rw [ev]
    exact ⟨p, vs, rfl, .inl ⟨SqL.of hp, fun l hl => post _ _ _ _ _ (.newT er hl hd) hm⟩⟩
  · rename_i xs e1
    obtain ⟨p, vs, ev, hp, hd⟩ := h1.tup er e1
    have f1 := h1.froz e1 (fun _ q => by cases q)
    rw [ev] at f1
    rw [ev]
    exact ⟨p, vs, rfl, .inr ⟨by rw [xo.K]; exact hp, post _ _ _ _ _ (.dat er f1) hm⟩⟩
  · cases hm
def fList : R → Rho → KE → Bool := fun y r k => match y.dat with
  | some (.list xs) => k (.fr xs) r
  | some (.tuple xs) => k (.fr xs) r
  | _ => false
def rList (K : PySem.W.Frag) : List V → Hp → VK → Prop := fun xs H Q => ∃ p ys, xs = [.ref p] ∧ (SqL K H p ys ∨ SqT K H p ys) ∧ ∀ l, H l = none → Q (.ref l) (upd H l (.lst ys))
theorem opc_list : OpC X g (rList X.K) fList := fun xq ow H0 r st H k v1 z1 xo er h1 hm Q post => by
  unfold fList at hm
  split at hm
  · rename_i xs e1
    obtain ⟨p, vs, ev, hp, hd⟩ := h1.items er e1
    rw [ev]
    exact ⟨p, vs, rfl, .inl (SqL.of hp), fun l hl => post _ _ _ _ _ (.newL er hl hd) hm⟩
  · rename_i xs e1
    obtain ⟨p, vs, ev, hp, hd⟩ := h1.tup er e1
    rw [ev]
    exact ⟨p, vs, rfl, .inr (by rw [xo.K]; exact hp), fun l hl => post _ _ _ _ _ (.newL er hl hd) hm⟩
  · cases hm
/-- int(x) of an int, a truth value -/
def fInt : R → Rho → KE → Bool := fun y r k => match y.dat with
  | some (.int i) => k (.val (.d (.int i))) r
  | some (.bool b) => k (.val (.d (.int (if b then 1 else 0)))) r
  | _ => false
def rInt : List V → Hp → VK → Prop := fun xs H Q => (∃ i, xs = [.int i] ∧ Q (.int i) H) ∨ ∃ k, xs = [.bl k] ∧ Q (.int (if k then 1 else 0)) H
theorem opc_int : OpC X g rInt fInt := fun xq ow H0 r st H k v1 z1 xo er h1 hm Q post => by
  unfold fInt at hm
  split at hm
  · rename_i i e1
    rw [h1.int er e1]
    exact .inl ⟨i, rfl, post _ _ _ _ _ (.int er _) hm⟩
  · rename_i i e1
    rw [h1.bl er e1]
    exact .inr ⟨i, rfl, post _ _ _ _ _ (.int er _) hm⟩
  · cases hm
/-- str(x) of an int -/
def fStr : R → Rho → KE → Bool := fun y r k => match y.dat with
  | some (.int i) => decide (i.natAbs.log2 < 1920) && k (.val (.d (.str (toString i)))) r
  | _ => false
def rStr : List V → Hp → VK → Prop := fun xs H Q => ∃ i, xs = [.int i] ∧ i.natAbs.log2 < 1920 ∧ Q (.str (toString i)) H
theorem opc_str : OpC X g rStr fStr := fun xq ow H0 r st H k v1 z1 xo er h1 hm Q post => by
  unfold fStr at hm
  split at hm
  · rename_i i e1
    rw [Bool.and_eq_true] at hm
    rw [h1.int er e1]
    exact ⟨i, rfl, of_decide_eq_true hm.1, post _ _ _ _ _ (.str er _) hm.2⟩
  · cases hm
/-- all(xs) of truth values -/
def bools : List PyData → Option (List Bool)
  | [] => some []
  | .bool b :: xs => (bools xs).map (b :: ·)
  | _ :: _ => none
theorem dq_bools {K : PySem.W.Frag} {hp : Hp} : ∀ {vs : List V} {xs : List PyData} {bs : List Bool}, DqA K hp vs xs → bools xs = some bs → vs = bs.map V.bl
  | _, _, _, .nil, e => by cases e; rfl
  | _, x :: xs, bs, .cons h t, e => by
    cases x <;> try (cases e)
    rename_i b
    unfold bools at e
    cases q : bools xs with
    | none => (rw [q] at e); cases e
    | some cs =>
      rw [q] at e
      cases e
      cases h
      rw [dq_bools t q, List.map_cons]
def fAll : R → Rho → KE → Bool := fun y r k => match y.dat with
  | some (.list xs) => (match bools xs with
    | some bs => k (.val (.d (.bool (bs.all id)))) r
    | none => false)
  | _ => false
theorem opc_all : OpC X g (rAll X.K) fAll := fun xq ow H0 r st H k v1 z1 xo er h1 hm Q post => by
  unfold fAll at hm
  split at hm
  · rename_i xs e1
    split at hm
    · rename_i bs e2
      obtain ⟨p, vs, ev, hp, hd⟩ := h1.items er e1
      rw [ev]
      exact ⟨p, bs, rfl, by rw [← dq_bools hd e2]; exact SqL.of hp, post _ _ _ _ _ (.bl er _) hm⟩
    · cases hm
  · cases hm
end
end Pz

set_option Elab.async false
set_option linter.all false
set_option maxRecDepth 100000
set_option maxHeartbeats 1900000
namespace Pz
open PySem L2
section
variable {X : Cx} {g : G} {ow : Nat → Addr} {H0 H0' H0'' : Hp} {r r' r'' : Rho} {H H' H'' : Hp} {st : L2.St} {v v1 v2 : V} {z z1 z2 : R} {e a b : Expr} {ma mb mc : M} {pos : Pos} {ta tb : MT} {rest : List Expr}

/-! ### isinstance -/
def pyTy : PyData → String
  | .none => "NoneType"
  | .bool _ => "bool"
  | .int _ => "int"
  | .str _ => "str"
  | .list _ => "list"
  | .tuple _ => "tuple"
  | .dict _ => "dict"
/-- isinstance of data, the five classes -/
def isiT (ty T : String) : Bool := if ty == "bool" then T == "bool" || T == "int" else T == ty
def isiD (T : String) (x : PyData) : Bool := isiT (pyTy x) T
def five (T : String) : Bool := ["int", "bool", "str", "tuple", "list"].contains T
theorem kit_tab : (["NoneType", "bool", "int", "str", "list", "tuple"].all fun ty => ["int", "bool", "str", "tuple", "list"].all fun T => kitB ty T == some (isiT ty T)) = true := by decide +kernel
theorem kit_isi {T : String} (h : five T = true) (x : PyData) (hx : ∀ k, x ≠ .dict k) : kitB (pyTy x) T = some (isiD T x) := by
  have hT : T ∈ ["int", "bool", "str", "tuple", "list"] := by simpa [five] using h
  have hy : pyTy x ∈ ["NoneType", "bool", "int", "str", "list", "tuple"] := by
    cases x with
    | dict k => exact absurd rfl (hx k)
    | _ => simp [pyTy]
  exact beq_iff_eq.mp (List.all_eq_true.mp (List.all_eq_true.mp kit_tab _ hy) _ hT)
theorem tyx {K : PySem.W.Frag} {hp : Hp} {x : PyData} (h : Dq K hp v x) : TyX K hp v (.type (pyTy x)) ∧ ∀ k, x ≠ .dict k := by
  cases h with
  | non => exact ⟨.base .non, fun _ q => by cases q⟩
  | bl b => exact ⟨.base (.bl b), fun _ q => by cases q⟩
  | int i => exact ⟨.base (.int i), fun _ q => by cases q⟩
  | str x => exact ⟨.base (.str x), fun _ q => by cases q⟩
  | lst h1 h2 => exact ⟨.base (.lst h1), fun _ q => by cases q⟩
  | tup h1 h2 =>
    refine ⟨?_, fun _ q => by cases q⟩
    rcases h1 with (h1 | ⟨o, h1⟩) | ⟨o, its, n, h1, h2, _⟩
    · exact .base (.tup h1)
    · exact .fTuple h1
    · exact .kTuple h1 h2
def mIsi (T : String) (ma : M) : M := mU (fun y r k => match y.dat with
  | some x => k (.val (.d (.bool (isiD T x)))) r
  | none => false) ma
theorem se_isi {T : String} {p : Pos} {t : Str} {pt : Pos} (hp : PE X (.Call (.Name "isinstance" p) [e, .Name t pt] [] pos) (tCB (rIsi X.K) (tCons (wE X e) (tCons (tC (.ty T)) tNil)))) (hT : five T = true) (ha : SE X g e ma) :
    SE X g (.Call (.Name "isinstance" p) [e, .Name t pt] [] pos) (mIsi T ma) := .mk fun xq ow H0 r st H k xo er hm Q post => by
  refine wE_of hp ?_
  refine ha xq ow H0 r st H _ xo er hm _ fun v1 z1 H01 r1 H1 p1 hm1 => ?_
  dsimp only at hm1
  split at hm1
  · rename_i x e1
    obtain ⟨h1, h2⟩ := tyx (p1.rr.dp p1.e e1)
    exact ⟨v1, .ty T, _, _, isiD T x, rfl, .ty T, by rw [xo.K]; exact h1, kit_ty (kit_isi hT x h2), post _ _ _ _ _ (.after p1.s (.bl p1.e _)) hm1⟩
  · cases hm1

/-! ### x[i] -/
def fIx : R → R → Rho → KE → Bool := fun z1 z2 r k => match z1.dat, z2.dat with
  | some (.list xs), some (.int i) => (match atI xs i with
    | some x => k (.val (.d x)) r
    | none => false)
  | some (.tuple xs), some (.int i) => (match atI xs i with
    | some x => k (.val (.d x)) r
    | none => false)
  | some (.str x), some (.int i) => decide (x.length ≤ sizeLine) && (match atI x.cps.toList i with
    | some c => k (.val (.d (.str ⟨#[c]⟩))) r
    | none => false)
  | _, _ => false
theorem dq_at {K : PySem.W.Frag} {hp : Hp} {vs : List V} {xs : List PyData} {i : Int} {x : PyData} (h : DqA K hp vs xs) (e : atI xs i = some x) : ∃ v, atI vs i = some v ∧ Dq K hp v x := by
  unfold atI at e ⊢
  rw [h.length]
  cases q : ixN xs.length i with
  | none => (rw [q] at e); cases e
  | some j =>
    rw [q] at e
    exact h.get e
theorem opb_ix : OpB X g (rIx X.K) fIx := fun xq ow H0 r st H k v1 v2 z1 z2 xo er h1 h2 hm Q post => by
  unfold fIx at hm
  split at hm
  · rename_i xs i e1 e2
    split at hm
    · rename_i x e3
      obtain ⟨p, vs, ev, hp, hd⟩ := h1.items er e1
      obtain ⟨v, h3, h4⟩ := dq_at hd e3
      exact .inl ⟨p, vs, i, v, ev, h2.int er e2, SqL.of hp, h3, post _ _ _ _ _ (.dat er h4) hm⟩
    · cases hm
  · rename_i xs i e1 e2
    split at hm
    · rename_i x e3
      obtain ⟨p, vs, ev, hp, hd⟩ := h1.tup er e1
      obtain ⟨v, h3, h4⟩ := dq_at hd e3
      exact .inr (.inl ⟨p, vs, i, v, ev, h2.int er e2, by rw [xo.K]; exact hp, h3, post _ _ _ _ _ (.dat er h4) hm⟩)
    · cases hm
  · rename_i x i e1 e2
    rw [Bool.and_eq_true] at hm
    obtain ⟨hz, hm⟩ := hm
    split at hm
    · rename_i c e3
      exact .inr (.inr ⟨x, i, c, h1.str er e1, h2.int er e2, of_decide_eq_true hz, e3, post _ _ _ _ _ (.str er _) hm⟩)
    · cases hm
  · cases hm
def mIx : M → M → M := mB fIx
theorem se_ix (ha : SE X g a ma) (hb : SE X g b mb) (hs : PlainIx b) : SE X g (.Subscript a b pos) (mIx ma mb) := se_bin (pe_ix ix_seq peW peW hs) opb_ix ha hb

/-! ### x[lo:hi] -/
abbrev MO := XQ → Rho → (Option Int → Rho → Bool) → Bool
def wO (X : Cx) (e : Option Expr) : TO := match e with
  | none => tNoPart
  | some e => tPart (wE X e)
theorem poW {e : Option Expr} : PO X e (wO X e) := match e with
  | none => po_none
  | some _ => po_some peW
structure SO (X : Cx) (g : G) (e : Option Expr) (m : MO) : Prop where
  run : ∀ (xq : XQ) (ow : Nat → Addr) (H0 : Hp) (r : Rho) (st : L2.St) (H : Hp) (k : Option Int → Rho → Bool), XOk X g xq → Rel g H0 ow r st H → m xq r k = true → ∀ Q : Option Int → Hp → Prop, (∀ o H0' r' H', Rel g H0' ow r' st H' → Ste g ow H0 r H H0' r' H' → k o r' = true → Q o H') → wO X e st H Q
instance {X : Cx} {g : G} {e : Option Expr} {m : MO} : CoeFun (SO X g e m) (fun _ => ∀ (xq : XQ) (ow : Nat → Addr) (H0 : Hp) (r : Rho) (st : L2.St) (H : Hp) (k : Option Int → Rho → Bool), XOk X g xq → Rel g H0 ow r st H → m xq r k = true → ∀ Q : Option Int → Hp → Prop, (∀ o H0' r' H', Rel g H0' ow r' st H' → Ste g ow H0 r H H0' r' H' → k o r' = true → Q o H') → wO X e st H Q) := ⟨fun h => h.run⟩
def oNo : MO := fun _ r k => k none r
def oYes (m : M) : MO := fun xq r k => m xq r fun y r1 => match y.dat with
  | some (.int i) => k (some i) r1
  | _ => false
theorem so_no : SO X g none oNo := .mk fun xq ow H0 r st H k xo er hm Q post => post _ _ _ _ er Ste.refl hm
theorem so_yes (ha : SE X g a ma) : SO X g (some a) (oYes ma) := .mk fun xq ow H0 r st H k xo er hm Q post => by
  show wE X a st H _
  refine ha xq ow H0 r st H _ xo er hm _ fun v1 z1 H01 r1 H1 p1 hm1 => ?_
  split at hm1
  · rename_i i e1
    exact ⟨i, p1.rr.int p1.e e1, post _ _ _ _ p1.e p1.s hm1⟩
  · cases hm1
def cutD (xs : List PyData) (lo hi : Option Int) : List PyData := (xs.drop (HT.sIx xs.length 0 lo)).take (HT.sIx xs.length xs.length hi - HT.sIx xs.length 0 lo)
theorem dq_cut {K : PySem.W.Frag} {hp : Hp} {vs : List V} {xs : List PyData} (h : DqA K hp vs xs) (lo hi : Option Int) : DqA K hp (cutV vs lo hi) (cutD xs lo hi) := by
  unfold cutV cutD
  rw [h.length]
  exact (h.drop _).take _
theorem cut_whole {xs : List PyData} {lo hi : Option Int} (h : HT.sIx xs.length 0 lo = 0 ∧ HT.sIx xs.length xs.length hi = xs.length) : cutD xs lo hi = xs := by
  unfold cutD
  rw [h.1, h.2, List.drop_zero, Nat.sub_zero, List.take_length]
def mSl (ma : M) (lo hi : MO) : M := fun xq r k => ma xq r fun y r1 => lo xq r1 fun l r2 => hi xq r2 fun u r3 => match y.dat with
  | some (.list xs) => k (.fr (cutD xs l u)) r3
  | some (.tuple xs) => k (.val (.d (.tuple (cutD xs l u)))) r3
  | some (.str x) => decide (x.length ≤ sizeLine) && k (.val (.d (.str (cutS x l u)))) r3
  | _ => false
def rSlice (K : PySem.W.Frag) : V → Option Int → Option Int → Hp → VK → Prop := fun x lo hi H Q => rSlL K x lo hi H Q ∨ (rSlA K x lo hi H Q ∨ rSlS x lo hi H Q)
theorem sl_any : SlR X (rSlice X.K) := sl_list.or (sl_tupA.or sl_str)
theorem se_sl {lo hi : Option Expr} {ml mh : MO} {p2 : Pos} (ha : SE X g a ma) (hl : SO X g lo ml) (hh : SO X g hi mh) : SE X g (.Subscript a (.Slice lo hi none p2) pos) (mSl ma ml mh) := .mk fun xq ow H0 r st H k xo er hm Q post => by
  refine wE_of (pe_slice sl_any peW poW poW) ?_
  refine ha xq ow H0 r st H _ xo er hm _ fun v1 z1 H01 r1 H1 p1 hm1 => ?_
  refine hl xq ow H01 r1 st H1 _ xo p1.e hm1 _ fun l H02 r2 H2 e2 s2 hm2 => ?_
  refine hh xq ow H02 r2 st H2 _ xo e2 hm2 _ fun u H03 r3 H3 e3 s3 hm3 => ?_
  have rr3 := (p1.rr.keep s2).keep s3
  have s13 := (p1.s.trans s2).trans s3
  split at hm3
  · rename_i xs e1
    obtain ⟨p, vs, ev, hp, hd⟩ := rr3.items e3 e1
    exact .inl ⟨p, vs, ev, SqL.of hp, fun q hq => post _ _ _ _ _ (.after s13 (.newL e3 hq (dq_cut hd l u))) hm3⟩
  · rename_i xs e1
    obtain ⟨p, vs, ev, hp, hd⟩ := rr3.tup e3 e1
    have f1 := rr3.froz e1 (fun _ q => by cases q)
    refine .inr (.inl ⟨p, vs, ev, by rw [xo.K]; exact hp, fun q => ?_, fun _ q hq => post _ _ _ _ _ (.after s13 (.newT e3 hq (dq_cut hd l u))) hm3⟩)
    rw [hd.length] at q
    rw [cut_whole q] at hm3
    rw [← ev]
    exact post _ _ _ _ _ (.after s13 (.dat e3 f1)) hm3
  · rename_i x e1
    rw [Bool.and_eq_true] at hm3
    exact .inr (.inr ⟨x, rr3.str e3 e1, of_decide_eq_true hm3.1, post _ _ _ _ _ (.after s13 (.str e3 _)) hm3.2⟩)
  · cases hm3

/-! ### methods of texts without arguments -/
def mS0 (f : Str → PyData) (ma : M) : M := mU (fun y r k => match y.dat with
  | some (.str x) => k (.val (.d (f x))) r
  | _ => false) ma
theorem se_s0 {name : Str} {apos : Pos} {f : Str → PyData} {fv : Str → V} (hp : PE X (.Call (.Attribute a name apos) [] [] pos) (tM0 (fun x xs H Q => ∃ z, x = .str z ∧ xs = [] ∧ True ∧ Q (fv z) H) (wE X a))) (hv : ∀ (K : PySem.W.Frag) (h : Hp) x, Dq K h (fv x) (f x)) (ha : SE X g a ma) :
    SE X g (.Call (.Attribute a name apos) [] [] pos) (mS0 f ma) := .mk fun xq ow H0 r st H k xo er hm Q post => by
  refine wE_of hp ?_
  refine ha xq ow H0 r st H _ xo er hm _ fun v1 z1 H01 r1 H1 p1 hm1 => ?_
  dsimp only at hm1
  split at hm1
  · rename_i x e1
    have ev := p1.rr.str p1.e e1
    exact ⟨⟨x, ev⟩, x, ev, rfl, trivial, post _ _ _ _ _ (.after p1.s (.dat p1.e (hv _ _ x))) hm1⟩
  · cases hm1
theorem dq_bl (K : PySem.W.Frag) (h : Hp) (b : Bool) : Dq K h (.bl b) (.bool b) := .bl b

/-! ### in -/
/-- one sign in a text -/
def fInS (neg : Bool) : R → R → Rho → KE → Bool := fun z1 z2 r k => match z1.dat, z2.dat with
  | some (.str x), some (.str y) => (match x.cps.toList with
    | [c] => k (.val (.d (.bool (xor neg (decide (c ∈ y.cps.toList)))))) r
    | _ => false)
  | _, _ => false
theorem one_sign {x : Str} {c : Nat} (h : x.cps.toList = [c]) : x = ⟨#[c]⟩ := by
  obtain ⟨cps⟩ := x
  congr
  exact Array.toList_inj.mp (by rw [h])
theorem opb_inS : OpB X g (fun x y H Q => ∃ (c : Nat) (z : Str), x = .str ⟨#[c]⟩ ∧ y = .str z ∧ Q (.bl (decide (c ∈ z.cps.toList))) H) (fInS false) := fun xq ow H0 r st H k v1 v2 z1 z2 xo er h1 h2 hm Q post => by
  unfold fInS at hm
  split at hm
  · rename_i x y e1 e2
    split at hm
    · rename_i c e3
      rw [Bool.false_xor] at hm
      exact ⟨c, y, by rw [← one_sign e3]; exact h1.str er e1, h2.str er e2, post _ _ _ _ _ (.bl er _) hm⟩
    · cases hm
  · cases hm
theorem opb_niS : OpB X g (fun x y H Q => ∃ (c : Nat) (z : Str), x = .str ⟨#[c]⟩ ∧ y = .str z ∧ Q (.bl (!decide (c ∈ z.cps.toList))) H) (fInS true) := fun xq ow H0 r st H k v1 v2 z1 z2 xo er h1 h2 hm Q post => by
  unfold fInS at hm
  split at hm
  · rename_i x y e1 e2
    split at hm
    · rename_i c e3
      rw [Bool.true_xor] at hm
      exact ⟨c, y, by rw [← one_sign e3]; exact h1.str er e1, h2.str er e2, post _ _ _ _ _ (.bl er _) hm⟩
    · cases hm
  · cases hm

/-! ### repr -/
def rRepr (K : PySem.W.Frag) : List V → Hp → VK → Prop := fun xs H Q => ∃ v d, xs = [v] ∧ Dq K H v d ∧ d.showable = true ∧ d.depth ≤ 64 ∧ d.shown.length ≤ sizeLine ∧ Q (.str d.shown) H
mutual
theorem dq_nodict {K : PySem.W.Frag} {hp : Hp} : ∀ {v : V} {d : PyData}, Dq K hp v d → d.hasDict = false
  | _, _, .non => by simp [PyData.hasDict]
  | _, _, .bl _ => by simp [PyData.hasDict]
  | _, _, .int _ => by simp [PyData.hasDict]
  | _, _, .str _ => by simp [PyData.hasDict]
  | _, _, .lst _ h => by simp [PyData.hasDict, dqa_nodict h]
  | _, _, .tup _ h => by simp [PyData.hasDict, dqa_nodict h]
theorem dqa_nodict {K : PySem.W.Frag} {hp : Hp} : ∀ {vs : List V} {ds : List PyData}, DqA K hp vs ds → PyData.hasDictAll ds = false
  | _, _, .nil => by simp [PyData.hasDictAll]
  | _, _, .cons h1 h2 => by simp [PyData.hasDictAll, dq_nodict h1, dqa_nodict h2]
end
theorem call_reprD (hg : X.A.guards = some []) (hu : X.A.units + 66 < cLine) : CallR X (.builtin "repr") (rRepr X.K) := by
  intro pn s st hp xs us Q iv r h
  obtain ⟨v, d, rfl, hd, h1, h3, h4, q⟩ := h
  obtain ⟨u, rfl, ru⟩ := (vals1 r)
  cases hd with
  | non =>
    cases ru
    exact P.repr_of_none ⟨.str _, hp, iv.tok _, ⟨_, rfl⟩, by simpa [PyData.shown] using q⟩
  | bl b =>
    cases ru
    exact P.repr_of_bool ⟨.str _, hp, iv.tok _, ⟨_, rfl⟩, by simpa [PyData.shown] using q⟩
  | int i =>
    obtain ⟨t, rfl⟩ := ru
    exact P.repr_of_int (by simpa [PyData.showable] using h1) ⟨.str _, hp, iv.tok _, ⟨_, rfl⟩, by simpa [PyData.shown] using q⟩
  | str x =>
    obtain ⟨t, rfl⟩ := ru
    exact P.repr_of_str ⟨.str _, hp, iv.tok _, ⟨_, rfl⟩, by simpa [PyData.shown] using q⟩ (hsz := by simpa [PyData.shown] using h4)
  | lst h5 h6 =>
    cases ru
    obtain ⟨as, rd⟩ := Dp.reads iv _ _ _ (Dq.lst h5 h6).dp rfl
    refine repr_of_reads' rd h1 (fun z => ?_) hg (by omega) (fun _ _ z => z) (fun h' u tk hk => ⟨.str _, hp, iv.kept hk, ⟨_, rfl⟩, q⟩) h4
    rw [dq_nodict (Dq.lst h5 h6)] at z; cases z
  | tup h5 h6 =>
    cases ru
    obtain ⟨as, rd⟩ := Dp.reads iv _ _ _ (Dq.tup h5 h6).dp rfl
    refine repr_of_reads' rd h1 (fun z => ?_) hg (by omega) (fun _ _ z => z) (fun h' u tk hk => ⟨.str _, hp, iv.kept hk, ⟨_, rfl⟩, q⟩) h4
    rw [dq_nodict (Dq.tup h5 h6)] at z; cases z
/-- what is shown of data -/
@[irreducible] def shownI (d : PyData) : Str := d.shown
theorem shownI_eq (d : PyData) : shownI d = d.shown := by unfold shownI; rfl
def fRepr : R → Rho → KE → Bool := fun y r k => match y.dat with
  | some x => x.showable && (decide (x.depth ≤ 64) && (decide ((shownI x).length ≤ sizeLine) && k (.val (.d (.str (shownI x)))) r))
  | none => false
theorem opc_repr : OpC X g (rRepr X.K) fRepr := fun xq ow H0 r st H k v1 z1 xo er h1 hm Q post => by
  unfold fRepr at hm
  split at hm
  · rename_i x e1
    rw [Bool.and_eq_true, Bool.and_eq_true, Bool.and_eq_true, shownI_eq] at hm
    exact ⟨v1, x, rfl, by rw [xo.K]; exact h1.dp er e1, hm.1, of_decide_eq_true hm.2.1, of_decide_eq_true hm.2.2.1, post _ _ _ _ _ (.str er _) hm.2.2.2⟩
  · cases hm
def mRepr : M → M := mU fRepr

/-! ### a <= b <= c of ints -/
def mChain (f f' : Int → Int → Bool) (ma mb mc : M) : M := fun xq r k => ma xq r fun y1 r1 => mb xq r1 fun y2 r2 => match y1.dat, y2.dat with
  | some (.int i), some (.int j) => if f i j = true then mc xq r2 fun y3 r3 => (match y3.dat with
      | some (.int l) => k (.val (.d (.bool (f' j l)))) r3
      | _ => false) else k (.val (.d (.bool false))) r2
  | _, _ => false
end
end Pz

set_option Elab.async false
set_option linter.all false
set_option maxRecDepth 100000
set_option maxHeartbeats 1900000
namespace Pz
section
open PySem PySem.Calls PyProof.Rows PySem.W
variable {prog : Program} {A : Around} {w : World} {s : Shared} {E : Value → Shared → Prop}
theorem each_keep {h h' : Heap} (k : ∀ b u, h.get? b = some u → h'.get? b = some u) {vs : List Value} {ds : List PyData} (e : EachIs (fun v d => ∃ as, Reads h v d as) vs ds) : EachIs (fun v d => ∃ as, Reads h' v d as) vs ds :=
  e.mono fun _ _ ⟨as, q⟩ => ⟨as, PyProof.Rows.Reads.keeps k q⟩
/-- sorted(xs) of a list, of a tuple -/
theorem sorted_seq {it : Addr} {T : String} {o : Obj} {n : Nat} {vs : List Value} {ds : List PyData} {RR : Value → PyData → Prop} {Q : Value → Shared → Prop} (hT : T = "list" ∨ T = "tuple") (ho : s.heap.get? it = some o) (hc : o.cls = .type T) (hd : o.data = .seq vs.toArray n)
    (e : EachIs RR vs ds) (er : EachIs (fun v d => ∃ as, Reads s.heap v d as) vs ds) (hal : AllAlike ds) (hk : Sortable ds) (hL : ds.length ≤ sizeLine) (hu : ∀ d, d ∈ ds → A.units + 2 + d.depth < cLine)
    (h : ∀ h' p out, (∀ b u, s.heap.get? b = some u → h'.get? b = some u) → s.heap.get? p = none → (∃ m, h'.get? p = some (seqObj "list" (List.toArray out) m)) → EachIs RR out (ds.mergeSort (dataLe false id)) → Q (.ref p) { s with heap := h' }) :
    wpAny (model prog w) A (call (.builtin "sorted") [.ref it]) Q E s := by
  have hlv : vs.length = ds.length := e.length
  have hid : ds.map (id : PyData → PyData) = ds := List.map_id ds
  refine call_function_entry_kw kind_sorted plain_sorted entry_sorted (args_sorted1 _) ?_
  unfold Builtin.«sorted»
  refine wpAny_bind (wpAny_pure ?_) (m := checkCount "sorted" 1 1 _)
  refine wpAny_bind (wpAny_collect_seq it hT ho hc hd (fun h1 k1 => ?_) (by rw [List.size_toArray, hlv]; exact hL))
  refine wpAny_bind (wpAny_newList ?_ (by show vs.length ≤ _; rw [hlv]; exact hL))
  have hN : (h1.push (seqObj "list" vs.toArray 0)).get? h1.objs.size = some (seqObj "list" vs.toArray 0) := Heap.get?_push_size _ rfl
  have k2 : ∀ b u, h1.get? b = some u → (h1.push (seqObj "list" vs.toArray 0)).get? b = some u := fun b u q => Heap.get?_push_of_some _ q
  have hgone : s.heap.get? h1.objs.size = none := by
    cases q : s.heap.get? h1.objs.size with
    | none => rfl
    | some u => exact absurd (Heap.lt_size (k1 _ u q)) (Nat.lt_irrefl _)
  have ks : ∀ b u, h1.get? b = some u → (sortingHeap (h1.push (seqObj "list" vs.toArray 0)) h1.objs.size vs).get? b = some u := fun b u q =>
    sortingHeap_old (Nat.ne_of_lt (Heap.lt_size q)) (k2 b u q)
  have er2 : EachIs (fun v d => ∃ as, Reads (sortingHeap (h1.push (seqObj "list" vs.toArray 0)) h1.objs.size vs) v (id d) as) vs ds := each_keep (fun b u q => ks b u (k1 b u q)) er
  refine wpAny_bind (wpAny_holding (wpAny_call_entry_kw slot_list_sort ⟨_, hN, rfl⟩ entry_list_sort ?_ (args_list_sort _)))
  refine list_sort_vals (κ := dataKind (sortingHeap (h1.push (seqObj "list" vs.toArray 0)) h1.objs.size vs) (ds.map id)) (s := { s with heap := h1.push (seqObj "list" vs.toArray 0) }) hN (SortsAt.data (s := { s with heap := sortingHeap (h1.push (seqObj "list" vs.toArray 0)) h1.objs.size vs })
    (each_map (R := fun v d => ∃ as, Reads (sortingHeap (h1.push (seqObj "list" vs.toArray 0)) h1.objs.size vs) v d as) id er2) (by rw [hid]; exact hal) (by rw [hid]; exact hk) (fun d hd => ?_)) (by rw [hlv]; exact hL) ⟨.none, rfl, ?_⟩
  · rw [hid] at hd
    exact hu d hd
  · refine wpAny_pure ⟨_, rfl, ?_⟩
    obtain ⟨m, hm⟩ := sortedHeap_at (out := (sortVals (dataKind (sortingHeap (h1.push (seqObj "list" vs.toArray 0)) h1.objs.size vs) (ds.map id)) false vs vs).toArray) hN
    refine h _ h1.objs.size _ (fun b u q => ?_) hgone ⟨m, hm⟩ (sortVals_data false e er2 (by rw [hid]; exact hal))
    have hlt := Heap.lt_size (k1 b u q)
    rw [sortedHeap_old (Nat.ne_of_lt hlt) (by (rw [size_push']); exact Nat.lt_succ_of_lt hlt)]
    exact k2 b u (k1 b u q)
end

section
open PySem L2
variable {X : Cx} {g : G} {ow : Nat → Addr} {H0 H0' H0'' : Hp} {r r' r'' : Rho} {H H' H'' : Hp} {st : L2.St} {v v1 v2 : V} {z z1 z2 : R} {e a b : Expr} {ma mb mc : M} {pos : Pos} {ta tb : MT} {rest : List Expr}
def alikeB (xs : List PyData) : Bool := xs.all fun x => xs.all fun y => PySem.W.alike x y
def tupB : PyData → Bool
  | .tuple (_ :: _) => true
  | _ => false
def othB : PyData → Bool
  | .tuple _ => false
  | .none => false
  | _ => true
def sortB (xs : List PyData) : Bool := xs.all tupB || xs.all othB
theorem alike_of {xs : List PyData} (h : alikeB xs = true) : PySem.W.AllAlike xs := fun d hd d' hd' => List.all_eq_true.mp (List.all_eq_true.mp h d hd) d' hd'
theorem sort_of {xs : List PyData} (h : sortB xs = true) : PySem.W.Sortable xs := by
  unfold sortB at h
  rw [Bool.or_eq_true] at h
  rcases h with h | h
  · refine .inl fun d hd => ?_
    have q := List.all_eq_true.mp h d hd
    unfold tupB at q
    split at q
    · exact ⟨_, _, rfl⟩
    · cases q
  · refine .inr fun d hd => ?_
    have q := List.all_eq_true.mp h d hd
    refine ⟨fun e => ?_, fun xs e => ?_⟩ <;> rw [e] at q <;> cases q
theorem each_of_dqa {K : PySem.W.Frag} {hp : Hp} : ∀ {vs : List V} {us : List Value} {ds : List PyData}, DqA K hp vs ds → Vals vs us → PySem.W.EachIs (fun u d => ∃ v, RelV v u ∧ Dq K hp v d) us ds
  | _, _, _, .nil, .nil => .nil
  | _, _, _, .cons h1 h2, .cons r1 r2 => .cons ⟨_, r1, h1⟩ (each_of_dqa h2 r2)
theorem dqa_of_each {K : PySem.W.Frag} {hp : Hp} {us : List Value} {ds : List PyData} (h : PySem.W.EachIs (fun u d => ∃ v, RelV v u ∧ Dq K hp v d) us ds) : ∃ vs, Vals vs us ∧ DqA K hp vs ds := by
  induction h with
  | nil => exact ⟨[], (.nil), (.nil)⟩
  | cons h1 h2 ih =>
    obtain ⟨v, r, h⟩ := h1
    obtain ⟨vs, rs, hs⟩ := ih
    exact ⟨v :: vs, .cons r rs, .cons h hs⟩
def rSortD (K : PySem.W.Frag) (H0 : Hp) : List V → Hp → VK → Prop := fun xs H Q => ∃ p vs ds, xs = [.ref p] ∧ (SqL K H p vs ∨ SqT K H p vs) ∧ (∀ b o, H0 b = some o → H b = some o) ∧ DqA K H0 vs ds ∧ alikeB ds = true ∧ sortB ds = true ∧ ds.length ≤ sizeLine ∧ (∀ d, d ∈ ds → d.depth ≤ 60) ∧
  ∀ l ws, H l = none → DqA K H0 ws (ds.mergeSort (PySem.W.dataLe false id)) → Q (.ref l) (upd H l (.lst ws))
theorem call_sortD (hu : X.A.units + 64 < cLine) : CallR X (.builtin "sorted") (fun xs H Q => ∃ H0, rSortD X.K H0 xs H Q) := by
  intro pn s st hp xs us Q iv rv h
  obtain ⟨H0, p, vs, ds, rfl, hq, hs, hd, h1, h2, h3, h4, q⟩ := h
  have es : us = [.ref p] := by
    cases rv with
    | cons r1 r2 => cases r2; cases r1; rfl
  subst es
  have rd : ∃ T o n its, (T = "list" ∨ T = "tuple") ∧ s.heap.get? p = some o ∧ o.cls = .type T ∧ o.data = .seq (List.toArray its) n ∧ Vals vs its := by
    rcases hq with hq | hq
    · obtain ⟨its, r1, ⟨o, n, e1, e2, _, e3⟩, _⟩ := iv.list hq
      exact ⟨"list", o, n, its, .inl rfl, e1, e2, e3, r1⟩
    · obtain ⟨its, r1, ⟨o, e1, e2, n, e3⟩, _⟩ := iv.tuple hq
      exact ⟨"tuple", o, n, its, .inr rfl, e1, e2, e3, r1⟩
  obtain ⟨T, o, n, its, hT, e1, e2, e3, r1⟩ := rd
  have er : PySem.W.EachIs (fun v d => ∃ as, Reads s.heap v d as) its ds := (each_of_dqa hd r1).mono fun u d ⟨v, r2, h5⟩ => Dp.reads iv d v u (dp_sub hs h5).dp r2
  refine sorted_seq hT e1 e2 e3 (each_of_dqa hd r1) er (alike_of h1) (sort_of h2) h3 (fun d hd => by have := h4 d hd; omega) fun h' l out hk hl ⟨m, hm⟩ ho => ?_
  obtain ⟨ws, rw', hw⟩ := dqa_of_each ho
  have hn : hp l = none := iv.hok.gone hl
  have hlen : ws.length ≤ sizeLine := by rw [hw.length, List.length_mergeSort]; exact h3
  exact ⟨.ref l, _, iv.laidN (o := .lst ws) (t' := s.toks) hk hl hn ⟨hlen, out, m, rw', hm⟩, rfl, q l ws hn hw⟩
def fSort : R → Rho → KE → Bool := fun y r k => match y.dat with
  | some (.list xs) => alikeB xs && (sortB xs && (decide (xs.length ≤ sizeLine) && (xs.all (fun d => decide (d.depth ≤ 60)) && k (.fr (xs.mergeSort (PySem.W.dataLe false id))) r)))
  | some (.tuple xs) => alikeB xs && (sortB xs && (decide (xs.length ≤ sizeLine) && (xs.all (fun d => decide (d.depth ≤ 60)) && k (.fr (xs.mergeSort (PySem.W.dataLe false id))) r)))
  | _ => false
theorem opc_sort : OpC X g (fun xs H Q => ∃ H0, rSortD X.K H0 xs H Q) fSort := fun xq ow H0 r st H k v1 z1 xo er h1 hm Q post => by
  unfold fSort at hm
  split at hm
  · rename_i xs e1
    simp only [Bool.and_eq_true] at hm
    obtain ⟨m1, m2, m3, m4, m5⟩ := hm
    obtain ⟨p, vs, ev, hp, hd⟩ := h1.items er e1
    rw [ev]
    exact ⟨H0, p, vs, xs, rfl, .inl (SqL.of hp), er.sub, by rw [xo.K]; exact hd, m1, m2, of_decide_eq_true m3, fun d hd => of_decide_eq_true (List.all_eq_true.mp m4 d hd), fun l ws hl hw => post _ _ _ _ _ (.newL er hl (by rw [xo.K] at hw; exact hw)) m5⟩
  · rename_i xs e1
    simp only [Bool.and_eq_true] at hm
    obtain ⟨m1, m2, m3, m4, m5⟩ := hm
    obtain ⟨p, vs, ev, hp, hd⟩ := h1.tup er e1
    rw [ev]
    exact ⟨H0, p, vs, xs, rfl, .inr (by rw [xo.K]; exact hp), er.sub, by rw [xo.K]; exact hd, m1, m2, of_decide_eq_true m3, fun d hd => of_decide_eq_true (List.all_eq_true.mp m4 d hd), fun l ws hl hw => post _ _ _ _ _ (.newL er hl (by rw [xo.K] at hw; exact hw)) m5⟩
  · cases hm
def mSort : M → M := mU fSort
end
end Pz

set_option Elab.async false
set_option linter.all false
set_option maxRecDepth 100000
set_option maxHeartbeats 1900000
namespace Pz
open PySem L2
/-- what a walk yields -/
structure ItOk (J : It) (vs : List V) (Gd : Hp → Prop) : Prop where
  go : ∀ i H, i < vs.length → Gd H → J.go i H
  stop : ∀ i H, vs.length ≤ i → Gd H → J.stop i H
  yld : ∀ i H x H', i < vs.length → Gd H → J.yld i H x H' → H' = H ∧ vs[i]? = some x
abbrev MI := XQ → Rho → (List PyData → Rho → Bool) → Bool
def wI (X : Cx) (tg iter : Expr) : TI := fun st hp q => ∀ pn s, Inv X pn st hp s → wpAny (model X.prog X.w) X.A (eval iter X.env) (fun v s1 => wpAny (model X.prog X.w) X.A (pyIter v) (PIE X pn st tg q) X.xe s1) X.xe s
theorem piW {X : Cx} {tg iter : Expr} : PI X tg iter (wI X tg iter) := ⟨fun pn s _ _ _ iv h => h pn s iv⟩
theorem wI_of {X : Cx} {tg iter : Expr} {wi : TI} (h : PI X tg iter wi) {st : L2.St} {hp : Hp} {q : It → Hp → Prop} (z : wi st hp q) : wI X tg iter st hp q := fun pn s iv => h.run pn s st hp q iv z
structure SI (X : Cx) (g : G) (tg iter : Expr) (mi : MI) : Prop where
  run : ∀ (xq : XQ) (ow : Nat → Addr) (H0 : Hp) (r : Rho) (st : L2.St) (H : Hp) (k : List PyData → Rho → Bool), XOk X g xq → Rel g H0 ow r st H → mi xq r k = true → ∀ q : It → Hp → Prop, (∀ J vs xs Gd H0' r' H', Rel g H0' ow r' st H' → Ste g ow H0 r H H0' r' H' → ItOk J vs Gd → Gd H' → (∀ h h', Gd h → (∀ b o, b ≠ g.a → h b = some o → h' b = some o) → Gd h') → DqA g.K H0' vs xs → k xs r' = true → q J H') → wI X tg iter st H q
instance {X : Cx} {g : G} {tg iter : Expr} {mi : MI} : CoeFun (SI X g tg iter mi) (fun _ => ∀ (xq : XQ) (ow : Nat → Addr) (H0 : Hp) (r : Rho) (st : L2.St) (H : Hp) (k : List PyData → Rho → Bool), XOk X g xq → Rel g H0 ow r st H → mi xq r k = true → ∀ q : It → Hp → Prop, (∀ J vs xs Gd H0' r' H', Rel g H0' ow r' st H' → Ste g ow H0 r H H0' r' H' → ItOk J vs Gd → Gd H' → (∀ h h', Gd h → (∀ b o, b ≠ g.a → h b = some o → h' b = some o) → Gd h') → DqA g.K H0' vs xs → k xs r' = true → q J H') → wI X tg iter st H q) := ⟨fun h => h.run⟩

section
variable {X : Cx} {g : G} {ow : Nat → Addr} {H0 H0' H0'' : Hp} {r r' r'' : Rho} {H H' H'' : Hp} {st : L2.St} {v v1 v2 : V} {z z1 z2 : R} {e a b tg iter elt : Expr} {ma mb mc : M} {pos : Pos} {ta tb : MT} {rest : List Expr}
theorem ne_sp (er : Rel g H0 ow r st H) {p : Addr} {o : HO} (h : H p = some o) (n : ∀ kv, o ≠ .dK kv) : p ≠ g.a := fun e => by
  obtain ⟨_, _, _, _, _, _, _, _, _, _, h1, _⟩ := er.sp
  rw [← e, h] at h1
  exact n _ (Option.some.inj h1)
theorem itok_list {K : PySem.W.Frag} {p : Addr} {vs : List V} : ItOk (Itl K p) vs (fun h => h p = some (.lst vs)) where
  go i h hi hg := ⟨vs, vs[i], SqL.of hg, by simp [hi]⟩
  stop i h hi hg := ⟨vs, SqL.of hg, hi⟩
  yld i h x h' hi hg hy := ⟨hy.1, hy.2 vs (SqL.of hg)⟩
def miL (m : M) : MI := fun xq r k => m xq r fun y r1 => match y.dat with
  | some (.list xs) => k xs r1
  | _ => false
theorem si_list (ha : SE X g iter ma) : SI X g tg iter (miL ma) := .mk fun xq ow H0 r st H k xo er hm q post => by
  refine wI_of (pi_list peW) ?_
  refine ha xq ow H0 r st H _ xo er hm _ fun v1 z1 H01 r1 H1 p1 hm1 => ?_
  split at hm1
  · rename_i xs e1
    obtain ⟨p, vs, ev, hp, hd⟩ := p1.rr.items p1.e e1
    have na : p ≠ g.a := ne_sp p1.e hp fun _ q => by cases q
    exact ⟨p, ev, ⟨vs, SqL.of hp⟩, post _ vs xs _ _ _ _ p1.e p1.s itok_list hp (fun h h' q1 q2 => q2 p _ na q1) hd hm1⟩
  · cases hm1
def miT (m : M) : MI := fun xq r k => m xq r fun y r1 => match y.dat with
  | some (.tuple xs) => k xs r1
  | _ => false
theorem sqt_stay {K : PySem.W.Frag} {a p : Addr} {vs : List V} {h h' : Hp} (na : ∀ o, h p = some o → p ≠ a) (s : ∀ b o, b ≠ a → h b = some o → h' b = some o) (q : SqT K h p vs) : SqT K h' p vs := by
  rcases q with (q | ⟨o, q⟩) | q
  · exact .inl (.inl (s _ _ (na _ q) q))
  · exact .inl (.inr ⟨o, s _ _ (na _ q) q⟩)
  · exact .inr q
theorem si_tup (ha : SE X g iter ma) : SI X g tg iter (miT ma) := .mk fun xq ow H0 r st H k xo er hm q post => by
  refine wI_of (pi_tup peW) ?_
  refine ha xq ow H0 r st H _ xo er hm _ fun v1 z1 H01 r1 H1 p1 hm1 => ?_
  split at hm1
  · rename_i xs e1
    have f1 := p1.rr.froz e1 (fun _ q => by cases q)
    cases f1 with
    | @tup p vs _ h1 h2 =>
      have hK : g.K = X.K := xo.K.symm
      refine ⟨p, rfl, ⟨vs, by rw [← hK]; exact sub_seqT p1.e.sub h1⟩, ?_⟩
      have Gd0 : SqT g.K H01 p vs := h1
      rcases h1 with (h1 | ⟨o, h1⟩) | h1
      · have na : p ≠ g.a := fun q => by rw [q, p1.e.spn] at h1; cases h1
        exact post _ vs xs (fun h => h p = some (.tup vs)) _ _ _ p1.e p1.s ⟨fun i h hi hg => ⟨vs, vs[i], SqT.of hg, by simp [hi]⟩, fun i h hi hg => ⟨vs, SqT.of hg, hi⟩, fun i h x h' hi hg hy => ⟨hy.1, hy.2 vs (SqT.of hg)⟩⟩ (p1.e.sub _ _ h1) (fun h h' q1 q2 => q2 p _ na q1) h2 hm1
      · have na : p ≠ g.a := fun q => by rw [q, p1.e.spn] at h1; cases h1
        have of' : ∀ {h : Hp}, h p = some (.frz o (.tup vs)) → SqT X.K h p vs := fun q => .inl (.inr ⟨o, q⟩)
        exact post _ vs xs (fun h => h p = some (.frz o (.tup vs))) _ _ _ p1.e p1.s ⟨fun i h hi hg => ⟨vs, vs[i], of' hg, by simp [hi]⟩, fun i h hi hg => ⟨vs, of' hg, hi⟩, fun i h x h' hi hg hy => ⟨hy.1, hy.2 vs (of' hg)⟩⟩ (p1.e.sub _ _ h1) (fun h h' q1 q2 => q2 p _ na q1) h2 hm1
      · have of' : ∀ {h : Hp}, SqT X.K h p vs := fun {h} => .inr (by rw [← hK]; exact h1)
        exact post _ vs xs (fun _ => True) _ _ _ p1.e p1.s ⟨fun i h hi hg => ⟨vs, vs[i], of', by simp [hi]⟩, fun i h hi hg => ⟨vs, of', hi⟩, fun i h x h' hi hg hy => ⟨hy.1, hy.2 vs of'⟩⟩ trivial (fun h h' q1 q2 => trivial) h2 hm1
  · cases hm1
/-- the signs of a text -/
def signs (x : Str) : List PyData := x.cps.toList.map fun c => .str ⟨#[c]⟩
theorem dq_signs {K : PySem.W.Frag} {hp : Hp} : ∀ cs : List Nat, DqA K hp (cs.map fun c => V.str ⟨#[c]⟩) (cs.map fun c => PyData.str ⟨#[c]⟩)
  | [] => .nil
  | c :: cs => .cons (.str _) (dq_signs cs)
def miS (m : M) : MI := fun xq r k => m xq r fun y r1 => match y.dat with
  | some (.str x) => k (signs x) r1
  | _ => false
theorem si_str (ha : SE X g iter ma) : SI X g tg iter (miS ma) := .mk fun xq ow H0 r st H k xo er hm q post => by
  refine wI_of (pi_str peW) ?_
  refine ha xq ow H0 r st H _ xo er hm _ fun v1 z1 H01 r1 H1 p1 hm1 => ?_
  split at hm1
  · rename_i x e1
    refine ⟨x, p1.rr.str p1.e e1, post _ (x.cps.toList.map fun c => V.str ⟨#[c]⟩) (signs x) (fun _ => True) _ _ _ p1.e p1.s ⟨fun i h hi _ => ?_, fun i h hi _ => ?_, fun i h y h' hi _ hy => ?_⟩ trivial (fun _ _ _ _ => trivial) (dq_signs _) hm1⟩
    · rw [List.length_map, Array.length_toList] at hi; exact hi
    · rw [List.length_map, Array.length_toList] at hi; exact hi
    · obtain ⟨e2, c, e3, rfl⟩ := hy
      refine ⟨e2, ?_⟩
      rw [List.getElem?_map, Array.getElem?_toList, e3]
      rfl
  · cases hm1
def intsD (lo : Int) : Nat → List PyData
  | 0 => []
  | n + 1 => .int lo :: intsD (lo + 1) n
def intsV (lo : Int) : Nat → List V
  | 0 => []
  | n + 1 => .int lo :: intsV (lo + 1) n
theorem dq_ints {K : PySem.W.Frag} {hp : Hp} : ∀ (n : Nat) (lo : Int), DqA K hp (intsV lo n) (intsD lo n)
  | 0, _ => .nil
  | n + 1, lo => .cons (.int lo) (dq_ints n (lo + 1))
theorem intsV_len : ∀ (n : Nat) (lo : Int), (intsV lo n).length = n
  | 0, _ => rfl
  | n + 1, lo => by show (intsV (lo + 1) n).length + 1 = n + 1; rw [intsV_len n]
theorem intsV_get : ∀ (n i : Nat) (lo : Int), i < n → (intsV lo n)[i]? = some (.int (lo + i))
  | 0, i, lo, h => absurd h (Nat.not_lt_zero _)
  | n + 1, 0, lo, _ => by simp [intsV]
  | n + 1, i + 1, lo, h => by
    show (intsV (lo + 1) n)[i]? = _
    rw [intsV_get n i (lo + 1) (Nat.lt_of_succ_lt_succ h)]
    congr 2
    push_cast
    omega
theorem itok_rng {lo : Int} {n : Nat} : ItOk (Itr lo n) (intsV lo n) (fun _ => True) where
  go i h hi _ := by rw [intsV_len] at hi; exact hi
  stop i h hi _ := by rw [intsV_len] at hi; exact hi
  yld i h x h' hi _ hy := by
    obtain ⟨e1, e2⟩ := hy
    rw [intsV_len] at hi
    exact ⟨e1, by rw [intsV_get n i lo hi, e2]⟩
def miR1 (m : M) : MI := fun xq r k => m xq r fun y r1 => match y.dat with
  | some (.int j) => decide (-(2 ^ 62) ≤ j) && (decide (j < 2 ^ 62) && k (intsD 0 j.toNat) r1)
  | _ => false
theorem si_rng1 {p : Pos} (hp : PI X tg (.Call (.Name "range" p) [a] [] pos) (iRng1 (wA X [a]))) (ha : SE X g a ma) (hs : starEach [a] X.env = (false, eval a X.env) :: starEach [] X.env := by rfl) : SI X g tg (.Call (.Name "range" p) [a] [] pos) (miR1 ma) := .mk fun xq ow H0 r st H k xo er hm q post => by
  refine wI_of hp (wA1 hs ?_)
  refine ha xq ow H0 r st H _ xo er hm _ fun v1 z1 H01 r1 H1 p1 hm1 => ?_
  split at hm1
  · rename_i j e1
    rw [Bool.and_eq_true, Bool.and_eq_true] at hm1
    exact ⟨j, by rw [p1.rr.int p1.e e1], of_decide_eq_true hm1.1, of_decide_eq_true hm1.2.1, post _ _ _ _ _ _ _ p1.e p1.s itok_rng trivial (fun _ _ _ _ => trivial) (dq_ints _ _) hm1.2.2⟩
  · cases hm1
def miR2 (ma mb : M) : MI := fun xq r k => ma xq r fun y r1 => mb xq r1 fun y2 r2 => match y.dat, y2.dat with
  | some (.int i), some (.int j) => decide (-(2 ^ 62) ≤ i) && (decide (i < 2 ^ 62) && (decide (-(2 ^ 62) ≤ j) && (decide (j < 2 ^ 62) && k (intsD i (j - i).toNat) r2)))
  | _, _ => false
theorem si_rng2 {p : Pos} (hp : PI X tg (.Call (.Name "range" p) [a, b] [] pos) (iRng2 (wA X [a, b]))) (ha : SE X g a ma) (hb : SE X g b mb) (hs : starEach [a, b] X.env = (false, eval a X.env) :: starEach [b] X.env := by rfl) (hs2 : starEach [b] X.env = (false, eval b X.env) :: starEach [] X.env := by rfl) :
    SI X g tg (.Call (.Name "range" p) [a, b] [] pos) (miR2 ma mb) := .mk fun xq ow H0 r st H k xo er hm q post => by
  refine wI_of hp (wA_of (pa_cons peW (pa_cons peW pa_nil hs2) hs) ?_)
  refine ha xq ow H0 r st H _ xo er hm _ fun v1 z1 H01 r1 H1 p1 hm1 => ?_
  refine hb xq ow H01 r1 st H1 _ xo p1.e hm1 _ fun v2 z2 H02 r2 H2 p2 hm2 => ?_
  split at hm2
  · rename_i i j e1 e2
    simp only [Bool.and_eq_true] at hm2
    obtain ⟨m1, m2, m3, m4, m5⟩ := hm2
    exact ⟨i, j, by rw [(p1.rr.keep p2.s).int p2.e e1, p2.rr.int p2.e e2], ⟨of_decide_eq_true m1, of_decide_eq_true m2, of_decide_eq_true m3, of_decide_eq_true m4⟩, post _ _ _ _ _ _ _ p2.e (p1.s.trans p2.s) itok_rng trivial (fun _ _ _ _ => trivial) (dq_ints _ _) m5⟩
  · cases hm2

/-! ### the state when a slot is set -/
theorem Rel.set (er : Rel g H0 ow r st H) {i : Nat} {v : V} {w : W} (h : RW g.K g.a H0 v w) : Rel g H0 ow (r.set i (.val w)) (st.set i (some v)) H := by
  have own' : ∀ {j : Nat} {ys : List PyData}, (r.set i (S.val w))[j]? = some (S.own ys) → j ≠ i ∧ r[j]? = some (S.own ys) := fun {j ys} q => by
    by_cases c : i = j
    · subst c
      by_cases hi : i < r.length
      · rw [List.getElem?_set_self hi] at q; cases q
      · rw [List.getElem?_eq_none (by rw [List.length_set]; omega)] at q; cases q
    · rw [List.getElem?_set_ne c] at q; exact ⟨Ne.symm c, q⟩
  refine ⟨er.sub, er.sp, er.spn, er.b0, er.bb, er.nf, by rw [List.length_set, List.length_set]; exact er.len, fun j u q => ?_, fun j ys q => ?_, fun j l ys zs q1 q2 n => er.dis j l ys zs (own' q1).2 (own' q2).2 n⟩
  · by_cases c : i = j
    · subst c
      by_cases hi : i < r.length
      · rw [List.getElem?_set_self hi] at q
        cases q
        exact ⟨v, List.getElem?_set_self (by rw [← er.len]; exact hi), h⟩
      · rw [List.getElem?_eq_none (by rw [List.length_set]; omega)] at q; cases q
    · rw [List.getElem?_set_ne c] at q
      rw [List.getElem?_set_ne c]
      exact er.val j u q
  · obtain ⟨c, q'⟩ := own' q
    obtain ⟨h1, h2⟩ := er.own j ys q'
    exact ⟨by rw [List.getElem?_set_ne (Ne.symm c)]; exact h1, h2⟩
theorem Rel.unset (er : Rel g H0 ow r st H) {i : Nat} : Rel g H0 ow (r.set i .un) (st.set i none) H := by
  have un' : ∀ {j : Nat} {s : S}, s ≠ .un → (r.set i S.un)[j]? = some s → i ≠ j ∧ r[j]? = some s := fun {j s} ns q => by
    by_cases c : i = j
    · subst c
      by_cases hi : i < r.length
      · rw [List.getElem?_set_self hi] at q; cases q; exact absurd rfl ns
      · rw [List.getElem?_eq_none (by rw [List.length_set]; omega)] at q; cases q
    · rw [List.getElem?_set_ne c] at q; exact ⟨c, q⟩
  refine ⟨er.sub, er.sp, er.spn, er.b0, er.bb, er.nf, by rw [List.length_set, List.length_set]; exact er.len, fun j u q => ?_, fun j ys q => ?_, fun j l ys zs q1 q2 n => er.dis j l ys zs (un' (fun z => by cases z) q1).2 (un' (fun z => by cases z) q2).2 n⟩
  · obtain ⟨c, q'⟩ := un' (fun z => by cases z) q
    rw [List.getElem?_set_ne c]
    exact er.val j u q'
  · obtain ⟨c, q'⟩ := un' (fun z => by cases z) q
    obtain ⟨h1, h2⟩ := er.own j ys q'
    exact ⟨by rw [List.getElem?_set_ne c]; exact h1, h2⟩
end
end Pz

set_option Elab.async false
set_option linter.all false
set_option maxRecDepth 100000
set_option maxHeartbeats 1900000
namespace Pz
open PySem L2
/-- the block of a comprehension -/
abbrev Blk (X : Cx) (scope : Scope) := (s : Shared) → (H : Hp) → (C : Addr) → (cl : List (Str × Addr)) → (fp : List Addr) → Prop
abbrev bX (X : Cx) (scope : Scope) (s : Shared) (H : Hp) (C : Addr) (cl : List (Str × Addr)) (fp : List Addr) : Cx := X.blk s H scope (compEnvC scope cl C X.env) fp
def noX : XQ := fun _ => false
/-- the turns of a comprehension -/
def mLcGo (i : Nat) (t : MT) (m : M) : List PyData → List PyData → Rho → (List PyData → Rho → Bool) → Bool
  | [], acc, r, k => k acc r
  | x :: xs, acc, r, k => t noX (r.set i (.val (.d x))) fun b r1 =>
      if b = true then m noX r1 fun y r2 => (match y.esc r2 with
        | (.d d, r3) => decide (acc.length < sizeLine) && mLcGo i t m xs (acc ++ [d]) r3 k
        | _ => false)
      else mLcGo i t m xs acc r1 k
def mLc (i : Nat) (mi : MI) (t : MT) (m : M) : M := fun xq r k => mi xq r fun xs r1 => match r1[i]? with
  | some S.un => mLcGo i t m xs [] r1 fun acc r2 => k (.fr acc) (r2.set i .un)
  | _ => false
def tAll (X : Cx) (scope : Scope) (c : Expr) : TT := fun st hp q => ∀ s H C cl fp, wT (bX X scope s H C cl fp) c st hp q
def eAll (X : Cx) (scope : Scope) (c : Expr) : TE := fun st hp q => ∀ s H C cl fp, wE (bX X scope s H C cl fp) c st hp q
/-- the tests of a comprehension -/
structure TsOk (X : Cx) (g : G) (scope : Scope) (ifs : List Expr) (tt : TT) (t : MT) : Prop where
  pts : ∀ s H C cl fp, PTs (bX X scope s H C cl fp) ifs tt
  sem : ∀ (xq : XQ) (ow : Nat → Addr) (H0 : Hp) (r : Rho) (st : L2.St) (H : Hp) (k : Bool → Rho → Bool), XOk X g xq → Rel g H0 ow r st H → t noX r k = true →
    ∀ Q : Bool → Hp → Prop, (∀ b H0' r' H', Rel g H0' ow r' st H' → Ste g ow H0 r H H0' r' H' → k b r' = true → Q b H') → tt st H Q
section
variable {X : Cx} {g : G} {ow : Nat → Addr} {H0 H0' H0'' : Hp} {r r' r'' : Rho} {H H' H'' : Hp} {st : L2.St} {v v1 v2 : V} {z z1 z2 : R} {e a b tg iter elt c : Expr} {ma mb mc m : M} {pos : Pos} {ta tb t : MT} {rest ifs : List Expr} {scope : Scope} {mi : MI} {tt : TT}
theorem xok_blk {xq : XQ} (xo : XOk X g xq) (s : Shared) (H : Hp) (C : Addr) (cl : List (Str × Addr)) (fp : List Addr) : XOk (bX X scope s H C cl fp) g noX := ⟨xo.K, xo.calm, xo.rm⟩
theorem ts_nil : TsOk X g scope [] tYes (fun _ r k => k true r) := ⟨fun _ _ _ _ _ => pts_nil, fun xq ow H0 r st H k xo er hm Q post => post true _ _ _ er Ste.refl hm⟩
theorem ts_one (h : ∀ s H C cl fp, STt (bX X scope s H C cl fp) g c t) : TsOk X g scope [c] (tAll X scope c) t :=
  ⟨fun s H C cl fp => pts_one ⟨fun pn s' _ _ _ iv q => q s H C cl fp pn s' iv⟩, fun xq ow H0 r st H k xo er hm Q post s H' C cl fp => h s H' C cl fp noX ow H0 r st H k (xok_blk xo s H' C cl fp) er hm Q post⟩
/-- an object that no data leans on has changed -/
theorem Rel.mut (er : Rel g H0 ow r st H) {p : Addr} {o : HO} (h0 : H0 p = none) (nb : g.B p = none) (na : p ≠ g.a) (no : NotOwn ow r p) : Rel g H0 ow r st (upd H p o) := by
  refine ⟨fun b u q => ?_, ?_, er.spn, er.b0, fun b u n q => ?_, er.nf, er.len, er.val, fun i xs q => ?_, er.dis⟩
  · rw [upd_ne (ne_of_none q h0)]; exact er.sub b u q
  · obtain ⟨l, ns, x1, x2, x3, k1, k2, k3, k4, hn, h1, h2⟩ := er.sp
    exact ⟨l, ns, x1, x2, x3, k1, k2, k3, k4, hn, by rw [upd_ne (Ne.symm na)]; exact h1, h2⟩
  · rw [upd_ne (ne_of_none q nb)]; exact er.bb b u n q
  · obtain ⟨h1, h2, h3, h4, vs, h5, h6⟩ := er.own i xs q
    exact ⟨h1, h2, h3, h4, vs, by rw [upd_ne (no i xs q)]; exact h5, h6⟩
theorem set_un {r : Rho} {i j : Nat} {s : S} (h : s ≠ .un) : (r.set i S.un)[j]? = some s → i ≠ j ∧ r[j]? = some s := fun q => by
  by_cases c : i = j
  · subst c
    by_cases hi : i < r.length
    · rw [List.getElem?_set_self hi] at q; cases q; exact absurd rfl h
    · rw [List.getElem?_eq_none (by rw [List.length_set]; omega)] at q; cases q
  · rw [List.getElem?_set_ne c] at q; exact ⟨c, q⟩
/-- a slot put aside -/
theorem Ste.slot {i : Nat} {w : W} (s : Ste g ow H0 (r.set i (.val w)) H H0' r' H') : Ste g ow H0 (r.set i .un) H H0' (r'.set i .un) H' := by
  refine ⟨s.s0, s.sh, fun b u n h1 h2 h3 => s.nf b u n h1 h2 fun j ys q => ?_, fun j => ?_⟩
  · by_cases c : i = j
    · subst c
      by_cases hi : i < r.length
      · rw [List.getElem?_set_self hi] at q; cases q
      · rw [List.getElem?_eq_none (by rw [List.length_set]; omega)] at q; cases q
    · refine h3 j ys ?_
      rw [List.getElem?_set_ne c] at q ⊢
      exact q
  · by_cases c : i = j
    · subst c
      left
      by_cases hi : i < r.length
      · rw [List.getElem?_set_self hi]
        by_cases hi' : i < r'.length
        · rw [List.getElem?_set_self hi']
        · have z := s.ro i
          rw [List.getElem?_set_self hi, List.getElem?_eq_none (Nat.le_of_not_lt hi')] at z
          rcases z with z | ⟨_, z, _⟩ <;> cases z
      · rw [List.getElem?_eq_none (l := r.set i .un) (by rw [List.length_set]; omega)]
        by_cases hi' : i < r'.length
        · have z := s.ro i
          rw [List.getElem?_eq_none (l := r.set i (.val w)) (by rw [List.length_set]; omega)] at z
          rcases z with z | ⟨_, z, _⟩
          · rw [List.getElem?_eq_getElem hi'] at z; cases z
          · cases z
        · rw [List.getElem?_eq_none (l := r'.set i .un) (by rw [List.length_set]; omega)]
    · rw [List.getElem?_set_ne c, List.getElem?_set_ne c]
      rcases s.ro j with q | ⟨xs, q1, q2, q3⟩
      · rw [List.getElem?_set_ne c] at q
        exact .inl q
      · rw [List.getElem?_set_ne c] at q1
        exact .inr ⟨xs, q1, q2, q3⟩
theorem Rel.back (er : Rel g H0 ow (r.set i .un) (st.set i none) H) : Rel g H0 ow (r.set i .un) st H := by
  refine ⟨er.sub, er.sp, er.spn, er.b0, er.bb, er.nf, by have := er.len; rw [List.length_set, List.length_set] at this; rw [List.length_set]; exact this, fun j u q => ?_, fun j ys q => ?_, er.dis⟩
  · obtain ⟨c, _⟩ := set_un (fun z => by cases z) q
    obtain ⟨v, h1, h2⟩ := er.val j u q
    rw [List.getElem?_set_ne c] at h1
    exact ⟨v, h1, h2⟩
  · obtain ⟨c, _⟩ := set_un (fun z => by cases z) q
    obtain ⟨h1, h2⟩ := er.own j ys q
    rw [List.getElem?_set_ne c] at h1
    exact ⟨h1, h2⟩
/-- where one stands among the turns -/
structure Lp (g : G) (ow : Nat → Addr) (st : L2.St) (i : Nat) (Hs0 : Hp) (rs : Rho) (Hs : Hp) (D : Addr) (H0 : Hp) (r : Rho) (H : Hp) (acc : List PyData) : Prop where
  e : Rel g H0 ow (r.set i .un) (st.set i none) H
  s : Ste g ow Hs0 rs Hs H0 (r.set i .un) H
  l : ∃ ws, H D = some (.lst ws) ∧ DqA g.K H0 ws acc
  n0 : H0 D = none
theorem set2 {α : Type} {l : List α} {i : Nat} {x y : α} : (l.set i x).set i y = l.set i y := by rw [List.set_set]
theorem lc_sem {x : Str} {px : Pos} {i : Nat} (hi : SI X g (.Name x px) iter mi) (ht : TsOk X g scope ifs tt t) (he : ∀ s H C cl fp, SE (bX X scope s H C cl fp) g elt m) (xq : XQ) (ow : Nat → Addr) (H0 : Hp) (r : Rho) (st : L2.St) (H : Hp) (k : KE) (xo : XOk X g xq) (er : Rel g H0 ow r st H) (hm : mLc i mi t m xq r k = true)
    (Q : VK) (post : ∀ v z H0' r' H', Pst g ow st H0 r H H0' r' H' v z → k z r' = true → Q v H') : tLc (wI X (.Name x px) iter) (gName i) tt (eAll X scope elt) [i] st H Q := by
  refine hi xq ow H0 r st H _ xo er hm _ fun J vs xs Gd H01 r1 H1 e1 s1 hJ hG0 hGs hd hm1 => ?_
  intro D hD
  split at hm1
  case h_2 => cases hm1
  rename_i hun
  have hlen : vs.length = xs.length := hd.length
  have hru : r1.set i .un = r1 := by
    obtain ⟨hi, q⟩ := List.getElem?_eq_some_iff.mp hun
    rw [← q]
    exact List.set_getElem_self hi
  obtain ⟨e2, d0, dB, da, dO, s2⟩ := e1.new (o := .lst []) hD
  have dO' : ∀ {H0' r' H'}, Ste g ow H01 r1 H1 H0' r' H' → NotOwn ow r' D := fun s j ys q => dO j ys (s.own q)
  have e2u : Rel g H01 ow (r1.set i .un) (st.set i none) (upd H1 D (.lst [])) := e2.unset
  have e2b : Rel g H01 ow r1 st (upd H1 D (.lst [])) := e2
  -- the turns
  refine ⟨fun j l h => l = xs.length - j ∧ j ≤ xs.length ∧ ∃ H0 r acc, Lp g ow st i H01 r1 H1 D H0 r h acc ∧ mLcGo i t m (xs.drop j) acc r (fun acc r2 => k (.fr acc) (r2.set i .un)) = true, ⟨xs.length, (Nat.sub_zero _).symm, Nat.zero_le _, H01, r1, [], ⟨e2u, by rw [hru]; exact s2, ⟨[], upd_same, .nil⟩, d0⟩, hm1⟩, ?_⟩
  rintro j l h ⟨rfl, hj, H02, r2, acc, lp, hm2⟩
  have hG : Gd h := hGs _ _ hG0 lp.s.sh
  obtain ⟨ws, hw, hwd⟩ := lp.l
  by_cases hlt : j < xs.length
  · obtain ⟨xj, hxj⟩ : ∃ xj, xs[j]? = some xj := ⟨xs[j], by simp [hlt]⟩
    obtain ⟨vj, hvj, hdj⟩ := hd.get hxj
    have hdrop : xs.drop j = xj :: xs.drop (j + 1) := by
      rw [List.drop_eq_getElem_cons (hlt)]
      rw [List.getElem?_eq_getElem hlt] at hxj
      rw [Option.some.inj hxj]
    rw [hdrop] at hm2
    refine .inr ⟨hJ.go j h (by rw [hlen]; exact hlt) hG, fun h' => j + 1 ≤ xs.length ∧ ∃ H0 r acc, Lp g ow st i H01 r1 H1 D H0 r h' acc ∧ mLcGo i t m (xs.drop (j + 1)) acc r (fun acc r2 => k (.fr acc) (r2.set i .un)) = true,
      fun h' q => ⟨xs.length - (j + 1), by omega, rfl, q⟩, fun y h' hy => ?_⟩
    obtain ⟨rfl, hvy⟩ := hJ.yld j h y h' (by rw [hlen]; exact hlt) hG hy
    rw [hvj] at hvy
    cases hvy
    show wipe ((st.set i none).set i (some vj)) [i] = wipe st [i] ∧ _
    refine ⟨by show ((st.set i none).set i (some vj)).set i none = st.set i none; rw [set2, set2], ?_⟩
    have e3 : Rel g H02 ow (r2.set i (.val (.d xj))) ((st.set i none).set i (some vj)) h' := by
      have q := lp.e.set (i := i) (w := .d xj) (dp_sub lp.s.s0 hdj)
      rw [set2] at q
      exact q
    unfold mLcGo at hm2
    refine ht.sem xq ow H02 _ _ h' _ xo e3 hm2 _ fun bb H03 r3 h3 e4 s4 hm3 => ?_
    cases bb with
    | true =>
      rw [if_pos rfl] at hm3 ⊢
      intro sB HB CB clB fpB
      refine he sB HB CB clB fpB noX ow H03 r3 _ h3 _ (xok_blk xo sB HB CB clB fpB) e4 hm3 _ fun v4 z4 H04 r4 h4 p4 hm4 => ?_
      obtain ⟨H05, p5⟩ := p4.esc
      split at hm4
      · rename_i d r5 eq5
        rw [Bool.and_eq_true] at hm4
        have s45 : Ste g ow H02 (r2.set i (.val (.d xj))) h' H05 r5 h4 := by
          have q := s4.trans p5.s
          rw [eq5] at q
          exact q
        have rw5 : Dq g.K H05 v4 d := by
          have q := p5.rw
          rw [eq5] at q
          exact q
        have e5 : Rel g H05 ow r5 ((st.set i none).set i (some vj)) h4 := by
          have q := p5.e
          rw [eq5] at q
          exact q
        have hD4 : h4 D = some (.lst ws) := s45.sh D _ da hw
        have sN := lp.s.trans s45.slot
        have n05 : H05 D = none := s45.nf D _ da hw lp.n0 fun jj ys q => by
          by_cases c : i = jj
          · subst c
            by_cases hi : i < r2.length
            · rw [List.getElem?_set_self hi] at q; cases q
            · rw [List.getElem?_eq_none (by rw [List.length_set]; omega)] at q; cases q
          · rw [List.getElem?_set_ne c] at q
            exact dO' lp.s jj ys (by rw [List.getElem?_set_ne c]; exact q)
        have e6 : Rel g H05 ow (r5.set i .un) (st.set i none) h4 := by
          have q := e5.unset (i := i)
          rw [set2, set2] at q
          exact q
        have hacc : ws.length < sizeLine := by rw [hwd.length]; exact of_decide_eq_true hm4.1
        have sD : ∀ b o, b ≠ g.a → H1 b = some o → upd h4 D (.lst (ws ++ [v4])) b = some o := fun b o n q => by
          rw [upd_ne (ne_of_none q hD)]
          exact sN.sh b o n q
        refine ⟨ws, hD4, hacc, hlt, H05, r5, acc ++ [d], ⟨e6.mut n05 dB da (dO' sN), ⟨sN.s0, sD, sN.nf, sN.ro⟩, ⟨ws ++ [v4], upd_same, (dpa_sub s45.s0 hwd).append (.cons rw5 .nil)⟩, n05⟩, hm4.2⟩
      · cases hm4
    | false =>
      rw [if_neg Bool.false_ne_true] at hm3 ⊢
      have e6 : Rel g H03 ow (r3.set i .un) (st.set i none) h3 := by
        have q := e4.unset (i := i)
        rw [set2, set2] at q
        exact q
      have n05 : H03 D = none := s4.nf D _ da hw lp.n0 fun jj ys q => by
          by_cases c : i = jj
          · subst c
            by_cases hi : i < r2.length
            · rw [List.getElem?_set_self hi] at q; cases q
            · rw [List.getElem?_eq_none (by rw [List.length_set]; omega)] at q; cases q
          · rw [List.getElem?_set_ne c] at q
            exact dO' lp.s jj ys (by rw [List.getElem?_set_ne c]; exact q)
      exact ⟨hlt, H03, r3, acc, ⟨e6, lp.s.trans s4.slot, ⟨ws, s4.sh D _ da hw, dpa_sub s4.s0 hwd⟩, n05⟩, hm3⟩
  · have hje : j = xs.length := by omega
    subst hje
    rw [List.drop_length] at hm2
    refine .inl ⟨hJ.stop _ h (by rw [hlen]; exact Nat.le_refl _) hG, ?_⟩
    have eF := lp.e.back
    refine post _ (.fr acc) H02 (r2.set i .un) h ⟨eF, s1.trans lp.s, ⟨D, ws, rfl, lp.n0, dB, da, dO' lp.s, hw, hwd⟩, fun p ep => ?_⟩ hm2
    cases ep
    exact s1.fresh hD da
theorem eAll_pe (s : Shared) (H : Hp) (C : Addr) (cl : List (Str × Addr)) (fp : List Addr) : PE (bX X scope s H C cl fp) elt (eAll X scope elt) := ⟨fun pn s' _ _ _ iv q => q s H C cl fp pn s' iv⟩
theorem se_lc {x : Str} {px : Pos} {i : Nat} (hc : X.calm = true) (hN : X.N.Nodup) (ok : BlkOk X.N X.env.scope scope [(x, i)]) (hi : SI X g (.Name x px) iter mi) (hg : ∀ s H C cl fp, PG (bX X scope s H C cl fp) (.Name x px) (gName i)) (ht : TsOk X g scope ifs tt t)
    (he : ∀ s H C cl fp, SE (bX X scope s H C cl fp) g elt m) (hs : ∀ y, foldedSetIterable iter X.env y = pure y := by intro _; rfl) : SE X g (.ListComp elt [⟨.Name x px, iter, ifs, 0⟩] scope pos) (mLc i mi t m) := .mk fun xq ow H0 r st H k xo er hm Q post =>
  wE_of (pe_lc (own := [(x, i)]) (te := eAll X scope elt) hc hN piW ok hg ht.pts eAll_pe hs) (lc_sem hi ht he xq ow H0 r st H k xo er hm Q post)
end
end Pz

set_option Elab.async false
set_option linter.all false
set_option maxRecDepth 100000
set_option maxHeartbeats 1900000
namespace Pz
open PySem L2
/-- what holds where a def hands back -/
structure Fin (g : G) (H0' H' : Hp) : Prop where
  sub : ∀ b o, H0' b = some o → H' b = some o
  sp : SpOk g.a H0' H' g.nm
  spn : H0' g.a = none
  b0 : ∀ b o, g.B0 b = some o → H0' b = some o
  bb : ∀ b o, b ≠ g.a → g.B b = some o → H' b = some o
  nf : ∀ b o, b ≠ g.a → g.B b = some o → g.B0 b = none → H0' b = none
/-- what a def is worth: data in, data out -/
abbrev Fm := XQ → List W → (W → Bool) → Bool
def spOf (K : PySem.W.Frag) (F : Fm) : Sp := fun vs H Q _ => ∃ (a : Addr) (nm : List Str) (lv : Nat) (ws : List W) (H0 : Hp) (kf : W → Bool), (∀ b o, H0 b = some o → H b = some o) ∧ SpOk a H0 H nm ∧ H0 a = none ∧ RWs ⟨K, a, nm, H0, H, lv⟩ H0 vs ws ∧ F noX ws kf = true ∧
  ∀ v w H0' H', Fin ⟨K, a, nm, H0, H, lv⟩ H0' H' → RW K a H0' v w → kf w = true → Q v H'
section
variable {X : Cx} {g : G} {ow : Nat → Addr} {H0 H0' H0'' : Hp} {r r' r'' : Rho} {H H' H'' : Hp} {st : L2.St} {v v1 v2 : V} {z z1 z2 : R} {e a b tg iter elt c : Expr} {ma mb mc m : M} {pos : Pos} {ta tb t : MT} {rest ifs : List Expr} {scope : Scope} {mi : MI} {tt : TT}
theorem Rel.fin {lv : Nat} (er : Rel g H0 ow r st H) (f : Fin ⟨g.K, g.a, g.nm, H0, H, lv⟩ H0' H') : Rel g H0' ow r st H' ∧ Ste g ow H0 r H H0' r H' := by
  refine ⟨⟨f.sub, f.sp, f.spn, fun b o q => f.b0 b o (er.b0 b o q), fun b o n q => f.bb b o n (er.bb b o n q), fun b o n q1 q2 => f.nf b o n (er.bb b o n q1) (er.nf b o n q1 q2), er.len, fun i w q => ?_, fun i xs q => ?_, er.dis⟩, ⟨f.b0, f.bb, fun b o n q1 q2 _ => f.nf b o n q1 q2, fun _ => .inl rfl⟩⟩
  · obtain ⟨v, h1, h2⟩ := er.val i w q
    exact ⟨v, h1, h2.keep f.b0⟩
  · obtain ⟨h1, h2, h3, h4, vs, h5, h6⟩ := er.own i xs q
    exact ⟨h1, f.nf _ _ h4 h5 h2, h3, h4, vs, f.bb _ _ h4 h5, dpa_sub f.b0 h6⟩
theorem Rel.toFin (er : Rel g H0 ow r st H) : Fin g H0 H := ⟨er.sub, er.sp, er.spn, er.b0, er.bb, er.nf⟩
theorem rws_g {g g' : G} (hK : g.K = g'.K) (ha : g.a = g'.a) : ∀ {vs : List V} {ws : List W}, RWs g H0 vs ws → RWs g' H0 vs ws
  | _, _, .nil => .nil
  | _, _, .cons h t => .cons (by rw [← hK, ← ha]; exact h) (rws_g hK ha t)
/-! ### calls -/
def mCall (F : Fm) (ms : MA) : M := fun xq r k => ms xq r fun ws r1 => F noX ws fun w => k (.val w) r1
theorem se_call {F : Fm} {es : List Expr} {ms : MA} {x : Str} {p : Pos} (hp : PE X (.Call (.Name x p) es [] pos) (tCall (spOf X.K F) [] E0 (wA X es))) (ha : SAs X g es ms) : SE X g (.Call (.Name x p) es [] pos) (mCall F ms) := .mk fun xq ow H0 r st H k xo er hm Q post => by
  refine wE_of hp ?_
  refine ha xq ow H0 r st H _ xo er hm _ fun vs ws H01 r1 H1 e1 s1 w1 hm1 => ?_
  rw [List.append_nil]
  refine ⟨g.a, g.nm, g.lv, ws, H01, _, e1.sub, e1.sp, e1.spn, rws_g (g := g) (g' := ⟨X.K, g.a, g.nm, H01, H1, g.lv⟩) xo.K.symm rfl w1, hm1, fun v w H0' H' f hw hk => ?_⟩
  rw [xo.K] at f hw
  obtain ⟨e2, s2⟩ := e1.fin f
  exact post v (.val w) H0' r1 H' ⟨e2, s1.trans s2, hw, trivial⟩ hk

/-! ### statements -/
/-- a state at a moment of a def -/
def SSk (g : G) (k : Rho → Bool) (d : L2.St → Hp → Prop) : Prop := ∀ (ow' : Nat → Addr) (r' : Rho) (st' : L2.St) (H0' H' : Hp), Rel g H0' ow' r' st' H' → k r' = true → d st' H'
structure Ok (g : G) (K : KS) (D : Ends) : Prop where
  nx : SSk g K.nx D.nx
  rt : ∀ v w H0' H', Fin g H0' H' → RW g.K g.a H0' v w → K.rt w = true → D.rt v H'
  bk : SSk g K.bk D.bk
  ct : SSk g K.ct D.ct
structure SS (X : Cx) (g : G) (s : Stmt) (n : MS) : Prop where
  run : ∀ (xq : XQ) (ow : Nat → Addr) (H0 : Hp) (r : Rho) (st : L2.St) (H : Hp) (K : KS), XOk X g xq → Rel g H0 ow r st H → n xq r K = true → ∀ D : Ends, Ok g K D → wS X s D st H
instance {X : Cx} {g : G} {s : Stmt} {n : MS} : CoeFun (SS X g s n) (fun _ => ∀ (xq : XQ) (ow : Nat → Addr) (H0 : Hp) (r : Rho) (st : L2.St) (H : Hp) (K : KS), XOk X g xq → Rel g H0 ow r st H → n xq r K = true → ∀ D : Ends, Ok g K D → wS X s D st H) := ⟨fun h => h.run⟩
structure SB (X : Cx) (g : G) (ss : List Stmt) (n : MS) : Prop where
  run : ∀ (xq : XQ) (ow : Nat → Addr) (H0 : Hp) (r : Rho) (st : L2.St) (H : Hp) (K : KS), XOk X g xq → Rel g H0 ow r st H → n xq r K = true → ∀ D : Ends, Ok g K D → wB X ss D st H
instance {X : Cx} {g : G} {ss : List Stmt} {n : MS} : CoeFun (SB X g ss n) (fun _ => ∀ (xq : XQ) (ow : Nat → Addr) (H0 : Hp) (r : Rho) (st : L2.St) (H : Hp) (K : KS), XOk X g xq → Rel g H0 ow r st H → n xq r K = true → ∀ D : Ends, Ok g K D → wB X ss D st H) := ⟨fun h => h.run⟩
def nNil : MS := fun _ r K => K.nx r
def nSeq (n1 n2 : MS) : MS := fun xq r K => n1 xq r { K with nx := fun r' => n2 xq r' K }
theorem sb_nil : SB X g [] nNil := .mk fun xq ow H0 r st H K xo er hm D ok => wB_of pss_nil (ok.nx _ _ _ _ _ er hm)
theorem sb_cons {s : Stmt} {ss : List Stmt} {n1 n2 : MS} (h1 : SS X g s n1) (h2 : SB X g ss n2) : SB X g (s :: ss) (nSeq n1 n2) := .mk fun xq ow H0 r st H K xo er hm D ok => by
  refine wB_of (pss_cons psW pbW) ?_
  exact h1 xq ow H0 r st H _ xo er hm _ ⟨fun ow' r' st' H0' H' e' hk => h2 xq ow' H0' r' st' H' K xo e' hk D ok, ok.rt, ok.bk, ok.ct⟩
theorem sb_one {s : Stmt} {n : MS} (h1 : SS X g s n) : SB X g [s] n := .mk fun xq ow H0 r st H K xo er hm D ok => wB_of (pss_one psW) (h1 xq ow H0 r st H K xo er hm D ok)
def nRet (m : M) : MS := fun xq r K => m xq r fun y r1 => K.rt (y.esc r1).1
theorem ss_ret (ha : SE X g a ma) : SS X g (.Return (some a) pos) (nRet ma) := .mk fun xq ow H0 r st H K xo er hm D ok => by
  refine wS_of (ps_ret peW) ?_
  refine ha xq ow H0 r st H _ xo er hm _ fun v1 z1 H01 r1 H1 p1 hm1 => ?_
  obtain ⟨H02, p2⟩ := p1.esc
  exact ok.rt _ _ _ _ p2.e.toFin p2.rw hm1
def nRetN : MS := fun xq r K => K.rt (.d .none)
theorem ss_retN : SS X g (.Return none pos) nRetN := .mk fun xq ow H0 r st H K xo er hm D ok => wS_of ps_retN (ok.rt _ (.d .none) _ _ er.toFin .non hm)
def nIf (t : MT) (n1 n2 : MS) : MS := fun xq r K => t xq r fun b r1 => if b = true then n1 xq r1 K else n2 xq r1 K
theorem ss_if {s1 s2 : List Stmt} {n1 n2 : MS} (hc : STt X g c t) (h1 : SB X g s1 n1) (h2 : SB X g s2 n2) : SS X g (.If c s1 s2 pos) (nIf t n1 n2) := .mk fun xq ow H0 r st H K xo er hm D ok => by
  refine wS_of (ps_if ptW pbW pbW) ?_
  refine hc xq ow H0 r st H _ xo er hm _ fun bb H01 r1 H1 e1 s1 hm1 => ?_
  cases bb with
  | true =>
    rw [if_pos rfl] at hm1 ⊢
    exact h1 xq ow H01 r1 st H1 K xo e1 hm1 D ok
  | false =>
    rw [if_neg Bool.false_ne_true] at hm1 ⊢
    exact h2 xq ow H01 r1 st H1 K xo e1 hm1 D ok
def nDrop (m : M) : MS := fun xq r K => m xq r fun _ r1 => K.nx r1
theorem ss_expr (hs : swapsWith a none pos.line X.env = pure false) (ha : SE X g a ma) : SS X g (.Expr a pos) (nDrop ma) := .mk fun xq ow H0 r st H K xo er hm D ok => by
  refine wS_of (ps_expr peW hs) ?_
  exact ha xq ow H0 r st H _ xo er hm _ fun v1 z1 H01 r1 H1 p1 hm1 => ok.nx _ _ _ _ _ p1.e hm1

/-! ### x = e -/
/-- an own list is given up, a new one kept as such -/
def R.soft : R → Rho → R × Rho
  | .pk i xs, r => (.val (.d (.list xs)), (R.esc (.pk i xs) r).2)
  | z, r => (z, r)
theorem Pst.soft (p : Pst g ow st H0 r H H0' r' H' v z) : ∃ H0'', Pst g ow st H0 r H H0'' (z.soft r').2 H' v (z.soft r').1 := by
  cases z with
  | val w => exact ⟨_, p⟩
  | fr xs => exact ⟨_, p⟩
  | pk i xs =>
    obtain ⟨H0'', q⟩ := p.esc
    exact ⟨H0'', q.e, q.s, q.rw, trivial⟩
def asg (i : Nat) (z : R) (r : Rho) : Rho := match z with
  | .val w => r.set i (.val w)
  | .fr xs => r.set i (.own xs)
  | .pk _ _ => r.set i .un
theorem Rel.asg {i : Nat} (er : Rel g H0 ow r st H) (h : RR g H0 ow r H v z) (hz : ∀ j xs, z ≠ .pk j xs) : ∃ ow', Rel g H0 ow' (Pz.asg i z r) (st.set i (some v)) H ∧ ∀ b, NotOwn ow r b → (∀ xs, z = .fr xs → v ≠ .ref b) → NotOwn ow' (Pz.asg i z r) b := by
  cases z with
  | val w =>
    refine ⟨ow, er.set h, fun b hb _ j ys q => ?_⟩
    by_cases c : i = j
    · subst c
      by_cases hi : i < r.length
      · rw [show Pz.asg i (.val w) r = r.set i (.val w) from rfl, List.getElem?_set_self hi] at q; cases q
      · rw [show Pz.asg i (.val w) r = r.set i (.val w) from rfl, List.getElem?_eq_none (by rw [List.length_set]; omega)] at q; cases q
    · rw [show Pz.asg i (.val w) r = r.set i (.val w) from rfl, List.getElem?_set_ne c] at q
      exact hb j ys q
  | pk j xs => exact absurd rfl (hz j xs)
  | fr xs =>
    obtain ⟨p, vs, ev, n0, nb, na, no, hp, hd⟩ := h
    have cs : ∀ {j : Nat} {s : S}, (r.set i (S.own xs))[j]? = some s → (j = i ∧ s = .own xs ∧ i < r.length) ∨ (i ≠ j ∧ r[j]? = some s) := fun {j s} q => by
      by_cases c : i = j
      · subst c
        by_cases hi : i < r.length
        · rw [List.getElem?_set_self hi] at q; cases q; exact .inl ⟨rfl, rfl, hi⟩
        · rw [List.getElem?_eq_none (by rw [List.length_set]; omega)] at q; cases q
      · rw [List.getElem?_set_ne c] at q; exact .inr ⟨c, q⟩
    refine ⟨fun j => if j = i then p else ow j, ⟨er.sub, er.sp, er.spn, er.b0, er.bb, er.nf, by show (r.set i (.own xs)).length = _; rw [List.length_set, List.length_set]; exact er.len, fun j w q => ?_, fun j ys q => ?_, fun j l ys zs q1 q2 n => ?_⟩, fun b hb hv j ys q => ?_⟩
    · rcases cs q with ⟨_, q2, _⟩ | ⟨c, q2⟩
      · cases q2
      · rw [List.getElem?_set_ne c]
        exact er.val j w q2
    · rcases cs q with ⟨c, q2, hi⟩ | ⟨c, q2⟩
      · cases q2
        subst c
        refine ⟨?_, by rw [if_pos rfl]; exact n0, by rw [if_pos rfl]; exact nb, by rw [if_pos rfl]; exact na, vs, by rw [if_pos rfl]; exact hp, hd⟩
        rw [if_pos rfl, List.getElem?_set_self (by rw [← er.len]; exact hi), ev]
      · rw [List.getElem?_set_ne c, if_neg (Ne.symm c)]
        exact er.own j ys q2
    · rcases cs q1 with ⟨c1, _, _⟩ | ⟨c1, q1'⟩ <;> rcases cs q2 with ⟨c2, _, _⟩ | ⟨c2, q2'⟩
      · exact absurd (c1.trans c2.symm) n
      · rw [if_pos c1, if_neg (Ne.symm c2)]
        exact (no l zs q2').symm
      · rw [if_neg (Ne.symm c1), if_pos c2]
        exact no j ys q1'
      · rw [if_neg (Ne.symm c1), if_neg (Ne.symm c2)]
        exact er.dis j l ys zs q1' q2' n
    · dsimp only
      rcases cs q with ⟨c, _, _⟩ | ⟨c, q2⟩
      · rw [if_pos c]
        intro e
        exact hv xs rfl (by rw [ev, e])
      · rw [if_neg (Ne.symm c)]
        exact hb j ys q2
theorem soft_pk {z : R} {r : Rho} : ∀ j xs, (z.soft r).1 ≠ .pk j xs := fun j xs => by
  cases z <;> exact fun e => by cases e
def nAsg (i : Nat) (m : M) : MS := fun xq r K => m xq r fun y r1 => K.nx (asg i (y.soft r1).1 (y.soft r1).2)
theorem ss_asg {i : Nat} {sm : Stmt} (hp : PS X sm (tAsg (wE X a) (gName i))) (ha : SE X g a ma) : SS X g sm (nAsg i ma) := .mk fun xq ow H0 r st H K xo er hm D ok => by
  refine wS_of hp ?_
  refine ha xq ow H0 r st H _ xo er hm _ fun v1 z1 H01 r1 H1 p1 hm1 => ?_
  obtain ⟨H02, p2⟩ := p1.soft
  obtain ⟨ow', e3, _⟩ := p2.e.asg (i := i) p2.rr soft_pk
  exact ok.nx _ _ _ _ _ e3 hm1

/-! ### a, b = x, y -/
theorem RR.move {ow' : Nat → Addr} {q : Rho} (h : RR g H0 ow r H v z) (hz : ∀ j xs, z ≠ .pk j xs) (no : ∀ xs p, z = .fr xs → v = .ref p → NotOwn ow r p → NotOwn ow' q p) : RR g H0 ow' q H v z := by
  cases z with
  | val w => exact h
  | pk j xs => exact absurd rfl (hz j xs)
  | fr xs =>
    obtain ⟨p, vs, ev, n0, nb, na, no', hp, hd⟩ := h
    exact ⟨p, vs, ev, n0, nb, na, no xs p rfl ev no', hp, hd⟩
def nPar (i j : Nat) (m1 m2 : M) : MS := fun xq r K => m1 xq r fun y r1 => m2 xq (y.soft r1).2 fun y2 r2 => K.nx (asg j (y2.soft r2).1 (asg i (y.soft r1).1 (y2.soft r2).2))
theorem soft_fr {z : R} {r : Rho} {xs : List PyData} (h : (z.soft r).1 = .fr xs) : z = .fr xs := by
  cases z with
  | val w => exact h
  | fr ys => exact h
  | pk i ys => cases h
theorem fresh_ne {p1 p2 : Addr} (h1 : H p1 = none) {o : HO} (h2 : H p2 = some o) : p2 ≠ p1 := fun e => by rw [e, h1] at h2; cases h2
theorem ss_par {i j : Nat} {sm : Stmt} (hp : PS X sm (tPar i j (wA X [a, b]))) (hs : starEach [a, b] X.env = (false, eval a X.env) :: starEach [b] X.env) (hs2 : starEach [b] X.env = (false, eval b X.env) :: starEach [] X.env) (ha : SE X g a ma) (hb : SE X g b mb) : SS X g sm (nPar i j ma mb) := .mk fun xq ow H0 r st H K xo er hm D ok => by
  refine wS_of hp (wA_of (pa_cons peW (pa_cons peW pa_nil hs2) hs) ?_)
  refine ha xq ow H0 r st H _ xo er hm _ fun v1 z1 H01 r1 H1 p1 hm1 => ?_
  obtain ⟨H01', p1'⟩ := p1.soft
  refine hb xq ow H01' _ st H1 _ xo p1'.e hm1 _ fun v2 z2 H02 r2 H2 p2 hm2 => ?_
  obtain ⟨H02', p2'⟩ := p2.soft
  refine ⟨v1, v2, rfl, ?_⟩
  have k1 := p1'.rr.keep p2'.s
  obtain ⟨ow1, e3, n3⟩ := p2'.e.asg (i := i) k1 soft_pk
  have k2 : RR g H02' ow1 (asg i (z1.soft r1).1 (z2.soft r2).2) H2 v2 (z2.soft r2).1 := by
    refine p2'.rr.move soft_pk fun ys p ez ep hn => n3 p hn fun xs e1 e2 => ?_
    have e4 := soft_fr ez
    subst e4
    have f1 := p1'.rr
    rw [e1] at f1
    obtain ⟨p', vs, ev, n0, _, _, _, hp', _⟩ := f1
    rw [ev] at e2
    cases e2
    have q := p2.nw p ep
    rw [q] at hp'
    cases hp'
  obtain ⟨ow2, e4, _⟩ := e3.asg (i := j) k2 soft_pk
  exact ok.nx _ _ _ _ _ e4 hm2

/-! ### a, b, c = t -/
def gNames : List Nat → TGs
  | [] => gNil
  | i :: is => gCons (gName i) (gNames is)
def setAll : List Nat → List PyData → Rho → Rho
  | i :: is, x :: xs, r => setAll is xs (r.set i (.val (.d x)))
  | _, _, r => r
theorem names_sem : ∀ (is : List Nat) {vs : List V} {xs : List PyData} {r : Rho} {st : L2.St} {q : L2.St → Hp → Prop}, Rel g H0 ow r st H → DqA g.K H0 vs xs → vs.length = is.length → (∀ st', Rel g H0 ow (setAll is xs r) st' H → q st' H) → gNames is vs st H q
  | [], _, _, _, _, _, er, .nil, _, k => ⟨rfl, k _ er⟩
  | [], _, _, _, _, _, er, .cons _ _, h, _ => by cases h
  | i :: is, _, _, _, _, _, er, .nil, h, _ => by cases h
  | i :: is, _, _, _, _, _, er, .cons h1 h2, h, k => ⟨_, _, rfl, names_sem is (er.set (w := .d _) h1) h2 (by simpa using h) k⟩
def nUnp (is : List Nat) (m : M) : MS := fun xq r K => m xq r fun y r1 => match y.dat with
  | some (.tuple xs) => decide (xs.length = is.length) && K.nx (setAll is xs r1)
  | _ => false
theorem ss_unp {is : List Nat} {n : Nat} {sm : Stmt} (hn : n = is.length) (hp : PS X sm (tAsg (wE X a) (gTup X.K n (gNames is)))) (ha : SE X g a ma) : SS X g sm (nUnp is ma) := .mk fun xq ow H0 r st H K xo er hm D ok => by
  refine wS_of hp ?_
  refine ha xq ow H0 r st H _ xo er hm _ fun v1 z1 H01 r1 H1 p1 hm1 => ?_
  split at hm1
  · rename_i xs e1
    rw [Bool.and_eq_true] at hm1
    obtain ⟨p, vs, ev, hp', hd⟩ := p1.rr.tup p1.e e1
    have hl : vs.length = is.length := by rw [hd.length]; exact of_decide_eq_true hm1.1
    exact ⟨p, vs, ev, by rw [xo.K]; exact hp', hl.trans hn.symm, names_sem is p1.e hd hl fun st' e' => ok.nx _ _ _ _ _ e' hm1.2⟩
  · cases hm1

/-! ### for -/
structure SIf (X : Cx) (g : G) (tg iter : Expr) (mi : MI) : Prop where
  run : ∀ (xq : XQ) (ow : Nat → Addr) (H0 : Hp) (r : Rho) (st : L2.St) (H : Hp) (k : List PyData → Rho → Bool), XOk X g xq → Rel g H0 ow r st H → mi xq r k = true → ∀ q : It → Hp → Prop, (∀ J vs xs Gd H0' r' H', Rel g H0' ow r' st H' → Ste g ow H0 r H H0' r' H' → ItOk J vs Gd → (∀ h, (∀ b o, H0' b = some o → h b = some o) → Gd h) → DqA g.K H0' vs xs → k xs r' = true → q J H') → wI X tg iter st H q
instance {X : Cx} {g : G} {tg iter : Expr} {mi : MI} : CoeFun (SIf X g tg iter mi) (fun _ => ∀ (xq : XQ) (ow : Nat → Addr) (H0 : Hp) (r : Rho) (st : L2.St) (H : Hp) (k : List PyData → Rho → Bool), XOk X g xq → Rel g H0 ow r st H → mi xq r k = true → ∀ q : It → Hp → Prop, (∀ J vs xs Gd H0' r' H', Rel g H0' ow r' st H' → Ste g ow H0 r H H0' r' H' → ItOk J vs Gd → (∀ h, (∀ b o, H0' b = some o → h b = some o) → Gd h) → DqA g.K H0' vs xs → k xs r' = true → q J H') → wI X tg iter st H q) := ⟨fun h => h.run⟩
def fiL (m : M) : MI := fun xq r k => m xq r fun y r1 => match y.dat with
  | some (.list xs) => k xs (y.esc r1).2
  | _ => false
theorem esc_list {z : R} {r : Rho} {xs : List PyData} (h : z.dat = some (.list xs)) : (z.esc r).1 = .d (.list xs) := by
  cases z with
  | val w =>
    cases w with
    | sp => cases h
    | d x => cases h; rfl
  | fr ys => cases h; rfl
  | pk i ys => cases h; rfl
theorem sif_list (ha : SE X g iter ma) : SIf X g tg iter (fiL ma) := .mk fun xq ow H0 r st H k xo er hm q post => by
  refine wI_of (pi_list peW) ?_
  refine ha xq ow H0 r st H _ xo er hm _ fun v1 z1 H01 r1 H1 p1 hm1 => ?_
  split at hm1
  · rename_i xs e1
    obtain ⟨H02, p2⟩ := p1.esc
    have w2 := p2.rw
    rw [esc_list e1] at w2
    cases (show Dq g.K H02 v1 _ from w2) with
    | @lst p vs _ h1 h2 =>
      exact ⟨p, rfl, ⟨vs, SqL.of (p2.e.sub _ _ h1)⟩, post _ vs xs (fun h => h p = some (.lst vs)) _ _ _ p2.e p2.s itok_list (fun h q => q _ _ h1) h2 hm1⟩
  · cases hm1
theorem sif_tup (ha : SE X g iter ma) : SIf X g tg iter (miT ma) := .mk fun xq ow H0 r st H k xo er hm q post => by
  refine wI_of (pi_tup peW) ?_
  refine ha xq ow H0 r st H _ xo er hm _ fun v1 z1 H01 r1 H1 p1 hm1 => ?_
  split at hm1
  · rename_i xs e1
    have f1 := p1.rr.froz e1 (fun _ q => by cases q)
    cases f1 with
    | @tup p vs _ h1 h2 =>
      have hK : g.K = X.K := xo.K.symm
      have h1' : SqT X.K H01 p vs := by rw [← hK]; exact h1
      exact ⟨p, rfl, ⟨vs, sub_seqT p1.e.sub h1'⟩, post _ vs xs (fun h => SqT X.K h p vs) _ _ _ p1.e p1.s ⟨fun i h hi hg => ⟨vs, vs[i], hg, by simp [hi]⟩, fun i h hi hg => ⟨vs, hg, hi⟩, fun i h x h' hi hg hy => ⟨hy.1, hy.2 vs hg⟩⟩ (fun h q => sub_seqT q h1') h2 hm1⟩
  · cases hm1
theorem sif_of {mi : MI} (h : ∀ (xq : XQ) (ow : Nat → Addr) (H0 : Hp) (r : Rho) (st : L2.St) (H : Hp) (k : List PyData → Rho → Bool), XOk X g xq → Rel g H0 ow r st H → mi xq r k = true →
    ∀ q : It → Hp → Prop, (∀ J vs xs H0' r' H', Rel g H0' ow r' st H' → Ste g ow H0 r H H0' r' H' → ItOk J vs (fun _ => True) → DqA g.K H0' vs xs → k xs r' = true → q J H') → wI X tg iter st H q) : SIf X g tg iter mi := .mk fun xq ow H0 r st H k xo er hm q post =>
  h xq ow H0 r st H k xo er hm q fun J vs xs H0' r' H' e s it hd hk => post J vs xs _ H0' r' H' e s it (fun _ _ => trivial) hd hk
theorem sif_rng1 {p : Pos} (hp : PI X tg (.Call (.Name "range" p) [a] [] pos) (iRng1 (wA X [a]))) (ha : SE X g a ma) (hs : starEach [a] X.env = (false, eval a X.env) :: starEach [] X.env := by rfl) : SIf X g tg (.Call (.Name "range" p) [a] [] pos) (miR1 ma) := sif_of fun xq ow H0 r st H k xo er hm q post => by
  refine wI_of hp (wA1 hs ?_)
  refine ha xq ow H0 r st H _ xo er hm _ fun v1 z1 H01 r1 H1 p1 hm1 => ?_
  split at hm1
  · rename_i j e1
    rw [Bool.and_eq_true, Bool.and_eq_true] at hm1
    exact ⟨j, by rw [p1.rr.int p1.e e1], of_decide_eq_true hm1.1, of_decide_eq_true hm1.2.1, post _ _ _ _ _ _ p1.e p1.s itok_rng (dq_ints _ _) hm1.2.2⟩
  · cases hm1
/-- the turns -/
def nForGo (i : Nat) (nb : MS) (xq : XQ) (K : KS) : List PyData → Rho → Bool
  | [], r => K.nx r
  | x :: xs, r => nb xq (r.set i (.val (.d x))) { K with nx := fun r' => nForGo i nb xq K xs r', ct := fun r' => nForGo i nb xq K xs r', bk := K.nx }
def nFor (i : Nat) (mi : MI) (nb : MS) : MS := fun xq r K => mi xq r fun xs r1 => nForGo i nb xq K xs r1
/-- another checkpoint: what is frozen now stays -/
def G.at_ (g : G) (H0 : Hp) : G := { g with B0 := H0, B := fun b => match g.B b with
  | some o => some o
  | none => H0 b }
theorem at_B {b : Addr} {o : HO} (h : g.B b = some o) : (g.at_ H0).B b = some o := by
  show (match g.B b with | some o => some o | none => H0 b) = _
  rw [h]
theorem Rel.at_ (er : Rel g H0 ow r st H) : Rel (g.at_ H0) H0 ow r st H := by
  refine ⟨er.sub, er.sp, er.spn, fun _ _ q => q, fun b o n q => ?_, fun b o n q1 q2 => q2, er.len, er.val, fun i xs q => ?_, er.dis⟩
  · cases c : g.B b with
    | some u =>
      rw [at_B c] at q
      cases q
      exact er.bb b _ n c
    | none =>
      have q' : (match g.B b with | some o => some o | none => H0 b) = some o := q
      rw [c] at q'
      exact er.sub b o q'
  · obtain ⟨h1, h2, h3, h4, h5⟩ := er.own i xs q
    refine ⟨h1, h2, ?_, h4, h5⟩
    show (match g.B (ow i) with | some o => some o | none => H0 (ow i)) = none
    rw [h3]
    exact h2
theorem Rel.of_at {ow2 : Nat → Addr} {r2 : Rho} {st2 : L2.St} (er : Rel g H0 ow r st H) (e2 : Rel (g.at_ H0) H0' ow2 r2 st2 H') : Rel g H0' ow2 r2 st2 H' := by
  refine ⟨e2.sub, e2.sp, e2.spn, fun b o q => e2.b0 b o (er.b0 b o q), fun b o n q => e2.bb b o n (at_B q), fun b o n q1 q2 => e2.nf b o n (at_B q1) (er.nf b o n q1 q2), e2.len, e2.val, fun i xs q => ?_, e2.dis⟩
  obtain ⟨h1, h2, h3, h4, h5⟩ := e2.own i xs q
  refine ⟨h1, h2, ?_, h4, h5⟩
  cases c : g.B (ow2 i) with
  | none => rfl
  | some u => rw [at_B c] at h3; cases h3
theorem Fin.of_at (er : Rel g H0 ow r st H) (f : Fin (g.at_ H0) H0' H') : Fin g H0' H' :=
  ⟨f.sub, f.sp, f.spn, fun b o q => f.b0 b o (er.b0 b o q), fun b o n q => f.bb b o n (at_B q), fun b o n q1 q2 => f.nf b o n (at_B q1) (er.nf b o n q1 q2)⟩
theorem ss_for {i : Nat} {x : Str} {px : Pos} {body : List Stmt} {nb : MS} {sm : Stmt} (hp : PS X sm (tFor (wI X (.Name x px) iter) (gName i) (wB X body))) (hi : SIf X g (.Name x px) iter mi) (hb : ∀ g', SB X g' body nb) : SS X g sm (nFor i mi nb) := .mk fun xq ow H0 r st H K xo er hm D ok => by
  refine wS_of hp ?_
  refine hi xq ow H0 r st H _ xo er hm _ fun J vs xs Gd H01 r1 H1 e1 s1 hJ hG hd hm1 => ?_
  have hlen : vs.length = xs.length := hd.length
  refine ⟨fun j l st' h => l = xs.length - j ∧ j ≤ xs.length ∧ ∃ ow' H0' r', Rel (g.at_ H01) H0' ow' r' st' h ∧ nForGo i nb xq K (xs.drop j) r' = true, ⟨xs.length, (Nat.sub_zero _).symm, Nat.zero_le _, ow, H01, r1, e1.at_, hm1⟩, ?_⟩
  rintro j l st' h ⟨rfl, hj, ow', H02, r2, e2, hm2⟩
  have hGh : Gd h := hG h fun b o q => e2.sub b o (e2.b0 b o q)
  by_cases hlt : j < xs.length
  · obtain ⟨xj, hxj⟩ : ∃ xj, xs[j]? = some xj := ⟨xs[j], by simp [hlt]⟩
    obtain ⟨vj, hvj, hdj⟩ := hd.get hxj
    have hdrop : xs.drop j = xj :: xs.drop (j + 1) := by
      rw [List.drop_eq_getElem_cons (hlt)]
      rw [List.getElem?_eq_getElem hlt] at hxj
      rw [Option.some.inj hxj]
    rw [hdrop] at hm2
    refine .inr ⟨hJ.go j h (by rw [hlen]; exact hlt) hGh, fun st2 h2 => ∃ ow' H0' r', Rel (g.at_ H01) H0' ow' r' st2 h2 ∧ nForGo i nb xq K (xs.drop (j + 1)) r' = true, fun st2 h2 q => ⟨xs.length - (j + 1), by omega, rfl, hlt, q⟩, fun y h' hy => ?_⟩
    obtain ⟨rfl, hvy⟩ := hJ.yld j h y h' (by rw [hlen]; exact hlt) hGh hy
    rw [hvj] at hvy
    cases hvy
    unfold nForGo at hm2
    have e3 := e2.set (i := i) (w := .d xj) (dp_sub e2.b0 hdj)
    refine hb (g.at_ H01) xq ow' H02 _ _ h' _ ⟨xo.K, xo.calm, xo.rm⟩ e3 hm2 _ ⟨fun ow3 r3 st3 H03 h3 e4 hk => ⟨ow3, H03, r3, e4, hk⟩, fun v w H0' H' f hw hk => ok.rt v w H0' H' (f.of_at e1) hw hk, fun ow3 r3 st3 H03 h3 e4 hk => ok.nx _ _ _ _ _ (e1.of_at e4) hk, fun ow3 r3 st3 H03 h3 e4 hk => ⟨ow3, H03, r3, e4, hk⟩⟩
  · have hje : j = xs.length := by omega
    subst hje
    rw [List.drop_length] at hm2
    exact .inl ⟨hJ.stop _ h (by rw [hlen]; exact Nat.le_refl _) hGh, ok.nx _ _ _ _ _ (e1.of_at e2) hm2⟩

/-! ### x.append(e) -/
def nApp (i : Nat) (m : M) : MS := fun xq r K => match r[i]? with
  | some (S.own _) => m xq r fun y r1 => (match y.esc r1 with
    | (.d d, r2) => (match r2[i]? with
      | some (S.own xs) => decide (xs.length < sizeLine) && K.nx (r2.set i (.own (xs ++ [d])))
      | _ => false)
    | _ => false)
  | _ => false
theorem Rel.grow (er : Rel g H0 ow r st H) {i : Nat} {xs ys : List PyData} {ws : List V} (h : r[i]? = some (S.own xs)) (hw : DqA g.K H0 ws ys) : Rel g H0 ow (r.set i (.own ys)) st (upd H (ow i) (.lst ws)) := by
  obtain ⟨h1, h2, h3, h4, vs, h5, h6⟩ := er.own i xs h
  have hi : i < r.length := (List.getElem?_eq_some_iff.mp h).1
  have cs : ∀ {j : Nat} {s : S}, (r.set i (S.own ys))[j]? = some s → (j = i ∧ s = .own ys) ∨ (i ≠ j ∧ r[j]? = some s) := fun {j s} q => by
    by_cases c : i = j
    · subst c
      rw [List.getElem?_set_self hi] at q; cases q; exact .inl ⟨rfl, rfl⟩
    · rw [List.getElem?_set_ne c] at q; exact .inr ⟨c, q⟩
  have old : ∀ {j : Nat} {zs : List PyData}, (r.set i (S.own ys))[j]? = some (S.own zs) → ∃ zs', r[j]? = some (S.own zs') := fun {j zs} q => by
    rcases cs q with ⟨c, _⟩ | ⟨_, q⟩
    · exact ⟨xs, by rw [c]; exact h⟩
    · exact ⟨zs, q⟩
  refine ⟨fun b u q => ?_, ?_, er.spn, er.b0, fun b u n q => ?_, er.nf, by rw [List.length_set]; exact er.len, fun j w q => ?_, fun j zs q => ?_, fun j l us zs q1 q2 n => ?_⟩
  · rw [upd_ne (ne_of_none q h2)]; exact er.sub b u q
  · obtain ⟨l, ns, x1, x2, x3, k1, k2, k3, k4, hn, g1, g2⟩ := er.sp
    exact ⟨l, ns, x1, x2, x3, k1, k2, k3, k4, hn, by rw [upd_ne (Ne.symm h4)]; exact g1, g2⟩
  · rw [upd_ne (ne_of_none q h3)]; exact er.bb b u n q
  · rcases cs q with ⟨_, q⟩ | ⟨_, q⟩
    · cases q
    · exact er.val j w q
  · rcases cs q with ⟨c, q⟩ | ⟨c, q⟩
    · cases q
      subst c
      exact ⟨h1, h2, h3, h4, ws, upd_same, hw⟩
    · obtain ⟨g1, g2, g3, g4, us, g5, g6⟩ := er.own j zs q
      exact ⟨g1, g2, g3, g4, us, by rw [upd_ne (er.dis j i zs xs q h (Ne.symm c))]; exact g5, g6⟩
  · obtain ⟨us', q1'⟩ := old q1
    obtain ⟨zs', q2'⟩ := old q2
    exact er.dis j l us' zs' q1' q2' n
theorem ss_app {i : Nat} {sm : Stmt} (hp : PS X sm (tDrop (tBM X.K "list" rAppend (tVar i) (wA X [a])))) (ha : SE X g a ma) (hs : starEach [a] X.env = (false, eval a X.env) :: starEach [] X.env := by rfl) : SS X g sm (nApp i ma) := .mk fun xq ow H0 r st H K xo er hm D ok => by
  refine wS_of hp ?_
  -- what stands at i ahead of the argument
  have key : ∀ (v1 : V) (z1 : R) (H01 : Hp) (r1 : Rho) (H1 : Hp), Pst g ow st H0 r H H01 r1 H1 v1 z1 → (match z1.esc r1 with
      | (.d d, r2) => (match r2[i]? with
        | some (S.own xs) => decide (xs.length < sizeLine) && K.nx (r2.set i (.own (xs ++ [d])))
        | _ => false)
      | _ => false) = true → ∃ xs, H1 (ow i) = some (.lst xs) ∧ xs.length < sizeLine ∧ D.nx st (upd H1 (ow i) (.lst (xs ++ [v1]))) := fun v1 z1 H01 r1 H1 p1 hk => by
    obtain ⟨H02, p2⟩ := p1.esc
    split at hk
    · rename_i d r2 eq2
      split at hk
      · rename_i xs hx
        rw [Bool.and_eq_true] at hk
        have e2 := p2.e
        have w2 := p2.rw
        have s2 := p2.s
        rw [eq2] at e2 w2 s2
        obtain ⟨h1, h2, h3, h4, vs, h5, h6⟩ := e2.own i xs hx
        exact ⟨vs, h5, by rw [h6.length]; exact of_decide_eq_true hk.1, ok.nx _ _ _ _ _ (e2.grow hx (h6.append (.cons w2 .nil))) hk.2⟩
      · cases hk
    · cases hk
  unfold nApp at hm
  split at hm
  · rename_i xs0 hx0
    obtain ⟨h1, h2, h3, h4, vs, h5, h6⟩ := er.own i xs0 hx0
    refine ⟨_, h1, .inl ⟨rfl, vs, SqL.of h5⟩, ?_⟩
    refine wA1 hs ?_
    refine ha xq ow H0 r st H _ xo er hm _ fun v1 z1 H01 r1 H1 p1 hm1 => ?_
    obtain ⟨ws, g1, g2, g3⟩ := key v1 z1 H01 r1 H1 p1 hm1
    exact ⟨_, ws, v1, rfl, rfl, g1, g2, g3⟩
  · cases hm

/-! ### a def -/
def startR (N : List Str) (ws : List W) : Rho := ws.map S.val ++ List.replicate (N.length - ws.length) .un
theorem start_rel {N : List Str} {vs : List V} {ws : List W} (hs : ∀ b o, H0 b = some o → H b = some o) (sp : SpOk g.a H0 H g.nm) (spn : H0 g.a = none) (hB0 : g.B0 = H0) (hB : g.B = H) (hw : RWs g H0 vs ws) : Rel g H0 ow (startR N ws) (L2.start N vs) H := by
  have hl := hw.length
  have vals : ∀ {vs : List V} {ws : List W}, RWs g H0 vs ws → ∀ (i : Nat) (w : W), ws[i]? = some w → ∃ v, vs[i]? = some v ∧ RW g.K g.a H0 v w := by
    intro vs ws h
    induction h with
    | nil => intro i w q; simp at q
    | cons h1 h2 ih =>
      intro i w q
      cases i with
      | zero => simp at q; subst q; exact ⟨_, rfl, h1⟩
      | succ i => exact ih i w (by simpa using q)
  have key : ∀ {i : Nat} {s : S}, (startR N ws)[i]? = some s → s = .un ∨ ∃ w, s = .val w ∧ ws[i]? = some w := fun {i s} q => by
    unfold startR at q
    by_cases c : i < ws.length
    · rw [List.getElem?_append_left (by rw [List.length_map]; exact c), List.getElem?_map] at q
      rw [List.getElem?_eq_getElem c] at q
      exact .inr ⟨_, (Option.some.inj q).symm, List.getElem?_eq_getElem c⟩
    · rw [List.getElem?_append_right (by rw [List.length_map]; omega)] at q
      exact .inl (List.eq_of_mem_replicate (List.mem_of_getElem? q))
  refine ⟨hs, sp, spn, fun b o q => by rw [← hB0]; exact q, fun b o n q => by rw [← hB]; exact q, fun b o n q1 q2 => by rw [← hB0]; exact q2, ?_, fun i w q => ?_, fun i xs q => ?_, fun i j xs ys q _ _ => ?_⟩
  · unfold startR L2.start
    rw [List.length_append, List.length_append, List.length_map, List.length_map, List.length_replicate, List.length_replicate, hl]
  · rcases key q with h | ⟨w', e1, e2⟩
    · cases h
    · cases e1
      obtain ⟨v, h1, h2⟩ := vals hw i w e2
      refine ⟨v, ?_, h2⟩
      unfold L2.start
      have c : i < vs.length := (List.getElem?_eq_some_iff.mp h1).1
      rw [List.getElem?_append_left (by rw [List.length_map]; exact c), List.getElem?_map, h1]
      rfl
  · rcases key q with h | ⟨w', e1, _⟩
    · cases h
    · cases e1
  · rcases key q with h | ⟨w', e1, _⟩
    · cases h
    · cases e1
/-- a def's worth, from its body -/
def fOf (N ps : List Str) (n : MS) : Fm := fun xq ws kf => decide (ws.length = ps.length) && n xq (startR N ws) { nx := fun _ => kf (.d .none), rt := kf }
end
theorem fn_sem {P : Program} {w : World} {K : PySem.W.Frag} {mg : Str → Option Value} {base : Heap} {x qual : Str} {sm : Stmt} {f : Addr} {fd : FuncData} {N ps : List Str} {k : Nat} {n : MS} (F : Fun K x qual sm f fd) (S : FnScope N ps (defScope sm))
    (hb : ∀ (cdv : Value) (A : Around) (outer : List Env) (s : Shared) (H : Hp) (E : XK), Room k (A.deeper (PyProof.Rows.envOfC qual (defScope sm) s.heap.objs.size f cdv)) → ∀ g : G, SB (cxOf CX0 P w K mg base N qual (defScope sm) f cdv A outer s H E).nox g (defBody sm) n) :
    FnOk P w K mg base CX0 (k + 1) f fd ps (spOf K (fOf N ps n)) := by
  refine F.ok S (fun vs H Q E h => ?_) (fun cdv A outer s H vs Q E hr h => ?_)
  · obtain ⟨a, nm, lv, ws, H0, kf, h1, h2, h3, h4, h5, h6⟩ := h
    unfold fOf at h5
    rw [Bool.and_eq_true] at h5
    rw [h4.length]
    exact of_decide_eq_true h5.1
  · obtain ⟨a, nm, lv, ws, H0, kf, h1, h2, h3, h4, h5, h6⟩ := h
    unfold fOf at h5
    rw [Bool.and_eq_true] at h5
    refine ⟨wB _ (defBody sm), pbW, ?_⟩
    have er : Rel ⟨K, a, nm, H0, H, k⟩ H0 (fun _ => a) (startR N ws) (L2.start N vs) H := start_rel h1 h2 h3 rfl rfl (rws_g (g := ⟨K, a, nm, H0, H, lv⟩) (g' := ⟨K, a, nm, H0, H, k⟩) rfl rfl h4)
    have no : ∀ d : L2.St → Hp → Prop, SSk ⟨K, a, nm, H0, H, k⟩ (fun _ => false) d := fun d _ _ _ _ _ _ hk => nomatch (show false = true from hk)
    refine hb cdv A outer s H E hr ⟨K, a, nm, H0, H, k⟩ noX (fun _ => a) H0 _ _ H _ ⟨rfl, rfl, hr⟩ er h5.2 _ ⟨?_, fun v w H0' H' f' hw hk => ?_, no _, no _⟩
    · intro ow' r' st' H0' H' e' hk
      exact h6 .non (.d .none) H0' H' ⟨e'.sub, e'.sp, e'.spn, e'.b0, e'.bb, e'.nf⟩ .non hk
    · exact h6 v w H0' H' ⟨f'.sub, f'.sp, f'.spn, f'.b0, f'.bb, f'.nf⟩ hw hk
end Pz

set_option Elab.async false
set_option linter.all false
set_option maxRecDepth 100000
set_option maxHeartbeats 1900000
namespace Pz
open PySem L2
section
variable {X : Cx} {g : G} {ow : Nat → Addr} {H0 H0' H0'' : Hp} {r r' r'' : Rho} {H H' H'' : Hp} {st : L2.St} {v v1 v2 : V} {z z1 z2 : R} {e a b c tg iter elt : Expr} {ma mb mc m : M} {pos : Pos} {ta tb t : MT} {rest ifs : List Expr} {scope : Scope} {mi : MI} {tt : TT}
/-! ### y = [..] -/
theorem ss_lc {x : Str} {px : Pos} {i j : Nat} {sm : Stmt} (hp : PS X sm (tAsg (tLc (wI X (.Name x px) iter) (gName i) tt (eAll X scope elt) [i]) (gName j))) (hi : SI X g (.Name x px) iter mi) (ht : TsOk X g scope ifs tt t) (he : ∀ s H C cl fp, SE (bX X scope s H C cl fp) g elt m) : SS X g sm (nAsg j (mLc i mi t m)) := .mk fun xq ow H0 r st H K xo er hm D ok => by
  refine wS_of hp ?_
  refine lc_sem hi ht he xq ow H0 r st H _ xo er hm _ fun v1 z1 H01 r1 H1 p1 hm1 => ?_
  obtain ⟨H02, p2⟩ := p1.soft
  obtain ⟨ow', e3, _⟩ := p2.e.asg (i := j) p2.rr soft_pk
  exact ok.nx _ _ _ _ _ e3 hm1

/-! ### < of data -/
def rLtD (K : PySem.W.Frag) : R2 := fun x y H Q => ∃ d e, Dq K H x d ∧ Dq K H y e ∧ PySem.W.alike d e = true ∧ d ≠ .none ∧ d.depth ≤ 60 ∧ Q (.bl (PySem.W.dataLt d e)) H
theorem op_ltD (hu : X.A.units + 64 < cLine) : OpR X (compareOp .Lt) (rLtD X.K) := by
  intro pn s st hp x y v u Q iv rx ry h
  obtain ⟨d, e, hd, he, ha, hn, hz, q⟩ := h
  obtain ⟨as, r1⟩ := Dp.reads iv d x v hd.dp rx
  obtain ⟨bs, r2⟩ := Dp.reads iv e y u he.dp ry
  have hm : min d.depth e.depth ≤ d.depth := Nat.min_le_left _ _
  exact PySem.W.rcLt_alike d e X.A s v u as bs r1 r2 ha hn (by omega) _ _ _ _ ⟨.bl _, hp, iv, rfl, q⟩
def nonB : PyData → Bool
  | .none => true
  | _ => false
def fLtD : R → R → Rho → KE → Bool := fun z1 z2 r k => match z1.dat, z2.dat with
  | some x, some y => PySem.W.alike x y && (!nonB x && (decide (x.depth ≤ 60) && k (.val (.d (.bool (PySem.W.dataLt x y)))) r))
  | _, _ => false
theorem opb_ltD : OpB X g (rLtD X.K) fLtD := fun xq ow H0 r st H k v1 v2 z1 z2 xo er h1 h2 hm Q post => by
  unfold fLtD at hm
  split at hm
  · rename_i x y e1 e2
    simp only [Bool.and_eq_true] at hm
    obtain ⟨m1, m2, m3, m4⟩ := hm
    exact ⟨x, y, by rw [xo.K]; exact h1.dp er e1, by rw [xo.K]; exact h2.dp er e2, m1, (fun q => by rw [q] at m2; cases m2), of_decide_eq_true m3, post _ _ _ _ _ (.bl er _) m4⟩
  · cases hm

/-! ### a <= b <= c -/
def mChn (f f' : Int → Int → Bool) (ma mb mc : M) : M := fun xq r k => ma xq r fun y1 r1 => mb xq r1 fun y2 r2 => match y1.dat, y2.dat with
  | some (.int i), some (.int j) => if f i j = true then mc xq r2 fun y3 r3 => (match y3.dat with
      | some (.int l) => k (.val (.d (.bool (f' j l)))) r3
      | _ => false) else k (.val (.d (.bool false))) r2
  | _, _ => false
theorem st_chain {f f' : Int → Int → Bool} (hp : PT X e (tTest (tChain (rI0 fun i j => .bl (f i j)) (rI0 fun i j => .bl (f' i j)) (wE X a) (wE X b) (wE X c)))) (ha : SE X g a ma) (hb : SE X g b mb) (hc : SE X g c mc) : STt X g e (tV (mChn f f' ma mb mc)) := .mk fun xq ow H0 r st H k xo er hm Q post => by
  refine wT_of hp ?_
  refine ha xq ow H0 r st H _ xo er hm _ fun v1 z1 H01 r1 H1 p1 hm1 => ?_
  refine hb xq ow H01 r1 st H1 _ xo p1.e hm1 _ fun v2 z2 H02 r2 H2 p2 hm2 => ?_
  split at hm2
  · rename_i i j e1 e2
    have k1 := p1.rr.keep p2.s
    refine ⟨i, j, k1.int p2.e e1, p2.rr.int p2.e e2, f i j, rfl, ?_⟩
    cases hf : f i j with
    | true =>
      rw [hf, if_pos rfl] at hm2
      rw [if_pos rfl]
      refine hc xq ow H02 r2 st H2 _ xo p2.e hm2 _ fun v3 z3 H03 r3 H3 p3 hm3 => ?_
      split at hm3
      · rename_i l e3
        exact ⟨j, l, p2.rr.int p2.e e2, p3.rr.int p3.e e3, f' j l, rfl, post _ _ _ _ p3.e ((p1.s.trans p2.s).trans p3.s) hm3⟩
      · cases hm3
    | false =>
      rw [hf, if_neg Bool.false_ne_true] at hm2
      rw [if_neg (Bool.false_ne_true)]
      exact ⟨false, rfl, post _ _ _ _ p2.e (p1.s.trans p2.s) hm2⟩
  · cases hm2

/-! ### f(k=e, ..) -/
def pick {α : Type} (d : α) (ix : List Nat) (ws : List α) : List α := ix.map fun i => ws.getD i d
def wK (X : Cx) (ks : List Keyword) : TA := fun st hp q => ∀ po pn s, Inv X pn st hp s → wpAny (model X.prog X.w) X.A (evalAll ((backToKw po (keywordEach ks X.env)).map (·.2))) (AP X pn st q) X.xe s
theorem pkW {ks : List Keyword} : PK X ks (wK X ks) := ⟨fun po pn s _ _ _ iv h => h po pn s iv⟩
structure SKs (X : Cx) (g : G) (ks : List Keyword) (m : MA) : Prop where
  run : ∀ (xq : XQ) (ow : Nat → Addr) (H0 : Hp) (r : Rho) (st : L2.St) (H : Hp) (k : List W → Rho → Bool), XOk X g xq → Rel g H0 ow r st H → m xq r k = true → ∀ Q : List V → Hp → Prop, (∀ vs ws H0' r' H', Rel g H0' ow r' st H' → Ste g ow H0 r H H0' r' H' → RWs g H0' vs ws → k ws r' = true → Q vs H') → wK X ks st H Q
instance {X : Cx} {g : G} {ks : List Keyword} {m : MA} : CoeFun (SKs X g ks m) (fun _ => ∀ (xq : XQ) (ow : Nat → Addr) (H0 : Hp) (r : Rho) (st : L2.St) (H : Hp) (k : List W → Rho → Bool), XOk X g xq → Rel g H0 ow r st H → m xq r k = true → ∀ Q : List V → Hp → Prop, (∀ vs ws H0' r' H', Rel g H0' ow r' st H' → Ste g ow H0 r H H0' r' H' → RWs g H0' vs ws → k ws r' = true → Q vs H') → wK X ks st H Q) := ⟨fun h => h.run⟩
theorem sk_nil : SKs X g [] aNil := .mk fun xq ow H0 r st H k xo er hm Q post po pn s iv => pk_nil.run po pn s st H Q iv (post [] [] _ _ _ er Ste.refl .nil hm)
theorem sk_cons {nm : Option Str} {kp : Pos} {ks : List Keyword} {ms : MA} (ha : SE X g e ma) (hr : SKs X g ks ms) : SKs X g (⟨nm, e, kp⟩ :: ks) (aCons ma ms) := .mk fun xq ow H0 r st H k xo er hm Q post po pn s iv => by
  refine (pk_cons peW pkW).run po pn s st H Q iv ?_
  refine ha xq ow H0 r st H _ xo er hm _ fun v1 z1 H01 r1 H1 p1 hm1 => ?_
  obtain ⟨H02, p2⟩ := p1.esc
  refine hr xq ow H02 _ st H1 _ xo p2.e hm1 _ fun vs ws H03 r3 H3 e3 s3 w3 hk => ?_
  exact post _ _ _ _ _ e3 (p2.s.trans s3) (.cons (p2.rw.keep s3.s0) w3) hk
/-- how keywords bind -/
def KB (fd : FuncData) (ps ks : List Str) (ix : List Nat) : Prop := ∀ (s : Shared) (ws : List Value), ws.length = ks.length → BindsTo s fd ⟨[], ks.zip ws⟩ (ps.zip (pick .none ix ws))
theorem rw_get {g : G} : ∀ {vs : List V} {ws : List W} (i : Nat), RWs g H0 vs ws → RW g.K g.a H0 (vs.getD i .non) (ws.getD i (.d .none))
  | _, _, _, .nil => by simp [RW]; exact .non
  | _, _, 0, .cons h _ => by simpa using h
  | _, _, i + 1, .cons _ t => by simpa using rw_get i t
theorem rws_pick {g : G} {vs : List V} {ws : List W} (h : RWs g H0 vs ws) : ∀ ix : List Nat, RWs g H0 (pick .non ix vs) (pick (.d .none) ix ws)
  | [] => .nil
  | i :: ix => .cons (rw_get i h) (rws_pick h ix)
theorem relv_get : ∀ {vs : List V} {us : List Value} (i : Nat), Vals vs us → RelV (vs.getD i .non) (us.getD i .none)
  | _, _, _, .nil => by simp [RelV]
  | _, _, 0, .cons h _ => by simpa using h
  | _, _, i + 1, .cons _ t => by simpa using relv_get i t
theorem vals_pick {vs : List V} {us : List Value} (h : Vals vs us) : ∀ ix : List Nat, Vals (pick .non ix vs) (pick .none ix us)
  | [] => .nil
  | i :: ix => .cons (relv_get i h) (vals_pick h ix)
def tCallK0 (sp : Sp) (ix : List Nat) (n : Nat) (t : TA) : TE := fun st hp q => t st hp fun vs h1 => vs.length = n ∧ sp (pick .non ix vs) h1 q E0
theorem pe_callK0 {j : Nat} {f : Addr} {fd : FuncData} {ps ks : List Str} {ix : List Nat} {sp : Sp} {x : Str} {p : Pos} {kws : List Keyword} {tk : TA} (F : FnOk X.prog X.w X.K X.mg X.base CX0 j f fd ps sp) (hr : Room j X.A) (hg : Gl X x) (hm : X.mg x = some (.ref f)) (hk : PySem.W.keepIn X.K (.ref f) = true) (hb : KB fd ps ks ix)
    (hkw : PK X kws tk) (hall : (backToKw pos (keywordEach kws X.env)).all (·.1.isSome) = true := by rfl) (hks : (backToKw pos (keywordEach kws X.env)).filterMap (·.1) = ks := by rfl)
    (hdb : (x == ("__debug__" : Str)) = false := by decide) (hpl : ((backTo pos (starEach [] X.env)).any (·.1) || (backToKw pos (keywordEach kws X.env)).any (·.1.isNone)) = false := by rfl) :
    PE X (.Call (.Name x p) [] kws pos) (tCallK0 sp ix ks.length tk) := by
  refine ⟨fun pn s st hp q iv h => ?_⟩
  refine wpAny_Call_Name_kw (ld_glob iv hg hm ?_ hdb)
  refine PySem.W.callWith_KW0 (h₀ := X.base) iv.ok.mod.kin hk hall (thn (hkw.run pos pn s st hp _ iv h) fun us s1 ⟨vs, h1, i1, r1, hl, q1⟩ => ⟨i1.kIn, ?_⟩) hpl
  rw [hks]
  have r2 := vals_pick r1 ix
  refine wpAny_call (codeAny_mono (F.run X.A X.stack s1 h1 ⟨[], ks.zip us⟩ (pick .none ix us) (pick .non ix vs) q E0 hr i1.env0 (hb s1 us (by rw [← r1.length]; exact hl)) r2 q1) fun rs s' hq => ?_)
  cases rs with
  | error e => exact hq.elim
  | ok fl =>
    cases fl with
    | ret u => exact i1.after hq
    | next => exact False.elim hq
    | brk => exact False.elim hq
    | cont => exact False.elim hq
def mCallK (F : Fm) (ix : List Nat) (n : Nat) (ms : MA) : M := fun xq r k => ms xq r fun ws r1 => decide (ws.length = n) && F noX (pick (.d .none) ix ws) fun w => k (.val w) r1
theorem se_callK {F : Fm} {ix : List Nat} {n : Nat} {kws : List Keyword} {ms : MA} {x : Str} {p : Pos} (hp : PE X (.Call (.Name x p) [] kws pos) (tCallK0 (spOf X.K F) ix n (wK X kws))) (ha : SKs X g kws ms) : SE X g (.Call (.Name x p) [] kws pos) (mCallK F ix n ms) := .mk fun xq ow H0 r st H k xo er hm Q post => by
  refine wE_of hp ?_
  refine ha xq ow H0 r st H _ xo er hm _ fun vs ws H01 r1 H1 e1 s1 w1 hm1 => ?_
  rw [Bool.and_eq_true] at hm1
  refine ⟨by rw [w1.length]; exact of_decide_eq_true hm1.1, ?_⟩
  refine ⟨g.a, g.nm, g.lv, _, H01, _, e1.sub, e1.sp, e1.spn, rws_g (g := g) (g' := ⟨X.K, g.a, g.nm, H01, H1, g.lv⟩) xo.K.symm rfl (rws_pick w1 ix), hm1.2, fun v w H0' H' f hw hk => ?_⟩
  rw [xo.K] at f hw
  obtain ⟨e2, s2⟩ := e1.fin f
  exact post v (.val w) H0' r1 H' ⟨e2, s1.trans s2, hw, trivial⟩ hk
end
end Pz

set_option Elab.async false
set_option linter.all false
set_option maxRecDepth 100000
set_option maxHeartbeats 1900000
/-! Pz: defs that show values; they are called where no value is being shown. -/
namespace Pz
open PySem L2 PySem.Spec PyProof.Rows
structure FnG (P : Program) (w : World) (K : PySem.W.Frag) (mg : Str → Option Value) (bs : Heap) (k : Nat) (f : Addr) (fd : FuncData) (ps : List Str) (sp : Sp) : Prop where
  len : ∀ xs h q, sp xs h q E0 → xs.length = ps.length
  run : ∀ (A : Around) (ou : List Env) (s : Shared) (h : Hp) (ar : Args) (us : List Value) (xs : List V) (q : VK), A.guards = some [] → Room k A → Env0 P w K mg bs A ou s h → BindsTo s fd ar (ps.zip us) → Vals xs us → sp xs h q E0 → codeAny (model P w) A (.call (.ref f) ar) (CR CX0 ou P w h s q E0) s
theorem FnG.mono {P : Program} {w : World} {K : PySem.W.Frag} {mg : Str → Option Value} {bs : Heap} {j k : Nat} {f : Addr} {fd : FuncData} {ps : List Str} {sp : Sp} (F : FnG P w K mg bs j f fd ps sp) (h : j ≤ k) : FnG P w K mg bs k f fd ps sp :=
  ⟨F.len, fun A ou s hh ar us xs q hg hr => F.run A ou s hh ar us xs q hg (hr.mono h)⟩
theorem fnG_of {P : Program} {w : World} {K : PySem.W.Frag} {mg : Str → Option Value} {bs : Heap} {k : Nat} {x qual : Str} {sm : Stmt} {f : Addr} {fd : FuncData} {N ps : List Str} {sp : Sp} (F : Fun K x qual sm f fd) (S : FnScope N ps (defScope sm)) (len : ∀ xs h q, sp xs h q E0 → xs.length = ps.length)
    (hb : ∀ (cdv : Value) (A : Around) (ou : List Env) (s : Shared) (h : Hp) (xs : List V) (q : VK), A.guards = some [] → Room k (A.deeper (envOfC qual (defScope sm) s.heap.objs.size f cdv)) → sp xs h q E0 →
      wB (cxOf CX0 P w K mg bs N qual (defScope sm) f cdv A ou s h E0).nox (defBody sm) { nx := fun _ h' => q .non h', rt := q } (L2.start N xs) h) : FnG P w K mg bs (k + 1) f fd ps sp := by
  obtain ⟨oc, od, kV, doc, pm, an, cdv, ct, osl, hfd, lk, hcd⟩ := F.ex
  subst hfd
  refine ⟨len, fun A ou s h ar us xs q hg hr e0 bd rv z => ?_⟩
  have hl := len _ _ _ z
  have old := fun (b : Addr) (o : Obj) (e : bs.get? b = some o) => (e0.bs b o e).1
  have kin : K.In s.heap := e0.mod.kin.keeps old
  have lm : s.heap.NoLimit := e0.mod.nolimit.keeps old
  have kinds : ∀ y ∈ ps.zip us, (defScope sm).names.lookup y.1 = some .local ∨ ((defScope sm).names.lookup y.1 = some .cell ∧ ((cellsFrom (s.heap.objs.size + 1) (defScope sm).names []).lookup y.1).isSome = true) := by
    rintro ⟨m, u⟩ hy
    cases S.par m (List.of_mem_zip hy).1 with
    | inl c => exact Or.inl c
    | inr c => exact Or.inr ⟨c, PySem.W.cellsFrom_some _ _ _ (Or.inl c)⟩
  refine codeAny_call_function hr.depth (kin _ _ lk) rfl S.co S.gen rfl (PySem.W.codeRec_of kin hcd) (bd _ _ _ _ ?_)
  refine wpAny_newFunctionEnv_cells S.kind kinds ?_
  rintro en rfl s1 y
  refine ⟨lm.keeps y.toInCall.keep, codeAny_func ?_⟩
  have I : Inv (cxOf CX0 P w K mg bs N qual (defScope sm) f cdv A ou s h E0) [] (L2.start N xs) h s1 := inv_start S hr.hd e0 hl rv y
  have fin : ∀ {st' : L2.St} {h' : Hp} {v : V} {u : Value} {s' : Shared}, Inv (cxOf CX0 P w K mg bs N qual (defScope sm) f cdv A ou s h E0) [] st' h' s' → RelV v u → q v h' → CE ou P w h s q u s' := by
    intro st' h' v u s' J r1 q1
    exact ⟨v, h', J.os, J.bare, J.base, J.hok, r1, q1⟩
  refine wpAny_mono ((pbW (X := (cxOf CX0 P w K mg bs N qual (defScope sm) f cdv A ou s h E0).nox)).nox.run [] s1 (L2.start N xs) h _ I (hb cdv A ou s h xs q hg (hr.deeper _) z)) ?_ (fun _ _ c => c)
  intro fl s' c
  match fl, c with
  | .ret u, ⟨v, _, _, J, r1, q1⟩ => exact fin J r1 q1
  | .next, ⟨_, _, J, q1⟩ => exact fin (v := V.non) (u := Value.none) J rfl q1
  | .brk, ⟨_, _, _, q1⟩ => exact q1.elim
  | .cont, ⟨_, _, _, q1⟩ => exact q1.elim
section
variable {X : Cx} {g : G} {e : Expr} {es : List Expr} {x : Str} {p pos : Pos} {k : Nat} {f : Addr} {fd : FuncData} {ps : List Str} {sp : Sp} {t : TA}
theorem run_fnG {pn : List (Addr × Obj)} {st : L2.St} {h : Hp} {s : Shared} {q : VK} {us : List Value} {xs : List V} (F : FnG X.prog X.w X.K X.mg X.base k f fd ps sp) (hg : X.A.guards = some []) (hr : Room k X.A) (hb : Binds X.K fd ps []) (I : Inv X pn st h s) (rv : Vals xs us) (z : sp xs h q E0) :
    wpAny (model X.prog X.w) X.A (call (.ref f) us) (EP X pn st q) X.xe s := by
  have hl : us.length = ps.length := by rw [← rv.length]; exact F.len _ _ _ z
  have bt := hb s us I.kIn (by rw [List.append_nil]; exact hl)
  rw [List.append_nil] at bt
  refine wpAny_call (codeAny_mono (F.run X.A X.stack s h ⟨us, []⟩ us xs q hg hr I.env0 bt rv z) ?_)
  intro rs s' c
  match rs, c with
  | .error _, c => exact c.elim
  | .ok (.ret u), c => exact I.after c
  | .ok .next, c => exact c.elim
  | .ok .brk, c => exact c.elim
  | .ok .cont, c => exact c.elim
theorem pe_callG (F : FnG X.prog X.w X.K X.mg X.base k f fd ps sp) (hG : X.A.guards = some []) (hr : Room k X.A) (hg : Gl X x) (hm : X.mg x = some (.ref f)) (hk : PySem.W.keepIn X.K (.ref f) = true) (hb : Binds X.K fd ps []) (ha : PA X (e :: es) t)
    (hdb : (x == ("__debug__" : Str)) = false := by decide) (hs : starEach (e :: es) X.env = (false, eval e X.env) :: starEach es X.env := by rfl) (hpl : (backTo pos (starEach es X.env)).any (·.1) = false := by rfl) : PE X (.Call (.Name x p) (e :: es) [] pos) (tCall sp [] E0 t) := by
  refine ⟨fun pn s st h q iv z => wpAny_Call_Name_kw (ld_glob iv hg hm ?_ hdb)⟩
  refine PySem.W.callWith_K (h₀ := X.base) iv.ok.mod.kin hk (thn (ha.run pos pn s st h _ iv z) ?_) hs hpl
  rintro us s1 ⟨xs, h1, i1, rv, z1⟩
  rw [List.append_nil] at z1
  exact ⟨i1.kIn, run_fnG F hG hr hb i1 rv z1⟩
end
theorem fn_semG {P : Program} {w : World} {K : PySem.W.Frag} {mg : Str → Option Value} {bs : Heap} {x qual : Str} {sm : Stmt} {f : Addr} {fd : FuncData} {N ps : List Str} {k : Nat} {n : MS} (F : Fun K x qual sm f fd) (S : FnScope N ps (defScope sm))
    (hb : ∀ (cdv : Value) (A : Around) (ou : List Env) (s : Shared) (h : Hp), A.guards = some [] → Room k (A.deeper (envOfC qual (defScope sm) s.heap.objs.size f cdv)) → ∀ g : G, SB (cxOf CX0 P w K mg bs N qual (defScope sm) f cdv A ou s h E0).nox g (defBody sm) n) :
    FnG P w K mg bs (k + 1) f fd ps (spOf K (fOf N ps n)) := by
  refine fnG_of F S ?_ ?_
  · rintro xs h q ⟨a, nm, lv, ws, H0, kf, h1, h2, h3, h4, h5, h6⟩
    unfold fOf at h5
    rw [Bool.and_eq_true] at h5
    rw [h4.length]
    exact of_decide_eq_true h5.1
  · rintro cdv A ou s h xs q hg hr ⟨a, nm, lv, ws, H0, kf, h1, h2, h3, h4, h5, h6⟩
    unfold fOf at h5
    rw [Bool.and_eq_true] at h5
    have er : Rel ⟨K, a, nm, H0, h, k⟩ H0 (fun _ => a) (startR N ws) (L2.start N xs) h := start_rel h1 h2 h3 rfl rfl (rws_g (g := ⟨K, a, nm, H0, h, lv⟩) (g' := ⟨K, a, nm, H0, h, k⟩) rfl rfl h4)
    have no : ∀ d : L2.St → Hp → Prop, SSk ⟨K, a, nm, H0, h, k⟩ (fun _ => false) d := fun d _ _ _ _ _ _ hk => nomatch (show false = true from hk)
    refine hb cdv A ou s h hg hr ⟨K, a, nm, H0, h, k⟩ noX (fun _ => a) H0 _ _ h _ ⟨rfl, rfl, hr⟩ er h5.2 _ ⟨?_, ?_, no _, no _⟩
    · intro ow' r' st' H0' h' e' hk
      exact h6 .non (.d .none) H0' h' ⟨e'.sub, e'.sp, e'.spn, e'.b0, e'.bb, e'.nf⟩ .non hk
    · intro v w H0' h' f' hw hk
      exact h6 v w H0' h' ⟨f'.sub, f'.sp, f'.spn, f'.b0, f'.bb, f'.nf⟩ hw hk
end Pz

set_option Elab.async false
set_option linter.all false
set_option maxRecDepth 100000
set_option maxHeartbeats 1900000
/-! Pz: the law is called. -/
namespace Pz
open PySem L2 PySem.Spec PyProof.Rows
/-- what the caller wants of the law's call -/
abbrev Told (s₁ : Shared) : Except Value Flow → Shared → Prop := fun r s' => r = .ok (.ret (.bool true)) ∧ OldK s₁.heap s'.heap ∧ s'.os = s₁.os ∧ AllBare s'.gens
/-- an abstract heap with nothing but the script -/
structure OnlyAt (K : PySem.W.Frag) (a : Addr) (H : Hp) (ns : List Int) : Prop where
  only : Only H
  seq : SqL K H a (ns.map V.int)
  at_ : ∀ b, H b ≠ none → b = a
theorem told_of {P : Program} {w : World} {K : PySem.W.Frag} {mg mb : Str → Option Value} {k : Nat} {fa a : Addr} {fd : FuncData} {x : Str} {sp : Sp} {s₁ : Shared} {vs : List Value} {ns : List Int} {H : Hp}
    (kin : K.In s₁.heap) (hn : s₁.heap.Ns mainGlobals mg) (hb : s₁.heap.Ns builtinsNs mb) (hbb : ∀ y : Str, y ≠ "__name__" → mb y = bootBuiltins y) (lm : s₁.heap.NoLimit) (hg : s₁.gens = #[])
    (ha : s₁.heap.get? a = some { cls := .type "list", data := .seq vs.toArray }) (hr : Room k callerA) (F : ∀ bs : Heap, K.In bs → bs.Ns mainGlobals mg → FnG P w K mg bs k fa fd [x] sp) (bd : ∀ (s : Shared) (u : Value), BindsTo s fd ⟨[u], []⟩ [(x, u)])
    (o : OnlyAt K a H ns) (ok : HOk P w H s₁.heap) (nk : H a ≠ none → K.lookup a = none) (z : sp [.ref a] H (fun v _ => v = .bl true) E0) : codeAny (model P w) callerA (.call (.ref fa) ⟨[.ref a], []⟩) (Told s₁) s₁ := by
  have keepB : ∀ {b : Addr} {u : Obj}, s₁.heap.get? b = some u → H b = none → (hidT s₁.heap H).get? b = some u := hidT_get
  have offD : ∀ {b : Addr} {u : Obj} {es : Array DictEntry} {ep : Nat}, s₁.heap.get? b = some u → u.data = .dict es ep → H b = none := by
    intro b u es ep e1 e2
    refine Classical.byContradiction fun c => ?_
    obtain rfl := o.at_ b c
    rw [ha] at e1
    cases e1
    exact Data.noConfusion (show Data.seq vs.toArray _ = Data.dict es ep from e2)
  have nsB : ∀ {b : Addr} {m : Str → Option Value}, s₁.heap.Ns b m → (hidT s₁.heap H).Ns b m := by
    rintro b m ⟨u, es, ep, e1, e2, e3⟩
    exact ⟨u, es, ep, keepB e1 (offD e1 e2), e2, e3⟩
  have kB : K.In (hidT s₁.heap H) := by
    intro b u e1
    refine keepB (kin b u e1) (Classical.byContradiction fun c => ?_)
    obtain rfl := o.at_ b c
    rw [nk c] at e1
    cases e1
  have nl : (hidT s₁.heap H).NoLimit := by
    obtain ⟨mc, l1, l2⟩ := lm
    exact ⟨mc, nsB l1, l2⟩
  have e0 : Env0 P w K mg (hidT s₁.heap H) callerA [] s₁ H := ⟨rfl, ⟨kB, nsB hn, ⟨mb, nsB hb, hbb⟩, nl⟩, fun b u e1 => of_hidT e1, Nat.le_of_eq (hidT_size _ _), trivial, (fun b c => by cases c), ok, .of_eq hg⟩
  refine codeAny_mono ((F _ kB (nsB hn)).run callerA [] s₁ H ⟨[.ref a], []⟩ [.ref a] [.ref a] _ rfl hr e0 (bd s₁ (.ref a)) (.cons rfl .nil) z) ?_
  intro rs s' c
  match rs, c with
  | .error _, c => exact c.elim
  | .ok .next, c => exact c.elim
  | .ok .brk, c => exact c.elim
  | .ok .cont, c => exact c.elim
  | .ok (.ret u), ⟨v, H', q1, q2, un, ok', rv, hv⟩ =>
    have hv' : v = .bl true := hv
    subst hv'
    obtain rfl : u = Value.bool true := rv
    refine ⟨rfl, OldK.of_keep fun b t e1 => ?_, q1, q2⟩
    match hH : H b with
    | none => exact un.keep b t e1 hH (by intro c; cases c) (by simp)
    | some y =>
      obtain c | ⟨ob, ys, c⟩ := o.only b
      · rw [hH] at c; cases c
      · have t1 := (ok b _ c).1
        have t2 := (ok' b _ (un.frzs b ob _ c)).1
        rw [e1] at t1
        cases t1
        exact t2
theorem told {P : Program} {w : World} {K : PySem.W.Frag} {mg mb : Str → Option Value} {k : Nat} {fa a : Addr} {fd : FuncData} {x : Str} {sp : Sp} {s₁ : Shared} {vs : List Value} {ns : List Int}
    (kin : K.In s₁.heap) (hn : s₁.heap.Ns mainGlobals mg) (hb : s₁.heap.Ns builtinsNs mb) (hbb : ∀ y : Str, y ≠ "__name__" → mb y = bootBuiltins y) (lm : s₁.heap.NoLimit) (hg : s₁.gens = #[])
    (ha : s₁.heap.get? a = some { cls := .type "list", data := .seq vs.toArray }) (hi : IntsAre vs ns) (hl : ns.length ≤ sizeLine) (hr : Room k callerA) (F : ∀ bs : Heap, K.In bs → bs.Ns mainGlobals mg → FnG P w K mg bs k fa fd [x] sp) (bd : ∀ (s : Shared) (u : Value), BindsTo s fd ⟨[u], []⟩ [(x, u)])
    (z : ∀ H : Hp, Only H → SqL K H a (ns.map V.int) → sp [.ref a] H (fun v _ => v = .bl true) E0) : codeAny (model P w) callerA (.call (.ref fa) ⟨[.ref a], []⟩) (Told s₁) s₁ := by
  have rv := vals_ints hi
  have ln := hi.length
  match hk : K.lookup a with
  | some u =>
    have e1 := kin a u hk
    rw [ha] at e1
    cases e1
    have sq : SqL K (fun _ => none) a (ns.map V.int) := .inr ⟨_, vs.toArray, _, hk, rfl, rfl, rfl, by rw [List.size_toArray, ln]; exact hl, by simpa using rv⟩
    have on : Only (fun _ => none) := fun _ => .inl rfl
    exact told_of kin hn hb hbb lm hg ha hr F bd ⟨on, sq, fun b c => absurd rfl c⟩ (fun b y c => by cases (show (none : Option HO) = some y from c)) (fun c => absurd rfl c) (z _ on sq)
  | none =>
    let H : Hp := fun b => if b = a then some (.frz { cls := .type "list", data := .seq vs.toArray } (.lst (ns.map V.int))) else none
    have hH : H a = some (.frz { cls := .type "list", data := .seq vs.toArray } (.lst (ns.map V.int))) := if_pos rfl
    have hN : ∀ b, b ≠ a → H b = none := fun b c => if_neg c
    have sq : SqL K H a (ns.map V.int) := .inl (.inr ⟨{ cls := .type "list", data := .seq vs.toArray }, hH⟩)
    have on : Only H := fun b => (Classical.em (b = a)).elim (fun c => by subst c; exact .inr ⟨_, _, hH⟩) (fun c => .inl (hN b c))
    refine told_of kin hn hb hbb lm hg ha hr F bd ⟨on, sq, fun b c => Classical.byContradiction fun d => c (hN b d)⟩ (fun b y c => ?_) (fun _ => hk) (z _ on sq)
    refine (Classical.em (b = a)).elim (fun d => ?_) (fun d => by rw [hN b d] at c; cases c)
    subst d
    rw [hH] at c
    cases c
    exact ⟨ha, (by rw [List.length_map]; exact hl), vs, _, rv, ha⟩
/-- the goal that the head leaves -/
theorem walkG {l : PySem.W.OpenLaw} {n k : Nat} {q : Program} {loose : List Str} {XP : (Str → Option Value) → Heap → Prop} {YP : World → Heap → Prop} {d : DefRec} {K : Params → PySem.W.Frag} {sp : World → Sp} {x : Str}
    (hn : l.most = some n) (hr : Room k callerA) (hn2 : n ≤ sizeLine) (hdf : d.params.defaults = []) (hY : ∀ (w : World) (h : Heap), YP w h → (K w.params).In h)
    (F : ∀ (w : World) (mg : Str → Option Value) (fa : Addr) (hh : Heap), (K w.params).In hh → hh.Ns mainGlobals mg → mg d.name = some (.ref fa) →
      ∃ fd : FuncData, (∀ (s : Shared) (u : Value), BindsTo s fd ⟨[u], []⟩ [(x, u)]) ∧ ∀ bs : Heap, (K w.params).In bs → bs.Ns mainGlobals mg → FnG l.prog w (K w.params) mg bs k fa fd [x] (sp w))
    (z : ∀ (w : World) (H : Hp) (a : Addr) (ns : List Int), ns.length ≤ n → Only H → SqL (K w.params) H a (ns.map V.int) → sp w [.ref a] H (fun v _ => v = .bl true) E0) :
    PySem.W.WalkO q loose XP YP (l.row.toRowW) d [] (fun f vs => PySem.call f vs) := by
  refine Att.attach_call hn hdf ?_
  intro w s₀ s₁ mg mb fa o pm cd doc a vs ns G Y ho hd hcd hmg hobj hints hlen hg
  obtain ⟨fd, bd, hF⟩ := F w mg fa _ (hY w _ Y) G.T.g hmg
  exact told (hY w _ Y) G.T.g G.T.b G.T.builtins G.T.nolimit hg hobj hints (Nat.le_trans hlen hn2) hr hF bd (fun H hO hS => z w H a ns hlen hO hS)
end Pz

set_option Elab.async false
set_option linter.all false
set_option maxRecDepth 100000
set_option maxHeartbeats 1900000
namespace Pz
section
open PySem PySem.Spec PyProof.Rows L2 HT
variable {prog : Program} {A : Around} {w : World} {s : Shared} {E : Value → Shared → Prop}
theorem back_pick (xs : Array Value) : ((List.range xs.size).filterMap fun (m : Nat) => xs[(((xs.size : Int) - 1) + (m : Int) * (-1)).toNat]?).toArray = xs.toList.reverse.toArray := by
  have e1 : (fun (m : Nat) => xs[(((xs.size : Int) - 1) + (m : Int) * (-1)).toNat]?) = fun m => xs[xs.size - 1 - m]? := by
    funext m
    have : (((xs.size : Int) - 1) + (m : Int) * (-1)).toNat = xs.size - 1 - m := by omega
    rw [this]
  have e2 := PySem.W.krv_pick xs
  unfold slicePick at e2
  rw [PySem.W.krv_bounds] at e2
  rw [e1]
  have e3 : ((sliceRange ((xs.size : Int) - 1) (-1) (-1)).filterMap (xs[·]?)).toArray = xs.toList.reverse.toArray := e2
  rw [PySem.W.krv_sliceRange, List.filterMap_map] at e3
  exact e3
theorem back_applied {sl : Addr} {v : Value} {n : Nat} {Q : Int × Int × Nat → Shared → Prop} (sl0 : s.heap.IsSliceOf sl .none .none v) (pv : IsPart v (some (-1))) (h : Q (((n : Int) - 1), -1, n) s) : wpAny (model prog w) A (Builtin.Slice.sliceApplied (.ref sl) (pure (n : Int))) Q E s := by
  obtain ⟨oSl, gOb, gCl, gDt⟩ := id sl0
  unfold Builtin.Slice.sliceApplied; unfold Builtin.Slice.sliceFields
  refine wpAny_bind (wpAny_bind (wpAny_field gOb gDt (x := .none) rfl (wpAny_bind (wpAny_field gOb gDt (x := .none) rfl (wpAny_bind (wpAny_field gOb gDt (x := v) rfl (wpAny_pure ?_)))))))
  refine wpAny_bind (slicePart_ pv ?_)
  show wpAny _ _ (if ((-1 : Int) == 0) = true then _ else _) _ _ s
  rw [if_neg (by decide)]
  refine wpAny_bind (slicePart_ .none (wpAny_bind (slicePart_ .none (wpAny_bind (wpAny_pure ?_)))))
  show wpAny _ _ (match Builtin.Slice.sliceAdjust none none (-1) (n : Int) with | (lo, hi) => pure (lo, (-1 : Int), Builtin.Slice.slicePlaces lo hi (-1))) _ _ s
  have e1 : Builtin.Slice.sliceAdjust none none (-1) (n : Int) = ((n : Int) - 1, -1) := by rfl
  rw [e1]
  show wpAny _ _ (pure ((n : Int) - 1, (-1 : Int), Builtin.Slice.slicePlaces ((n : Int) - 1) (-1) (-1))) _ _ s
  have e2 : Builtin.Slice.slicePlaces ((n : Int) - 1) (-1) (-1) = n := by
    unfold Builtin.Slice.slicePlaces; skip
    have h1 : ¬ ((-1 : Int) > 0) := by omega
    rw [if_neg h1, show (- -1 : Int) = 1 from rfl, Int.ediv_one]
    split <;> omega
  rw [e2]
  exact wpAny_pure h
theorem back_tuple {t sl : Addr} {items : Array Value} {v : Value} {Q : Value → Shared → Prop} (tup0 : IsTup s.heap t items) (sl0 : s.heap.IsSliceOf sl .none .none v) (pv : IsPart v (some (-1)))
    (h : Q (.ref s.heap.objs.size) { s with heap := s.heap.push { cls := .type "tuple", data := .seq items.toList.reverse.toArray } }) (hz : items.size ≤ sizeLine) : wpAny (model prog w) A (getItem (.ref t) (.ref sl)) Q E s := by
  have hfit : sizeOk (.seq items.toList.reverse.toArray) := by
    show items.toList.reverse.toArray.size ≤ sizeLine
    rw [List.size_toArray, List.length_reverse, Array.length_toList]
    exact hz
  obtain ⟨oSl, gOb, gCl, gDt⟩ := id sl0
  have sTy : s.TypeIs (.ref sl) "slice" := ⟨oSl, gOb, gCl⟩
  unfold getItem
  try (with_reducible refine wpAny_holding ?_)
  try (refine wpAny_bind (wpAny_pure ?_))
  refine wpAny_bind (wpAny_sequenceKey tup0.typeIs (by decide) ?_)
  refine wpAny_bind (wpAny_callSpecial?_slot (name := Str.ofString "__getitem__") tup0.typeIs PyProof.Rows.slot_tuple_getitem
    (wpAny_call_entry PyProof.Rows.slot_tuple_getitem tup0.typeIs entry_tuple_getitem ?_ (args_tuple_getitem _ _)))
  show wpAny _ _ (Builtin.Tuple.tupleItemsOf (Value.ref t) >>= _) _ _ s
  refine wpAny_bind (tupleItemsOf_ tup0 ?_)
  refine wpAny_bind (wpAny_typeOf sTy ?_)
  rw [if_pos (by decide)]
  refine wpAny_bind (back_applied (n := items.size) sl0 pv ?_)
  have hno : ¬ (((((items.size : Int) - 1) == 0 && ((-1 : Int) == 1)) && items.size == items.size) = true) := by
    rw [show ((-1 : Int) == 1) = false from rfl, Bool.and_false, Bool.false_and]
    exact Bool.false_ne_true
  show wpAny _ _ (if (((((items.size : Int) - 1) == 0 && ((-1 : Int) == 1)) && items.size == items.size) = true) then _ else _) _ _ s
  rw [if_neg hno, back_pick]
  first
    | exact wpAny_bind (m := Builtin.Tuple.tupleExact _) (wpAny_newObj_type (wpAny_pure ⟨_, rfl, wpAny_pure h⟩) hfit)
    | exact wpAny_bind (m := Builtin.Tuple.tupleExact _) (wpAny_newObj_type (wpAny_bind (wpAny_pure (wpAny_pure ⟨_, rfl, wpAny_pure h⟩))) hfit)
    | exact wpAny_bind (wpAny_bind (m := Builtin.Tuple.tupleExact _) (wpAny_newObj_type (wpAny_pure (wpAny_pure ⟨_, rfl, wpAny_pure h⟩)) hfit))
    | exact wpAny_bind (wpAny_bind (m := Builtin.Tuple.tupleExact _) (wpAny_newObj_type (wpAny_pure ⟨_, rfl, wpAny_pure h⟩) hfit))
end
section
open PySem L2
variable {X : Cx} {g : G} {ow : Nat → Addr} {H0 H0' H0'' : Hp} {r r' r'' : Rho} {H H' H'' : Hp} {st : L2.St} {v v1 v2 : V} {z z1 z2 : R} {e a b c : Expr} {ma mb mc m : M} {pos : Pos}
def tBack (K : PySem.W.Frag) (te : TE) : TE := fun st h q => te st h fun x h1 => ∃ a xs, x = .ref a ∧ SqT K h1 a xs ∧ ∀ p, h1 p = none → q (.ref p) (upd h1 p (.tup xs.reverse))
theorem pe_back {te : TE} {k : Nat} {p1 p2 p3 : Pos} (he : PE X e te) : PE X (.Subscript e (.Slice none none (some (.UnaryOp .USub (.Constant (.int 1) k p1) p2)) p3) pos) (tBack X.K te) := by
  refine ⟨fun pn s st h q iv z => ?_⟩
  refine PyProof.Rows.Subscript_ (thn (he.run pn s st h _ iv z) fun v s1 ⟨x, h1, i1, r1, q1⟩ => ?_)
  obtain ⟨a, xs, ex, hx, q1⟩ := q1
  subst ex
  cases r1
  have hst : PO X (some (.UnaryOp .USub (.Constant (.int 1) k p1) p2))
      (tPart (tUn (rU fun i => .int (-i)) (tC (.int 1)))) := po_some (pe_un un_neg pe_int)
  refine wpAny_Slice (thn (po_none.run pn s1 st h1 (fun o h2 => o = none ∧ h2 = h1) i1 ⟨rfl, rfl⟩) fun vl s2 ⟨l, h2, i2, pl, el, e2⟩ => ?_)
  subst el e2
  cases pl
  refine thn (po_none.run pn s2 st h2 (fun o h3 => o = none ∧ h3 = h2) i2 ⟨rfl, rfl⟩) fun vu s3 ⟨u, h3, i3, pu, eu, e3⟩ => ?_
  subst eu e3
  cases pu
  refine thn (hst.run pn s3 st h3 (fun o h4 => o = some (-1) ∧ h4 = h3) i3 ⟨1, rfl, -1, rfl, rfl, rfl⟩) fun vs s4 ⟨o, h4, i4, ps, eo, e4⟩ => ?_
  subst eo e4
  have i5 : Inv X pn st h4 { s4 with heap := s4.heap.push { cls := .type "slice", data := .fields #[.none, .none, vs] } } := i4.kept (t' := s4.toks) fun b ob y => Heap.get?_push_of_some _ y
  obtain ⟨its, r, ht, hz⟩ := i5.tuple hx
  have hlen := r.length
  show wpAny (model X.prog X.w) X.A (PyProof.Rows.subscriptTail e (.Slice none none (some (.UnaryOp .USub (.Constant (.int 1) k p1) p2)) p3) (.ref a) (.ref s4.heap.objs.size)) (EP X pn st q) X.xe { s4 with heap := s4.heap.push { cls := .type "slice", data := .fields #[.none, .none, vs] } }
  refine PyProof.Rows.tail_any (ops := [.ref a, .ref s4.heap.objs.size]) ht.typeIs (PyProof.Rows.slot_tuple_getitem.lookup) ?_ (by with_unfolding_all rfl)
  refine back_tuple ht (Heap.IsSliceOf.new _ .none .none vs) ps ?_ (by rw [List.size_toArray]; omega)
  refine ⟨.ref _, _, i5.laid (t' := s4.toks) (o := .tup xs.reverse) (fun b ob y => Heap.get?_push_of_some _ y) (Nat.le_refl _) ?_, rfl, q1 _ (i5.hok.fresh (Nat.le_refl _))⟩
  exact ⟨by rw [List.length_reverse]; omega, _, r.reverse, PyProof.Rows.IsTup.new _ _⟩
def mRev (ma : M) : M := mU (fun y r k => match y.dat with
  | some (.tuple xs) => k (.val (.d (.tuple xs.reverse))) r
  | _ => false) ma
theorem se_rev {k : Nat} {p1 p2 p3 : Pos} (ha : SE X g a ma) : SE X g (.Subscript a (.Slice none none (some (.UnaryOp .USub (.Constant (.int 1) k p1) p2)) p3) pos) (mRev ma) := .mk fun xq ow H0 r st H kf xo er hm Q post => by
  refine wE_of (pe_back peW) ?_
  refine ha xq ow H0 r st H _ xo er hm _ fun v1 z1 H01 r1 H1 p1 hm1 => ?_
  dsimp only at hm1
  split at hm1
  · rename_i xs e1
    have f1 := p1.rr.froz e1 (fun _ q => by cases q)
    cases f1 with
    | @tup pa vs' _ h3 h4 =>
      have h3 : SqT X.K H01 pa vs' := by rw [xo.K]; exact h3
      refine ⟨_, vs', rfl, sub_seqT p1.e.sub h3, fun l hl => ?_⟩
      refine post _ _ _ _ _ (.after p1.s (Pst.newT p1.e hl h4.reverse)) hm1
  · cases hm1
end
end Pz

set_option Elab.async false
set_option linter.all false
set_option maxRecDepth 100000
set_option maxHeartbeats 1900000
namespace Pz
open PySem L2
section
variable {X : Cx} {g : G} {ow : Nat → Addr} {H0 H0' H0'' : Hp} {r r' r'' : Rho} {H H' H'' : Hp} {st : L2.St} {v v1 v2 : V} {z z1 z2 : R} {e a b c : Expr} {ma mb mc m : M} {pos : Pos}
/-! ### a, b, c = e1, e2, e3 -/
def nPar3 (i j l : Nat) (ms : MA) : MS := fun xq r K => ms xq r fun ws r1 => match ws with
  | [x, y, z] => K.nx (((r1.set i (.val x)).set j (.val y)).set l (.val z))
  | _ => false
theorem ss_par3 {i j l : Nat} {es : List Expr} {ms : MA} {sm : Stmt} (hp : PS X sm (tPar3 i j l (wA X es))) (ha : SAs X g es ms) : SS X g sm (nPar3 i j l ms) := .mk fun xq ow H0 r st H K xo er hm D ok => by
  refine wS_of hp ?_
  refine ha xq ow H0 r st H _ xo er hm _ fun vs ws H01 r1 H1 e1 s1 w1 hm1 => ?_
  split at hm1
  · cases w1 with
    | cons w1 t1 =>
      cases t1 with
      | cons w2 t2 =>
        cases t2 with
        | cons w3 t3 =>
          cases t3
          exact ⟨_, _, _, rfl, ok.nx _ _ _ _ _ (((e1.set (i := i) w1).set (i := j) w2).set (i := l) w3) hm1⟩
  · cases hm1
/-! ### f() -/
def mCall0 (F : Fm) : M := fun xq r k => F noX [] fun w => k (.val w) r
theorem tcall0_sem {F : Fm} {xq : XQ} {k : KE} (xo : XOk X g xq) (er : Rel g H0 ow r st H) (hm : mCall0 F xq r k = true) (Q : VK) (post : ∀ v z H0' r' H', Pst g ow st H0 r H H0' r' H' v z → k z r' = true → Q v H') : spOf X.K F [] H Q E0 := by
  refine ⟨g.a, g.nm, g.lv, [], H0, _, er.sub, er.sp, er.spn, .nil, hm, fun v w H0' H' f hw hk => ?_⟩
  rw [xo.K] at f hw
  obtain ⟨e2, s2⟩ := er.fin f
  exact post v (.val w) H0' r H' ⟨e2, s2, hw, trivial⟩ hk
theorem se_call0 {F : Fm} {x : Str} {p : Pos} (hp : PE X (.Call (.Name x p) [] [] pos) (tCall (spOf X.K F) [] E0 tNil)) : SE X g (.Call (.Name x p) [] [] pos) (mCall0 F) := .mk fun xq ow H0 r st H k xo er hm Q post => by
  refine wE_of hp ?_
  exact tcall0_sem xo er hm Q post
end
theorem u66 {A : Around} {k : Nat} (hr : Room k A) : A.units + 66 < cLine := by have := hr.un; omega
theorem fn_no {P : Program} {w : World} {K : PySem.W.Frag} {mg : Str → Option Value} {base : Heap} {f : Addr} {fd : FuncData} {ps : List Str} {k : Nat} : FnOk P w K mg base CX0 k f fd ps (spOf K fun _ _ _ => false) :=
by
  constructor
  · rintro vs H Q E ⟨_, _, _, _, _, _, _, _, _, _, c, _⟩
    cases c
  · rintro A ou s H ar us vs Q E _ _ _ _ ⟨_, _, _, _, _, _, _, _, _, _, c, _⟩
    cases c
end Pz

set_option Elab.async false
set_option linter.all false
set_option maxRecDepth 100000
set_option maxHeartbeats 1900000
/-! Pz: the spool, read and written; any numbers may stand in it. -/
namespace Pz
open PySem L2
def spD (l : Addr) (p r t : Int) : List (Key × V) := [(Sum.inr "cells", .ref l), (Sum.inr "next", .int p), (Sum.inr "rest", .int r), (Sum.inr "turn", .int t)]
theorem kk1 : ¬ (("cells" : Str) = "next") := by decide +kernel
theorem kk2 : ¬ (("cells" : Str) = "rest") := by decide +kernel
theorem kk3 : ¬ (("cells" : Str) = "turn") := by decide +kernel
theorem kk4 : ¬ (("next" : Str) = "rest") := by decide +kernel
theorem kk5 : ¬ (("next" : Str) = "turn") := by decide +kernel
theorem kk6 : ¬ (("rest" : Str) = "turn") := by decide +kernel
/-- a name of a number of the spool -/
def spNum (k : Str) : Prop := k = "next" ∨ k = "rest" ∨ k = "turn"
theorem sp_cells (l : Addr) (p r t : Int) : valV (spD l p r t) (Sum.inr "cells") = some (.ref l) := by
  unfold spD valV
  rw [List.find?_cons]
  simp
theorem sp_num (l : Addr) (p r t : Int) {k : Str} (h : spNum k) : ∃ j : Int, valV (spD l p r t) (Sum.inr k) = some (.int j) := by
  unfold spD valV
  rcases h with rfl | rfl | rfl
  · exact ⟨p, by simp [List.find?_cons, kk1]⟩
  · exact ⟨r, by simp [List.find?_cons, kk2, kk4]⟩
  · exact ⟨t, by simp [List.find?_cons, kk3, kk5, kk6]⟩
theorem sp_put (l : Addr) (p r t : Int) {k : Str} (h : spNum k) (j : Int) : ∃ p' r' t', putK (spD l p r t) (Sum.inr k) (.int j) = spD l p' r' t' := by
  unfold spD putK
  rcases h with rfl | rfl | rfl
  · exact ⟨j, r, t, by simp [kk1, Ne.symm kk4, Ne.symm kk5]⟩
  · exact ⟨p, j, t, by simp [kk2, kk4, Ne.symm kk6]⟩
  · exact ⟨p, r, j, by simp [kk3, kk5, kk6]⟩
theorem SpOk.at_ {a : Addr} {H0 H : Hp} {nm : List Str} : SpOk a H0 H nm → nm = spNames ∧ ∃ (l : Addr) (ns : List Int) (p r t : Int), H a = some (.dK (spD l p r t)) ∧ H0 l = some (.lst (ns.map V.int)) := fun ⟨l, ns, p, r, t, k1, k2, k3, k4, ⟨e, e2⟩, h1, h2⟩ => by
  refine ⟨e.trans e2, l, ns, p, r, t, ?_, h2⟩
  unfold spNames at e2
  injection e2 with c1 e2
  injection e2 with c2 e2
  injection e2 with c3 e2
  injection e2 with c4 e2
  subst c1 c2 c3 c4
  exact h1
theorem SpOk.mk {a : Addr} {H0 H : Hp} {nm : List Str} (e : nm = spNames) {l : Addr} {ns : List Int} {p r t : Int} (h1 : H a = some (.dK (spD l p r t))) (h2 : H0 l = some (.lst (ns.map V.int))) : SpOk a H0 H nm := ⟨l, ns, p, r, t, "cells", "next", "rest", "turn", ⟨e, rfl⟩, h1, h2⟩
section
variable {X : Cx} {g : G} {ow : Nat → Addr} {H0 H0' H0'' : Hp} {r r' r'' : Rho} {H H' H'' : Hp} {st : L2.St} {v v1 v2 : V} {z z1 z2 : R} {e a b c : Expr} {ma mb mc m : M} {pos : Pos} {te : TE}
open Classical in
@[irreducible] noncomputable def mSpN (i : Nat) : M := fun _ r k => match r[i]? with
  | some (.val .sp) => decide (∀ j : Int, k (.val (.d (.int j))) r = true)
  | _ => false
open Classical in
@[irreducible] noncomputable def mSpC (i : Nat) : M := fun _ r k => match r[i]? with
  | some (.val .sp) => decide (∀ ns : List Int, k (.val (.d (.list (ns.map .int)))) r = true)
  | _ => false
theorem dq_nums {K : PySem.W.Frag} {hp : Hp} : ∀ ns : List Int, DqA K hp (ns.map V.int) (ns.map PyData.int)
  | [] => .nil
  | n :: ns => .cons (.int n) (dq_nums ns)
theorem sp_slot (er : Rel g H0 ow r st H) {i : Nat} (h : r[i]? = some (.val .sp)) : st[i]? = some (some (.ref g.a)) := by
  obtain ⟨v, h1, h2⟩ := er.val i .sp h
  have h2 : v = .ref g.a := h2
  rw [← h2]; exact h1
theorem se_spN {i : Nat} {k : Str} (hk : spNum k) (hp : PE X e (tDGet (tVar i) (tC (.str k)))) : SE X g e (mSpN i) := .mk fun xq ow H0 r st H kf xo er hm Q post => by
  refine wE_of hp ?_
  unfold mSpN at hm
  split at hm
  · rename_i hi
    have hm := @of_decide_eq_true _ (Classical.propDecidable _) hm
    obtain ⟨_, l, ns, p, q, t, h1, h2⟩ := er.sp.at_
    obtain ⟨j, hj⟩ := sp_num l p q t hk
    refine ⟨.ref g.a, sp_slot er hi, g.a, .int j, rfl, .inl ⟨_, Sum.inr k, .inl h1, rfl, hj.symm⟩, ?_⟩
    exact post _ _ _ _ _ (.int er j) (hm j)
  · cases hm
theorem se_spC {i : Nat} (hp : PE X e (tDGet (tVar i) (tC (.str "cells")))) : SE X g e (mSpC i) := .mk fun xq ow H0 r st H kf xo er hm Q post => by
  refine wE_of hp ?_
  unfold mSpC at hm
  split at hm
  · rename_i hi
    have hm := @of_decide_eq_true _ (Classical.propDecidable _) hm
    obtain ⟨_, l, ns, p, q, t, h1, h2⟩ := er.sp.at_
    refine ⟨.ref g.a, sp_slot er hi, g.a, .ref l, rfl, .inl ⟨_, Sum.inr "cells", .inl h1, rfl, (sp_cells l p q t).symm⟩, ?_⟩
    exact post _ _ _ _ _ (.dat er (.lst h2 (dq_nums ns))) (hm ns)
  · cases hm
def nSpW (i : Nat) (m : M) : MS := fun xq r K => m xq r fun y r1 => match y.dat, r1[i]? with
  | some (.int _), some (.val .sp) => K.nx r1
  | _, _ => false
theorem ss_spW {i : Nat} {k : Str} {sm : Stmt} (hk : spNum k) (hp : PS X sm (sDPut (tVar i) (tC (.str k)) (wE X a))) (ha : SE X g a ma) : SS X g sm (nSpW i ma) := .mk fun xq ow H0 r st H K xo er hm D ok => by
  refine wS_of hp ?_
  refine ha xq ow H0 r st H _ xo er hm _ fun v1 z1 H01 r1 H1 p1 hm1 => ?_
  split at hm1
  · rename_i j e1 e2
    have ev := p1.rr.int p1.e e1
    subst ev
    obtain ⟨e0, l, ns, p, q, t, h1, h2⟩ := p1.e.sp.at_
    obtain ⟨p', q', t', hput⟩ := sp_put l p q t hk j
    refine ⟨.ref g.a, sp_slot p1.e e2, g.a, _, rfl, .inl ⟨_, Sum.inr k, h1, rfl, ?_, rfl⟩, ?_⟩
    · show 4 < sizeLine
      decide
    · rw [hput]
      have er1 := p1.e
      refine ok.nx ow r1 st H01 _ ⟨fun b o h => ?_, SpOk.mk e0 upd_same h2, er1.spn, er1.b0, fun b o n h => ?_, er1.nf, er1.len, er1.val, fun i xs h => ?_, er1.dis⟩ hm1
      · rw [upd_ne (ne_of_none h er1.spn)]; exact er1.sub b o h
      · rw [upd_ne n]; exact er1.bb b o n h
      · obtain ⟨g1, g2, g3, g4, us, g5, g6⟩ := er1.own i xs h
        exact ⟨g1, g2, g3, g4, us, by rw [upd_ne g4]; exact g5, g6⟩
  · cases hm1
/-- one of so many, any -/
@[irreducible] def F_q_pull : Fm := fun _ ws kf => match ws with
  | [.sp, .d (.int n)] => decide (0 < n) && (decide (n < 1073741824) && (List.range n.toNat).all fun r => kf (.d (.int r)))
  | _ => false
/-- a weaker worth -/
theorem spOf_imp {K : PySem.W.Frag} {F F' : Fm} (h : ∀ ws kf, F' noX ws kf = true → F noX ws kf = true) {vs : List V} {H : Hp} {Q : VK} {E : XK} : spOf K F' vs H Q E → spOf K F vs H Q E := fun ⟨a, nm, lv, ws, H0, kf, h1, h2, h3, h4, h5, h6⟩ => ⟨a, nm, lv, ws, H0, kf, h1, h2, h3, h4, h _ _ h5, h6⟩
end
/-! stepping through worths -/
theorem iteB {c : Prop} [Decidable c] {x y : Bool} (h1 : c → x = true) (h2 : ¬ c → y = true) : (if c then x else y) = true := by
  by_cases h : c
  · rw [if_pos h]; exact h1 h
  · rw [if_neg h]; exact h2 h
theorem andB {x y : Bool} (h1 : x = true) (h2 : y = true) : (x && y) = true := by rw [h1, h2]; rfl
theorem spN {i : Nat} {xq : XQ} {r : Rho} {k : KE} (h : r[i]? = some (.val .sp)) (q : ∀ j : Int, k (.val (.d (.int j))) r = true) : mSpN i xq r k = true := by
  unfold mSpN; rw [h]; exact @decide_eq_true _ (Classical.propDecidable _) q
theorem spC {i : Nat} {xq : XQ} {r : Rho} {k : KE} (h : r[i]? = some (.val .sp)) (q : ∀ ns : List Int, k (.val (.d (.list (ns.map .int)))) r = true) : mSpC i xq r k = true := by
  unfold mSpC; rw [h]; exact @decide_eq_true _ (Classical.propDecidable _) q
theorem ifAny {t : MT} {ma mb : M} {xq : XQ} {r : Rho} {k : KE} (b : Bool) (ht : ∀ kk : Bool → Rho → Bool, kk b r = true → t xq r kk = true) (h : ∀ c : Int, k (.val (.d (.int c))) r = true) (ha : b = true → ∀ k' : KE, (∀ c : Int, k' (.val (.d (.int c))) r = true) → ma xq r k' = true)
    (hb : b = false → ∀ k' : KE, (∀ c : Int, k' (.val (.d (.int c))) r = true) → mb xq r k' = true) : mIf t ma mb xq r k = true := by
  unfold mIf
  refine ht _ ?_
  cases b with
  | true => rw [if_pos rfl]; exact ha rfl k h
  | false => rw [if_neg Bool.false_ne_true]; exact hb rfl k h
theorem lay_ints : ∀ ns : List Int, PyData.canLayAll0 (ns.map .int) = true
  | [] => by simp only [List.map_nil, PyData.canLayAll0]
  | n :: ns => by simp [PyData.canLayAll0, PyData.canLay0, lay_ints ns]
theorem deep_ints : ∀ ns : List Int, PyData.depthAll (ns.map .int) ≤ 1
  | [] => by simp [PyData.depthAll, List.map_nil]
  | n :: ns => by
    rw [List.map_cons]; rw [PyData.depthAll]
    exact Nat.max_le.mpr ⟨by simp [PyData.depth], deep_ints ns⟩
theorem shaped_ints (ns : List Int) : SeqAt.shaped (.list (ns.map .int)) = true := by
  have h1 := lay_ints ns
  have h2 := deep_ints ns
  unfold SeqAt.shaped
  rw [Bool.and_eq_true]
  refine ⟨by simpa [PyData.canLay0] using h1, decide_eq_true ?_⟩
  have e : PyData.depth (.list (ns.map .int)) = PyData.depthAll (ns.map .int) + 1 := by simp only [PyData.depth]
  omega
theorem eqv_nil (ns : List Int) : PyData.eqv (.list (ns.map .int)) (.list []) = ns.isEmpty := by
  cases ns <;> simp [PyData.eqv, PyData.eqvAll]
end Pz

set_option Elab.async false
set_option linter.all false
set_option maxRecDepth 100000
set_option maxHeartbeats 1900000
/-! PzErr: errors of own classes, made as values, with keywords too. -/
namespace PySem
namespace PzE
open PySem.W PySem.Calls PyProof.Rows PySem.HandSPX Builtin Builtin.ObjectAttr
section
variable {M : Model} {A : Around} {E : Value → Shared → Prop} {h
      : Heap} {g : Array GenState} {d : Drawn} {t : Nat} {os : OsState}
variable {nm q : Str} {C N : Addr} {bs bm bmB : List Value} {hdct : Bool} {sn : List Str} {sub : List Value}
      {ab : Bool} {col : Option Bool} {dd : Option Addr} {k0 k1 k2 k3 k5 : Option Value} {B newId initId : String}
theorem kw_check_new (F : ExcBaseFacts B newId initId bmB) (hT : ∀ X : String, bm.contains (.type X) = bmB.contains (.type X)) {us : List Value} {kw : List (Str × Value)} {Q : Unit → Shared → Prop}
    (hC : h.get? C = some (excClassObj nm q C N bs bm hdct sn sub ab col dd k0 k1 k2 k3 k5 newId)) (hq : Q () ⟨h, g, d, t, os⟩) : wpAny M A (checkBuiltinCall newId ⟨.ref C :: us, kw⟩) Q E ⟨h, g, d, t, os⟩ := by
  have c1 : (Value.ref C :: bm).contains (.type B) = true := by
    rw [List.contains_cons, hT, F.hasB]
    exact Bool.or_true _
  simp only [checkBuiltinCall, F.newRow, F.newKind, F.newSplit]
  have st := F.noStar
  repeat (first
    | refine wpAny_loadPart_at hC ?_
    | (refine wpAny_isSubtype_exc hC ?_; rw [c1])
    | refine wpAny_staticBase_exc hC ?_
    | refine wpAny_madeBy_exc hC ?_
    | simp only [if_false, bne_self_eq_false, Bool.false_eq_true]
    | wp_step)
  exact hq
end
section
variable {prog : Program} {w : World} {A : Around} {E : Value → Shared → Prop} {R : Result
      → Shared → Prop} {h : Heap} {g : Array GenState} {d : Drawn} {t : Nat} {os : OsState}
variable {nm q : Str} {C N : Addr} {bs bm bmB : List Value} {hdct : Bool} {sn : List Str} {sub : List Value}
      {ab : Bool} {col : Option Bool} {dd : Option Addr} {k0 k1 k2 k3 k5 : Option Value} {B newId initId : String}
/-- the heap behind the making of an exception, ahead of its __init__ -/
abbrev made (h : Heap) (C : Addr) (us : List Value) : Heap := (h.push (W.kdv_tup us)).push (excO C h.objs.size)
theorem kw_new (F : ExcBaseFacts B newId initId bmB) (hT : ∀ X : String, bm.contains (.type X) = bmB.contains (.type X)) {us : List Value} {kw : List (Str × Value)} (hus : us.length ≤ sizeLine)
    (hC : h.get? C = some (excClassObj nm q C N bs bm hdct sn sub ab col dd k0 k1 k2 k3 k5 newId)) (hq : R (.ok (.ret (.ref (h.objs.size + 1)))) ⟨made h C us, g, d, t, os⟩) :
    codeAny (model prog w) A (.builtin newId ⟨.ref C :: us, kw⟩) R ⟨h, g, d, t, os⟩ := by
  have e1 := F.ends
  have c1 : (Value.ref C :: bm).contains (.type B) = true := by
    rw [List.contains_cons, hT, F.hasB]
    exact Bool.or_true _
  have c2 : (Value.ref C :: bm).contains (.type "AttributeError") = false := by
    rw [List.contains_cons, hT, F.noAttr]
    rfl
  have c3 : (Value.ref C :: bm).contains (.type "NameError") = false := by
    rw [List.contains_cons, hT, F.noName]
    rfl
  refine
        codeAny_builtinAt F.entry ?_
  unfold
        Builtin.«BaseException.__new__»
  refine wpAt_bind ?_
  show
        wpAt _ _ _ (stack >>= _) _ _ _
  refine wpAt_bind (wpAt_stack fun _ _ => wpAt_of_wpAny ?_)
  wp_walk
  refine wpAt_of_wpAny ?_
  rw [F.owner]
  repeat (first
    | with_reducible refine wpAny_madeHere_exc F.canon hC ?_
    | with_reducible refine wpAny_loadPart_at hC ?_
    | (with_reducible refine wpAny_isSubtype_exc hC ?_; first | rw [c1] | rw [c2] | rw [c3])
    | wp_step)
  show R _ _
  rw [Heap.size_push]
  exact hq
theorem kw_type_call (F : ExcBaseFacts B newId initId bmB) (hT : ∀ X : String, bm.contains (.type X) = bmB.contains (.type X)) {us : List Value} {kw : List (Str × Value)} (hus : us.length ≤ sizeLine) {fI : Addr} {Q : Fin → Shared → Prop}
    (hC : h.get? C = some (excClassObj nm q C N bs
          bm hdct sn sub ab col dd k0 k1 k2 k3 k5 newId))
    (hi : W.Looks (model prog w) h (typeLookup (.ref C) "__init__") (some (.ref fI))) (hb : ∀ self, W.Looks (model prog w) h (bindSpecial (.ref fI) self) (.ref fI, [self]))
    (hq : codeAny (model prog w) A (.call (.ref fI) ⟨.ref (h.objs.size + 1) :: us, kw⟩)
      (fun r s' => match r with | .ok (.ret v) => v = .none ∧ Q (.done (.ret (.ref (h.objs.size + 1)))) s' | .ok _ => False | .error e => E e s') ⟨made h C us, g, d, t, os⟩) :
    wpAny (model prog w) A (Builtin.«type.__call__» ⟨.ref C :: us, kw⟩) Q E ⟨h, g, d, t, os⟩ := by
  repeat (first
    | with_reducible refine wpAny_loadPart_at hC ?_
    | with_reducible refine wpAny_madeBy_exc hC ?_
    | wp_step)
  refine codeAny_call_builtin_code (Code.quiet_builtin _ F.quiet) (kw_check_new F hT hC ?_)
  refine kw_new F hT hus hC ?_
  show wpAny _ _ _ _ _ _
  have k : ∀ b o, h.get? b = some o → (made h C us).get? b = some o := fun b o e => Heap.get?_push_of_some _ (Heap.get?_push_of_some _ e)
  have k1 := k _ _ hC
  have k2 : (made h C us).get? (h.objs.size + 1) = some (excO C h.objs.size) := by heap_get
  have k3 : (Value.ref C :: bm).contains (.ref C) = true := by simp
  have i1 := hi.keeps k
  have b1 :=
        (hb (.ref (h.objs.size + 1))).keeps k
  unfold isInstance
  repeat (first
    | with_reducible refine wpAny_loadPart_at k2 ?_
    | (with_reducible refine wpAny_isSubtype_exc k1 ?_; rw [k3])
    | wp_step)
  show
        wpAny _ _ (typeLookup (.ref C) _) _ _ _
  refine i1.at (wpAny_holding (wpAny_bind (b1.at ?_)))
  refine wpAny_bind (wpAny_call
        (codeAny_mono hq fun r s' z => ?_))
  match r, z with
  | .error _, z => exact z
  | .ok .next, z => exact z.elim
  | .ok .brk, z => exact z.elim
  | .ok .cont, z => exact z.elim
  | .ok (.ret v), z =>
    obtain ⟨rfl, z⟩ := z
    first
      | exact
            wpAny_pure (wpAny_pure z)
      | (wp_walk
         exact z)
theorem kw_check_call {us : List Value} {kw : List (Str × Value)} {Q : Unit → Shared → Prop} (hC : h.get? C = some (excClassObj nm q C N bs bm hdct sn sub ab col dd k0 k1 k2 k3 k5 newId)) (hq : Q () ⟨h, g, d, t, os⟩) :
    wpAny (model prog w) A (checkBuiltinCall "type.__call__" ⟨.ref C :: us, kw⟩) Q E ⟨h, g, d, t, os⟩ := by
  have f3 := tc_sub
  have ty : (⟨h, g, d, t, os⟩ : Shared).TypeIs (.ref C) "type" := ⟨_, hC, rfl⟩
  simp only [checkBuiltinCall,
        tc_kind, tc_split]
  repeat (any_goals (first
    | assumption
    | with_reducible refine wpAny_loadPart_at hC ?_
    | with_reducible refine wpAny_onRaise ?_
    | with_reducible refine wpAny_map ?_
    | wp_step))
theorem kw_call (F : ExcBaseFacts B newId initId bmB) (hT : ∀ X : String, bm.contains (.type X) = bmB.contains (.type X)) {us : List Value} {kw : List (Str × Value)} (hus : us.length ≤ sizeLine) {fI : Addr}
    (hC : h.get? C = some (excClassObj nm q C N bs
          bm hdct sn sub ab col dd k0 k1 k2 k3 k5 newId))
    (hi : W.Looks (model prog w) h (typeLookup (.ref C) "__init__") (some (.ref fI))) (hb : ∀ self, W.Looks (model prog w) h (bindSpecial (.ref fI) self) (.ref fI, [self]))
    (hq : codeAny (model prog w) (A.under (.builtin "type.__call__" ⟨.ref C :: us, kw⟩)) (.call (.ref fI) ⟨.ref (h.objs.size + 1) :: us, kw⟩) (W.InitBack (h.objs.size + 1) R) ⟨made h C us, g, d, t, os⟩) :
    codeAny (model prog w) A (.call (.ref C) ⟨us, kw⟩) R ⟨h, g, d, t, os⟩ := by
  have f1 := tc_lookup
  have f2 := tc_bind (.ref C)
  have ty : (⟨h, g, d, t, os⟩ : Shared).TypeIs (.ref C) "type" := ⟨_, hC, rfl⟩
  refine codeAny_of_tree ?_
  show
        wpAny _ _ (callAny (.ref C) _) _ _ _
  repeat (any_goals (first
    | assumption
    | with_reducible refine wpAny_loadPart_at hC ?_
    | wp_step))
  refine ⟨rfl, codeAny_call_builtin_at (Code.quiet_builtin _ (by decide +kernel)) entry_typeCall (kw_check_call hC (kw_type_call F hT hus hC hi hb ?_))⟩
  refine
        codeAny_mono hq fun r s' z => ?_
  match r, z with
  | .error _, z => exact z
  | .ok .next, z => exact z
  | .ok .brk, z => exact z
  | .ok .cont, z => exact z
  | .ok (.ret v), z => exact z
end
end PzE
end PySem

set_option Elab.async false
set_option linter.all false
set_option maxRecDepth 100000
set_option maxHeartbeats 1900000
namespace Pz
open PySem L2 PySem.Spec PyProof.Rows
section
variable {X : Cx} {C fI : Addr} {k : Nat} {fd : FuncData} {ps : List Str} {sp : Sp} {x : Str} {p pos : Pos} {e : Expr} {es : List Expr} {ta : TA} {te : TE}
theorem run_oex {pn : List (Addr × Obj)} {st : L2.St} {H : Hp} {s : Shared} {Q : VK} {us as : List Value} {kw : List (Str × Value)} {vs : List V} (T : OexC X.K C) (iC : PySem.W.findIn X.K (.ref C) "__init__" = some (some (.ref fI)))
    (tI : PySem.W.typeIn X.K (.ref fI) = some (.type "function")) (F1 : FnOk X.prog X.w X.K X.mg X.base CX0 k fI fd ps sp) (hr : Room (k + 1) X.A)
    (bt : ∀ (s : Shared) (u : Value), X.K.In s.heap → BindsTo s fd ⟨u :: us, kw⟩ (ps.zip (u :: as))) (hl : us.length ≤ 1000) (I : Inv X pn st H s) (rv : Vals vs as)
    (z : ∀ a, H a = none → sp (.ref a :: vs) (upd H a (exo a C none)) (fun v H2 => v = .non ∧ Q (.ref a) H2) E0) : wpAny (model X.prog X.w) X.A (call (.ref C) us kw) (EP X pn st Q) X.xe s := by
  obtain ⟨nm, q, N, bs, bm, sn, sub, ab, col,
        dd, k0, k1, k2, k3, k5, hC, hbm⟩ := T.cls
  obtain ⟨hp, g,
        dr, tk, os⟩ := s
  have big : hp.objs.size ≤ hp.objs.size + 1 := Nat.le_succ _
  have z1 := z (hp.objs.size + 1) (I.hok.fresh big)
  have at_ : (PySem.PzE.made hp C us).get? (hp.objs.size + 1) = some (PySem.HandSPX.excO C hp.objs.size) := by heap_get
  have J : Inv X pn st (upd H (hp.objs.size + 1) (exo (hp.objs.size + 1) C none)) ⟨PySem.PzE.made hp C us, g, dr, tk, os⟩ :=
    I.laid (a := hp.objs.size + 1) (t' := tk) (h' := PySem.PzE.made hp C us) (o := exo (hp.objs.size + 1) C none) (fun b o y => Heap.get?_push_of_some _ (Heap.get?_push_of_some _ y)) big (exo_ok at_)
  have rv2 : Vals (V.ref (hp.objs.size + 1) :: vs) (Value.ref (hp.objs.size + 1) :: as) := .cons rfl rv
  have fits : us.length ≤ sizeLine := by
    have y : sizeLine = 16777216 := by decide
    omega
  refine wpAny_call (PySem.PzE.kw_call F.excBase_ValueError (fun Y => PySem.HandSPX.refsVE_contains Y bm hbm) fits (I.kIn _ _ hC) (PySem.W.looks_findIn I.kIn iC) (fun self => PySem.W.bind_fn I.kIn self tI) ?_)
  refine codeAny_mono (F1.run _ X.stack _ _ ⟨Value.ref (hp.objs.size + 1) :: us, kw⟩ (Value.ref (hp.objs.size + 1) :: as) _ _ E0 (hr.make C us kw) (J.env0.make C us kw) (bt _ _ J.kIn) rv2 z1) fun r s' c => ?_
  match r, c with
  | .error _, c => exact c.elim
  | .ok .next, c => exact c.elim
  | .ok .brk, c => exact c.elim
  | .ok .cont, c => exact c.elim
  | .ok (.ret u), c =>
    obtain ⟨v, H', J2, r1, ev, q1⟩ := J.after c
    subst ev
    exact ⟨r1, V.ref (hp.objs.size + 1), H', J2, rfl, q1⟩
/-- C(e, ..) as a value: a new error, its __init__ keeping sp -/
def tOexV (C : Addr) (sp : Sp) (ta : TA) : TE := fun st H Q => ta st H fun vs H1 => vs.length ≤ 1000 ∧ ∀ a, H1 a = none → sp (.ref a :: vs) (upd H1 a (exo a C none)) (fun v H2 => v = .non ∧ Q (.ref a) H2) E0
theorem pe_oexV (T : OexC X.K C) (iC : PySem.W.findIn X.K (.ref C) "__init__" = some (some (.ref fI))) (tI : PySem.W.typeIn X.K (.ref fI) = some (.type "function")) (F : FnOk X.prog X.w X.K X.mg X.base CX0 k fI fd ps sp)
    (hr : Room (k + 1) X.A) (hb : Binds X.K fd ps []) (hg : Gl X x) (hm : X.mg x = some (.ref C)) (ha : PA X (e :: es) ta) (hdb : (x == ("__debug__" : Str)) = false := by decide)
    (hs : starEach (e :: es) X.env = (false, eval e X.env) :: starEach es X.env := by rfl) (hpl : (backTo pos (starEach es X.env)).any (·.1) = false := by rfl) : PE X (.Call (.Name x p) (e :: es) [] pos) (tOexV C sp ta) := by
  refine ⟨fun pn s st h q iv z => wpAny_Call_Name_kw (ld_glob iv hg hm ?_ hdb)⟩
  refine PySem.W.callWith_K (h₀ := X.base) iv.ok.mod.kin T.kC (thn (ha.run pos pn s st h _ iv z) ?_) hs hpl
  rintro us s1 ⟨vs, h1, i1, rv, hz, z1⟩
  refine ⟨i1.kIn, ?_⟩
  have hn : s1.heap.objs.size ≤ s1.heap.objs.size := Nat.le_refl _
  have ln := F.len _ _ _ _ (z1 _ (i1.hok.fresh hn))
  show
        wpAny _ _ (call (.ref C) us) _ _ _
  refine run_oex T iC tI F hr (fun s u X1 => ?_) (by rw [← rv.length]; exact hz) i1 rv z1
  have y := hb s (u :: us) X1 (by rw [List.append_nil, List.length_cons, ← rv.length]; exact ln)
  rw [List.append_nil] at y
  exact y
/-- C(f = e, ..), keywords alone; f says in which order the parameters stand -/
def tOexK (C : Addr) (n : Nat) (sp : Sp) (f : List V → List V) (tk : TA) : TE := fun st H Q => tk st H fun zs H1 => zs.length = n ∧ ∀ a, H1 a = none → sp (.ref a :: f zs) (upd H1 a (exo a C none)) (fun v H2 => v = .non ∧ Q (.ref a) H2) E0
theorem pe_oexK {ks : List Str} {kws : List Keyword} {g : List Value → List Value} {f : List V → List V} {tk : TA} (T : OexC X.K C) (iC : PySem.W.findIn X.K (.ref C) "__init__" = some (some (.ref fI))) (tI : PySem.W.typeIn X.K (.ref fI) = some (.type "function")) (F : FnOk X.prog X.w X.K X.mg X.base CX0 k fI fd ps sp)
    (hr : Room (k + 1) X.A) (hb : ∀ (s : Shared) (u : Value) (ws : List Value), ws.length = ks.length → BindsTo s fd ⟨[u], ks.zip ws⟩ (ps.zip (u :: g ws))) (hgf : ∀ zs ws, Vals zs ws → zs.length = ks.length → Vals (f zs) (g ws)) (hg : Gl X x) (hm : X.mg x = some (.ref C)) (hk : PK X kws tk)
    (hall : (backToKw pos (keywordEach kws X.env)).all (·.1.isSome) = true := by rfl) (hks : (backToKw pos
          (keywordEach kws X.env)).filterMap (·.1) = ks := by rfl) (hdb : (x == ("__debug__" : Str)) = false := by decide)
    (hpl : ((backTo pos (starEach [] X.env)).any (·.1) || (backToKw pos (keywordEach kws X.env)).any (·.1.isNone)) = false := by rfl) : PE X (.Call (.Name x p) [] kws pos) (tOexK C ks.length sp f tk) := by
  refine ⟨fun pn s st h q iv z => wpAny_Call_Name_kw (ld_glob iv hg hm ?_ hdb)⟩
  refine PySem.W.callWith_KW0 (h₀ := X.base) iv.ok.mod.kin T.kC hall (thn (hk.run pos pn s st h _ iv z) ?_) hpl
  rintro ws s1 ⟨zs, h1, i1, rv, l1, z1⟩
  refine ⟨i1.kIn, ?_⟩
  rw [hks]
  exact run_oex T iC tI F hr (fun s u _ => hb s u ws (rv.length.symm.trans l1)) (Nat.zero_le _) i1 (hgf zs ws rv l1) z1
/-- an error, made: its class, its fields -/
def Exc (H : Hp) (a C : Addr) (fs : List (Str × V)) : Prop := ∃ d, H a = some (exo a C (some d)) ∧ H d = some (exd d fs)
/-- e.f of such an error -/
def tXfV (K : PySem.W.Frag) (f : Str) (te : TE) : TE := fun st H Q => te st H fun x H1 => ∃ (a C : Addr) (fs : List (Str × V)) (v : V), x = .ref a ∧ XfC K C ∧ PySem.W.findIn K (.ref C) f = some none ∧ Exc H1 a C fs ∧ fs.lookup f = some v ∧ Q v H1
theorem exc_inst {pn : List (Addr × Obj)} {st : L2.St} {H : Hp} {s : Shared} {a d : Addr} {fs : List (Str × V)} (I : Inv X pn st H s) (h1 : H a = some (exo a C (some d))) (h2 : H d = some (exd d fs)) :
    ∃ (ox od : Obj) (mA : Str → Option Value), PySem.W.InstAt s.heap a ox C (some od) ∧ (∀ f, PySem.W.lookIn f od = some (mA f)) ∧ ∀ f, RelO (fs.lookup f) (mA f) := by
  obtain ⟨t1, o1⟩ := exo_at I.hok h1
  obtain ⟨mA, hn, hr⟩ := exd_at I.hok h2
  obtain ⟨od, o2, l⟩ := lookIn_ns hn
  exact ⟨_, od, mA, ⟨o1, rfl, rfl, o2⟩, l, hr⟩
theorem pe_xfV {f : Str} (he : PE X e te) (hb : attributeBase e f X.env (eval e X.env) = eval e X.env := by rfl) : PE X (.Attribute e f pos) (tXfV X.K f te) := by
  refine ⟨fun pn s st h q iv z => attr_of hb (thn (he.run pn s st h _ iv z) ?_)⟩
  rintro u s1 ⟨x, h1, i1, rx, a, C, fs, v, ex, T, hno, ⟨d, e1, e2⟩, l, q1⟩
  subst ex
  obtain rfl : u =
        Value.ref a := rx
  obtain ⟨ox, od, mA, J, lk, hr⟩ := exc_inst i1 e1 e2
  obtain ⟨w, hw, rw'⟩ := RelO.some_of (v := v) (o := mA f) (by rw [← l]; exact hr f)
  exact PySem.HandSPX.exc_get i1.kIn J T.ga T.gg T.exC (PySem.W.findObj_own T.hdC hno rfl (by rw [lk, hw])) (handed_of rw') ⟨v, h1, i1.tok _, rw', q1⟩
/-- isinstance(e, c), e such an error -/
def rIsX (K : PySem.W.Frag) : List V → Hp → VK → Prop := fun xs H Q => ∃ (a C : Addr) (fs : List (Str × V)) (c : V) (cv : Value) (b : Bool), xs = [.ref a, c] ∧ ExcC K C ∧ Exc H a C fs ∧ ClsV c cv ∧ PySem.W.kitOne K (.ref C) cv = some b ∧ Q (.bl b) H
theorem call_isX : CallR X (.builtin "isinstance") (rIsX X.K) := by
  intro pn s st H xs us Q iv r h
  obtain ⟨a, C, fs, c, cv, b, rfl, T, ⟨d, e1, e2⟩, hc, hk, q⟩ := h
  obtain ⟨u1, u2, rfl,
        r1, r2⟩ := vals2 r
  have ec := hc.eq r2
  subst ec
  obtain rfl : u1 = Value.ref a := r1
  obtain ⟨ox, od, mA, J, lk, hr⟩ := exc_inst iv e1 e2
  have hcl : (PySem.W.clsIn X.K C).isSome = true := by
    obtain ⟨cd, y, _⟩ := PySem.W.any_some T.hd
    rw [y]
    rfl
  exact PySem.W.kia_one (PySem.W.kitx_exc (ox := ox) (od := some od) hcl T.hg T.hk T.hs T.ha T.hn T.ht T.hm) iv.kIn J hk (fun y => nomatch y) fun tk => ⟨.bl b, H, iv.tok tk, rfl, q⟩
end
end Pz

set_option Elab.async false
set_option linter.all false
set_option maxRecDepth 100000
set_option maxHeartbeats 1900000
namespace K01
open PySem L2 Pz
def topE (i : Nat) : Stmt := PySem.Challenge.pw_roomrings_k01_forms_and_errors.main.body.getD i (.Pass ⟨0, 0, 0, 0⟩)
/-- the first def of a class -/
def initE (i : Nat) : Stmt := match topE i with
  | .ClassDef _ _ _ body _ _ _ _ _ _ _ => body.getD 0 (.Pass ⟨0, 0, 0, 0⟩)
  | s => s
/-- what the written part says of an error's class and its __init__ -/
structure ErrC (K : PySem.W.Frag) (mg : Str → Option Value) (x qual : Str) (fs : List Str) (i : Nat) (C fI : Addr) (fd : FuncData) : Prop where
  T : OexC K C
  xf : XfC K C
  ec : ExcC K C
  iC : PySem.W.findIn K (.ref C) "__init__" = some (some (.ref fI))
  tI : PySem.W.typeIn K (.ref fI) = some (.type "function")
  no : ∀ f ∈ fs, PySem.W.findIn K (.ref C) f = some none
  m : mg x = some (.ref C)
  F : Fun K "__init__" qual (initE i) fI fd
def spI2 (C : Addr) (f1 f2 : Str) : Sp := fun vs H Q _ => ∃ a x y, vs = [.ref a, x, y] ∧ H a = some (exo a C none) ∧ ∀ d, H d = none → d ≠ a → Q .non (upd (upd (upd H d (exd d [(f1, x)])) a (exo a C (some d))) d (exd d [(f2, y), (f1, x)]))
def spI1 (C : Addr) (f1 : Str) : Sp := fun vs H Q _ => ∃ a x, vs = [.ref a, x] ∧ H a = some (exo a C none) ∧ ∀ d, H d = none → d ≠ a → Q .non (upd (upd H d (exd d [(f1, x)])) a (exo a C (some d)))
section
variable {P : Program} {w : World} {K : PySem.W.Frag} {mg : Str → Option Value} {base : Heap} {C fI : Addr} {fd : FuncData}
theorem sc_i0 : FnScope ["self", "word", "at"] ["self", "word", "at"] (defScope (initE 16)) := ⟨rfl, rfl, rfl, by decide +kernel, rfl, by decide +kernel, by decide +kernel⟩
theorem ok_i0 (e : ErrC K mg "InvalidPaper" "InvalidPaper.__init__" ["word", "at"] 16 C fI fd) : FnOk P w K mg base CX0 1 fI fd ["self", "word", "at"] (spI2 C "word" "at") := by
  refine e.F.ok sc_i0 (fun vs H Q E h => ?_) (fun cdv A ou s H vs Q E hr h => ?_)
  · obtain ⟨a, x, y, rfl, _⟩ := h
    rfl
  · obtain ⟨a, x, y, rfl, h1, q⟩ := h
    refine ⟨_, pss_cons (ps_ost (pv 0) (pv 1)) (pss_one (ps_ost (pv 0) (pv 2))), ?_⟩
    refine ⟨x, rfl, .ref a, rfl, a, C, rfl, e.T, e.no _ (by simp), .inl ⟨h1, fun d hd hda => ?_⟩⟩
    refine ⟨y, rfl, .ref a, rfl, a, C, rfl, e.T, e.no _ (by simp), .inr ⟨d, _, upd_same, ?_, ?_, q d hd hda⟩⟩
    · rw [upd_ne hda, upd_same]
    · show 1 ≤ 900
      decide
theorem sc_i1 : FnScope ["self", "word", "at"] ["self", "word", "at"] (defScope (initE 17)) := ⟨rfl, rfl, rfl, by decide +kernel, rfl, by decide +kernel, by decide +kernel⟩
theorem ok_i1 (e : ErrC K mg "NotUsable" "NotUsable.__init__" ["word", "at"] 17 C fI fd) : FnOk P w K mg base CX0 1 fI fd ["self", "word", "at"] (spI2 C "word" "at") := by
  refine e.F.ok sc_i1 (fun vs H Q E h => ?_) (fun cdv A ou s H vs Q E hr h => ?_)
  · obtain ⟨a, x, y, rfl, _⟩ := h
    rfl
  · obtain ⟨a, x, y, rfl, h1, q⟩ := h
    refine ⟨_, pss_cons (ps_ost (pv 0) (pv 1)) (pss_one (ps_ost (pv 0) (pv 2))), ?_⟩
    refine ⟨x, rfl, .ref a, rfl, a, C, rfl, e.T, e.no _ (by simp), .inl ⟨h1, fun d hd hda => ?_⟩⟩
    refine ⟨y, rfl, .ref a, rfl, a, C, rfl, e.T, e.no _ (by simp), .inr ⟨d, _, upd_same, ?_, ?_, q d hd hda⟩⟩
    · rw [upd_ne hda, upd_same]
    · show 1 ≤ 900
      decide
theorem sc_i2 : FnScope ["self", "event", "reason"] ["self", "event", "reason"] (defScope (initE 18)) := ⟨rfl, rfl, rfl, by decide +kernel, rfl, by decide +kernel, by decide +kernel⟩
theorem ok_i2 (e : ErrC K mg "InvalidEvent" "InvalidEvent.__init__" ["event", "reason"] 18 C fI fd) : FnOk P w K mg base CX0 1 fI fd ["self", "event", "reason"] (spI2 C "event" "reason") := by
  refine e.F.ok sc_i2 (fun vs H Q E h => ?_) (fun cdv A ou s H vs Q E hr h => ?_)
  · obtain ⟨a, x, y, rfl, _⟩ := h
    rfl
  · obtain ⟨a, x, y, rfl, h1, q⟩ := h
    refine ⟨_, pss_cons (ps_ost (pv 0) (pv 1)) (pss_one (ps_ost (pv 0) (pv 2))), ?_⟩
    refine ⟨x, rfl, .ref a, rfl, a, C, rfl, e.T, e.no _ (by simp), .inl ⟨h1, fun d hd hda => ?_⟩⟩
    refine ⟨y, rfl, .ref a, rfl, a, C, rfl, e.T, e.no _ (by simp), .inr ⟨d, _, upd_same, ?_, ?_, q d hd hda⟩⟩
    · rw [upd_ne hda, upd_same]
    · show 1 ≤ 900
      decide
theorem sc_i3 : FnScope ["self", "event", "folders"] ["self", "event", "folders"] (defScope (initE 20)) := ⟨rfl, rfl, rfl, by decide +kernel, rfl, by decide +kernel, by decide +kernel⟩
theorem ok_i3 (e : ErrC K mg "Barred" "Barred.__init__" ["event", "folders"] 20 C fI fd) : FnOk P w K mg base CX0 1 fI fd ["self", "event", "folders"] (spI2 C "event" "folders") := by
  refine e.F.ok sc_i3 (fun vs H Q E h => ?_) (fun cdv A ou s H vs Q E hr h => ?_)
  · obtain ⟨a, x, y, rfl, _⟩ := h
    rfl
  · obtain ⟨a, x, y, rfl, h1, q⟩ := h
    refine ⟨_, pss_cons (ps_ost (pv 0) (pv 1)) (pss_one (ps_ost (pv 0) (pv 2))), ?_⟩
    refine ⟨x, rfl, .ref a, rfl, a, C, rfl, e.T, e.no _ (by simp), .inl ⟨h1, fun d hd hda => ?_⟩⟩
    refine ⟨y, rfl, .ref a, rfl, a, C, rfl, e.T, e.no _ (by simp), .inr ⟨d, _, upd_same, ?_, ?_, q d hd hda⟩⟩
    · rw [upd_ne hda, upd_same]
    · show 1 ≤ 900
      decide
theorem sc_i4 : FnScope ["self", "line", "field"] ["self", "line", "field"] (defScope (initE 21)) := ⟨rfl, rfl, rfl, by decide +kernel, rfl, by decide +kernel, by decide +kernel⟩
theorem ok_i4 (e : ErrC K mg "InvalidText" "InvalidText.__init__" ["line", "field"] 21 C fI fd) : FnOk P w K mg base CX0 1 fI fd ["self", "line", "field"] (spI2 C "line" "field") := by
  refine e.F.ok sc_i4 (fun vs H Q E h => ?_) (fun cdv A ou s H vs Q E hr h => ?_)
  · obtain ⟨a, x, y, rfl, _⟩ := h
    rfl
  · obtain ⟨a, x, y, rfl, h1, q⟩ := h
    refine ⟨_, pss_cons (ps_ost (pv 0) (pv 1)) (pss_one (ps_ost (pv 0) (pv 2))), ?_⟩
    refine ⟨x, rfl, .ref a, rfl, a, C, rfl, e.T, e.no _ (by simp), .inl ⟨h1, fun d hd hda => ?_⟩⟩
    refine ⟨y, rfl, .ref a, rfl, a, C, rfl, e.T, e.no _ (by simp), .inr ⟨d, _, upd_same, ?_, ?_, q d hd hda⟩⟩
    · rw [upd_ne hda, upd_same]
    · show 1 ≤ 900
      decide
theorem sc_i5 : FnScope ["self", "steps"] ["self", "steps"] (defScope (initE 19)) := ⟨rfl, rfl, rfl, by decide +kernel, rfl, by decide +kernel, by decide +kernel⟩
theorem ok_i5 (e : ErrC K mg "NothingToUndo" "NothingToUndo.__init__" ["steps"] 19 C fI fd) : FnOk P w K mg base CX0 1 fI fd ["self", "steps"] (spI1 C "steps") := by
  refine e.F.ok sc_i5 (fun vs H Q E h => ?_) (fun cdv A ou s H vs Q E hr h => ?_)
  · obtain ⟨a, x, rfl, _⟩ := h
    rfl
  · obtain ⟨a, x, rfl, h1, q⟩ := h
    refine ⟨_, pss_one (ps_ost (pv 0) (pv 1)), ?_⟩
    exact ⟨x, rfl, .ref a, rfl, a, C, rfl, e.T, e.no _ (by simp), .inl ⟨h1, fun d hd hda => q d hd hda⟩⟩
theorem sc_i6 : FnScope ["self", "row"] ["self", "row"] (defScope (initE 22)) := ⟨rfl, rfl, rfl, by decide +kernel, rfl, by decide +kernel, by decide +kernel⟩
theorem ok_i6 (e : ErrC K mg "InvalidRow" "InvalidRow.__init__" ["row"] 22 C fI fd) : FnOk P w K mg base CX0 1 fI fd ["self", "row"] (spI1 C "row") := by
  refine e.F.ok sc_i6 (fun vs H Q E h => ?_) (fun cdv A ou s H vs Q E hr h => ?_)
  · obtain ⟨a, x, rfl, _⟩ := h
    rfl
  · obtain ⟨a, x, rfl, h1, q⟩ := h
    refine ⟨_, pss_one (ps_ost (pv 0) (pv 1)), ?_⟩
    exact ⟨x, rfl, .ref a, rfl, a, C, rfl, e.T, e.no _ (by simp), .inl ⟨h1, fun d hd hda => q d hd hda⟩⟩
/-- the families -/
def spFam (K : PySem.W.Frag) (G : Nat → Addr) : Sp := fun vs H Q _ => ∃ (a C : Addr) (fs : List (Str × V)) (b0 b1 b2 b3 : Bool), vs = [.ref a] ∧ ExcC K C ∧ Exc H a C fs ∧ PySem.W.kitOne K (.ref C) (.ref (G 0)) = some b0 ∧ PySem.W.kitOne K (.ref C) (.ref (G 1)) = some b1 ∧
  PySem.W.kitOne K (.ref C) (.ref (G 2)) = some b2 ∧ PySem.W.kitOne K (.ref C) (.ref (G 3)) = some b3 ∧ ∀ l, H l = none → Q (.ref l) (upd H l (.lst [.bl b0, .bl b1, .bl b2, .bl b3]))
theorem sc_fam : FnScope ["_law_e"] ["_law_e"] (defScope (topE 40)) := ⟨rfl, rfl, rfl, by decide +kernel, rfl, by decide +kernel, by decide +kernel⟩
structure FamG (mg : Str → Option Value) (G : Nat → Addr) : Prop where
  g0 : mg "PaperError" = some (.ref (G 0))
  g1 : mg "TreeError" = some (.ref (G 1))
  g2 : mg "MovingError" = some (.ref (G 2))
  g3 : mg "TextError" = some (.ref (G 3))
  g4 : mg "RoomError" = some (.ref (G 4))
  u : mg "isinstance" = none
theorem ok_fam {G : Nat → Addr} (F : Fun K "_law_families" "_law_families" (topE 40) fI fd) (g : FamG mg G) : FnOk P w K mg base CX0 1 fI fd ["_law_e"] (spFam K G) := by
  refine F.ok sc_fam (fun vs H Q E h => ?_) (fun cdv A ou s H vs Q E hr h => ?_)
  · obtain ⟨a, C, fs, b0, b1, b2, b3, rfl, _⟩ := h
    rfl
  · obtain ⟨a, C, fs, b0, b1, b2, b3, rfl, T, e, k0, k1, k2, k3, q⟩ := h
    refine ⟨_, pss_one (ps_ret (pe_lst (pa_cons (pe_callB call_isX (by rfl) g.u (by decide +kernel) (pa_cons (pv 0) (pa_cons (pe_glob (v := .ref (G 0)) (by rfl) g.g0 rfl) pa_nil))) (pa_cons (pe_callB call_isX (by rfl) g.u (by decide +kernel) (pa_cons (pv 0) (pa_cons (pe_glob (v := .ref (G 1)) (by rfl) g.g1 rfl) pa_nil)))
      (pa_cons (pe_callB call_isX (by rfl) g.u (by decide +kernel) (pa_cons (pv 0) (pa_cons (pe_glob (v := .ref (G 2)) (by rfl) g.g2 rfl) pa_nil))) (pa_cons (pe_callB call_isX (by rfl) g.u (by decide +kernel) (pa_cons (pv 0) (pa_cons (pe_glob (v := .ref (G 3)) (by rfl) g.g3 rfl) pa_nil))) pa_nil)))))), ?_⟩
    refine ⟨_, rfl, a, C, fs, _, _, b0, rfl, T, e, .own _, k0, ?_⟩
    refine ⟨_, rfl, a, C, fs, _, _, b1, rfl, T, e, .own _, k1, ?_⟩
    refine ⟨_, rfl, a, C, fs, _, _, b2, rfl, T, e, .own _, k2, ?_⟩
    refine ⟨_, rfl, a, C, fs, _, _, b3, rfl, T, e, .own _, k3, ?_⟩
    exact ⟨by show 4 ≤ sizeLine; decide, q⟩
end
end K01

set_option Elab.async false
set_option linter.all false
set_option maxRecDepth 100000
set_option maxHeartbeats 990000
namespace K01
open PySem L2 Pz
/-- nothing is changed, something may be new -/
def Up (H H' : Hp) : Prop := ∀ b o, H b = some o → H' b = some o
theorem Up.rfl' {H : Hp} : Up H H := fun _ _ q => q
theorem Up.trans {H H' H'' : Hp} (u : Up H H') (v : Up H' H'') : Up H H'' := fun b o q => v b o (u b o q)
theorem Up.new {H : Hp} {p : Addr} {o : HO} (hp : H p = none) : Up H (upd H p o) := fun b u q => by rw [upd_ne (ne_of_none q hp)]; exact q
theorem Up.fresh {H H' : Hp} (u : Up H H') {p : Addr} (h : H' p = none) : H p = none := by
  cases q : H p with
  | none => rfl
  | some o => rw [u p o q] at h; cases h
theorem upd_upd {H : Hp} {p : Addr} {o o' : HO} : upd (upd H p o) p o' = upd H p o' := by
  funext b
  by_cases c : b = p
  · subst c; rw [upd_same, upd_same]
  · rw [upd_ne c, upd_ne c, upd_ne c]
theorem _root_.Pz.Exc.up {H H' : Hp} {a C : Addr} {fs : List (Str × V)} (h : Exc H a C fs) (u : Up H H') : Exc H' a C fs := by
  obtain ⟨d, h1, h2⟩ := h
  exact ⟨d, u _ _ h1, u _ _ h2⟩
theorem exo_lst {e C : Addr} {d : Option Addr} {xs : List V} : exo e C d ≠ .lst xs := fun z => by
  have q : HO.ext _ = HO.lst xs := z
  cases q
theorem exd_lst {e : Addr} {fs : List (Str × V)} {xs : List V} : exd e fs ≠ .lst xs := fun z => by
  have q : HO.ext _ = HO.lst xs := z
  cases q
theorem _root_.Pz.Exc.mut {H : Hp} {a C l : Addr} {fs : List (Str × V)} {xs ys : List V} (h : Exc H a C fs) (hl : H l = some (.lst xs)) : Exc (upd H l (.lst ys)) a C fs := by
  obtain ⟨d, h1, h2⟩ := h
  refine ⟨d, ?_, ?_⟩
  · rw [upd_ne]
    · exact h1
    · rintro rfl
      rw [h1] at hl
      exact exo_lst (Option.some.inj hl)
  · rw [upd_ne]
    · exact h2
    · rintro rfl
      rw [h2] at hl
      exact exd_lst (Option.some.inj hl)
def flds (y kp : V) : Nat → List (Str × V)
  | 0 => [("at", y), ("word", kp)]
  | 1 => [("at", y), ("word", kp)]
  | 2 => [("reason", y), ("event", kp)]
  | 3 => [("folders", y), ("event", kp)]
  | 4 => [("field", y), ("line", kp)]
  | 5 => [("steps", kp)]
  | _ => [("row", kp)]
def L7 (a : Nat → Addr) : List V := [.ref (a 0), .ref (a 1), .ref (a 2), .ref (a 3), .ref (a 4), .ref (a 5), .ref (a 6)]
def ExL (C : Nat → Addr) (H : Hp) (y kp : V) (a : Nat → Addr) : Prop := ∀ i, i < 7 → Exc H (a i) (C i) (flds y kp i)
theorem ExL.up {C : Nat → Addr} {H H' : Hp} {y kp : V} {a : Nat → Addr} (h : ExL C H y kp a) (u : Up H H') : ExL C H' y kp a := fun i hi => (h i hi).up u
theorem ExL.mut {C : Nat → Addr} {H : Hp} {y kp : V} {a : Nat → Addr} {l : Addr} {xs ys : List V} (h : ExL C H y kp a) (hl : H l = some (.lst xs)) : ExL C (upd H l (.lst ys)) y kp a := fun i hi => (h i hi).mut hl
/-! ### errors made -/
@[irreducible] def tP2 (C : Addr) (f1 f2 : Str) : TE := tOexV C (spI2 C f1 f2) (tCons (tVar 2) (tCons (tVar 1) tNil))
@[irreducible] def tP1 (C : Addr) (f1 : Str) : TE := tOexV C (spI1 C f1) (tCons (tVar 2) tNil)
@[irreducible] def tK2 (C : Addr) (f1 f2 : Str) : TE := tOexK C 2 (spI2 C f1 f2) List.reverse (tCons (tVar 1) (tCons (tVar 2) tNil))
@[irreducible] def tK1 (C : Addr) (f1 : Str) : TE := tOexK C 1 (spI1 C f1) List.reverse (tCons (tVar 2) tNil)
section
variable {σ : L2.St} {H : Hp} {x y : V} {C : Addr} {f1 f2 : Str} {Q : VK}
theorem sp2_ok (q : ∀ a H', Up H H' → Exc H' a C [(f2, y), (f1, x)] → Q (.ref a) H') : ∀ a, H a = none → spI2 C f1 f2 [.ref a, x, y] (upd H a (exo a C none)) (fun v H2 => v = .non ∧ Q (.ref a) H2) E0 := fun a ha => by
  refine ⟨a, x, y, rfl, upd_same, fun d hd hda => ⟨rfl, q a _ (fun b o e => ?_) ⟨d, ?_, upd_same⟩⟩⟩
  · have hd' : H d = none := by rw [upd_ne hda] at hd; exact hd
    have n1 : b ≠ a := ne_of_none e ha
    have n2 : b ≠ d := ne_of_none e hd'
    rw [upd_ne n2, upd_ne n1, upd_ne n2, upd_ne n1]
    exact e
  · rw [upd_ne (Ne.symm hda), upd_same]
theorem sp1_ok (q : ∀ a H', Up H H' → Exc H' a C [(f1, x)] → Q (.ref a) H') : ∀ a, H a = none → spI1 C f1 [.ref a, x] (upd H a (exo a C none)) (fun v H2 => v = .non ∧ Q (.ref a) H2) E0 := fun a ha => by
  refine ⟨a, x, rfl, upd_same, fun d hd hda => ⟨rfl, q a _ (fun b o e => ?_) ⟨d, upd_same, ?_⟩⟩⟩
  · have hd' : H d = none := by rw [upd_ne hda] at hd; exact hd
    have n1 : b ≠ a := ne_of_none e ha
    have n2 : b ≠ d := ne_of_none e hd'
    rw [upd_ne n1, upd_ne n2, upd_ne n1]
    exact e
  · rw [upd_ne hda, upd_same]
theorem p2_ok (h2 : σ[2]? = some (some x)) (h1 : σ[1]? = some (some y)) (q : ∀ a H', Up H H' → Exc H' a C [(f2, y), (f1, x)] → Q (.ref a) H') : tP2 C f1 f2 σ H Q := by
  unfold tP2
  exact ⟨x, h2, y, h1, by show 2 ≤ 1000; decide, sp2_ok q⟩
theorem p1_ok (h2 : σ[2]? = some (some x)) (q : ∀ a H', Up H H' → Exc H' a C [(f1, x)] → Q (.ref a) H') : tP1 C f1 σ H Q := by
  unfold tP1
  exact ⟨x, h2, by show 1 ≤ 1000; decide, sp1_ok q⟩
theorem k2_ok (h2 : σ[2]? = some (some x)) (h1 : σ[1]? = some (some y)) (q : ∀ a H', Up H H' → Exc H' a C [(f2, y), (f1, x)] → Q (.ref a) H') : tK2 C f1 f2 σ H Q := by
  unfold tK2
  exact ⟨y, h1, x, h2, rfl, sp2_ok q⟩
theorem k1_ok (h2 : σ[2]? = some (some x)) (q : ∀ a H', Up H H' → Exc H' a C [(f1, x)] → Q (.ref a) H') : tK1 C f1 σ H Q := by
  unfold tK1
  exact ⟨x, h2, rfl, sp1_ok q⟩
end
def t4 (a b c d : TE) : TE := tLst (tCons a (tCons b (tCons c (tCons d tNil))))
def t3 (a b c : TE) : TE := tLst (tCons a (tCons b (tCons c tNil)))
def t2 (a b : TE) : TE := tLst (tCons a (tCons b tNil))
def t1 (a : TE) : TE := tLst (tCons a tNil)
def sKept : TS := tAsg (t1 (tVar 0)) (gName 2)
def sB1 (C : Nat → Addr) : TS := tAsg (t4 (tP2 (C 0) "word" "at") (tP2 (C 1) "word" "at") (tP2 (C 2) "event" "reason") (tP2 (C 3) "event" "folders")) (gName 3)
def sB2 (C : Nat → Addr) : TS := tAsg (tOp rCat (tVar 3) (t3 (tP2 (C 4) "line" "field") (tP1 (C 5) "steps") (tP1 (C 6) "row"))) (gName 3)
def sL1 (C : Nat → Addr) : TS := tAsg (t3 (tK2 (C 0) "word" "at") (tK2 (C 1) "word" "at") (tK2 (C 2) "event" "reason")) (gName 4)
def sL2 (C : Nat → Addr) : TS := tAsg (tOp rCat (tVar 4) (t3 (tK2 (C 3) "event" "folders") (tK2 (C 4) "line" "field") (tK1 (C 5) "steps"))) (gName 4)
def sL3 (K : PySem.W.Frag) (C : Nat → Addr) : TS := tDrop (tBM K "list" (rAppend) (tVar 4) (tCons (tK1 (C 6) "row") tNil))
def sK2 (K : PySem.W.Frag) : TS := tDrop (tBM K "list" (rAppend) (tVar 2) (tCons (tVar 1) tNil))
section
variable {K : PySem.W.Frag} {C : Nat → Addr} {D : Ends} {σ : L2.St} {H : Hp} {x y : V}
theorem len4 {n : Nat} (h : n ≤ 100) : n ≤ sizeLine := by
  have e : sizeLine = 16777216 := by decide
  omega
theorem built_ok {u : TS} (h2 : σ[2]? = some (some x)) (h1 : σ[1]? = some (some y)) (h3 : 3 < σ.length) (q : ∀ p H' a, Up H H' → H p = none → H' p = some (.lst (L7 a)) → ExL C H' y x a → u D (σ.set 3 (some (.ref p))) H') : tSeq (sB1 C) (tSeq (sB2 C) u) D σ H := by
  refine p2_ok h2 h1 fun a0 H0 u0 e0 => ?_
  refine p2_ok h2 h1 fun a1 H1 u1 e1 => ?_
  refine p2_ok h2 h1 fun a2 H2 u2 e2 => ?_
  refine p2_ok h2 h1 fun a3 H3 u3 e3 => ⟨len4 (by show 4 ≤ 100; decide), fun p hp => ?_⟩
  have v3 := Up.new (o := .lst [V.ref a0, .ref a1, .ref a2, .ref a3]) hp
  have g3 : (σ.set 3 (some (V.ref p)))[3]? = some (some (.ref p)) := List.getElem?_set_self h3
  have g2 : (σ.set 3 (some (V.ref p)))[2]? = some (some x) := by rw [List.getElem?_set_ne (by decide)]; exact h2
  have g1 : (σ.set 3 (some (V.ref p)))[1]? = some (some y) := by rw [List.getElem?_set_ne (by decide)]; exact h1
  show tSeq (sB2 C) u D (σ.set 3 (some (.ref p))) (upd H3 p (.lst [.ref a0, .ref a1, .ref a2, .ref a3]))
  refine ⟨_, g3, ?_⟩
  refine p2_ok g2 g1 fun a4 H4 u4 e4 => ?_
  refine p1_ok g2 fun a5 H5 u5 e5 => ?_
  refine p1_ok g2 fun a6 H6 u6 e6 => ⟨len4 (by show 3 ≤ 100; decide), fun l hl => ?_⟩
  have v6 := Up.new (o := .lst [V.ref a4, .ref a5, .ref a6]) hl
  have w6 : Up (upd H3 p (.lst [.ref a0, .ref a1, .ref a2, .ref a3])) H6 := (u4.trans u5).trans u6
  refine ⟨p, l, _, _, rfl, rfl, v6 _ _ (w6 _ _ upd_same), upd_same, len4 (by show 4 + 3 ≤ 100; decide), fun r hr => ?_⟩
  have v7 := Up.new (o := .lst ([V.ref a0, .ref a1, .ref a2, .ref a3] ++ [.ref a4, .ref a5, .ref a6])) hr
  have w7 := v6.trans v7
  show u D ((σ.set 3 (some (.ref p))).set 3 (some (.ref r))) _
  rw [List.set_set]
  have uA : Up H _ := ((((((u0.trans u1).trans u2).trans u3).trans v3).trans w6).trans w7)
  refine q r _ (fun i => [a0, a1, a2, a3, a4, a5, a6].getD i 0) uA ?_ upd_same ?_
  · exact (((((u0.trans u1).trans u2).trans u3).trans v3).trans w6).trans v6 |>.fresh hr
  · have z3 := v3.trans (w6.trans w7)
    intro i hi
    match i, hi with
    | 0, _ => exact e0.up (((u1.trans u2).trans u3).trans z3)
    | 1, _ => exact e1.up ((u2.trans u3).trans z3)
    | 2, _ => exact e2.up (u3.trans z3)
    | 3, _ => exact e3.up z3
    | 4, _ => exact e4.up ((u5.trans u6).trans w7)
    | 5, _ => exact e5.up (u6.trans w7)
    | 6, _ => exact e6.up w7
    | n + 7, h => exact absurd h (by omega)
theorem late_ok {u : TS} (h2 : σ[2]? = some (some x)) (h1 : σ[1]? = some (some y)) (h4 : 4 < σ.length) (q : ∀ p H' a, Up H H' → H p = none → H' p = some (.lst (L7 a)) → ExL C H' y x a → u D (σ.set 4 (some (.ref p))) H') : tSeq (sL1 C) (tSeq (sL2 C) (tSeq (sL3 K C) u)) D σ H := by
  refine k2_ok h2 h1 fun a0 H0 u0 e0 => ?_
  refine k2_ok h2 h1 fun a1 H1 u1 e1 => ?_
  refine k2_ok h2 h1 fun a2 H2 u2 e2 => ⟨len4 (by show 3 ≤ 100; decide), fun p hp => ?_⟩
  have v3 := Up.new (o := .lst [V.ref a0, .ref a1, .ref a2]) hp
  have g3 : (σ.set 4 (some (V.ref p)))[4]? = some (some (.ref p)) := List.getElem?_set_self h4
  have g2 : (σ.set 4 (some (V.ref p)))[2]? = some (some x) := by rw [List.getElem?_set_ne (by decide)]; exact h2
  have g1 : (σ.set 4 (some (V.ref p)))[1]? = some (some y) := by rw [List.getElem?_set_ne (by decide)]; exact h1
  show tSeq (sL2 C) (tSeq (sL3 K C) u) D (σ.set 4 (some (.ref p))) (upd H2 p (.lst [.ref a0, .ref a1, .ref a2]))
  refine ⟨_, g3, ?_⟩
  refine k2_ok g2 g1 fun a3 H3 u3 e3 => ?_
  refine k2_ok g2 g1 fun a4 H4 u4 e4 => ?_
  refine k1_ok g2 fun a5 H5 u5 e5 => ⟨len4 (by show 3 ≤ 100; decide), fun l hl => ?_⟩
  have v6 := Up.new (o := .lst [V.ref a3, .ref a4, .ref a5]) hl
  have w6 : Up (upd H2 p (.lst [.ref a0, .ref a1, .ref a2])) H5 := (u3.trans u4).trans u5
  refine ⟨p, l, _, _, rfl, rfl, v6 _ _ (w6 _ _ upd_same), upd_same, len4 (by show 3 + 3 ≤ 100; decide), fun r hr => ?_⟩
  have v7 := Up.new (o := .lst ([V.ref a0, .ref a1, .ref a2] ++ [.ref a3, .ref a4, .ref a5])) hr
  have w7 := v6.trans v7
  show tSeq (sL3 K C) u D ((σ.set 4 (some (.ref p))).set 4 (some (.ref r))) _
  rw [List.set_set]
  have k3 : (σ.set 4 (some (V.ref r)))[4]? = some (some (.ref r)) := List.getElem?_set_self h4
  have k2 : (σ.set 4 (some (V.ref r)))[2]? = some (some x) := by rw [List.getElem?_set_ne (by decide)]; exact h2
  refine ⟨_, k3, .inl ⟨rfl, _, SqL.of upd_same⟩, ?_⟩
  refine k1_ok k2 fun a6 H6 u6 e6 => ?_
  have hr6 := u6 _ _ upd_same
  refine ⟨r, _, _, rfl, rfl, hr6, ?_, ?_⟩
  · have e : sizeLine = 16777216 := by decide
    show 3 + 3 < sizeLine
    omega
  have uB : Up H H5 := ((((u0.trans u1).trans u2).trans v3).trans w6)
  have nr : H r = none := (uB.trans v6).fresh hr
  have uA : Up H H6 := (uB.trans w7).trans u6
  refine q r _ (fun i => [a0, a1, a2, a3, a4, a5, a6].getD i 0) (fun b o e => ?_) nr upd_same ?_
  · rw [upd_ne (ne_of_none e nr)]; exact uA b o e
  · have z7 := w7.trans u6
    have z3 := (v3.trans w6).trans z7
    intro i hi
    match i, hi with
    | 0, _ => exact (e0.up ((u1.trans u2).trans z3)).mut hr6
    | 1, _ => exact (e1.up (u2.trans z3)).mut hr6
    | 2, _ => exact (e2.up z3).mut hr6
    | 3, _ => exact (e3.up ((u4.trans u5).trans z7)).mut hr6
    | 4, _ => exact (e4.up (u5.trans z7)).mut hr6
    | 5, _ => exact (e5.up z7).mut hr6
    | 6, _ => exact e6.mut hr6
    | n + 7, h => exact absurd h (by omega)
/-- the state behind the lists -/
structure Made (K : PySem.W.Frag) (C : Nat → Addr) (h : Hp) (v1 v2 : V) (σ : L2.St) (H : Hp) : Prop where
  ex : ∃ (kp bp lp : Addr) (a b : Nat → Addr), σ = [some v1, some v2, some (.ref kp), some (.ref bp), some (.ref lp), none, none, none, none, none, none, none] ∧ H kp = some (.lst [v1, v2]) ∧ H bp = some (.lst (L7 a)) ∧ H lp = some (.lst (L7 b)) ∧
    ExL C H v2 (.ref kp) a ∧ ExL C H v2 (.ref kp) b
  up : Up h H
theorem made_ok {u : TS} {h : Hp} {v1 v2 : V} (q : ∀ σ H, Made K C h v1 v2 σ H → u D σ H) : tSeq sKept (tSeq (sB1 C) (tSeq (sB2 C) (tSeq (sL1 C) (tSeq (sL2 C) (tSeq (sL3 K C) (tSeq (sK2 K) u)))))) D [some v1, some v2, none, none, none, none, none, none, none, none, none, none] h := by
  refine ⟨v1, rfl, len4 (by show 1 ≤ 100; decide), fun kp hk => ?_⟩
  have v0 := Up.new (o := .lst [v1]) hk
  refine built_ok (x := .ref kp) (y := v2) rfl rfl (by show 3 < 12; decide) fun bp H1 a u1 nb hb ea => ?_
  refine late_ok (x := .ref kp) (y := v2) rfl rfl (by show 4 < 12; decide) fun lp H2 b u2 nl hl eb => ?_
  have k2 : H2 kp = some (.lst [v1]) := u2 _ _ (u1 _ _ upd_same)
  refine ⟨.ref kp, rfl, .inl ⟨rfl, _, SqL.of k2⟩, v2, rfl, kp, _, _, rfl, rfl, k2, ?_, ?_⟩
  · have e : sizeLine = 16777216 := by decide
    show 1 < sizeLine
    omega
  have nbk : bp ≠ kp := fun e => by rw [e, upd_same] at nb; cases nb
  have nlk : lp ≠ kp := fun e => by rw [e, u1 _ _ upd_same] at nl; cases nl
  refine q _ _ ⟨⟨kp, bp, lp, a, b, rfl, upd_same, by rw [upd_ne nbk]; exact u2 _ _ hb, by rw [upd_ne nlk]; exact hl, (ea.up u2).mut k2, eb.mut k2⟩, fun c o e => ?_⟩
  rw [upd_ne (ne_of_none e hk)]
  exact u2 _ _ (u1 _ _ (v0 _ _ e))
end
end K01

set_option Elab.async false
set_option linter.all false
set_option maxRecDepth 100000
set_option maxHeartbeats 990000
namespace K01
open PySem L2 Pz
def spots : List Int := [0, 1, 2, 2, 3, 2, 3]
def rowV (s : Int) : List V := [.bl ((0 : Int) == s), .bl ((1 : Int) == s), .bl ((2 : Int) == s), .bl ((3 : Int) == s)]
def rowL (s : Int) : List PyData := [.bool ((0 : Int) == s), .bool ((1 : Int) == s), .bool ((2 : Int) == s), .bool ((3 : Int) == s)]
def rowsD : List PyData := spots.map fun s => .list (rowL s)
theorem rowDq {K : PySem.W.Frag} {H : Hp} (s : Int) : DqA K H (rowV s) (rowL s) := .cons (.bl _) (.cons (.bl _) (.cons (.bl _) (.cons (.bl _) .nil)))
/-- what is known of the classes -/
structure KCls (K : PySem.W.Frag) (C G : Nat → Addr) : Prop where
  xf : ∀ i, i < 7 → XfC K (C i)
  ec : ∀ i, i < 7 → ExcC K (C i)
  no : ∀ i, i < 7 → ∀ f v w, (f, v) ∈ flds w w i → PySem.W.findIn K (.ref (C i)) f = some none
  fm : ∀ i s, spots[i]? = some s → ∀ j : Nat, j < 4 → PySem.W.kitOne K (.ref (C i)) (.ref (G j)) = some ((j : Int) == s)
  rm : ∀ i, i < 7 → PySem.W.kitOne K (.ref (C i)) (.ref (G 4)) = some true
  ve : ∀ i, i < 7 → PySem.W.kitOne K (.ref (C i)) (.type "ValueError") = some true
/-- the loop's turn: some is the list at p -/
structure Cur (K : PySem.W.Frag) (C : Nat → Addr) (x y : PyData) (v1 v2 : V) (kp p : Addr) (a : Nat → Addr) (σ : L2.St) (H : Hp) : Prop where
  s0 : σ[0]? = some (some v1)
  s1 : σ[1]? = some (some v2)
  s5 : σ[5]? = some (some (.ref p))
  ln : σ.length = 12
  hk : H kp = some (.lst [v1, v2])
  hp : H p = some (.lst (L7 a))
  ex : ExL C H v2 (.ref kp) a
  d1 : Dq K H v1 x
  d2 : Dq K H v2 y
section
variable {K : PySem.W.Frag} {C G : Nat → Addr} {D : Ends} {x y : PyData} {v1 v2 : V} {kp p : Addr} {a : Nat → Addr} {σ : L2.St} {H H' : Hp} {Q : VK}
theorem Cur.up (c : Cur K C x y v1 v2 kp p a σ H) (u : Up H H') : Cur K C x y v1 v2 kp p a σ H' := ⟨c.s0, c.s1, c.s5, c.ln, u _ _ c.hk, u _ _ c.hp, c.ex.up u, dp_sub u c.d1, dp_sub u c.d2⟩
theorem Cur.set (c : Cur K C x y v1 v2 kp p a σ H) {i : Nat} {w : Option V} (h : 5 < i) : Cur K C x y v1 v2 kp p a (σ.set i w) H :=
  ⟨by rw [List.getElem?_set_ne (by omega)]; exact c.s0, by rw [List.getElem?_set_ne (by omega)]; exact c.s1, by rw [List.getElem?_set_ne (by omega)]; exact c.s5, by rw [List.length_set]; exact c.ln, c.hk, c.hp, c.ex, c.d1, c.d2⟩
theorem Cur.kept (c : Cur K C x y v1 v2 kp p a σ H) : Dq K H (.ref kp) (.list [x, y]) := .lst c.hk (.cons c.d1 (.cons c.d2 .nil))
theorem at7 (a : Nat → Addr) : ∀ i : Nat, i < 7 → atI (L7 a) (i : Int) = some (V.ref (a i))
  | 0, _ => rfl
  | 1, _ => rfl
  | 2, _ => rfl
  | 3, _ => rfl
  | 4, _ => rfl
  | 5, _ => rfl
  | 6, _ => rfl
  | n + 7, h => absurd h (by omega)
@[irreducible] def tF (K : PySem.W.Frag) (f : Str) (i : Nat) : TE := tXfV K f (tOp (rIxL K) (tVar 5) (tC (.int i)))
@[irreducible] def tPF (K : PySem.W.Frag) (f g : Str) (i : Nat) : TE := t2 (tF K f i) (tF K g i)
@[irreducible] def tPr : TE := t2 (tVar 0) (tVar 1)
theorem fld_ok (k : KCls K C G) (c : Cur K C x y v1 v2 kp p a σ H) {f : Str} {i : Nat} (hi : i < 7) {v : V} (hl : (flds v2 (.ref kp) i).lookup f = some v) (hf : ∃ w u, (f, u) ∈ flds w w i) (q : Q v H) : tF K f i σ H Q := by
  obtain ⟨w, u, hf⟩ := hf
  unfold tF
  exact ⟨_, c.s5, p, _, i, _, rfl, rfl, SqL.of c.hp, at7 a i hi, a i, C i, _, v, rfl, k.xf i hi, k.no i hi f u w hf, c.ex i hi, hl, q⟩
theorem pair_ok (k : KCls K C G) (c : Cur K C x y v1 v2 kp p a σ H) {f g : Str} {i : Nat} (hi : i < 7) (hf : (flds v2 (.ref kp) i).lookup f = some (.ref kp)) (hg : (flds v2 (.ref kp) i).lookup g = some v2) (mf : ∃ w u, (f, u) ∈ flds w w i) (mg : ∃ w u, (g, u) ∈ flds w w i)
    (q : ∀ l H', Up H H' → Dq K H' (.ref l) (.list [.list [x, y], y]) → Q (.ref l) H') : tPF K f g i σ H Q := by
  unfold tPF
  refine fld_ok k c hi hf mf (fld_ok k c hi hg mg ⟨len4 (by show 2 ≤ 100; decide), fun l hl => ?_⟩)
  have u := Up.new (o := .lst [V.ref kp, v2]) hl
  exact q l _ u (.lst upd_same (.cons (dp_sub u c.kept) (.cons (dp_sub u c.d2) .nil)))
theorem v01 (c : Cur K C x y v1 v2 kp p a σ H) (q : ∀ l H', Up H H' → Dq K H' (.ref l) (.list [x, y]) → Q (.ref l) H') : tPr σ H Q := by
  unfold tPr
  refine ⟨v1, c.s0, v2, c.s1, len4 (by show 2 ≤ 100; decide), fun l hl => ?_⟩
  have u := Up.new (o := .lst [v1, v2]) hl
  exact q l _ u (.lst upd_same (.cons (dp_sub u c.d1) (.cons (dp_sub u c.d2) .nil)))
def sT1 (K : PySem.W.Frag) : TS := tAsg (t3 (tPF K "word" "at" 0) (tPF K "word" "at" 1) (tPF K "event" "reason" 2)) (gName 6)
def sT2 (K : PySem.W.Frag) : TS := tAsg (tOp rCat (tVar 6) (t4 (tPF K "event" "folders" 3) (tPF K "line" "field" 4) (tF K "steps" 5) (tF K "row" 6))) (gName 6)
def toldD (x y : PyData) : PyData := .list [.list [.list [x, y], y], .list [.list [x, y], y], .list [.list [x, y], y], .list [.list [x, y], y], .list [.list [x, y], y], .list [x, y], .list [x, y]]
theorem lk1 (f : Str) (v : V) (r : List (Str × V)) : ((f, v) :: r).lookup f = some v := by simp [List.lookup]
theorem lk2 {f g : Str} (v w : V) (r : List (Str × V)) (h : ¬ (f = g)) : ((g, w) :: (f, v) :: r).lookup f = some v := by
  have q : (f == g) = false := by simpa using h
  simp [List.lookup, q]
theorem told_ok {u : TS} (k : KCls K C G) (c : Cur K C x y v1 v2 kp p a σ H) (q : ∀ t H', Up H H' → Dq K H' (.ref t) (toldD x y) → u D (σ.set 6 (some (.ref t))) H') : tSeq (sT1 K) (tSeq (sT2 K) u) D σ H := by
  refine pair_ok k c (i := 0) (by decide) (lk2 _ _ _ (by decide +kernel)) (lk1 _ _ _) ⟨.non, .non, by simp [flds]⟩ ⟨.non, .non, by simp [flds]⟩ fun l0 H0 u0 e0 => ?_
  have c0 := c.up u0
  refine pair_ok k c0 (i := 1) (by decide) (lk2 _ _ _ (by decide +kernel)) (lk1 _ _ _) ⟨.non, .non, by simp [flds]⟩ ⟨.non, .non, by simp [flds]⟩ fun l1 H1 u1 e1 => ?_
  have c1 := c0.up u1
  refine pair_ok k c1 (i := 2) (by decide) (lk2 _ _ _ (by decide +kernel)) (lk1 _ _ _) ⟨.non, .non, by simp [flds]⟩ ⟨.non, .non, by simp [flds]⟩ fun l2 H2 u2 e2 => ⟨len4 (by show 3 ≤ 100; decide), fun t ht => ?_⟩
  have v2' := Up.new (o := .lst [V.ref l0, .ref l1, .ref l2]) ht
  have c2 := ((c1.up u2).up v2').set (i := 6) (w := some (V.ref t)) (by decide)
  have g6 : (σ.set 6 (some (V.ref t)))[6]? = some (some (.ref t)) := List.getElem?_set_self (by rw [c.ln]; decide)
  show tSeq (sT2 K) u D (σ.set 6 (some (.ref t))) (upd H2 t (.lst [.ref l0, .ref l1, .ref l2]))
  refine ⟨_, g6, ?_⟩
  refine pair_ok k c2 (i := 3) (by decide) (lk2 _ _ _ (by decide +kernel)) (lk1 _ _ _) ⟨.non, .non, by simp [flds]⟩ ⟨.non, .non, by simp [flds]⟩ fun l3 H3 u3 e3 => ?_
  have c3 := c2.up u3
  refine pair_ok k c3 (i := 4) (by decide) (lk2 _ _ _ (by decide +kernel)) (lk1 _ _ _) ⟨.non, .non, by simp [flds]⟩ ⟨.non, .non, by simp [flds]⟩ fun l4 H4 u4 e4 => ?_
  have c4 := c3.up u4
  refine fld_ok k c4 (i := 5) (v := .ref kp) (by decide) (lk1 _ _ _) ⟨.non, .non, by simp [flds]⟩ ?_
  refine fld_ok k c4 (i := 6) (v := .ref kp) (by decide) (lk1 _ _ _) ⟨.non, .non, by simp [flds]⟩ ⟨len4 (by show 4 ≤ 100; decide), fun l hl => ?_⟩
  have v5 := Up.new (o := .lst [V.ref l3, .ref l4, .ref kp, .ref kp]) hl
  have w3 : Up (upd H2 t (.lst [.ref l0, .ref l1, .ref l2])) H4 := u3.trans u4
  refine ⟨t, l, _, _, rfl, rfl, v5 _ _ (w3 _ _ upd_same), upd_same, len4 (by show 3 + 4 ≤ 100; decide), fun r hr => ?_⟩
  have v6 := Up.new (o := .lst ([V.ref l0, .ref l1, .ref l2] ++ [.ref l3, .ref l4, .ref kp, .ref kp])) hr
  show u D ((σ.set 6 (some (.ref t))).set 6 (some (.ref r))) _
  rw [List.set_set]
  have z5 := v5.trans v6
  have z2 := (v2'.trans w3).trans z5
  have kk := dp_sub z5 c4.kept
  refine q r _ (((u0.trans u1).trans u2).trans z2) (.lst upd_same ?_)
  exact .cons (dp_sub ((u1.trans u2).trans z2) e0) (.cons (dp_sub (u2.trans z2) e1) (.cons (dp_sub z2 e2) (.cons (dp_sub (u4.trans z5) e3) (.cons (dp_sub z5 e4) (.cons kk (.cons kk .nil))))))
/-! the texts of it -/
def tRhs : TE := tOp rCat (tOp rRep (t1 (t2 tPr (tVar 1))) (tC (.int 5))) (tOp rRep (t1 tPr) (tC (.int 2)))
def tReprs (K : PySem.W.Frag) : TT := tTest (tOp (rNeX K) (tCB (rRepr K) (tCons (tVar 6) tNil)) (tCB (rRepr K) (tCons tRhs tNil)))
theorem p63 : -(2 ^ 63 : Int) ≤ 5 ∧ (5 : Int) < 2 ^ 63 ∧ -(2 ^ 63 : Int) ≤ 2 ∧ (2 : Int) < 2 ^ 63 ∧ -(2 ^ 63 : Int) ≤ 7 ∧ (7 : Int) < 2 ^ 63 := by decide
theorem rhs_ok (c : Cur K C x y v1 v2 kp p a σ H) (q : ∀ r H', Up H H' → Dq K H' (.ref r) (toldD x y) → Q (.ref r) H') : tRhs σ H Q := by
  refine v01 c fun l0 H0 u0 e0 => ?_
  have c0 := c.up u0
  refine ⟨v2, c0.s1, len4 (by show 2 ≤ 100; decide), fun l1 h1 => ⟨len4 (by show 1 ≤ 100; decide), fun l2 h2 => ?_⟩⟩
  have u1 := Up.new (o := .lst [V.ref l0, v2]) h1
  have u2 := Up.new (o := .lst [V.ref l1]) h2
  have e1 : Dq K (upd H0 l1 (.lst [.ref l0, v2])) (.ref l1) (.list [.list [x, y], y]) := .lst upd_same (.cons (dp_sub u1 e0) (.cons (dp_sub u1 c0.d2) .nil))
  refine ⟨l2, 5, _, rfl, rfl, upd_same, p63.1, p63.2.1, len4 (by show 1 * 5 ≤ 100; decide), fun l3 h3 => ?_⟩
  have u3 := Up.new (o := .lst (List.replicate (5 : Int).toNat [V.ref l1]).flatten) h3
  have c3 := ((c0.up u1).up u2).up u3
  refine v01 c3 fun m0 K0 w0 f0 => ⟨len4 (by show 1 ≤ 100; decide), fun m1 hm1 => ?_⟩
  have w1 := Up.new (o := .lst [V.ref m0]) hm1
  refine ⟨m1, 2, _, rfl, rfl, upd_same, p63.2.2.1, p63.2.2.2.1, len4 (by show 1 * 2 ≤ 100; decide), fun m2 hm2 => ?_⟩
  have w2 := Up.new (o := .lst (List.replicate (2 : Int).toNat [V.ref m0]).flatten) hm2
  refine ⟨l3, m2, _, _, rfl, rfl, w2 _ _ (w1 _ _ (w0 _ _ upd_same)), upd_same, len4 (by show 5 + 2 ≤ 100; decide), fun r hr => ?_⟩
  have w3 := Up.new (o := .lst ((List.replicate (5 : Int).toNat [V.ref l1]).flatten ++ (List.replicate (2 : Int).toNat [V.ref m0]).flatten)) hr
  have z := (w1.trans w2).trans w3
  have g1 := dp_sub (((u2.trans u3).trans w0).trans z) e1
  have g0 := dp_sub z f0
  exact q r _ (((((u0.trans u1).trans u2).trans u3).trans w0).trans z) (.lst upd_same (.cons g1 (.cons g1 (.cons g1 (.cons g1 (.cons g1 (.cons g0 (.cons g0 .nil))))))))
theorem no_if {ta : TS} (h : D.nx σ H) : (fun (b : Bool) H1 => if b = true then ta D σ H1 else tNext D σ H1) false H := by
  show (if false = true then _ else D.nx σ H)
  rw [if_neg
        Bool.false_ne_true]
  exact h
theorem reprs_ok {ta : TS} (c : Cur K C x y v1 v2 kp p a σ H) {t : Addr} (h6 : σ[6]? = some (some (.ref t))) (hd : Dq K H (.ref t) (toldD x y)) (z1 : (toldD x y).showable = true) (z2 : (toldD x y).depth ≤ 64) (z3 : (toldD x y).shown.length ≤ sizeLine) (q : ∀ H', Up H H' → D.nx σ H') :
    tIfS (tReprs K) ta tNext D σ H := by
  refine ⟨_, h6, _, _, rfl, hd, z1, z2, z3, ?_⟩
  refine rhs_ok c fun r H' u e => ⟨_, _, rfl, e, z1, z2, z3, .inl ⟨rfl, false, ?_, ?_⟩⟩
  · rw [decide_eq_true rfl]; rfl
  · exact no_if (q H' u)
/-! lists gathered by a comprehension -/
/-- so many of the rows stand in the new list -/
def Coll (K : PySem.W.Frag) (H1 : Hp) (d : Addr) (rows : List PyData) (i : Nat) (H : Hp) : Prop := ∃ Hf vs, Up H1 Hf ∧ Up Hf H ∧ Hf d = none ∧ H d = some (.lst vs) ∧ DqA K Hf vs (rows.take i)
theorem Coll.zero {H1 : Hp} {d : Addr} {rows : List PyData} (h : H1 d = none) : Coll K H1 d rows 0 (upd H1 d (.lst [])) := ⟨H1, [], Up.rfl', Up.new h, h, upd_same, .nil⟩
theorem Coll.up {H1 : Hp} {d : Addr} {rows : List PyData} {i : Nat} (c : Coll K H1 d rows i H) : Up H1 H := by
  obtain ⟨Hf, vs, u1, u2, _⟩ := c
  exact u1.trans u2
theorem Coll.step {H1 : Hp} {d : Addr} {rows : List PyData} {i : Nat} (c : Coll K H1 d rows i H) (hi : i < 50) {ds : List PyData} (hr : rows[i]? = some (.list ds)) {l : Addr} {ws : List V} (hl : H l = none) (hd : ∀ hh, DqA K hh ws ds) :
    ∃ acc, upd H l (.lst ws) d = some (.lst acc) ∧ acc.length < sizeLine ∧ Coll K H1 d rows (i + 1) (upd (upd H l (.lst ws)) d (.lst (acc ++ [.ref l]))) := by
  obtain ⟨Hf, vs, u1, u2, h1, h2, h3⟩ := c
  have nd : d ≠ l := ne_of_none h2 hl
  have hlen : vs.length ≤ i := by rw [h3.length, List.length_take]; omega
  have e : sizeLine = 16777216 := by decide
  refine ⟨vs, by rw [upd_ne nd]; exact h2, by omega, upd Hf l (.lst ws), vs ++ [.ref l], u1.trans (Up.new (u2.fresh hl)), fun b o q => ?_, by rw [upd_ne nd]; exact h1, upd_same, ?_⟩
  · by_cases cb : b = l
    · subst cb
      rw [upd_same] at q
      rw [upd_ne (Ne.symm nd), upd_same]
      exact q
    · rw [upd_ne cb] at q
      rw [upd_ne (ne_of_none q h1), upd_ne cb]
      exact u2 b o q
  · have et : rows.take (i + 1) = rows.take i ++ [.list ds] := by
      rw [List.take_add_one, hr]
      rfl
    rw [et]
    exact DqA.append (dpa_sub (Up.new (u2.fresh hl)) h3) (.cons (.lst upd_same (hd _)) .nil)
theorem Coll.all {H1 : Hp} {d : Addr} {rows : List PyData} {n : Nat} (hn : rows.length ≤ n) (c : Coll K H1 d rows n H) : Dq K H (.ref d) (.list rows) := by
  obtain ⟨Hf, vs, u1, u2, h1, h2, h3⟩ := c
  rw [List.take_of_length_le hn] at h3
  exact .lst h2 (dpa_sub u2 h3)
theorem yes_if {A B : Hp → Prop} (h : A H) : tYes σ H fun b H3 => if b = true then A H3 else B H3 := by
  show (if true = true then A H else B H)
  rw [if_pos rfl]
  exact h
theorem else_if {A B : Prop} (h : B) : if (!true) = true then A else B := by
  show (if false = true then A else B)
  rw [if_neg
        Bool.false_ne_true]
  exact h
/-- one row of the places -/
@[irreducible] def tRow : TE := tLc (iRng1 (tCons (tC (.int 4)) tNil)) (gName 9) tYes (tOp rEq (tVar 9) (tVar 10)) [9]
theorem p62 : -(2 ^ 62 : Int) ≤ 4 ∧ (4 : Int) < 2 ^ 62 := by decide
theorem set_get {σ : L2.St} {i : Nat} {w : Option V} (h : i < σ.length) : (σ.set i w)[i]? = some w := List.getElem?_set_self h
theorem row_ok {s : Int} (h10 : σ[10]? = some (some (.int s))) (hl : σ.length = 12) (q : ∀ l, H l = none → Q (.ref l) (upd H l (.lst (rowV s)))) : tRow σ H Q := by
  unfold tRow
  refine ⟨4, rfl, p62.1, p62.2, fun d hd => ?_⟩
  refine lc_range (lo := 0) (n := 4) (fun i H' => H' = upd H d (.lst ((rowV s).take i))) rfl (fun i H' hi eh => ?_) (fun H' eh => ?_)
  · subst eh
    refine ⟨by show ((σ.set 9 none).set 9 _).set 9 none = σ.set 9 none; rw [List.set_set, List.set_set], ?_⟩
    refine yes_if ?_
    refine ⟨.int (0 + i), set_get (by show 9 < (σ.set 9 none).length; rw [List.length_set, hl]; decide), .int s, ?_, rfl, (rowV s).take i, upd_same, ?_, ?_⟩
    · show ((σ.set 9 none).set 9 _)[10]? = _
      rw [List.getElem?_set_ne (by decide), List.getElem?_set_ne (by decide)]
      exact h10
    · have e : sizeLine = 16777216 := by decide
      have : ((rowV s).take i).length ≤ 4 := by rw [List.length_take]; show min i 4 ≤ 4; omega
      omega
    · rw [upd_upd, dec_int]
      match i, hi with
      | 0, _ => rfl
      | 1, _ => rfl
      | 2, _ => rfl
      | 3, _ => rfl
      | n + 4, h => exact absurd h (by omega)
  · subst eh
    exact q d hd
def sPl (K : PySem.W.Frag) : TS := tAsg (tLc (iTup K (tTup (tCons (tC (.int 0)) (tCons (tC (.int 1)) (tCons (tC (.int 2)) (tCons (tC (.int 2)) (tCons (tC (.int 3)) (tCons (tC (.int 2)) (tCons (tC (.int 3)) tNil))))))))) (gName 10) tYes tRow [10]) (gName 7)
theorem spot_row : ∀ {i : Nat} {w : V}, (spots.map V.int)[i]? = some w → ∃ s, spots[i]? = some s ∧ w = .int s ∧ rowsD[i]? = some (.list (rowL s)) := fun {i w} h => by
  rw [List.getElem?_map] at h
  cases e : spots[i]? with
  | none =>
    rw [e] at h
    cases h
  | some s =>
    rw [e] at h
    cases h
    refine ⟨s, rfl, rfl, ?_⟩
    unfold rowsD
    rw [List.getElem?_map, e]
    rfl
theorem spot_lt {i : Nat} {s : Int} (h : spots[i]? = some s) : i < 7 := (List.getElem?_eq_some_iff.mp h).1
theorem places_ok {u : TS} (hl : σ.length = 12) (q : ∀ t H', Up H H' → Dq K H' (.ref t) (.list rowsD) → u D (σ.set 7 (some (.ref t))) H') : tSeq (sPl K) u D σ H := by
  refine ⟨len4 (by show 7 ≤ 100; decide), fun t ht => ⟨t, rfl, ⟨_, SqT.of upd_same⟩, fun d hd => ?_⟩⟩
  have ut := Up.new (o := .tup (spots.map V.int)) ht
  refine lc_tup (xs := spots.map V.int) (Coll K (upd H t (.tup (spots.map V.int))) d rowsD) (Coll.zero hd) (fun i H' hi c => SqT.of (c.up _ _ upd_same)) (fun i w H' hw c => ?_) (fun H' c => ?_)
  · obtain ⟨s, e1, rfl, e2⟩ := spot_row hw
    refine ⟨by show ((σ.set 10 none).set 10 _).set 10 none = σ.set 10 none; rw [List.set_set, List.set_set], ?_⟩
    refine yes_if ?_
    refine row_ok (s := s) (set_get (by show 10 < (σ.set 10 none).length; rw [List.length_set, hl]; decide)) (by show ((σ.set 10 none).set 10 _).length = 12; rw [List.length_set, List.length_set, hl]) fun l hl' => ?_
    exact c.step (by have := spot_lt e1; omega) e2 hl' (fun hh => rowDq s)
  · exact q d H' (ut.trans c.up) (c.all (by decide))
/-! the families -/
@[irreducible] def tFam (K : PySem.W.Frag) (G : Nat → Addr) : TE := tLc (iList K (tVar 5)) (gName 11) tYes (tCall (spFam K G) [] E0 (tCons (tVar 11) tNil)) [11]
def tFams (K : PySem.W.Frag) (G : Nat → Addr) : TT := tTest (tOp (rNeX K) (tFam K G) (tVar 7))
theorem at_L7 {i : Nat} {w : V} (h : (L7 a)[i]? = some w) : i < 7 ∧ w = .ref (a i) := by
  have hi : i < 7 := (List.getElem?_eq_some_iff.mp h).1
  refine ⟨hi, ?_⟩
  match i, hi, h with
  | 0, _, h => cases h; rfl
  | 1, _, h => cases h; rfl
  | 2, _, h => cases h; rfl
  | 3, _, h => cases h; rfl
  | 4, _, h => cases h; rfl
  | 5, _, h => cases h; rfl
  | 6, _, h => cases h; rfl
  | n + 7, hi, _ => exact absurd hi (by omega)
theorem spot_at : ∀ {i : Nat}, i < 7 → ∃ s, spots[i]? = some s ∧ rowsD[i]? = some (.list (rowL s)) := fun {i} hi => by
  have e : spots[i]? = some (spots[i]'hi) := List.getElem?_eq_getElem hi
  refine ⟨_, e, ?_⟩
  unfold rowsD
  rw [List.getElem?_map, e]
  rfl
theorem fam_ok (k : KCls K C G) (c : Cur K C x y v1 v2 kp p a σ H) (q : ∀ t H', Up H H' → Dq K H' (.ref t) (.list rowsD) → Q (.ref t) H') : tFam K G σ H Q := by
  unfold tFam
  refine ⟨_, c.s5, p, rfl, ⟨_, SqL.of c.hp⟩, fun d hd => ?_⟩
  refine lc_list (xs := L7 a) (Coll K H d rowsD) (Coll.zero hd) (fun i H' hi z => SqL.of (z.up _ _ c.hp)) (fun i w H' hw z => ?_) (fun H' z => q d H' z.up (z.all (by show 7 ≤ 7; decide)))
  obtain ⟨hi, rfl⟩ := at_L7 hw
  obtain ⟨s, e1, e2⟩ := spot_at hi
  refine ⟨by show ((σ.set 11 none).set 11 _).set 11 none = σ.set 11 none; rw [List.set_set, List.set_set], ?_⟩
  refine yes_if ?_
  refine ⟨_, set_get (by show 11 < (σ.set 11 none).length; rw [List.length_set, c.ln]; decide), ?_⟩
  refine ⟨a i, C i, _, _, _, _, _, rfl, k.ec i hi, (c.ex i hi).up z.up, k.fm i s e1 0 (by decide), k.fm i s e1 1 (by decide), k.fm i s e1 2 (by decide), k.fm i s e1 3 (by decide), fun l hl => ?_⟩
  exact z.step (by omega) e2 hl (fun hh => rowDq s)
theorem rows_shaped : SeqAt.shaped (.list rowsD) = true ∧ PyData.eqv (.list rowsD) (.list rowsD) = true := by decide +kernel
theorem fams_ok {ta : TS} (k : KCls K C G) (c : Cur K C x y v1 v2 kp p a σ H) {t : Addr} (h7 : σ[7]? = some (some (.ref t))) (hd : Dq K H (.ref t) (.list rowsD)) (q : ∀ H', Up H H' → D.nx σ H') : tIfS (tFams K G) ta tNext D σ H := by
  refine fam_ok k c fun r H' u e => ⟨_, h7, .inr ⟨.list rowsD, .list rowsD, e.dp, (dp_sub u hd).dp, rows_shaped.1, rows_shaped.1, false, ?_, no_if (q H' u)⟩⟩
  rw [rows_shaped.2]
  rfl
/-! all are of the base class -/
def tNo (K : PySem.W.Frag) (G : Nat → Addr) : TT := tOr (tNot (tB (tCB (rIsX K) (tCons (tVar 11) (tCons (tC (.ref (G 4))) tNil))))) (tNot (tB (tCB (rIsX K) (tCons (tVar 11) (tCons (tC (.ty "ValueError")) tNil)))))
def tOdd (K : PySem.W.Frag) (G : Nat → Addr) : TE := tLc (iList K (tVar 5)) (gName 11) (tNo K G) (tVar 11) [11]
def tOdds (K : PySem.W.Frag) (G : Nat → Addr) : TT := tTest (tOp (rNeX K) (tOdd K G) (tLst tNil))
theorem odds_ok {ta : TS} (k : KCls K C G) (c : Cur K C x y v1 v2 kp p a σ H) (q : ∀ H', Up H H' → D.nx σ H') : tIfS (tOdds K G) ta tNext D σ H := by
  refine ⟨_, c.s5, p, rfl, ⟨_, SqL.of c.hp⟩, fun d hd => ?_⟩
  have ud := Up.new (o := .lst []) hd
  refine lc_list (xs := L7 a) (fun _ H' => H' = upd H d (.lst [])) rfl (fun i H' hi z => by subst z; exact SqL.of (ud _ _ c.hp)) (fun i w H' hw z => ?_) (fun H' z => ?_)
  · subst z
    obtain ⟨hi, rfl⟩ := at_L7 hw
    have g : ((σ.set 11 none).set 11 (some (V.ref (a i))))[11]? = some (some (.ref (a i))) := set_get (by rw [List.length_set, c.ln]; decide)
    refine ⟨by show ((σ.set 11 none).set 11 _).set 11 none = σ.set 11 none; rw [List.set_set, List.set_set], ?_⟩
    refine ⟨_, g, a i, C i, _, _, _, true, rfl, k.ec i hi, (c.ex i hi).up ud, .own _, k.rm i hi, true, rfl, ?_⟩
    refine else_if ?_
    refine ⟨_, g, a i, C i, _, _, _, true, rfl, k.ec i hi, (c.ex i hi).up ud, .ty _, k.ve i hi, true, rfl, ?_⟩
    refine else_if ?_
    rfl
  · subst z
    refine ⟨len4 (by show 0 ≤ 100; decide), fun e he => .inr ⟨.list [], .list [], ?_, ?_, rfl, rfl, false, ?_, no_if (q _ (ud.trans (Up.new he)))⟩⟩
    · exact (Dq.lst (Up.new he _ _ upd_same) .nil).dp
    · exact (Dq.lst upd_same .nil).dp
    · simp [PyData.eqv, PyData.eqvAll]
/-! what is no kind of another -/
@[irreducible] def tIs (K : PySem.W.Frag) (C : Nat → Addr) (i j : Nat) : TE := tCB (rIsX K) (tCons (tOp (rIxL K) (tVar 3) (tC (.int i))) (tCons (tC (.ref (C j))) tNil))
def sS1 (K : PySem.W.Frag) (C : Nat → Addr) : TS := tAsg (t3 (tIs K C 0 1) (tIs K C 2 3) (tIs K C 3 2)) (gName 8)
def sS2 (K : PySem.W.Frag) (C : Nat → Addr) : TS := tAsg (tOp rCat (tVar 8) (t2 (tIs K C 4 6) (tIs K C 6 4))) (gName 8)
def sRt (K : PySem.W.Frag) (C : Nat → Addr) : TS := tRet (tOp (rEqX K) (tOp rCat (tVar 8) (t2 (tIs K C 5 2) (tIs K C 2 5))) (tOp rRep (t1 (tC (.bl false))) (tC (.int 7))))
structure KSrt (K : PySem.W.Frag) (C : Nat → Addr) : Prop where
  k01 : PySem.W.kitOne K (.ref (C 0)) (.ref (C 1)) = some false
  k23 : PySem.W.kitOne K (.ref (C 2)) (.ref (C 3)) = some false
  k32 : PySem.W.kitOne K (.ref (C 3)) (.ref (C 2)) = some false
  k46 : PySem.W.kitOne K (.ref (C 4)) (.ref (C 6)) = some false
  k64 : PySem.W.kitOne K (.ref (C 6)) (.ref (C 4)) = some false
  k52 : PySem.W.kitOne K (.ref (C 5)) (.ref (C 2)) = some false
  k25 : PySem.W.kitOne K (.ref (C 2)) (.ref (C 5)) = some false
structure Blt (C : Nat → Addr) (v2 : V) (kp bp : Addr) (a : Nat → Addr) (σ : L2.St) (H : Hp) : Prop where
  s3 : σ[3]? = some (some (.ref bp))
  hb : H bp = some (.lst (L7 a))
  ex : ExL C H v2 (.ref kp) a
theorem is_ok {bp : Addr} (k : KCls K C G) (b : Blt C v2 kp bp a σ H) {i j : Nat} (hi : i < 7) (kk : PySem.W.kitOne K (.ref (C i)) (.ref (C j)) = some false) (q : Q (.bl false) H) : tIs K C i j σ H Q := by
  unfold tIs
  exact ⟨_, b.s3, bp, _, i, _, rfl, rfl, SqL.of b.hb, at7 a i hi, a i, C i, _, _, _, false, rfl, k.ec i hi, b.ex i hi, .own _, kk, q⟩
theorem no7 : SeqAt.shaped (.list [.bool false, .bool false, .bool false, .bool false, .bool false, .bool false, .bool false]) = true ∧ PyData.eqv (.list [.bool false, .bool false, .bool false, .bool false, .bool false, .bool false, .bool false]) (.list [.bool false, .bool false, .bool false, .bool false, .bool false, .bool false, .bool false]) = true := by decide +kernel
theorem last_ok {bp : Addr} (k : KCls K C G) (ks : KSrt K C) (b : Blt C v2 kp bp a σ H) (hl : σ.length = 12) (q : ∀ H', Up H H' → D.rt (.bl true) H') : tSeq (sS1 K C) (tSeq (sS2 K C) (sRt K C)) D σ H := by
  refine is_ok k b (by decide) ks.k01 (is_ok k b (by decide) ks.k23 (is_ok k b (by decide) ks.k32 ⟨len4 (by show 3 ≤ 100; decide), fun p hp => ?_⟩))
  have u0 := Up.new (o := .lst [V.bl false, .bl false, .bl false]) hp
  have g8 : (σ.set 8 (some (V.ref p)))[8]? = some (some (.ref p)) := set_get (by rw [hl]; decide)
  have b1 : Blt C v2 kp bp a (σ.set 8 (some (V.ref p))) (upd H p (.lst [.bl false, .bl false, .bl false])) := ⟨by rw [List.getElem?_set_ne (by decide)]; exact b.s3, u0 _ _ b.hb, b.ex.up u0⟩
  show tSeq (sS2 K C) (sRt K C) D (σ.set 8 (some (.ref p))) (upd H p (.lst [.bl false, .bl false, .bl false]))
  refine ⟨_, g8, ?_⟩
  refine is_ok k b1 (by decide) ks.k46 (is_ok k b1 (by decide) ks.k64 ⟨len4 (by show 2 ≤ 100; decide), fun l hl' => ?_⟩)
  have u1 := Up.new (o := .lst [V.bl false, .bl false]) hl'
  refine ⟨p, l, _, _, rfl, rfl, u1 _ _ upd_same, upd_same, len4 (by show 3 + 2 ≤ 100; decide), fun r hr => ?_⟩
  have u2 := Up.new (o := .lst ([V.bl false, .bl false, .bl false] ++ [.bl false, .bl false])) hr
  show sRt K C D ((σ.set 8 (some (.ref p))).set 8 (some (.ref r))) _
  rw [List.set_set]
  have b2 : Blt C v2 kp bp a (σ.set 8 (some (V.ref r))) _ := ⟨by rw [List.getElem?_set_ne (by decide)]; exact b.s3, u2 _ _ (u1 _ _ b1.hb), (b1.ex.up u1).up u2⟩
  refine ⟨_, set_get (by rw [hl]; decide), ?_⟩
  refine is_ok k b2 (by decide) ks.k52 (is_ok k b2 (by decide) ks.k25 ⟨len4 (by show 2 ≤ 100; decide), fun m hm => ?_⟩)
  have u3 := Up.new (o := .lst [V.bl false, .bl false]) hm
  refine ⟨r, m, _, _, rfl, rfl, u3 _ _ upd_same, upd_same, len4 (by show 5 + 2 ≤ 100; decide), fun n hn => ⟨len4 (by show 1 ≤ 100; decide), fun e he => ?_⟩⟩
  have u4 := Up.new (o := .lst ([V.bl false, .bl false, .bl false] ++ [.bl false, .bl false] ++ [V.bl false, .bl false])) hn
  have u5 := Up.new (o := .lst [V.bl false]) he
  refine ⟨e, 7, _, rfl, rfl, upd_same, p63.2.2.2.2.1, p63.2.2.2.2.2, len4 (by show 1 * 7 ≤ 100; decide), fun w hw => ?_⟩
  have u6 := Up.new (o := .lst (List.replicate (7 : Int).toNat [V.bl false]).flatten) hw
  have z : ∀ hh, DqA K hh [V.bl false, .bl false, .bl false, .bl false, .bl false, .bl false, .bl false] [.bool false, .bool false, .bool false, .bool false, .bool false, .bool false, .bool false] := fun hh => .cons (.bl _) (.cons (.bl _) (.cons (.bl _) (.cons (.bl _) (.cons (.bl _) (.cons (.bl _) (.cons (.bl _) .nil))))))
  refine .inr ⟨_, _, (Dq.lst (u6 _ _ (u5 _ _ upd_same)) (z _)).dp, (Dq.lst upd_same (z _)).dp, no7.1, no7.1, ?_⟩
  rw [no7.2]
  exact q _ (((((((u0.trans u1).trans u2).trans u3).trans u4).trans u5).trans u6))
/-! the loop -/
@[irreducible] def sBody (K : PySem.W.Frag) (G : Nat → Addr) (r1 r2 r3 : TS) : TS := tSeq (sT1 K) (tSeq (sT2 K) (tSeq (tIfS (tReprs K) r1 tNext) (tSeq (sPl K) (tSeq (tIfS (tFams K G) r2 tNext) (tIfS (tOdds K G) r3 tNext)))))
structure Size (x y : PyData) : Prop where
  z1 : (toldD x y).showable = true
  z2 : (toldD x y).depth ≤ 64
  z3 : (toldD x y).shown.length ≤ sizeLine
theorem body_ok {r1 r2 r3 : TS} (k : KCls K C G) (z : Size x y) (c : Cur K C x y v1 v2 kp p a σ H) (q : ∀ σ' H', Up H H' → (∀ j, j ≤ 5 → σ'[j]? = σ[j]?) → σ'.length = 12 → D.nx σ' H') : sBody K G r1 r2 r3 D σ H := by
  unfold sBody
  refine told_ok k c fun t H1 u1 e1 => ?_
  have c1 := (c.up u1).set (i := 6) (w := some (V.ref t)) (by decide)
  refine reprs_ok c1 (set_get (by rw [c.ln]; decide)) e1 z.z1 z.z2 z.z3 fun H2 u2 => ?_
  have c2 := c1.up u2
  refine places_ok c2.ln fun s H3 u3 e3 => ?_
  have c3 := (c2.up u3).set (i := 7) (w := some (V.ref s)) (by decide)
  refine fams_ok k c3 (set_get (by rw [c2.ln]; decide)) e3 fun H4 u4 => ?_
  refine odds_ok k (c3.up u4) fun H5 u5 => ?_
  refine q _ _ ((((u1.trans u2).trans u3).trans u4).trans u5) (fun j hj => ?_) c3.ln
  rw [List.getElem?_set_ne (by omega), List.getElem?_set_ne (by omega)]
def sFor (K : PySem.W.Frag) (G : Nat → Addr) (r1 r2 r3 : TS) : TS := tFor (iTup K (tTup (tCons (tVar 3) (tCons (tVar 4) tNil)))) (gName 5) (sBody K G r1 r2 r3)
def sAll (K : PySem.W.Frag) (C G : Nat → Addr) (r1 r2 r3 : TS) : TS := tSeq sKept (tSeq (sB1 C) (tSeq (sB2 C) (tSeq (sL1 C) (tSeq (sL2 C) (tSeq (sL3 K C) (tSeq (sK2 K) (tSeq (sFor K G r1 r2 r3) (tSeq (sS1 K C) (tSeq (sS2 K C) (sRt K C))))))))))
theorem all_ok {h : Hp} {r1 r2 r3 : TS} (k : KCls K C G) (ks : KSrt K C) (z : Size x y) (d1 : Dq K h v1 x) (d2 : Dq K h v2 y) (q : ∀ H', Up h H' → D.rt (.bl true) H') : sAll K C G r1 r2 r3 D [some v1, some v2, none, none, none, none, none, none, none, none, none, none] h := by
  refine made_ok (K := K) (C := C) fun σ H m => ?_
  obtain ⟨⟨kp, bp, lp, a, b, rfl, hk, hb, hl, ea, eb⟩, u0⟩ := m
  refine ⟨_, rfl, _, rfl, len4 (by show 2 ≤ 100; decide), fun t ht => ⟨t, rfl, ⟨_, SqT.of upd_same⟩, ?_⟩⟩
  have ut := Up.new (o := .tup [V.ref bp, .ref lp]) ht
  let Pv : Nat → L2.St → Hp → Prop := fun _ σ H' => Up (upd H t (.tup [V.ref bp, .ref lp])) H' ∧ (σ[0]? = some (some v1) ∧ σ[1]? = some (some v2) ∧ σ[3]? = some (some (.ref bp)) ∧ σ.length = 12)
  refine for_tup (xs := [V.ref bp, .ref lp]) Pv ⟨Up.rfl', rfl, rfl, rfl, rfl⟩ (fun i σ H' hi p => SqT.of (p.1 _ _ upd_same)) (fun i w σ H' hw p => ?_) (fun σ H' p => ?_)
  · obtain ⟨u1, g0, g1, g3, gl⟩ := p
    have w1 := ut.trans u1
    have go : ∀ (r : Addr) (f : Nat → Addr) (D' : Ends), D'.nx = Pv (i + 1) → H r = some (.lst (L7 f)) → ExL C H v2 (.ref kp) f → sBody K G r1 r2 r3 D' (σ.set 5 (some (.ref r))) H' := fun r f D' hD hr ef => by
      have c : Cur K C x y v1 v2 kp r f (σ.set 5 (some (V.ref r))) H' := ⟨by rw [List.getElem?_set_ne (by decide)]; exact g0, by rw [List.getElem?_set_ne (by decide)]; exact g1, set_get (by rw [gl]; decide), by rw [List.length_set]; exact gl, w1 _ _ hk, w1 _ _ hr, ef.up w1, dp_sub w1 (dp_sub u0 d1), dp_sub w1 (dp_sub u0 d2)⟩
      refine body_ok k z c fun σ' H2 u2 hj hl' => ?_
      rw [hD]
      refine ⟨u1.trans u2, ?_, ?_, ?_, hl'⟩
      · rw [hj 0 (by decide)]; exact c.s0
      · rw [hj 1 (by decide)]; exact c.s1
      · rw [hj 3 (by decide), List.getElem?_set_ne (by decide)]; exact g3
    match i, hw with
    | 0, hw => cases hw; exact go bp a _ rfl hb ea
    | 1, hw => cases hw; exact go lp b _ rfl hl eb
    | n + 2, hw => cases hw
  · obtain ⟨u1, g0, g1, g3, gl⟩ := p
    have w1 := ut.trans u1
    exact last_ok k ks (bp := bp) (a := a) (kp := kp) (v2 := v2) ⟨g3, w1 _ _ hb, ea.up w1⟩ gl fun H2 u2 => q H2 ((u0.trans w1).trans u2)
end
end K01

set_option Elab.async false
set_option linter.all false
set_option maxRecDepth 100000
set_option maxHeartbeats 1900000
namespace K01
open PySem L2 Pz
/-- all that is said of the errors' classes -/
structure ErrX (K : PySem.W.Frag) (mg : Str → Option Value) (C fI : Nat → Addr) (fd : Nat → FuncData) (G : Nat → Addr) : Prop where
  c0 : ErrC K mg "InvalidPaper" "InvalidPaper.__init__" ["word", "at"] 16 (C 0) (fI 0) (fd 0)
  b0 : Binds K (fd 0) ["self", "word", "at"] []
  k0 : ∀ (s : Shared) (u : Value) (ws : List Value), ws.length = 2 → BindsTo s (fd 0) ⟨[u], (["at", "word"] : List Str).zip ws⟩ ((["self", "word", "at"] : List Str).zip (u :: ws.reverse))
  f0_0 : PySem.W.kitOne K (.ref (C 0)) (.ref (G 0)) = some true
  f0_1 : PySem.W.kitOne K (.ref (C 0)) (.ref (G 1)) = some false
  f0_2 : PySem.W.kitOne K (.ref (C 0)) (.ref (G 2)) = some false
  f0_3 : PySem.W.kitOne K (.ref (C 0)) (.ref (G 3)) = some false
  r0 : PySem.W.kitOne K (.ref (C 0)) (.ref (G 4)) = some true
  v0 : PySem.W.kitOne K (.ref (C 0)) (.type "ValueError") = some true
  c1 : ErrC K mg "NotUsable" "NotUsable.__init__" ["word", "at"] 17 (C 1) (fI 1) (fd 1)
  b1 : Binds K (fd 1) ["self", "word", "at"] []
  k1 : ∀ (s : Shared) (u : Value) (ws : List Value), ws.length = 2 → BindsTo s (fd 1) ⟨[u], (["at", "word"] : List Str).zip ws⟩ ((["self", "word", "at"] : List Str).zip (u :: ws.reverse))
  f1_0 : PySem.W.kitOne K (.ref (C 1)) (.ref (G 0)) = some false
  f1_1 : PySem.W.kitOne K (.ref (C 1)) (.ref (G 1)) = some true
  f1_2 : PySem.W.kitOne K (.ref (C 1)) (.ref (G 2)) = some false
  f1_3 : PySem.W.kitOne K (.ref (C 1)) (.ref (G 3)) = some false
  r1 : PySem.W.kitOne K (.ref (C 1)) (.ref (G 4)) = some true
  v1 : PySem.W.kitOne K (.ref (C 1)) (.type "ValueError") = some true
  c2 : ErrC K mg "InvalidEvent" "InvalidEvent.__init__" ["event", "reason"] 18 (C 2) (fI 2) (fd 2)
  b2 : Binds K (fd 2) ["self", "event", "reason"] []
  k2 : ∀ (s : Shared) (u : Value) (ws : List Value), ws.length = 2 → BindsTo s (fd 2) ⟨[u], (["reason", "event"] : List Str).zip ws⟩ ((["self", "event", "reason"] : List Str).zip (u :: ws.reverse))
  f2_0 : PySem.W.kitOne K (.ref (C 2)) (.ref (G 0)) = some false
  f2_1 : PySem.W.kitOne K (.ref (C 2)) (.ref (G 1)) = some false
  f2_2 : PySem.W.kitOne K (.ref (C 2)) (.ref (G 2)) = some true
  f2_3 : PySem.W.kitOne K (.ref (C 2)) (.ref (G 3)) = some false
  r2 : PySem.W.kitOne K (.ref (C 2)) (.ref (G 4)) = some true
  v2 : PySem.W.kitOne K (.ref (C 2)) (.type "ValueError") = some true
  c3 : ErrC K mg "Barred" "Barred.__init__" ["event", "folders"] 20 (C 3) (fI 3) (fd 3)
  b3 : Binds K (fd 3) ["self", "event", "folders"] []
  k3 : ∀ (s : Shared) (u : Value) (ws : List Value), ws.length = 2 → BindsTo s (fd 3) ⟨[u], (["folders", "event"] : List Str).zip ws⟩ ((["self", "event", "folders"] : List Str).zip (u :: ws.reverse))
  f3_0 : PySem.W.kitOne K (.ref (C 3)) (.ref (G 0)) = some false
  f3_1 : PySem.W.kitOne K (.ref (C 3)) (.ref (G 1)) = some false
  f3_2 : PySem.W.kitOne K (.ref (C 3)) (.ref (G 2)) = some true
  f3_3 : PySem.W.kitOne K (.ref (C 3)) (.ref (G 3)) = some false
  r3 : PySem.W.kitOne K (.ref (C 3)) (.ref (G 4)) = some true
  v3 : PySem.W.kitOne K (.ref (C 3)) (.type "ValueError") = some true
  c4 : ErrC K mg "InvalidText" "InvalidText.__init__" ["line", "field"] 21 (C 4) (fI 4) (fd 4)
  b4 : Binds K (fd 4) ["self", "line", "field"] []
  k4 : ∀ (s : Shared) (u : Value) (ws : List Value), ws.length = 2 → BindsTo s (fd 4) ⟨[u], (["field", "line"] : List Str).zip ws⟩ ((["self", "line", "field"] : List Str).zip (u :: ws.reverse))
  f4_0 : PySem.W.kitOne K (.ref (C 4)) (.ref (G 0)) = some false
  f4_1 : PySem.W.kitOne K (.ref (C 4)) (.ref (G 1)) = some false
  f4_2 : PySem.W.kitOne K (.ref (C 4)) (.ref (G 2)) = some false
  f4_3 : PySem.W.kitOne K (.ref (C 4)) (.ref (G 3)) = some true
  r4 : PySem.W.kitOne K (.ref (C 4)) (.ref (G 4)) = some true
  v4 : PySem.W.kitOne K (.ref (C 4)) (.type "ValueError") = some true
  c5 : ErrC K mg "NothingToUndo" "NothingToUndo.__init__" ["steps"] 19 (C 5) (fI 5) (fd 5)
  b5 : Binds K (fd 5) ["self", "steps"] []
  k5 : ∀ (s : Shared) (u : Value) (ws : List Value), ws.length = 1 → BindsTo s (fd 5) ⟨[u], (["steps"] : List Str).zip ws⟩ ((["self", "steps"] : List Str).zip (u :: ws.reverse))
  f5_0 : PySem.W.kitOne K (.ref (C 5)) (.ref (G 0)) = some false
  f5_1 : PySem.W.kitOne K (.ref (C 5)) (.ref (G 1)) = some false
  f5_2 : PySem.W.kitOne K (.ref (C 5)) (.ref (G 2)) = some true
  f5_3 : PySem.W.kitOne K (.ref (C 5)) (.ref (G 3)) = some false
  r5 : PySem.W.kitOne K (.ref (C 5)) (.ref (G 4)) = some true
  v5 : PySem.W.kitOne K (.ref (C 5)) (.type "ValueError") = some true
  c6 : ErrC K mg "InvalidRow" "InvalidRow.__init__" ["row"] 22 (C 6) (fI 6) (fd 6)
  b6 : Binds K (fd 6) ["self", "row"] []
  k6 : ∀ (s : Shared) (u : Value) (ws : List Value), ws.length = 1 → BindsTo s (fd 6) ⟨[u], (["row"] : List Str).zip ws⟩ ((["self", "row"] : List Str).zip (u :: ws.reverse))
  f6_0 : PySem.W.kitOne K (.ref (C 6)) (.ref (G 0)) = some false
  f6_1 : PySem.W.kitOne K (.ref (C 6)) (.ref (G 1)) = some false
  f6_2 : PySem.W.kitOne K (.ref (C 6)) (.ref (G 2)) = some false
  f6_3 : PySem.W.kitOne K (.ref (C 6)) (.ref (G 3)) = some true
  r6 : PySem.W.kitOne K (.ref (C 6)) (.ref (G 4)) = some true
  v6 : PySem.W.kitOne K (.ref (C 6)) (.type "ValueError") = some true
  s0_1 : PySem.W.kitOne K (.ref (C 0)) (.ref (C 1)) = some false
  s2_3 : PySem.W.kitOne K (.ref (C 2)) (.ref (C 3)) = some false
  s3_2 : PySem.W.kitOne K (.ref (C 3)) (.ref (C 2)) = some false
  s4_6 : PySem.W.kitOne K (.ref (C 4)) (.ref (C 6)) = some false
  s6_4 : PySem.W.kitOne K (.ref (C 6)) (.ref (C 4)) = some false
  s5_2 : PySem.W.kitOne K (.ref (C 5)) (.ref (C 2)) = some false
  s2_5 : PySem.W.kitOne K (.ref (C 2)) (.ref (C 5)) = some false
  g : FamG mg G
theorem sc_err : FnScope ["_law_one", "_law_two", "_law_kept", "_law_built", "_law_late", "_law_some", "_law_told", "_law_places", "_law_sorts", "_law_k", "_law_spot", "_law_e"] ["_law_one", "_law_two"] (defScope (topE 41)) := ⟨rfl, rfl, rfl, by decide +kernel, rfl, by decide +kernel, by decide +kernel⟩
abbrev scP : Scope := { kind := .function, names := [(".0", .local), ("_law_spot", .cell), ("range", .globalImplicit)], isGenerator := false, isCoroutine := false }
theorem call_isXK {X : Cx} {K : PySem.W.Frag} (h : X.K = K) : CallR X (.builtin "isinstance") (rIsX K) := by
  subst h
  exact call_isX
section
variable {P : Program} {w : World} {K : PySem.W.Frag} {mg : Str → Option Value} {base : Heap} {C fI : Nat → Addr} {fd : Nat → FuncData} {G : Nat → Addr} {fA fF : Addr} {fdA fdF : FuncData}
/-- the promise of it -/
def spErr (K : PySem.W.Frag) : Sp := fun vs H Q _ => ∃ (x y : PyData) (v1 v2 : V), vs = [v1, v2] ∧ Dq K H v1 x ∧ Dq K H v2 y ∧ Size x y ∧ ∀ H', Up H H' → Q (.bl true) H'
theorem kcls (e : ErrX K mg C fI fd G) : KCls K C G := by
  refine ⟨fun i hi => ?_, fun i hi => ?_, fun i hi f v w hf => ?_, fun i s hs j hj => ?_, fun i hi => ?_, fun i hi => ?_⟩
  · match i, hi with
    | 0, _ => exact e.c0.xf
    | 1, _ => exact e.c1.xf
    | 2, _ => exact e.c2.xf
    | 3, _ => exact e.c3.xf
    | 4, _ => exact e.c4.xf
    | 5, _ => exact e.c5.xf
    | 6, _ => exact e.c6.xf
    | n + 7, h => exact absurd h (by omega)
  · match i, hi with
    | 0, _ => exact e.c0.ec
    | 1, _ => exact e.c1.ec
    | 2, _ => exact e.c2.ec
    | 3, _ => exact e.c3.ec
    | 4, _ => exact e.c4.ec
    | 5, _ => exact e.c5.ec
    | 6, _ => exact e.c6.ec
    | n + 7, h => exact absurd h (by omega)
  · match i, hi, hf with
    | 0, _, hf =>
      rcases List.mem_cons.mp hf with h | h
      · cases h; exact e.c0.no _ (by simp)
      · cases List.mem_singleton.mp h; exact e.c0.no _ (by simp)
    | 1, _, hf =>
      rcases List.mem_cons.mp hf with h | h
      · cases h; exact e.c1.no _ (by simp)
      · cases List.mem_singleton.mp h; exact e.c1.no _ (by simp)
    | 2, _, hf =>
      rcases List.mem_cons.mp hf with h | h
      · cases h; exact e.c2.no _ (by simp)
      · cases List.mem_singleton.mp h; exact e.c2.no _ (by simp)
    | 3, _, hf =>
      rcases List.mem_cons.mp hf with h | h
      · cases h; exact e.c3.no _ (by simp)
      · cases List.mem_singleton.mp h; exact e.c3.no _ (by simp)
    | 4, _, hf =>
      rcases List.mem_cons.mp hf with h | h
      · cases h; exact e.c4.no _ (by simp)
      · cases List.mem_singleton.mp h; exact e.c4.no _ (by simp)
    | 5, _, hf =>
      cases List.mem_singleton.mp hf; exact e.c5.no _ (by simp)
    | 6, _, hf =>
      cases List.mem_singleton.mp hf; exact e.c6.no _ (by simp)
    | n + 7, h, _ => exact absurd h (by omega)
  · match i, hs with
    | 0, hs =>
      cases hs
      match j, hj with
      | 0, _ => exact e.f0_0
      | 1, _ => exact e.f0_1
      | 2, _ => exact e.f0_2
      | 3, _ => exact e.f0_3
      | n + 4, h => exact absurd h (by omega)
    | 1, hs =>
      cases hs
      match j, hj with
      | 0, _ => exact e.f1_0
      | 1, _ => exact e.f1_1
      | 2, _ => exact e.f1_2
      | 3, _ => exact e.f1_3
      | n + 4, h => exact absurd h (by omega)
    | 2, hs =>
      cases hs
      match j, hj with
      | 0, _ => exact e.f2_0
      | 1, _ => exact e.f2_1
      | 2, _ => exact e.f2_2
      | 3, _ => exact e.f2_3
      | n + 4, h => exact absurd h (by omega)
    | 3, hs =>
      cases hs
      match j, hj with
      | 0, _ => exact e.f3_0
      | 1, _ => exact e.f3_1
      | 2, _ => exact e.f3_2
      | 3, _ => exact e.f3_3
      | n + 4, h => exact absurd h (by omega)
    | 4, hs =>
      cases hs
      match j, hj with
      | 0, _ => exact e.f4_0
      | 1, _ => exact e.f4_1
      | 2, _ => exact e.f4_2
      | 3, _ => exact e.f4_3
      | n + 4, h => exact absurd h (by omega)
    | 5, hs =>
      cases hs
      match j, hj with
      | 0, _ => exact e.f5_0
      | 1, _ => exact e.f5_1
      | 2, _ => exact e.f5_2
      | 3, _ => exact e.f5_3
      | n + 4, h => exact absurd h (by omega)
    | 6, hs =>
      cases hs
      match j, hj with
      | 0, _ => exact e.f6_0
      | 1, _ => exact e.f6_1
      | 2, _ => exact e.f6_2
      | 3, _ => exact e.f6_3
      | n + 4, h => exact absurd h (by omega)
    | n + 7, hs => cases hs
  · match i, hi with
    | 0, _ => exact e.r0
    | 1, _ => exact e.r1
    | 2, _ => exact e.r2
    | 3, _ => exact e.r3
    | 4, _ => exact e.r4
    | 5, _ => exact e.r5
    | 6, _ => exact e.r6
    | n + 7, h => exact absurd h (by omega)
  · match i, hi with
    | 0, _ => exact e.v0
    | 1, _ => exact e.v1
    | 2, _ => exact e.v2
    | 3, _ => exact e.v3
    | 4, _ => exact e.v4
    | 5, _ => exact e.v5
    | 6, _ => exact e.v6
    | n + 7, h => exact absurd h (by omega)
theorem rd_err (e : ErrX K mg C fI fd G) (F : Fun K "_law_are_errors_right" "_law_are_errors_right" (topE 41) fA fdA) (Ff : Fun K "_law_families" "_law_families" (topE 40) fF fdF) (mF : mg "_law_families" = some (.ref fF)) (bF : Binds K fdF ["_law_e"] []) (ur : mg "repr" = none) (uv : mg "ValueError" = none) (ug : mg "range" = none) (cdv : Value) (A : Around) (ou : List Env) (s : Shared) (h : Hp) (hG : A.guards = some []) (hr : Room 2 (A.deeper (PyProof.Rows.envOfC "_law_are_errors_right" (defScope (topE 41)) s.heap.objs.size fA cdv))) : ∃ r1 r2 r3, PSs ((cxOf CX0 P w K mg base ["_law_one", "_law_two", "_law_kept", "_law_built", "_law_late", "_law_some", "_law_told", "_law_places", "_law_sorts", "_law_k", "_law_spot", "_law_e"] "_law_are_errors_right" (defScope (topE 41)) fA cdv A ou s h E0).nox) (defBody (topE 41)) (sAll K C G r1 r2 r3) := by
  unfold sAll sFor sBody sB1 sB2 sL1 sL2 sL3 sT1 sT2 sPl tFams sS1 sS2 sRt tReprs tRhs tPF tPr tF tRow tFam tIs tP2 tP1 tK2 tK1
  exact ⟨_, _, _, (pss_cons (ps_set (i := 2) sc_err.nd rfl (Or.inl rfl) (pe_lst (pa_cons (pv 0) pa_nil))) (pss_cons (ps_set (i := 3) sc_err.nd rfl (Or.inl rfl) (pe_lst (pa_cons (pe_oexV e.c0.T e.c0.iC e.c0.tI (ok_i0 e.c0) (hr.mono (by decide)) e.b0 (by rfl) e.c0.m (pa_cons (pv 2) (pa_cons (pv 1) pa_nil))) (pa_cons (pe_oexV e.c1.T e.c1.iC e.c1.tI (ok_i1 e.c1) (hr.mono (by decide)) e.b1 (by rfl) e.c1.m (pa_cons (pv 2) (pa_cons (pv 1) pa_nil))) (pa_cons (pe_oexV e.c2.T e.c2.iC e.c2.tI (ok_i2 e.c2) (hr.mono (by decide)) e.b2 (by rfl) e.c2.m (pa_cons (pv 2) (pa_cons (pv 1) pa_nil))) (pa_cons (pe_oexV e.c3.T e.c3.iC e.c3.tI (ok_i3 e.c3) (hr.mono (by decide)) e.b3 (by rfl) e.c3.m (pa_cons (pv 2) (pa_cons (pv 1) pa_nil))) pa_nil)))))) (pss_cons (ps_set (i := 3) sc_err.nd rfl (Or.inl rfl) (pe_op op_cat (pv 3) (pe_lst (pa_cons (pe_oexV e.c4.T e.c4.iC e.c4.tI (ok_i4 e.c4) (hr.mono (by decide)) e.b4 (by rfl) e.c4.m (pa_cons (pv 2) (pa_cons (pv 1) pa_nil))) (pa_cons (pe_oexV e.c5.T e.c5.iC e.c5.tI (ok_i5 e.c5) (hr.mono (by decide)) e.b5 (by rfl) e.c5.m (pa_cons (pv 2) pa_nil)) (pa_cons (pe_oexV e.c6.T e.c6.iC e.c6.tI (ok_i6 e.c6) (hr.mono (by decide)) e.b6 (by rfl) e.c6.m (pa_cons (pv 2) pa_nil)) pa_nil)))))) (pss_cons (ps_set (i := 4) sc_err.nd rfl (Or.inl rfl) (pe_lst (pa_cons (pe_oexK (ks := ["at", "word"]) (g := List.reverse) (f := List.reverse) e.c0.T e.c0.iC e.c0.tI (ok_i0 e.c0) (hr.mono (by decide)) e.k0 (fun _ _ r _ => r.reverse) (by rfl) e.c0.m (pk_cons (pv 1) (pk_cons (pv 2) pk_nil))) (pa_cons (pe_oexK (ks := ["at", "word"]) (g := List.reverse) (f := List.reverse) e.c1.T e.c1.iC e.c1.tI (ok_i1 e.c1) (hr.mono (by decide)) e.k1 (fun _ _ r _ => r.reverse) (by rfl) e.c1.m (pk_cons (pv 1) (pk_cons (pv 2) pk_nil))) (pa_cons (pe_oexK (ks := ["reason", "event"]) (g := List.reverse) (f := List.reverse) e.c2.T e.c2.iC e.c2.tI (ok_i2 e.c2) (hr.mono (by decide)) e.k2 (fun _ _ r _ => r.reverse) (by rfl) e.c2.m (pk_cons (pv 1) (pk_cons (pv 2) pk_nil))) pa_nil))))) (pss_cons (ps_set (i := 4) sc_err.nd rfl (Or.inl rfl) (pe_op op_cat (pv 4) (pe_lst (pa_cons (pe_oexK (ks := ["folders", "event"]) (g := List.reverse) (f := List.reverse) e.c3.T e.c3.iC e.c3.tI (ok_i3 e.c3) (hr.mono (by decide)) e.k3 (fun _ _ r _ => r.reverse) (by rfl) e.c3.m (pk_cons (pv 1) (pk_cons (pv 2) pk_nil))) (pa_cons (pe_oexK (ks := ["field", "line"]) (g := List.reverse) (f := List.reverse) e.c4.T e.c4.iC e.c4.tI (ok_i4 e.c4) (hr.mono (by decide)) e.k4 (fun _ _ r _ => r.reverse) (by rfl) e.c4.m (pk_cons (pv 1) (pk_cons (pv 2) pk_nil))) (pa_cons (pe_oexK (ks := ["steps"]) (g := List.reverse) (f := List.reverse) e.c5.T e.c5.iC e.c5.tI (ok_i5 e.c5) (hr.mono (by decide)) e.k5 (fun _ _ r _ => r.reverse) (by rfl) e.c5.m (pk_cons (pv 2) pk_nil)) pa_nil)))))) (pss_cons (ps_expr (pe_bm PySem.F.plainAttrs_list PySem.F.slot_list_append PySem.F.type_list_append mt_append (pv 4) (pa_cons (pe_oexK (ks := ["row"]) (g := List.reverse) (f := List.reverse) e.c6.T e.c6.iC e.c6.tI (ok_i6 e.c6) (hr.mono (by decide)) e.k6 (fun _ _ r _ => r.reverse) (by rfl) e.c6.m (pk_cons (pv 2) pk_nil)) pa_nil))) (pss_cons (ps_expr (pe_bm PySem.F.plainAttrs_list PySem.F.slot_list_append PySem.F.type_list_append mt_append (pv 2) (pa_cons (pv 1) pa_nil))) (pss_cons (ps_for PassesOwn.never rfl (pi_tup (pe_tup (pa_cons (pv 3) (pa_cons (pv 4) pa_nil)))) (pg_name (i := 5) sc_err.nd rfl (Or.inl rfl)) (pss_cons (ps_set (i := 6) sc_err.nd rfl (Or.inl rfl) (pe_lst (pa_cons (pe_lst (pa_cons (pe_xfV (f := "word") (pe_ix ix_list (pv 5) pe_int (fun _ _ => rfl))) (pa_cons (pe_xfV (f := "at") (pe_ix ix_list (pv 5) pe_int (fun _ _ => rfl))) pa_nil))) (pa_cons (pe_lst (pa_cons (pe_xfV (f := "word") (pe_ix ix_list (pv 5) pe_int (fun _ _ => rfl))) (pa_cons (pe_xfV (f := "at") (pe_ix ix_list (pv 5) pe_int (fun _ _ => rfl))) pa_nil))) (pa_cons (pe_lst (pa_cons (pe_xfV (f := "event") (pe_ix ix_list (pv 5) pe_int (fun _ _ => rfl))) (pa_cons (pe_xfV (f := "reason") (pe_ix ix_list (pv 5) pe_int (fun _ _ => rfl))) pa_nil))) pa_nil))))) (pss_cons (ps_set (i := 6) sc_err.nd rfl (Or.inl rfl) (pe_op op_cat (pv 6) (pe_lst (pa_cons (pe_lst (pa_cons (pe_xfV (f := "event") (pe_ix ix_list (pv 5) pe_int (fun _ _ => rfl))) (pa_cons (pe_xfV (f := "folders") (pe_ix ix_list (pv 5) pe_int (fun _ _ => rfl))) pa_nil))) (pa_cons (pe_lst (pa_cons (pe_xfV (f := "line") (pe_ix ix_list (pv 5) pe_int (fun _ _ => rfl))) (pa_cons (pe_xfV (f := "field") (pe_ix ix_list (pv 5) pe_int (fun _ _ => rfl))) pa_nil))) (pa_cons (pe_xfV (f := "steps") (pe_ix ix_list (pv 5) pe_int (fun _ _ => rfl))) (pa_cons (pe_xfV (f := "row") (pe_ix ix_list (pv 5) pe_int (fun _ _ => rfl))) pa_nil))))))) (pss_cons (ps_if (pt_cmpR (op_neX hr.units) (pe_callB (call_reprD hG (u66 hr)) (by rfl) ur (by decide +kernel) (pa_cons (pv 6) pa_nil)) (pe_callB (call_reprD hG (u66 hr)) (by rfl) ur (by decide +kernel) (pa_cons (pe_op op_cat (pe_op op_rep (pe_lst (pa_cons (pe_lst (pa_cons (pe_lst (pa_cons (pv 0) (pa_cons (pv 1) pa_nil))) (pa_cons (pv 1) pa_nil))) pa_nil)) pe_int) (pe_op op_rep (pe_lst (pa_cons (pe_lst (pa_cons (pv 0) (pa_cons (pv 1) pa_nil))) pa_nil)) pe_int)) pa_nil)) (nomark _)) pbW pss_nil) (pss_cons (ps_setLc (own := [("_law_spot", 10)]) (i := 7) rfl sc_err.nd rfl rfl (sw_true rfl rfl rfl (by decide +kernel)) (pi_tup (pe_tup (pa_cons pe_int (pa_cons pe_int (pa_cons pe_int (pa_cons pe_int (pa_cons pe_int (pa_cons pe_int (pa_cons pe_int pa_nil))))))))) (blkOk_by (N := ["_law_one", "_law_two", "_law_kept", "_law_built", "_law_late", "_law_some", "_law_told", "_law_places", "_law_sorts", "_law_k", "_law_spot", "_law_e"]) (sc := defScope (topE 41)) (by decide +kernel)) (fun _ _ _ _ _ => pg_name (i := 10) sc_err.nd rfl (Or.inr rfl)) (fun _ _ _ _ _ => pts_nil) (fun _ _ _ _ _ => (pe_lc (own := [("_law_k", 9)]) rfl sc_err.nd (pi_range1 (by rfl) ug (pa_cons pe_int pa_nil)) (blkOk_by (N := ["_law_one", "_law_two", "_law_kept", "_law_built", "_law_late", "_law_some", "_law_told", "_law_places", "_law_sorts", "_law_k", "_law_spot", "_law_e"]) (sc := scP) (by decide +kernel)) (fun _ _ _ _ _ => pg_name (i := 9) sc_err.nd rfl (Or.inl rfl)) (fun _ _ _ _ _ => pts_nil) (fun _ _ _ _ _ => pe_cmpR op_eq (pv 9) (pv 10) (nomark _))))) (pss_cons (ps_if (pt_cmpR (op_neX hr.units) (pe_lc (own := [("_law_e", 11)]) rfl sc_err.nd (pi_list (pv 5)) (blkOk_by (N := ["_law_one", "_law_two", "_law_kept", "_law_built", "_law_late", "_law_some", "_law_told", "_law_places", "_law_sorts", "_law_k", "_law_spot", "_law_e"]) (sc := defScope (topE 41)) (own := [("_law_e", 11)]) (by decide +kernel)) (fun _ _ _ _ _ => pg_name (i := 11) sc_err.nd rfl (Or.inl rfl)) (fun _ _ _ _ _ => pts_nil) (fun _ _ _ _ _ => pe_call (ok_fam Ff e.g) (hr.mono (by decide)) (by rfl) mF Ff.kp bF .nil pass0 (pa_cons (pv 11) pa_nil))) (pv 7) (nomark _)) pbW pss_nil) (pss_one (ps_if (pt_cmpR (op_neX hr.units) (pe_lc (own := [("_law_e", 11)]) rfl sc_err.nd (pi_list (pv 5)) (blkOk_by (N := ["_law_one", "_law_two", "_law_kept", "_law_built", "_law_late", "_law_some", "_law_told", "_law_places", "_law_sorts", "_law_k", "_law_spot", "_law_e"]) (sc := defScope (topE 41)) (own := [("_law_e", 11)]) (by decide +kernel)) (fun _ _ _ _ _ => pg_name (i := 11) sc_err.nd rfl (Or.inl rfl)) (fun _ _ _ _ _ => (pts_one (PW.pt (pw_or (pt_not (pt_val (pe_callB (id := "isinstance") (call_isXK (K := K) rfl) (by rfl) e.g.u (by decide +kernel) (pa_cons (pv 11) (pa_cons (pe_glob (v := .ref (G 4)) (by rfl) e.g.g4 rfl) pa_nil))))) (pw_or1 (pt_not (pt_val (pe_callB (id := "isinstance") (call_isXK (K := K) rfl) (by rfl) e.g.u (by decide +kernel) (pa_cons (pv 11) (pa_cons (pe_bltn (v := .ty "ValueError") (u := .type "ValueError") (by rfl) uv (by decide +kernel) rfl) pa_nil)))))))))) (fun _ _ _ _ _ => (pv 11))) (pe_lst pa_nil) (nomark _)) pbW pss_nil)))))))) (pss_cons (ps_set (i := 8) sc_err.nd rfl (Or.inl rfl) (pe_lst (pa_cons (pe_callB (id := "isinstance") (call_isXK (K := K) rfl) (by rfl) e.g.u (by decide +kernel) (pa_cons (pe_ix ix_list (pv 3) pe_int (fun _ _ => rfl)) (pa_cons (pe_glob (v := .ref (C 1)) (by rfl) e.c1.m rfl) pa_nil))) (pa_cons (pe_callB (id := "isinstance") (call_isXK (K := K) rfl) (by rfl) e.g.u (by decide +kernel) (pa_cons (pe_ix ix_list (pv 3) pe_int (fun _ _ => rfl)) (pa_cons (pe_glob (v := .ref (C 3)) (by rfl) e.c3.m rfl) pa_nil))) (pa_cons (pe_callB (id := "isinstance") (call_isXK (K := K) rfl) (by rfl) e.g.u (by decide +kernel) (pa_cons (pe_ix ix_list (pv 3) pe_int (fun _ _ => rfl)) (pa_cons (pe_glob (v := .ref (C 2)) (by rfl) e.c2.m rfl) pa_nil))) pa_nil))))) (pss_cons (ps_set (i := 8) sc_err.nd rfl (Or.inl rfl) (pe_op op_cat (pv 8) (pe_lst (pa_cons (pe_callB (id := "isinstance") (call_isXK (K := K) rfl) (by rfl) e.g.u (by decide +kernel) (pa_cons (pe_ix ix_list (pv 3) pe_int (fun _ _ => rfl)) (pa_cons (pe_glob (v := .ref (C 6)) (by rfl) e.c6.m rfl) pa_nil))) (pa_cons (pe_callB (id := "isinstance") (call_isXK (K := K) rfl) (by rfl) e.g.u (by decide +kernel) (pa_cons (pe_ix ix_list (pv 3) pe_int (fun _ _ => rfl)) (pa_cons (pe_glob (v := .ref (C 4)) (by rfl) e.c4.m rfl) pa_nil))) pa_nil))))) (pss_one (ps_ret (pe_cmpR (op_eqX hr.units) (pe_op op_cat (pv 8) (pe_lst (pa_cons (pe_callB (id := "isinstance") (call_isXK (K := K) rfl) (by rfl) e.g.u (by decide +kernel) (pa_cons (pe_ix ix_list (pv 3) pe_int (fun _ _ => rfl)) (pa_cons (pe_glob (v := .ref (C 2)) (by rfl) e.c2.m rfl) pa_nil))) (pa_cons (pe_callB (id := "isinstance") (call_isXK (K := K) rfl) (by rfl) e.g.u (by decide +kernel) (pa_cons (pe_ix ix_list (pv 3) pe_int (fun _ _ => rfl)) (pa_cons (pe_glob (v := .ref (C 5)) (by rfl) e.c5.m rfl) pa_nil))) pa_nil)))) (pe_op op_rep (pe_lst (pa_cons pe_bl pa_nil)) pe_int) (nomark _))))))))))))))⟩
theorem ok_err (e : ErrX K mg C fI fd G) (F : Fun K "_law_are_errors_right" "_law_are_errors_right" (topE 41) fA fdA) (Ff : Fun K "_law_families" "_law_families" (topE 40) fF fdF) (mF : mg "_law_families" = some (.ref fF)) (bF : Binds K fdF ["_law_e"] []) (ur : mg "repr" = none) (uv : mg "ValueError" = none) (ug : mg "range" = none) : FnG P w K mg base 3 fA fdA ["_law_one", "_law_two"] (spErr K) := by
  refine fnG_of F sc_err (fun vs H Q h => ?_) (fun cdv A ou s h vs Q hG hr hsp => ?_)
  · obtain ⟨x, y, v1, v2, rfl, _⟩ := h
    rfl
  · obtain ⟨x, y, v1, v2, rfl, d1, d2, z, q⟩ := hsp
    obtain ⟨r1, r2, r3, rd⟩ := rd_err (P := P) (w := w) (base := base) e F Ff mF bF ur uv ug cdv A ou s h hG hr
    exact wB_of rd (all_ok (kcls e) ⟨e.s0_1, e.s2_3, e.s3_2, e.s4_6, e.s6_4, e.s5_2, e.s2_5⟩ z d1 d2 q)
end
end K01

set_option Elab.async false
set_option linter.all false
set_option maxRecDepth 100000
set_option maxHeartbeats 1900000
namespace K01
open PySem L2 Pz
def topS (i : Nat) : Stmt := PySem.Challenge.pw_roomrings_k01_forms_and_errors.main.body.getD i (.Pass ⟨0, 0, 0, 0⟩)
abbrev s_is_integer : Stmt := topS 2
abbrev s_is_number : Stmt := topS 3
abbrev s_is_name : Stmt := topS 4
abbrev s_is_spot : Stmt := topS 5
abbrev s_is_folder : Stmt := topS 6
abbrev s_is_move : Stmt := topS 7
abbrev s_is_moves : Stmt := topS 8
abbrev s_is_bulk : Stmt := topS 9
abbrev s_q_spool : Stmt := topS 24
abbrev s_q_pull : Stmt := topS 25
abbrev s_q_any : Stmt := topS 26
abbrev s_q_names : Stmt := topS 27
abbrev s_q_strange : Stmt := topS 28
abbrev s_q_bent : Stmt := topS 29
abbrev s_q_is_number : Stmt := topS 30
abbrev s_q_is_name : Stmt := topS 31
abbrev s_q_is_spot : Stmt := topS 32
abbrev s_q_is_folder : Stmt := topS 33
abbrev s_q_is_move : Stmt := topS 34
abbrev s_q_is_moves : Stmt := topS 35
abbrev s_q_is_bulk : Stmt := topS 36
abbrev s_q_is_right : Stmt := topS 37
abbrev s_q_fixed : Stmt := topS 38
abbrev s_q_drawn : Stmt := topS 39
abbrev s_q_families : Stmt := topS 40
abbrev s_q_are_errors_right : Stmt := topS 41
abbrev s_law : Stmt := topS 42
/-- what the top has written -/
structure Tx (K : PySem.W.Frag) (mg : Str → Option Value) (ad : Nat → Addr) (fdd : Nat → FuncData) : Prop where
  F_is_integer : Fun K "is_integer" "is_integer" s_is_integer (ad 0) (fdd 0)
  m_is_integer : mg "is_integer" = some (.ref (ad 0))
  b_is_integer : Binds K (fdd 0) ["thing"] []
  F_is_number : Fun K "is_number" "is_number" s_is_number (ad 1) (fdd 1)
  m_is_number : mg "is_number" = some (.ref (ad 1))
  b_is_number : Binds K (fdd 1) ["thing"] []
  F_is_name : Fun K "is_name" "is_name" s_is_name (ad 2) (fdd 2)
  m_is_name : mg "is_name" = some (.ref (ad 2))
  b_is_name : Binds K (fdd 2) ["thing"] []
  F_is_spot : Fun K "is_spot" "is_spot" s_is_spot (ad 3) (fdd 3)
  m_is_spot : mg "is_spot" = some (.ref (ad 3))
  b_is_spot : Binds K (fdd 3) ["thing"] []
  F_is_folder : Fun K "is_folder" "is_folder" s_is_folder (ad 4) (fdd 4)
  m_is_folder : mg "is_folder" = some (.ref (ad 4))
  b_is_folder : Binds K (fdd 4) ["thing"] []
  F_is_move : Fun K "is_move" "is_move" s_is_move (ad 5) (fdd 5)
  m_is_move : mg "is_move" = some (.ref (ad 5))
  b_is_move : Binds K (fdd 5) ["thing"] []
  F_is_moves : Fun K "is_moves" "is_moves" s_is_moves (ad 6) (fdd 6)
  m_is_moves : mg "is_moves" = some (.ref (ad 6))
  b_is_moves : Binds K (fdd 6) ["thing"] []
  F_is_bulk : Fun K "is_bulk" "is_bulk" s_is_bulk (ad 7) (fdd 7)
  m_is_bulk : mg "is_bulk" = some (.ref (ad 7))
  b_is_bulk : Binds K (fdd 7) ["thing"] []
  F_q_spool : Fun K "_law_spool" "_law_spool" s_q_spool (ad 8) (fdd 8)
  m_q_spool : mg "_law_spool" = some (.ref (ad 8))
  b_q_spool : Binds K (fdd 8) ["_law_script"] []
  F_q_pull : Fun K "_law_pull" "_law_pull" s_q_pull (ad 9) (fdd 9)
  m_q_pull : mg "_law_pull" = some (.ref (ad 9))
  b_q_pull : Binds K (fdd 9) ["_law_spool_here", "_law_many"] []
  F_q_any : Fun K "_law_any" "_law_any" s_q_any (ad 10) (fdd 10)
  m_q_any : mg "_law_any" = some (.ref (ad 10))
  b_q_any : Binds K (fdd 10) ["_law_spool_here", "_law_rows"] []
  F_q_names : Fun K "_law_names" "_law_names" s_q_names (ad 11) (fdd 11)
  m_q_names : mg "_law_names" = some (.ref (ad 11))
  b_q_names : Binds K (fdd 11) ["_law_spool_here"] []
  F_q_strange : Fun K "_law_strange" "_law_strange" s_q_strange (ad 12) (fdd 12)
  m_q_strange : mg "_law_strange" = some (.ref (ad 12))
  b_q_strange : Binds K (fdd 12) ["_law_spool_here"] []
  F_q_bent : Fun K "_law_bent" "_law_bent" s_q_bent (ad 13) (fdd 13)
  m_q_bent : mg "_law_bent" = some (.ref (ad 13))
  b_q_bent : Binds K (fdd 13) ["_law_spool_here", "_law_what"] []
  F_q_is_number : Fun K "_law_is_number" "_law_is_number" s_q_is_number (ad 14) (fdd 14)
  m_q_is_number : mg "_law_is_number" = some (.ref (ad 14))
  b_q_is_number : Binds K (fdd 14) ["_law_what"] []
  F_q_is_name : Fun K "_law_is_name" "_law_is_name" s_q_is_name (ad 15) (fdd 15)
  m_q_is_name : mg "_law_is_name" = some (.ref (ad 15))
  b_q_is_name : Binds K (fdd 15) ["_law_what"] []
  F_q_is_spot : Fun K "_law_is_spot" "_law_is_spot" s_q_is_spot (ad 16) (fdd 16)
  m_q_is_spot : mg "_law_is_spot" = some (.ref (ad 16))
  b_q_is_spot : Binds K (fdd 16) ["_law_what"] []
  F_q_is_folder : Fun K "_law_is_folder" "_law_is_folder" s_q_is_folder (ad 17) (fdd 17)
  m_q_is_folder : mg "_law_is_folder" = some (.ref (ad 17))
  b_q_is_folder : Binds K (fdd 17) ["_law_what"] []
  F_q_is_move : Fun K "_law_is_move" "_law_is_move" s_q_is_move (ad 18) (fdd 18)
  m_q_is_move : mg "_law_is_move" = some (.ref (ad 18))
  b_q_is_move : Binds K (fdd 18) ["_law_what"] []
  F_q_is_moves : Fun K "_law_is_moves" "_law_is_moves" s_q_is_moves (ad 19) (fdd 19)
  m_q_is_moves : mg "_law_is_moves" = some (.ref (ad 19))
  b_q_is_moves : Binds K (fdd 19) ["_law_what"] []
  F_q_is_bulk : Fun K "_law_is_bulk" "_law_is_bulk" s_q_is_bulk (ad 20) (fdd 20)
  m_q_is_bulk : mg "_law_is_bulk" = some (.ref (ad 20))
  b_q_is_bulk : Binds K (fdd 20) ["_law_what"] []
  F_q_is_right : Fun K "_law_is_right" "_law_is_right" s_q_is_right (ad 21) (fdd 21)
  m_q_is_right : mg "_law_is_right" = some (.ref (ad 21))
  b_q_is_right : Binds K (fdd 21) ["_law_what"] []
  F_q_fixed : Fun K "_law_fixed" "_law_fixed" s_q_fixed (ad 22) (fdd 22)
  m_q_fixed : mg "_law_fixed" = some (.ref (ad 22))
  b_q_fixed : Binds K (fdd 22) [] []
  F_q_drawn : Fun K "_law_drawn" "_law_drawn" s_q_drawn (ad 23) (fdd 23)
  m_q_drawn : mg "_law_drawn" = some (.ref (ad 23))
  b_q_drawn : Binds K (fdd 23) ["_law_spool_here"] []
  F_q_families : Fun K "_law_families" "_law_families" s_q_families (ad 24) (fdd 24)
  m_q_families : mg "_law_families" = some (.ref (ad 24))
  b_q_families : Binds K (fdd 24) ["_law_e"] []
  F_q_are_errors_right : Fun K "_law_are_errors_right" "_law_are_errors_right" s_q_are_errors_right (ad 25) (fdd 25)
  m_q_are_errors_right : mg "_law_are_errors_right" = some (.ref (ad 25))
  b_q_are_errors_right : Binds K (fdd 25) ["_law_one", "_law_two"] []
  F_law : Fun K "law" "law" s_law (ad 26) (fdd 26)
  m_law : mg "law" = some (.ref (ad 26))
  b_law : Binds K (fdd 26) ["_law_script"] []
  k_is_bulk : KB (fdd 7) ["thing"] ["thing"] [0]
  k_is_folder : KB (fdd 4) ["thing"] ["thing"] [0]
  k_is_integer : KB (fdd 0) ["thing"] ["thing"] [0]
  k_is_move : KB (fdd 5) ["thing"] ["thing"] [0]
  k_is_moves : KB (fdd 6) ["thing"] ["thing"] [0]
  k_is_name : KB (fdd 2) ["thing"] ["thing"] [0]
  k_is_number : KB (fdd 1) ["thing"] ["thing"] [0]
  k_is_spot : KB (fdd 3) ["thing"] ["thing"] [0]
  g_LONGEST_NAME : ∃ t : Tok, mg "LONGEST_NAME" = some (.int 8 t)
  u_ValueError : mg "ValueError" = none
  u_len : mg "len" = none
  u_tuple : mg "tuple" = none
  u_list : mg "list" = none
  u_int : mg "int" = none
  u_str : mg "str" = none
  u_bool : mg "bool" = none
  u_all : mg "all" = none
  u_sorted : mg "sorted" = none
  u_repr : mg "repr" = none
  u_isinstance : mg "isinstance" = none
  u_range : mg "range" = none
  ex : ∃ (C fI : Nat → Addr) (fd : Nat → FuncData) (G : Nat → Addr), ErrX K mg C fI fd G
section
variable {P : Program} {w : World} {K : PySem.W.Frag} {mg : Str → Option Value} {base : Heap} {ad : Nat → Addr} {fdd : Nat → FuncData}
/-! is_integer -/
theorem sc_is_integer : FnScope ["thing"] ["thing"] (defScope s_is_integer) := ⟨rfl, rfl, rfl, by decide +kernel, rfl, by decide +kernel, by decide +kernel⟩
def n_is_integer : MS := nRet (mAnd (mIsi "int" (mV 0)) (mNot (mIsi "bool" (mV 0))))
@[irreducible] def F_is_integer : Fm := fOf ["thing"] ["thing"] n_is_integer
theorem ok_is_integer (T : Tx K mg ad fdd) : FnOk P w K mg base CX0 1 (ad 0) (fdd 0) ["thing"] (spOf K F_is_integer) := by
  unfold F_is_integer
  exact fn_sem T.F_is_integer sc_is_integer fun cdv A ou s H _ hr g => (fun sc =>
      sb_one (ss_ret (se_and (se_isi (pe_callB call_isi (by rfl) T.u_isinstance (by decide +kernel) (pa_cons peW (pa_cons (pe_bltn (by rfl) T.u_int (by decide +kernel) rfl) pa_nil))) (by decide) (se_var (pv 0))) (se_one (se_not (se_isi (pe_callB call_isi (by rfl) T.u_isinstance (by decide +kernel) (pa_cons peW (pa_cons (pe_bltn (by rfl) T.u_bool (by decide +kernel) rfl) pa_nil))) (by decide) (se_var (pv 0)))))))) sc_is_integer
/-! is_number -/
theorem sc_is_number : FnScope ["thing"] ["thing"] (defScope s_is_number) := ⟨rfl, rfl, rfl, by decide +kernel, rfl, by decide +kernel, by decide +kernel⟩
def n_is_number : MS := nRet (mAnd (mCall F_is_integer (aCons (mV 0) (aNil))) (mB (fRel fun i j => decide (j ≤ i)) (mV 0) (mC (.int 0))))
@[irreducible] def F_is_number : Fm := fOf ["thing"] ["thing"] n_is_number
theorem ok_is_number (T : Tx K mg ad fdd) : FnOk P w K mg base CX0 2 (ad 1) (fdd 1) ["thing"] (spOf K F_is_number) := by
  unfold F_is_number
  exact fn_sem T.F_is_number sc_is_number fun cdv A ou s H _ hr g => (fun sc =>
      sb_one (ss_ret (se_and (se_call (pe_call (ok_is_integer T) (hr.mono (by decide)) (by rfl) T.m_is_integer T.F_is_integer.kp T.b_is_integer .nil pass0 paW) (sa_cons (se_var (pv 0)) (sa_nil))) (se_one (se_cmp op_ge opb_rel (nomark _) (se_var (pv 0)) (se_int)))))) sc_is_number
/-! is_name -/
theorem sc_is_name : FnScope ["thing"] ["thing"] (defScope s_is_name) := ⟨rfl, rfl, rfl, by decide +kernel, rfl, by decide +kernel, by decide +kernel⟩
def n_is_name : MS := nSeq (nIf (tOrT (tNotT (tV (mIsi "str" (mV 0)))) (tV (mB (fRel fun i j => decide (j < i)) (mU fLen (mV 0)) (mC (.int 8))))) (nRet (mC (.bool false))) (nNil)) (nRet (mAnd (mS0 (fun x => .bool (PySem.Txt.isascii x)) (mV 0)) (mAnd (mS0 (fun x => .bool (PySem.Txt.isalpha x)) (mV 0)) (mS0 (fun x => .bool (PySem.Txt.islower x)) (mV 0)))))
@[irreducible] def F_is_name : Fm := fOf ["thing"] ["thing"] n_is_name
theorem ok_is_name (T : Tx K mg ad fdd) : FnOk P w K mg base CX0 1 (ad 2) (fdd 2) ["thing"] (spOf K F_is_name) := by
  unfold F_is_name
  exact fn_sem T.F_is_name sc_is_name fun cdv A ou s H _ hr g => (fun sc =>
      sb_cons (ss_if (st_bool (sw_or (st_not (st_val (fun _ h => pt_val h) (se_isi (pe_callB call_isi (by rfl) T.u_isinstance (by decide +kernel) (pa_cons peW (pa_cons (pe_bltn (by rfl) T.u_str (by decide +kernel) rfl) pa_nil))) (by decide) (se_var (pv 0))))) (sw_or1 (st_cmp op_gt opb_rel (nomark _) (se_b1 (pe_callB call_len (by rfl) T.u_len (by decide +kernel) paW) opc_len (se_var (pv 0))) (se_glob (pe_glob (v := .int 8) (by rfl) T.g_LONGEST_NAME.choose_spec ⟨_, rfl⟩) (fun _ _ => .int _)))))) (sb_one (ss_ret (se_bl))) (sb_nil))
      (sb_one (ss_ret (se_and (se_s0 (pe_m0 PySem.F.slot_str_isascii PySem.F.type_str_isascii mt_isascii peW) (fun _ _ _ => dq_bl _ _ _) (se_var (pv 0))) (se_and (se_s0 (pe_m0 PySem.F.slot_str_isalpha PySem.F.type_str_isalpha mt_isalpha peW) (fun _ _ _ => dq_bl _ _ _) (se_var (pv 0))) (se_one (se_s0 (pe_m0 PySem.F.slot_str_islower PySem.F.type_str_islower mt_islower peW) (fun _ _ _ => dq_bl _ _ _) (se_var (pv 0))))))))) sc_is_name
/-! is_spot -/
theorem sc_is_spot : FnScope ["thing"] ["thing"] (defScope s_is_spot) := ⟨rfl, rfl, rfl, by decide +kernel, rfl, by decide +kernel, by decide +kernel⟩
def n_is_spot : MS := nRet (mOr (mCall F_is_name (aCons (mV 0) (aNil))) (mAnd (mIsi "str" (mV 0)) (mB (fEq false) (mV 0) (mC (.str "")))))
@[irreducible] def F_is_spot : Fm := fOf ["thing"] ["thing"] n_is_spot
theorem ok_is_spot (T : Tx K mg ad fdd) : FnOk P w K mg base CX0 2 (ad 3) (fdd 3) ["thing"] (spOf K F_is_spot) := by
  unfold F_is_spot
  exact fn_sem T.F_is_spot sc_is_spot fun cdv A ou s H _ hr g => (fun sc =>
      sb_one (ss_ret (se_or (se_call (pe_call (ok_is_name T) (hr.mono (by decide)) (by rfl) T.m_is_name T.F_is_name.kp T.b_is_name .nil pass0 paW) (sa_cons (se_var (pv 0)) (sa_nil))) (se_one (se_and (se_isi (pe_callB call_isi (by rfl) T.u_isinstance (by decide +kernel) (pa_cons peW (pa_cons (pe_bltn (by rfl) T.u_str (by decide +kernel) rfl) pa_nil))) (by decide) (se_var (pv 0))) (se_one (se_cmp (op_eqX hr.units) opb_eq (nomark _) (se_var (pv 0)) (se_str)))))))) sc_is_spot
/-! is_folder -/
theorem sc_is_folder : FnScope ["thing", "name", "parent", "room"] ["thing"] (defScope s_is_folder) := ⟨rfl, rfl, rfl, by decide +kernel, rfl, by decide +kernel, by decide +kernel⟩
def n_is_folder : MS := nSeq (nIf (tOrT (tNotT (tV (mIsi "tuple" (mV 0)))) (tV (mB (fEq true) (mU fLen (mV 0)) (mC (.int 3))))) (nRet (mC (.bool false))) (nNil)) (nSeq (nUnp [1, 2, 3] (mV 0)) (nRet (mAnd (mCall F_is_name (aCons (mV 1) (aNil))) (mAnd (mCall F_is_spot (aCons (mV 2) (aNil))) (mAnd (mB (fEq true) (mV 2) (mV 1)) (mCall F_is_number (aCons (mV 3) (aNil))))))))
@[irreducible] def F_is_folder : Fm := fOf ["thing", "name", "parent", "room"] ["thing"] n_is_folder
theorem ok_is_folder (T : Tx K mg ad fdd) : FnOk P w K mg base CX0 3 (ad 4) (fdd 4) ["thing"] (spOf K F_is_folder) := by
  unfold F_is_folder
  exact fn_sem T.F_is_folder sc_is_folder fun cdv A ou s H _ hr g => (fun sc =>
      sb_cons (ss_if (st_bool (sw_or (st_not (st_val (fun _ h => pt_val h) (se_isi (pe_callB call_isi (by rfl) T.u_isinstance (by decide +kernel) (pa_cons peW (pa_cons (pe_bltn (by rfl) T.u_tuple (by decide +kernel) rfl) pa_nil))) (by decide) (se_var (pv 0))))) (sw_or1 (st_cmp (op_neX hr.units) opb_ne (nomark _) (se_b1 (pe_callB call_len (by rfl) T.u_len (by decide +kernel) paW) opc_len (se_var (pv 0))) (se_int))))) (sb_one (ss_ret (se_bl))) (sb_nil))
      (sb_cons (ss_unp (n := 3) rfl (ps_asg peW (pg_tup (by rfl) (pgs_cons (pg_name (i := 1) sc.nd rfl (Or.inl rfl)) (pgs_cons (pg_name (i := 2) sc.nd rfl (Or.inl rfl)) (pgs_cons (pg_name (i := 3) sc.nd rfl (Or.inl rfl)) pgs_nil))))) (se_var (pv 0)))
      (sb_one (ss_ret (se_and (se_call (pe_call (ok_is_name T) (hr.mono (by decide)) (by rfl) T.m_is_name T.F_is_name.kp T.b_is_name .nil pass0 paW) (sa_cons (se_var (pv 1)) (sa_nil))) (se_and (se_call (pe_call (ok_is_spot T) (hr.mono (by decide)) (by rfl) T.m_is_spot T.F_is_spot.kp T.b_is_spot .nil pass0 paW) (sa_cons (se_var (pv 2)) (sa_nil))) (se_and (se_cmp (op_neX hr.units) opb_ne (nomark _) (se_var (pv 2)) (se_var (pv 1))) (se_one (se_call (pe_call (ok_is_number T) (hr.mono (by decide)) (by rfl) T.m_is_number T.F_is_number.kp T.b_is_number .nil pass0 paW) (sa_cons (se_var (pv 3)) (sa_nil))))))))))) sc_is_folder
/-! is_move -/
theorem sc_is_move : FnScope ["thing", "source", "target"] ["thing"] (defScope s_is_move) := ⟨rfl, rfl, rfl, by decide +kernel, rfl, by decide +kernel, by decide +kernel⟩
def n_is_move : MS := nSeq (nIf (tOrT (tNotT (tV (mIsi "tuple" (mV 0)))) (tV (mB (fEq true) (mU fLen (mV 0)) (mC (.int 2))))) (nRet (mC (.bool false))) (nNil)) (nSeq (nUnp [1, 2] (mV 0)) (nRet (mAnd (mCall F_is_spot (aCons (mV 1) (aNil))) (mAnd (mCall F_is_spot (aCons (mV 2) (aNil))) (mB (fEq true) (mV 1) (mV 2))))))
@[irreducible] def F_is_move : Fm := fOf ["thing", "source", "target"] ["thing"] n_is_move
theorem ok_is_move (T : Tx K mg ad fdd) : FnOk P w K mg base CX0 3 (ad 5) (fdd 5) ["thing"] (spOf K F_is_move) := by
  unfold F_is_move
  exact fn_sem T.F_is_move sc_is_move fun cdv A ou s H _ hr g => (fun sc =>
      sb_cons (ss_if (st_bool (sw_or (st_not (st_val (fun _ h => pt_val h) (se_isi (pe_callB call_isi (by rfl) T.u_isinstance (by decide +kernel) (pa_cons peW (pa_cons (pe_bltn (by rfl) T.u_tuple (by decide +kernel) rfl) pa_nil))) (by decide) (se_var (pv 0))))) (sw_or1 (st_cmp (op_neX hr.units) opb_ne (nomark _) (se_b1 (pe_callB call_len (by rfl) T.u_len (by decide +kernel) paW) opc_len (se_var (pv 0))) (se_int))))) (sb_one (ss_ret (se_bl))) (sb_nil))
      (sb_cons (ss_unp (n := 2) rfl (ps_asg peW (pg_tup (by rfl) (pgs_cons (pg_name (i := 1) sc.nd rfl (Or.inl rfl)) (pgs_cons (pg_name (i := 2) sc.nd rfl (Or.inl rfl)) pgs_nil)))) (se_var (pv 0)))
      (sb_one (ss_ret (se_and (se_call (pe_call (ok_is_spot T) (hr.mono (by decide)) (by rfl) T.m_is_spot T.F_is_spot.kp T.b_is_spot .nil pass0 paW) (sa_cons (se_var (pv 1)) (sa_nil))) (se_and (se_call (pe_call (ok_is_spot T) (hr.mono (by decide)) (by rfl) T.m_is_spot T.F_is_spot.kp T.b_is_spot .nil pass0 paW) (sa_cons (se_var (pv 2)) (sa_nil))) (se_one (se_cmp (op_neX hr.units) opb_ne (nomark _) (se_var (pv 1)) (se_var (pv 2)))))))))) sc_is_move
/-! is_moves -/
theorem sc_is_moves : FnScope ["thing", "move"] ["thing"] (defScope s_is_moves) := ⟨rfl, rfl, rfl, by decide +kernel, rfl, by decide +kernel, by decide +kernel⟩
def n_is_moves : MS := nSeq (nIf (tOrT (tNotT (tV (mIsi "tuple" (mV 0)))) (tNotT (tV (mU fAll (mLc 1 (miT (mV 0)) (fun _ r k => k true r) (mCall F_is_move (aCons (mV 1) (aNil)))))))) (nRet (mC (.bool false))) (nNil)) (nRet (mB (fEq false) (mU fList (mV 0)) (mU fSort (mV 0))))
@[irreducible] def F_is_moves : Fm := fOf ["thing", "move"] ["thing"] n_is_moves
theorem ok_is_moves (T : Tx K mg ad fdd) : FnOk P w K mg base CX0 4 (ad 6) (fdd 6) ["thing"] (spOf K F_is_moves) := by
  unfold F_is_moves
  exact fn_sem T.F_is_moves sc_is_moves fun cdv A ou s H _ hr g => (fun sc =>
      sb_cons (ss_if (st_bool (sw_or (st_not (st_val (fun _ h => pt_val h) (se_isi (pe_callB call_isi (by rfl) T.u_isinstance (by decide +kernel) (pa_cons peW (pa_cons (pe_bltn (by rfl) T.u_tuple (by decide +kernel) rfl) pa_nil))) (by decide) (se_var (pv 0))))) (sw_or1 (st_not (st_val (fun _ h => pt_val h) (se_b1 (pe_callB (cr_all (by rfl)) (by rfl) T.u_all (by decide +kernel) paW) opc_all (se_lc rfl sc.nd (blkOk_by (N := ["thing", "move"]) (sc := defScope s_is_moves) (own := [("move", 1)]) (by decide +kernel)) (si_tup (se_var (pv 0))) (fun _ _ _ _ _ => pg_name (i := 1) sc.nd rfl (Or.inl rfl)) ts_nil (fun _ _ _ _ _ => se_call (pe_call (ok_is_move T) (hr.mono (by decide)) (by rfl) T.m_is_move T.F_is_move.kp T.b_is_move .nil pass0 paW) (sa_cons (se_var (pv 1)) (sa_nil)))))))))) (sb_one (ss_ret (se_bl))) (sb_nil))
      (sb_one (ss_ret (se_cmp (op_eqX hr.units) opb_eq (nomark _) (se_b1 (pe_callTy call_list_of (by rfl) T.u_list (by decide +kernel) paW) opc_list (se_var (pv 0))) (se_b1 (pe_callB (call_sortD hr.units) (by rfl) T.u_sorted (by decide +kernel) paW) opc_sort (se_var (pv 0))))))) sc_is_moves
/-! is_bulk -/
theorem sc_is_bulk : FnScope ["thing"] ["thing"] (defScope s_is_bulk) := ⟨rfl, rfl, rfl, by decide +kernel, rfl, by decide +kernel, by decide +kernel⟩
def n_is_bulk : MS := nSeq (nIf (tOrT (tNotT (tV (mIsi "tuple" (mV 0)))) (tV (mB (fEq true) (mU fLen (mV 0)) (mC (.int 3))))) (nRet (mC (.bool false))) (nNil)) (nRet (mAnd (mCall F_is_move (aCons (mSl (mV 0) (oNo) (oYes (mC (.int 2)))) (aNil))) (mAnd (mCall F_is_number (aCons (mIx (mV 0) (mC (.int 2))) (aNil))) (mB (fRel fun i j => decide (j ≤ i)) (mIx (mV 0) (mC (.int 2))) (mC (.int 1))))))
@[irreducible] def F_is_bulk : Fm := fOf ["thing"] ["thing"] n_is_bulk
theorem ok_is_bulk (T : Tx K mg ad fdd) : FnOk P w K mg base CX0 4 (ad 7) (fdd 7) ["thing"] (spOf K F_is_bulk) := by
  unfold F_is_bulk
  exact fn_sem T.F_is_bulk sc_is_bulk fun cdv A ou s H _ hr g => (fun sc =>
      sb_cons (ss_if (st_bool (sw_or (st_not (st_val (fun _ h => pt_val h) (se_isi (pe_callB call_isi (by rfl) T.u_isinstance (by decide +kernel) (pa_cons peW (pa_cons (pe_bltn (by rfl) T.u_tuple (by decide +kernel) rfl) pa_nil))) (by decide) (se_var (pv 0))))) (sw_or1 (st_cmp (op_neX hr.units) opb_ne (nomark _) (se_b1 (pe_callB call_len (by rfl) T.u_len (by decide +kernel) paW) opc_len (se_var (pv 0))) (se_int))))) (sb_one (ss_ret (se_bl))) (sb_nil))
      (sb_one (ss_ret (se_and (se_call (pe_call (ok_is_move T) (hr.mono (by decide)) (by rfl) T.m_is_move T.F_is_move.kp T.b_is_move .nil pass0 paW) (sa_cons (se_sl (se_var (pv 0)) (so_no) (so_yes (se_int))) (sa_nil))) (se_and (se_call (pe_call (ok_is_number T) (hr.mono (by decide)) (by rfl) T.m_is_number T.F_is_number.kp T.b_is_number .nil pass0 paW) (sa_cons (se_ix (se_var (pv 0)) (se_int) (fun _ _ => rfl)) (sa_nil))) (se_one (se_cmp op_ge opb_rel (nomark _) (se_ix (se_var (pv 0)) (se_int) (fun _ _ => rfl)) (se_int)))))))) sc_is_bulk
/-! _law_pull -/
theorem sc_q_pull : FnScope ["_law_spool_here", "_law_many", "_law_cell", "_law_mixed", "_law_digit", "_law_spot_in", "_law_cells"] ["_law_spool_here", "_law_many"] (defScope s_q_pull) := ⟨rfl, rfl, rfl, by decide +kernel, rfl, by decide +kernel, by decide +kernel⟩
noncomputable def n_q_pull : MS := nSeq (nSpW 0 (mAdd (mSpN 0) (mC (.int 1)))) (nSeq (nIf (tV (mB (fRel fun i j => decide (j < i)) (mSpN 0) (mC (.int 0)))) (nSeq (nAsg 4 (mMod (mU fInt (mSpN 0)) (mV 1))) (nSeq (nSpW 0 (mFdiv (mSpN 0) (mV 1))) (nRet (mV 4)))) (nNil)) (nSeq (nPar 5 6 (mSpN 0) (mSpC 0)) (nSeq (nSpW 0 (mAdd (mV 5) (mC (.int 1)))) (nSeq (nAsg 2 (mIf (tV (mB (fEq true) (mV 6) (mLst (aNil)))) (mIx (mV 6) (mMod (mU fInt (mV 5)) (mU fLen (mV 6)))) (mC (.int 11003)))) (nSeq (nIf (tAndT (tV (mB (fRel fun i j => decide (j ≤ i)) (mV 2) (mPow (mC (.int 10)) (mC (.int 18))))) (tV (mB (fRel fun i j => decide (i < j)) (mV 5) (mU fLen (mV 6))))) (nSeq (nSpW 0 (mFdiv (mV 2) (mV 1))) (nRet (mMod (mU fInt (mV 2)) (mV 1)))) (nNil)) (nSeq (nAsg 3 (mMod (mU fInt (mAdd (mAdd (mMod (mU fInt (mV 2)) (mC (.int 1000003001))) (mMul (mC (.int 90001)) (mSpN 0))) (mC (.int 3)))) (mC (.int 2147483563)))) (nSeq (nAsg 3 (mMod (mU fInt (mAdd (mAdd (mMul (mV 3) (mV 3)) (mMul (mC (.int 11094519)) (mSpN 0))) (mC (.int 1401)))) (mC (.int 2147483549)))) (nRet (mMod (mU fInt (mFdiv (mMod (mU fInt (mAdd (mMul (mV 3) (mV 3)) (mMul (mC (.int 1403)) (mV 3)))) (mC (.int 2147483543))) (mC (.int 32)))) (mV 1))))))))))
@[irreducible] noncomputable def Fr_q_pull : Fm := fOf ["_law_spool_here", "_law_many", "_law_cell", "_law_mixed", "_law_digit", "_law_spot_in", "_law_cells"] ["_law_spool_here", "_law_many"] n_q_pull
theorem okr_q_pull (T : Tx K mg ad fdd) : FnOk P w K mg base CX0 1 (ad 9) (fdd 9) ["_law_spool_here", "_law_many"] (spOf K Fr_q_pull) := by
  unfold Fr_q_pull
  exact fn_sem T.F_q_pull sc_q_pull fun cdv A ou s H _ hr g => (fun sc =>
      sb_cons (ss_spW (Or.inr (Or.inr rfl)) (ps_dput (hu_of hr) (pv 0) pe_str peW (by rfl)) (se_add (se_spN (Or.inr (Or.inr rfl)) (pe_dget (hu_of hr) (pv 0) pe_str (fun _ _ => rfl))) (se_int)))
      (sb_cons (ss_if (st_cmp op_gt opb_rel (nomark _) (se_spN (Or.inr (Or.inl rfl)) (pe_dget (hu_of hr) (pv 0) pe_str (fun _ _ => rfl))) (se_int)) (sb_cons (ss_asg (ps_set (i := 4) sc.nd rfl (Or.inl rfl) peW) (se_mod (se_b1 (pe_callTy call_int1 (by rfl) T.u_int (by decide +kernel) paW) opc_int (se_spN (Or.inr (Or.inl rfl)) (pe_dget (hu_of hr) (pv 0) pe_str (fun _ _ => rfl)))) (se_var (pv 1))))
      (sb_cons (ss_spW (Or.inr (Or.inl rfl)) (ps_dput (hu_of hr) (pv 0) pe_str peW (by rfl)) (se_fdiv (se_spN (Or.inr (Or.inl rfl)) (pe_dget (hu_of hr) (pv 0) pe_str (fun _ _ => rfl))) (se_var (pv 1))))
      (sb_one (ss_ret (se_var (pv 4)))))) (sb_nil))
      (sb_cons (ss_par (ps_par (i := 5) (j := 6) (by rfl) sc.nd rfl rfl (by decide) rfl rfl paW (by rfl)) rfl rfl (se_spN (Or.inl rfl) (pe_dget (hu_of hr) (pv 0) pe_str (fun _ _ => rfl))) (se_spC (pe_dget (hu_of hr) (pv 0) pe_str (fun _ _ => rfl))))
      (sb_cons (ss_spW (Or.inl rfl) (ps_dput (hu_of hr) (pv 0) pe_str peW (by rfl)) (se_add (se_var (pv 5)) (se_int)))
      (sb_cons (ss_asg (ps_set (i := 2) sc.nd rfl (Or.inl rfl) peW) (se_if (st_cmp (op_neX hr.units) opb_ne (nomark _) (se_var (pv 6)) (se_lst (sa_nil))) (se_ix (se_var (pv 6)) (se_mod (se_b1 (pe_callTy call_int1 (by rfl) T.u_int (by decide +kernel) paW) opc_int (se_var (pv 5))) (se_b1 (pe_callB call_len (by rfl) T.u_len (by decide +kernel) paW) opc_len (se_var (pv 6)))) (fun _ _ => rfl)) (se_int)))
      (sb_cons (ss_if (st_bool (sw_and (st_cmp op_ge opb_rel (nomark _) (se_var (pv 2)) (se_pow (se_int) (se_int))) (sw_and1 (st_cmp op_lt opb_rel (nomark _) (se_var (pv 5)) (se_b1 (pe_callB call_len (by rfl) T.u_len (by decide +kernel) paW) opc_len (se_var (pv 6))))))) (sb_cons (ss_spW (Or.inr (Or.inl rfl)) (ps_dput (hu_of hr) (pv 0) pe_str peW (by rfl)) (se_fdiv (se_var (pv 2)) (se_var (pv 1))))
      (sb_one (ss_ret (se_mod (se_b1 (pe_callTy call_int1 (by rfl) T.u_int (by decide +kernel) paW) opc_int (se_var (pv 2))) (se_var (pv 1)))))) (sb_nil))
      (sb_cons (ss_asg (ps_set (i := 3) sc.nd rfl (Or.inl rfl) peW) (se_mod (se_b1 (pe_callTy call_int1 (by rfl) T.u_int (by decide +kernel) paW) opc_int (se_add (se_add (se_mod (se_b1 (pe_callTy call_int1 (by rfl) T.u_int (by decide +kernel) paW) opc_int (se_var (pv 2))) (se_int)) (se_mul (se_int) (se_spN (Or.inr (Or.inr rfl)) (pe_dget (hu_of hr) (pv 0) pe_str (fun _ _ => rfl))))) (se_int))) (se_int)))
      (sb_cons (ss_asg (ps_set (i := 3) sc.nd rfl (Or.inl rfl) peW) (se_mod (se_b1 (pe_callTy call_int1 (by rfl) T.u_int (by decide +kernel) paW) opc_int (se_add (se_add (se_mul (se_var (pv 3)) (se_var (pv 3))) (se_mul (se_int) (se_spN (Or.inr (Or.inr rfl)) (pe_dget (hu_of hr) (pv 0) pe_str (fun _ _ => rfl))))) (se_int))) (se_int)))
      (sb_one (ss_ret (se_mod (se_b1 (pe_callTy call_int1 (by rfl) T.u_int (by decide +kernel) paW) opc_int (se_fdiv (se_mod (se_b1 (pe_callTy call_int1 (by rfl) T.u_int (by decide +kernel) paW) opc_int (se_add (se_mul (se_var (pv 3)) (se_var (pv 3))) (se_mul (se_int) (se_var (pv 3))))) (se_int)) (se_int))) (se_var (pv 1))))))))))))) sc_q_pull
theorem kept_pull : ∀ ws kf, F_q_pull noX ws kf = true → Fr_q_pull noX ws kf = true := by
  intro ws kf h
  unfold F_q_pull at h
  split at h
  · rename_i n
    simp only [Bool.and_eq_true, decide_eq_true_eq, List.all_eq_true, List.mem_range] at h
    obtain ⟨h1, h2, h3⟩ := h
    have kr : ∀ i : Int, kf (.d (.int (i % n))) = true := fun i => by
      have a1 := Int.emod_nonneg i (show n ≠ 0 by omega)
      have a2 := Int.emod_lt_of_pos i h1
      have q := h3 (i % n).toNat (by omega)
      rw [Int.toNat_of_nonneg a1] at q
      exact q
    have d1 : decide (0 < n) = true := decide_eq_true h1
    have d2 : decide (n < 1073741824) = true := decide_eq_true h2
    unfold Fr_q_pull
    refine andB rfl ?_
    -- spool['turn'] = spool['turn'] + 1
    refine spN rfl fun j1 => ?_
    -- if spool['rest'] > 0
    refine spN rfl fun j2 => ?_
    refine iteB (fun _ => ?_) (fun _ => ?_)
    · refine spN rfl fun j3 => ?_
      refine andB d1 ?_
      refine spN rfl fun j4 => ?_
      refine andB (andB d1 d2) ?_
      exact kr _
    · -- spot, cells
      refine spN rfl fun j3 => ?_
      refine spC rfl fun ns => ?_
      refine ifAny (xor true ns.isEmpty) (fun kk hk => ?_) (fun c => ?_) (fun hb k' hk => ?_) (fun hb k' hk => ?_)
      · refine andB (shaped_ints ns) (andB rfl ?_)
        show kk (xor true (PyData.eqv (.list (ns.map .int)) (.list []))) _ = true
        rw [eqv_nil]
        exact hk
      · -- if cell >= 10 ** 18 and ..
        have tl : ∀ (x m : Int), 0 < m → m < 2 ^ 32 → (decide (-(2 ^ 64) < x % m) && decide (x % m < 2 ^ 64) || decide (-(2 ^ 64) < x % m) && decide (x % m < 2 ^ 64)) = true := fun x m p1 p2 => by
          have b1 := Int.emod_nonneg x (show m ≠ 0 by omega)
          have b2 := Int.emod_lt_of_pos x p1
          rw [decide_eq_true (show -(2 ^ 64) < x % m by omega), decide_eq_true (show x % m < 2 ^ 64 by omega)]
          rfl
        have fin : ∀ r0 : Rho, r0 = asg 2 (.val (.d (.int c))) (asg 6 (.val (.d (.list (ns.map .int)))) (asg 5 (.val (.d (.int j3))) (startR ["_law_spool_here", "_law_many", "_law_cell", "_law_mixed", "_law_digit", "_law_spot_in", "_law_cells"] [W.sp, W.d (PyData.int n)]))) → ∀ k0 : KS, k0.rt = kf →
            nSeq (nAsg 3 (mMod (mU fInt (mAdd (mAdd (mMod (mU fInt (mV 2)) (mC (.int 1000003001))) (mMul (mC (.int 90001)) (mSpN 0))) (mC (.int 3)))) (mC (.int 2147483563)))) (nSeq (nAsg 3 (mMod (mU fInt (mAdd (mAdd (mMul (mV 3) (mV 3)) (mMul (mC (.int 11094519)) (mSpN 0))) (mC (.int 1401)))) (mC (.int 2147483549)))) (nRet (mMod (mU fInt (mFdiv (mMod (mU fInt (mAdd (mMul (mV 3) (mV 3)) (mMul (mC (.int 1403)) (mV 3)))) (mC (.int 2147483543))) (mC (.int 32)))) (mV 1)))) noX r0 k0 = true := by
          rintro r0 rfl k0 hk0
          refine andB rfl ?_
          refine spN rfl fun j5 => ?_
          refine (andB (tl ((c % 1000003001 + 90001 * j5 + 3)) 2147483563 (by decide) (by decide)) ?_)
          refine spN rfl fun j6 => ?_
          refine (andB (tl (((c % 1000003001 + 90001 * j5 + 3) % 2147483563 * ((c % 1000003001 + 90001 * j5 + 3) % 2147483563) + 11094519 * j6 + 1401)) 2147483549 (by decide) (by decide)) ?_)
          refine andB d1 ?_
          show k0.rt _ = true
          rw [hk0]
          exact kr _
        refine andB rfl (iteB (fun _ => iteB (fun _ => ?_) (fun _ => ?_)) (fun _ => ?_))
        · exact andB (andB d1 d2) (andB d1 (kr _))
        · exact fin _ rfl _ rfl
        · exact fin _ rfl _ rfl
      · -- cells[int(spot) % len(cells)]
        have hn : ns ≠ [] := fun e => absurd hb (by simp [e])
        have hl : 0 < ns.length := List.length_pos_iff.mpr hn
        refine andB (decide_eq_true (by show (0 : Int) < ((ns.map PyData.int).length : Nat); rw [List.length_map]; omega)) ?_
        show (match atI (ns.map PyData.int) (j3 % ((ns.map PyData.int).length : Nat)) with | some x => k' (.val (.d x)) _ | none => false) = true
        have a1 := Int.emod_nonneg j3 (show ((ns.map PyData.int).length : Int) ≠ 0 by rw [List.length_map]; omega)
        have a2 := Int.emod_lt_of_pos j3 (show (0 : Int) < ((ns.map PyData.int).length : Int) by rw [List.length_map]; omega)
        have hlt : (j3 % ((ns.map PyData.int).length : Nat)).toNat < (ns.map PyData.int).length := by omega
        have e1 : atI (ns.map PyData.int) (j3 % ((ns.map PyData.int).length : Nat)) = some (.int (ns[(j3 % ((ns.map PyData.int).length : Nat)).toNat]'(by rw [List.length_map] at hlt ⊢; exact hlt))) := by
          unfold atI ixN
          rw [if_pos a1, if_pos a2]
          show (ns.map PyData.int)[(j3 % ((ns.map PyData.int).length : Nat)).toNat]? = _
          rw [List.getElem?_eq_getElem hlt, List.getElem_map]
        rw [e1]
        exact hk _
      · exact hk _
  · cases h
theorem ok_q_pull (T : Tx K mg ad fdd) : FnOk P w K mg base CX0 1 (ad 9) (fdd 9) ["_law_spool_here", "_law_many"] (spOf K F_q_pull) := (okr_q_pull T).imp fun _ _ _ _ => spOf_imp kept_pull
/-! _law_any -/
theorem sc_q_any : FnScope ["_law_spool_here", "_law_rows"] ["_law_spool_here", "_law_rows"] (defScope s_q_any) := ⟨rfl, rfl, rfl, by decide +kernel, rfl, by decide +kernel, by decide +kernel⟩
def n_q_any : MS := nRet (mIx (mV 1) (mCall F_q_pull (aCons (mV 0) (aCons (mU fLen (mV 1)) (aNil)))))
@[irreducible] def F_q_any : Fm := fOf ["_law_spool_here", "_law_rows"] ["_law_spool_here", "_law_rows"] n_q_any
theorem ok_q_any (T : Tx K mg ad fdd) : FnOk P w K mg base CX0 2 (ad 10) (fdd 10) ["_law_spool_here", "_law_rows"] (spOf K F_q_any) := by
  unfold F_q_any
  exact fn_sem T.F_q_any sc_q_any fun cdv A ou s H _ hr g => (fun sc =>
      sb_one (ss_ret (se_ix (se_var (pv 1)) (se_call (pe_call (ok_q_pull T) (hr.mono (by decide)) (by rfl) T.m_q_pull T.F_q_pull.kp T.b_q_pull .nil pass0 paW) (sa_cons (se_var (pv 0)) (sa_cons (se_b1 (pe_callB call_len (by rfl) T.u_len (by decide +kernel) paW) opc_len (se_var (pv 1))) (sa_nil)))) (fun _ _ => rfl)))) sc_q_any
/-! _law_names -/
theorem sc_q_names : FnScope ["_law_spool_here", "_law_pools", "_law_some", "_law_k"] ["_law_spool_here"] (defScope s_q_names) := ⟨rfl, rfl, rfl, by decide +kernel, rfl, by decide +kernel, by decide +kernel⟩
def n_q_names : MS := nSeq (nAsg 1 (mLst (aCons (mLst (aCons (mC (.str "a")) (aCons (mC (.str "aa")) (aCons (mC (.str "ab")) (aCons (mC (.str "abc")) (aCons (mC (.str "b")) (aCons (mC (.str "ba")) (aCons (mC (.str "c")) (aCons (mC (.str "cc")) (aCons (mC (.str "d")) (aCons (mC (.str "e")) (aCons (mC (.str "f")) (aCons (mC (.str "zz")) (aCons (mC (.str "zzzzzzzz")) (aCons (mC (.str "z")) (aCons (mC (.str "y")) (aCons (mC (.str "x")) (aNil)))))))))))))))))) (aNil)))) (nSeq (nApp 1 (mLst (aCons (mC (.str "top")) (aCons (mC (.str "room")) (aCons (mC (.str "in")) (aCons (mC (.str "folder")) (aCons (mC (.str "bin")) (aCons (mC (.str "mail")) (aCons (mC (.str "home")) (aCons (mC (.str "work")) (aCons (mC (.str "old")) (aCons (mC (.str "new")) (aCons (mC (.str "tmp")) (aCons (mC (.str "share")) (aNil))))))))))))))) (nSeq (nAsg 2 (mCall F_q_any (aCons (mV 0) (aCons (mLst (aCons (mIx (mV 1) (mC (.int 0))) (aCons (mAdd (mIx (mV 1) (mC (.int 1))) (mLst (aCons (mC (.str "abcdefgh")) (aCons (mC (.str "h")) (aCons (mC (.str "hh")) (aCons (mC (.str "q")) (aNil))))))) (aNil)))) (aNil))))) (nSeq (nAsg 3 (mCall F_q_pull (aCons (mV 0) (aCons (mC (.int 16)) (aNil))))) (nRet (mAdd (mSl (mV 2) (oYes (mV 3)) (oNo)) (mSl (mV 2) (oNo) (oYes (mV 3))))))))
@[irreducible] def F_q_names : Fm := fOf ["_law_spool_here", "_law_pools", "_law_some", "_law_k"] ["_law_spool_here"] n_q_names
theorem ok_q_names (T : Tx K mg ad fdd) : FnOk P w K mg base CX0 3 (ad 11) (fdd 11) ["_law_spool_here"] (spOf K F_q_names) := by
  unfold F_q_names
  exact fn_sem T.F_q_names sc_q_names fun cdv A ou s H _ hr g => (fun sc =>
      sb_cons (ss_asg (ps_set (i := 1) sc.nd rfl (Or.inl rfl) peW) (se_lst (sa_cons (se_lst (sa_cons (se_str) (sa_cons (se_str) (sa_cons (se_str) (sa_cons (se_str) (sa_cons (se_str) (sa_cons (se_str) (sa_cons (se_str) (sa_cons (se_str) (sa_cons (se_str) (sa_cons (se_str) (sa_cons (se_str) (sa_cons (se_str) (sa_cons (se_str) (sa_cons (se_str) (sa_cons (se_str) (sa_cons (se_str) (sa_nil)))))))))))))))))) (sa_nil))))
      (sb_cons (ss_app (ps_expr (pe_bm PySem.F.plainAttrs_list PySem.F.slot_list_append PySem.F.type_list_append mt_append (pv 1) paW)) (se_lst (sa_cons (se_str) (sa_cons (se_str) (sa_cons (se_str) (sa_cons (se_str) (sa_cons (se_str) (sa_cons (se_str) (sa_cons (se_str) (sa_cons (se_str) (sa_cons (se_str) (sa_cons (se_str) (sa_cons (se_str) (sa_cons (se_str) (sa_nil)))))))))))))))
      (sb_cons (ss_asg (ps_set (i := 2) sc.nd rfl (Or.inl rfl) peW) (se_call (pe_call (ok_q_any T) (hr.mono (by decide)) (by rfl) T.m_q_any T.F_q_any.kp T.b_q_any .nil pass0 paW) (sa_cons (se_var (pv 0)) (sa_cons (se_lst (sa_cons (se_ix (se_var (pv 1)) (se_int) (fun _ _ => rfl)) (sa_cons (se_add (se_ix (se_var (pv 1)) (se_int) (fun _ _ => rfl)) (se_lst (sa_cons (se_str) (sa_cons (se_str) (sa_cons (se_str) (sa_cons (se_str) (sa_nil))))))) (sa_nil)))) (sa_nil)))))
      (sb_cons (ss_asg (ps_set (i := 3) sc.nd rfl (Or.inl rfl) peW) (se_call (pe_call (ok_q_pull T) (hr.mono (by decide)) (by rfl) T.m_q_pull T.F_q_pull.kp T.b_q_pull .nil pass0 paW) (sa_cons (se_var (pv 0)) (sa_cons (se_int) (sa_nil)))))
      (sb_one (ss_ret (se_add (se_sl (se_var (pv 2)) (so_yes (se_var (pv 3))) (so_no)) (se_sl (se_var (pv 2)) (so_no) (so_yes (se_var (pv 3))))))))))) sc_q_names
/-! _law_strange -/
theorem sc_q_strange : FnScope ["_law_spool_here", "_law_some"] ["_law_spool_here"] (defScope s_q_strange) := ⟨rfl, rfl, rfl, by decide +kernel, rfl, by decide +kernel, by decide +kernel⟩
def n_q_strange : MS := nSeq (nAsg 1 (mLst (aCons (mC .none) (aCons (mC (.bool true)) (aCons (mC (.bool false)) (aCons (mC (.int 0)) (aCons (mC (.int 1)) (aCons (mNeg (mC (.int 1))) (aCons (mPow (mC (.int 10)) (mC (.int 59))) (aCons (mC (.str "A")) (aCons (mC (.str "a b")) (aCons (mC (.str "abcdefghi")) (aCons (mC (.str "a1")) (aCons (mC (.str "-")) (aCons (mC (.str "a~")) (aNil)))))))))))))))) (nSeq (nAsg 1 (mAdd (mV 1) (mLst (aCons (mTup (aNil)) (aCons (mLst (aNil)) (aCons (mTup (aCons (mC (.str "Q")) (aNil))) (aCons (mLst (aCons (mC (.str "a")) (aNil))) (aCons (mTup (aCons (mC .none) (aNil))) (aCons (mTup (aCons (mC (.int 1)) (aCons (mC (.int 2)) (aCons (mC (.int 3)) (aNil))))) (aCons (mTup (aCons (mC (.str "a")) (aCons (mC (.str "")) (aCons (mNeg (mC (.int 1))) (aNil))))) (aCons (mTup (aCons (mC (.str "a")) (aCons (mC (.str "")) (aCons (mC (.bool true)) (aNil))))) (aCons (mTup (aCons (mC (.str "a")) (aCons (mC (.str "a")) (aCons (mC (.int 1)) (aNil))))) (aCons (mTup (aCons (mTup (aNil)) (aNil))) (aNil)))))))))))))) (nSeq (nAsg 1 (mAdd (mV 1) (mLst (aCons (mTup (aCons (mC (.str "a")) (aCons (mC (.str "")) (aCons (mC (.int 1)) (aCons (mC (.int 1)) (aNil)))))) (aCons (mTup (aCons (mC (.str "a")) (aCons (mC .none) (aCons (mC (.int 1)) (aNil))))) (aCons (mTup (aCons (mTup (aCons (mC (.str "a")) (aCons (mC (.str "")) (aCons (mC (.int 1)) (aNil))))) (aCons (mTup (aCons (mC (.str "a")) (aCons (mC (.str "")) (aCons (mC (.int 1)) (aNil))))) (aNil)))) (aCons (mLst (aCons (mTup (aCons (mC (.str "a")) (aCons (mC (.str "")) (aCons (mC (.int 1)) (aNil))))) (aNil))) (aCons (mTup (aCons (mTup (aCons (mC (.str "b")) (aCons (mC (.str "a")) (aCons (mC (.int 1)) (aNil))))) (aNil))) (aNil))))))))) (nRet (mCall F_q_any (aCons (mV 0) (aCons (mAdd (mV 1) (mLst (aCons (mTup (aCons (mC (.str "a")) (aCons (mC (.str "b")) (aNil)))) (aCons (mLst (aCons (mC (.str "a")) (aCons (mC (.str "b")) (aNil)))) (aCons (mTup (aCons (mC (.str "a")) (aCons (mC (.str "a")) (aNil)))) (aCons (mTup (aCons (mC (.str "")) (aCons (mC (.str "")) (aNil)))) (aCons (mTup (aCons (mC (.str "a")) (aNil))) (aCons (mTup (aCons (mTup (aCons (mC (.str "b")) (aCons (mC (.str "a")) (aNil)))) (aCons (mTup (aCons (mC (.str "a")) (aCons (mC (.str "b")) (aNil)))) (aNil)))) (aCons (mC (.str "1")) (aNil)))))))))) (aNil)))))))
@[irreducible] def F_q_strange : Fm := fOf ["_law_spool_here", "_law_some"] ["_law_spool_here"] n_q_strange
theorem ok_q_strange (T : Tx K mg ad fdd) : FnOk P w K mg base CX0 3 (ad 12) (fdd 12) ["_law_spool_here"] (spOf K F_q_strange) := by
  unfold F_q_strange
  exact fn_sem T.F_q_strange sc_q_strange fun cdv A ou s H _ hr g => (fun sc =>
      sb_cons (ss_asg (ps_set (i := 1) sc.nd rfl (Or.inl rfl) peW) (se_lst (sa_cons (se_non) (sa_cons (se_bl) (sa_cons (se_bl) (sa_cons (se_int) (sa_cons (se_int) (sa_cons (se_neg (se_int)) (sa_cons (se_pow (se_int) (se_int)) (sa_cons (se_str) (sa_cons (se_str) (sa_cons (se_str) (sa_cons (se_str) (sa_cons (se_str) (sa_cons (se_str) (sa_nil))))))))))))))))
      (sb_cons (ss_asg (ps_set (i := 1) sc.nd rfl (Or.inl rfl) peW) (se_add (se_var (pv 1)) (se_lst (sa_cons (se_tup (sa_nil)) (sa_cons (se_lst (sa_nil)) (sa_cons (se_tup (sa_cons (se_str) (sa_nil))) (sa_cons (se_lst (sa_cons (se_str) (sa_nil))) (sa_cons (se_tup (sa_cons (se_non) (sa_nil))) (sa_cons (se_tup (sa_cons (se_int) (sa_cons (se_int) (sa_cons (se_int) (sa_nil))))) (sa_cons (se_tup (sa_cons (se_str) (sa_cons (se_str) (sa_cons (se_neg (se_int)) (sa_nil))))) (sa_cons (se_tup (sa_cons (se_str) (sa_cons (se_str) (sa_cons (se_bl) (sa_nil))))) (sa_cons (se_tup (sa_cons (se_str) (sa_cons (se_str) (sa_cons (se_int) (sa_nil))))) (sa_cons (se_tup (sa_cons (se_tup (sa_nil)) (sa_nil))) (sa_nil))))))))))))))
      (sb_cons (ss_asg (ps_set (i := 1) sc.nd rfl (Or.inl rfl) peW) (se_add (se_var (pv 1)) (se_lst (sa_cons (se_tup (sa_cons (se_str) (sa_cons (se_str) (sa_cons (se_int) (sa_cons (se_int) (sa_nil)))))) (sa_cons (se_tup (sa_cons (se_str) (sa_cons (se_non) (sa_cons (se_int) (sa_nil))))) (sa_cons (se_tup (sa_cons (se_tup (sa_cons (se_str) (sa_cons (se_str) (sa_cons (se_int) (sa_nil))))) (sa_cons (se_tup (sa_cons (se_str) (sa_cons (se_str) (sa_cons (se_int) (sa_nil))))) (sa_nil)))) (sa_cons (se_lst (sa_cons (se_tup (sa_cons (se_str) (sa_cons (se_str) (sa_cons (se_int) (sa_nil))))) (sa_nil))) (sa_cons (se_tup (sa_cons (se_tup (sa_cons (se_str) (sa_cons (se_str) (sa_cons (se_int) (sa_nil))))) (sa_nil))) (sa_nil)))))))))
      (sb_one (ss_ret (se_call (pe_call (ok_q_any T) (hr.mono (by decide)) (by rfl) T.m_q_any T.F_q_any.kp T.b_q_any .nil pass0 paW) (sa_cons (se_var (pv 0)) (sa_cons (se_add (se_var (pv 1)) (se_lst (sa_cons (se_tup (sa_cons (se_str) (sa_cons (se_str) (sa_nil)))) (sa_cons (se_lst (sa_cons (se_str) (sa_cons (se_str) (sa_nil)))) (sa_cons (se_tup (sa_cons (se_str) (sa_cons (se_str) (sa_nil)))) (sa_cons (se_tup (sa_cons (se_str) (sa_cons (se_str) (sa_nil)))) (sa_cons (se_tup (sa_cons (se_str) (sa_nil))) (sa_cons (se_tup (sa_cons (se_tup (sa_cons (se_str) (sa_cons (se_str) (sa_nil)))) (sa_cons (se_tup (sa_cons (se_str) (sa_cons (se_str) (sa_nil)))) (sa_nil)))) (sa_cons (se_str) (sa_nil)))))))))) (sa_nil))))))))) sc_q_strange
theorem sc_q_bent : FnScope ["_law_spool_here", "_law_what", "_law_k", "_law_way", "_law_odd"] ["_law_spool_here", "_law_what"] (defScope s_q_bent) := ⟨rfl, rfl, rfl, by decide +kernel, rfl, by decide +kernel, by decide +kernel⟩
def n_q_bent (F : Fm) : MS := nSeq (nIf (tAndT (tV (mIsi "tuple" (mV 1))) (tAndT (tV (mB (fRel fun i j => decide (j < i)) (mU fLen (mV 1)) (mC (.int 0)))) (tV (mB (fRel fun i j => decide (j < i)) (mCall F_q_pull (aCons (mV 0) (aCons (mC (.int 4)) (aNil)))) (mC (.int 0)))))) (nSeq (nAsg 2 (mCall F_q_pull (aCons (mV 0) (aCons (mU fLen (mV 1)) (aNil))))) (nRet (mAdd (mAdd (mSl (mV 1) (oNo) (oYes (mV 2))) (mTup (aCons (mCall F (aCons (mV 0) (aCons (mIx (mV 1) (mV 2)) (aNil)))) (aNil)))) (mSl (mV 1) (oYes (mAdd (mV 2) (mC (.int 1)))) (oNo))))) (nNil)) (nSeq (nPar 3 4 (mCall F_q_pull (aCons (mV 0) (aCons (mC (.int 7)) (aNil)))) (mCall F_q_strange (aCons (mV 0) (aNil)))) (nSeq (nIf (tAndT (tV (mIsi "tuple" (mV 1))) (tV (mB (fRel fun i j => decide (i < j)) (mV 3) (mC (.int 6))))) (nSeq (nAsg 2 (mCall F_q_pull (aCons (mV 0) (aCons (mAdd (mU fLen (mV 1)) (mC (.int 1))) (aNil))))) (nSeq (nIf (tV (mB (fEq false) (mV 3) (mC (.int 0)))) (nRet (mU fList (mV 1))) (nNil)) (nSeq (nIf (tV (mB (fEq false) (mV 3) (mC (.int 1)))) (nRet (mAdd (mSl (mV 1) (oNo) (oYes (mV 2))) (mSl (mV 1) (oYes (mAdd (mV 2) (mC (.int 1)))) (oNo)))) (nNil)) (nSeq (nIf (tV (mB (fEq false) (mV 3) (mC (.int 2)))) (nRet (mAdd (mAdd (mSl (mV 1) (oNo) (oYes (mV 2))) (mSl (mV 1) (oYes (mV 2)) (oYes (mAdd (mV 2) (mC (.int 1)))))) (mSl (mV 1) (oYes (mV 2)) (oNo)))) (nNil)) (nRet (mIf (tV (mB (fRel fun i j => decide (i < j)) (mV 3) (mC (.int 5)))) (mAdd (mAdd (mSl (mV 1) (oNo) (oYes (mV 2))) (mTup (aCons (mV 4) (aNil)))) (mSl (mV 1) (oYes (mV 2)) (oNo))) (mRev (mV 1)))))))) (nNil)) (nSeq (nIf (tAndT (tV (mIsi "str" (mV 1))) (tV (mB (fRel fun i j => decide (i < j)) (mV 3) (mC (.int 6))))) (nSeq (nAsg 2 (mCall F_q_pull (aCons (mV 0) (aCons (mAdd (mU fLen (mV 1)) (mC (.int 1))) (aNil))))) (nRet (mAdd (mAdd (mSl (mV 1) (oNo) (oYes (mV 2))) (mCall F_q_any (aCons (mV 0) (aCons (mLst (aCons (mC (.str "a")) (aCons (mC (.str "b")) (aCons (mC (.str "z")) (aCons (mC (.str "A")) (aCons (mC (.str "")) (aCons (mC (.str " ")) (aCons (mC (.str "1")) (aCons (mC (.str "zz")) (aNil)))))))))) (aNil))))) (mSl (mV 1) (oYes (mAdd (mV 2) (mU fInt (mB (fRel fun i j => decide (j < i)) (mV 3) (mC (.int 3)))))) (oNo))))) (nNil)) (nSeq (nIf (tAndT (tV (mIsi "int" (mV 1))) (tAndT (tNotT (tV (mIsi "bool" (mV 1)))) (tV (mB (fRel fun i j => decide (i < j)) (mV 3) (mC (.int 5)))))) (nRet (mIx (mLst (aCons (mAdd (mV 1) (mC (.int 1))) (aCons (mSub (mV 1) (mC (.int 1))) (aCons (mNeg (mV 1)) (aCons (mB (fEq false) (mV 1) (mC (.int 1))) (aCons (mU fStr (mV 1)) (aNil))))))) (mV 3))) (nNil)) (nRet (mV 4))))))
def F_q_bent : Nat → Fm
  | 0 => fun _ _ _ => false
  | d + 1 => fOf ["_law_spool_here", "_law_what", "_law_k", "_law_way", "_law_odd"] ["_law_spool_here", "_law_what"] (n_q_bent (F_q_bent d))
theorem ok_q_bent (T : Tx K mg ad fdd) : ∀ d : Nat, FnOk P w K mg base CX0 (3 + d) (ad 13) (fdd 13) ["_law_spool_here", "_law_what"] (spOf K (F_q_bent d))
  | 0 => fn_no
  | d + 1 => fn_sem T.F_q_bent sc_q_bent fun cdv A ou s H _ hr g => (fun sc =>
      sb_cons (ss_if (st_bool (sw_and (st_val (fun _ h => pt_val h) (se_isi (pe_callB call_isi (by rfl) T.u_isinstance (by decide +kernel) (pa_cons peW (pa_cons (pe_bltn (by rfl) T.u_tuple (by decide +kernel) rfl) pa_nil))) (by decide) (se_var (pv 1)))) (sw_and (st_cmp op_gt opb_rel (nomark _) (se_b1 (pe_callB call_len (by rfl) T.u_len (by decide +kernel) paW) opc_len (se_var (pv 1))) (se_int)) (sw_and1 (st_cmp op_gt opb_rel (nomark _) (se_call (pe_call (ok_q_pull T) (hr.mono (by show _ ≤ 3 + d; omega)) (by rfl) T.m_q_pull T.F_q_pull.kp T.b_q_pull .nil pass0 paW) (sa_cons (se_var (pv 0)) (sa_cons (se_int) (sa_nil)))) (se_int)))))) (sb_cons (ss_asg (ps_set (i := 2) sc.nd rfl (Or.inl rfl) peW) (se_call (pe_call (ok_q_pull T) (hr.mono (by show _ ≤ 3 + d; omega)) (by rfl) T.m_q_pull T.F_q_pull.kp T.b_q_pull .nil pass0 paW) (sa_cons (se_var (pv 0)) (sa_cons (se_b1 (pe_callB call_len (by rfl) T.u_len (by decide +kernel) paW) opc_len (se_var (pv 1))) (sa_nil)))))
      (sb_one (ss_ret (se_add (se_add (se_sl (se_var (pv 1)) (so_no) (so_yes (se_var (pv 2)))) (se_tup (sa_cons (se_call (pe_call (ok_q_bent T d) (hr.mono (by show _ ≤ 3 + d; omega)) (by rfl) T.m_q_bent T.F_q_bent.kp T.b_q_bent .nil pass0 paW) (sa_cons (se_var (pv 0)) (sa_cons (se_ix (se_var (pv 1)) (se_var (pv 2)) (fun _ _ => rfl)) (sa_nil)))) (sa_nil)))) (se_sl (se_var (pv 1)) (so_yes (se_add (se_var (pv 2)) (se_int))) (so_no)))))) (sb_nil))
      (sb_cons (ss_par (ps_par (i := 3) (j := 4) (by rfl) sc.nd rfl rfl (by decide) rfl rfl paW (by rfl)) rfl rfl (se_call (pe_call (ok_q_pull T) (hr.mono (by show _ ≤ 3 + d; omega)) (by rfl) T.m_q_pull T.F_q_pull.kp T.b_q_pull .nil pass0 paW) (sa_cons (se_var (pv 0)) (sa_cons (se_int) (sa_nil)))) (se_call (pe_call (ok_q_strange T) (hr.mono (by show _ ≤ 3 + d; omega)) (by rfl) T.m_q_strange T.F_q_strange.kp T.b_q_strange .nil pass0 paW) (sa_cons (se_var (pv 0)) (sa_nil))))
      (sb_cons (ss_if (st_bool (sw_and (st_val (fun _ h => pt_val h) (se_isi (pe_callB call_isi (by rfl) T.u_isinstance (by decide +kernel) (pa_cons peW (pa_cons (pe_bltn (by rfl) T.u_tuple (by decide +kernel) rfl) pa_nil))) (by decide) (se_var (pv 1)))) (sw_and1 (st_cmp op_lt opb_rel (nomark _) (se_var (pv 3)) (se_int))))) (sb_cons (ss_asg (ps_set (i := 2) sc.nd rfl (Or.inl rfl) peW) (se_call (pe_call (ok_q_pull T) (hr.mono (by show _ ≤ 3 + d; omega)) (by rfl) T.m_q_pull T.F_q_pull.kp T.b_q_pull .nil pass0 paW) (sa_cons (se_var (pv 0)) (sa_cons (se_add (se_b1 (pe_callB call_len (by rfl) T.u_len (by decide +kernel) paW) opc_len (se_var (pv 1))) (se_int)) (sa_nil)))))
      (sb_cons (ss_if (st_cmp (op_eqX hr.units) opb_eq (nomark _) (se_var (pv 3)) (se_int)) (sb_one (ss_ret (se_b1 (pe_callTy call_list_of (by rfl) T.u_list (by decide +kernel) paW) opc_list (se_var (pv 1))))) (sb_nil))
      (sb_cons (ss_if (st_cmp (op_eqX hr.units) opb_eq (nomark _) (se_var (pv 3)) (se_int)) (sb_one (ss_ret (se_add (se_sl (se_var (pv 1)) (so_no) (so_yes (se_var (pv 2)))) (se_sl (se_var (pv 1)) (so_yes (se_add (se_var (pv 2)) (se_int))) (so_no))))) (sb_nil))
      (sb_cons (ss_if (st_cmp (op_eqX hr.units) opb_eq (nomark _) (se_var (pv 3)) (se_int)) (sb_one (ss_ret (se_add (se_add (se_sl (se_var (pv 1)) (so_no) (so_yes (se_var (pv 2)))) (se_sl (se_var (pv 1)) (so_yes (se_var (pv 2))) (so_yes (se_add (se_var (pv 2)) (se_int))))) (se_sl (se_var (pv 1)) (so_yes (se_var (pv 2))) (so_no))))) (sb_nil))
      (sb_one (ss_ret (se_if (st_cmp op_lt opb_rel (nomark _) (se_var (pv 3)) (se_int)) (se_add (se_add (se_sl (se_var (pv 1)) (so_no) (so_yes (se_var (pv 2)))) (se_tup (sa_cons (se_var (pv 4)) (sa_nil)))) (se_sl (se_var (pv 1)) (so_yes (se_var (pv 2))) (so_no))) (se_rev (se_var (pv 1)))))))))) (sb_nil))
      (sb_cons (ss_if (st_bool (sw_and (st_val (fun _ h => pt_val h) (se_isi (pe_callB call_isi (by rfl) T.u_isinstance (by decide +kernel) (pa_cons peW (pa_cons (pe_bltn (by rfl) T.u_str (by decide +kernel) rfl) pa_nil))) (by decide) (se_var (pv 1)))) (sw_and1 (st_cmp op_lt opb_rel (nomark _) (se_var (pv 3)) (se_int))))) (sb_cons (ss_asg (ps_set (i := 2) sc.nd rfl (Or.inl rfl) peW) (se_call (pe_call (ok_q_pull T) (hr.mono (by show _ ≤ 3 + d; omega)) (by rfl) T.m_q_pull T.F_q_pull.kp T.b_q_pull .nil pass0 paW) (sa_cons (se_var (pv 0)) (sa_cons (se_add (se_b1 (pe_callB call_len (by rfl) T.u_len (by decide +kernel) paW) opc_len (se_var (pv 1))) (se_int)) (sa_nil)))))
      (sb_one (ss_ret (se_add (se_add (se_sl (se_var (pv 1)) (so_no) (so_yes (se_var (pv 2)))) (se_call (pe_call (ok_q_any T) (hr.mono (by show _ ≤ 3 + d; omega)) (by rfl) T.m_q_any T.F_q_any.kp T.b_q_any .nil pass0 paW) (sa_cons (se_var (pv 0)) (sa_cons (se_lst (sa_cons (se_str) (sa_cons (se_str) (sa_cons (se_str) (sa_cons (se_str) (sa_cons (se_str) (sa_cons (se_str) (sa_cons (se_str) (sa_cons (se_str) (sa_nil)))))))))) (sa_nil))))) (se_sl (se_var (pv 1)) (so_yes (se_add (se_var (pv 2)) (se_b1 (pe_callTy call_int1 (by rfl) T.u_int (by decide +kernel) paW) opc_int (se_cmp op_gt opb_rel (nomark _) (se_var (pv 3)) (se_int))))) (so_no)))))) (sb_nil))
      (sb_cons (ss_if (st_bool (sw_and (st_val (fun _ h => pt_val h) (se_isi (pe_callB call_isi (by rfl) T.u_isinstance (by decide +kernel) (pa_cons peW (pa_cons (pe_bltn (by rfl) T.u_int (by decide +kernel) rfl) pa_nil))) (by decide) (se_var (pv 1)))) (sw_and (st_not (st_val (fun _ h => pt_val h) (se_isi (pe_callB call_isi (by rfl) T.u_isinstance (by decide +kernel) (pa_cons peW (pa_cons (pe_bltn (by rfl) T.u_bool (by decide +kernel) rfl) pa_nil))) (by decide) (se_var (pv 1))))) (sw_and1 (st_cmp op_lt opb_rel (nomark _) (se_var (pv 3)) (se_int)))))) (sb_one (ss_ret (se_ix (se_lst (sa_cons (se_add (se_var (pv 1)) (se_int)) (sa_cons (se_sub (se_var (pv 1)) (se_int)) (sa_cons (se_neg (se_var (pv 1))) (sa_cons (se_cmp (op_eqX hr.units) opb_eq (nomark _) (se_var (pv 1)) (se_int)) (sa_cons (se_b1 (pe_callTy call_str_int (by rfl) T.u_str (by decide +kernel) paW) opc_str (se_var (pv 1))) (sa_nil))))))) (se_var (pv 3)) (fun _ _ => rfl)))) (sb_nil))
      (sb_one (ss_ret (se_var (pv 4))))))))) sc_q_bent
/-! _law_is_number -/
theorem sc_q_is_number : FnScope ["_law_what"] ["_law_what"] (defScope s_q_is_number) := ⟨rfl, rfl, rfl, by decide +kernel, rfl, by decide +kernel, by decide +kernel⟩
def n_q_is_number : MS := nRet (mAnd (mIsi "int" (mV 0)) (mAnd (mNot (mIsi "bool" (mV 0))) (mB (fRel fun i j => decide (j ≤ i)) (mV 0) (mC (.int 0)))))
@[irreducible] def F_q_is_number : Fm := fOf ["_law_what"] ["_law_what"] n_q_is_number
theorem ok_q_is_number (T : Tx K mg ad fdd) : FnOk P w K mg base CX0 1 (ad 14) (fdd 14) ["_law_what"] (spOf K F_q_is_number) := by
  unfold F_q_is_number
  exact fn_sem T.F_q_is_number sc_q_is_number fun cdv A ou s H _ hr g => (fun sc =>
      sb_one (ss_ret (se_and (se_isi (pe_callB call_isi (by rfl) T.u_isinstance (by decide +kernel) (pa_cons peW (pa_cons (pe_bltn (by rfl) T.u_int (by decide +kernel) rfl) pa_nil))) (by decide) (se_var (pv 0))) (se_and (se_not (se_isi (pe_callB call_isi (by rfl) T.u_isinstance (by decide +kernel) (pa_cons peW (pa_cons (pe_bltn (by rfl) T.u_bool (by decide +kernel) rfl) pa_nil))) (by decide) (se_var (pv 0)))) (se_one (se_cmp op_ge opb_rel (nomark _) (se_var (pv 0)) (se_int))))))) sc_q_is_number
/-! _law_is_name -/
theorem sc_q_is_name : FnScope ["_law_what", "_law_sign"] ["_law_what"] (defScope s_q_is_name) := ⟨rfl, rfl, rfl, by decide +kernel, rfl, by decide +kernel, by decide +kernel⟩
def n_q_is_name : MS := nSeq (nIf (tOrT (tNotT (tV (mIsi "str" (mV 0)))) (tNotT (tV (mChn (fun i j => decide (i ≤ j)) (fun i j => decide (i ≤ j)) (mC (.int 1)) (mU fLen (mV 0)) (mC (.int 8)))))) (nRet (mC (.bool false))) (nNil)) (nRet (mB (fEq false) (mLc 1 (miS (mV 0)) (tV (mB (fInS true) (mV 1) (mC (.str "abcdefghijklmnopqrstuvwxyz")))) (mV 1)) (mLst (aNil))))
@[irreducible] def F_q_is_name : Fm := fOf ["_law_what", "_law_sign"] ["_law_what"] n_q_is_name
theorem ok_q_is_name (T : Tx K mg ad fdd) : FnOk P w K mg base CX0 1 (ad 15) (fdd 15) ["_law_what"] (spOf K F_q_is_name) := by
  unfold F_q_is_name
  exact fn_sem T.F_q_is_name sc_q_is_name fun cdv A ou s H _ hr g => (fun sc =>
      sb_cons (ss_if (st_bool (sw_or (st_not (st_val (fun _ h => pt_val h) (se_isi (pe_callB call_isi (by rfl) T.u_isinstance (by decide +kernel) (pa_cons peW (pa_cons (pe_bltn (by rfl) T.u_str (by decide +kernel) rfl) pa_nil))) (by decide) (se_var (pv 0))))) (sw_or1 (st_not (st_chain (pt_chain op_le op_le peW peW peW) (se_int) (se_b1 (pe_callB call_len (by rfl) T.u_len (by decide +kernel) paW) opc_len (se_var (pv 0))) (se_int)))))) (sb_one (ss_ret (se_bl))) (sb_nil))
      (sb_one (ss_ret (se_cmp (op_eqX hr.units) opb_eq (nomark _) (se_lc rfl sc.nd (blkOk_by (N := ["_law_what", "_law_sign"]) (sc := defScope s_q_is_name) (own := [("_law_sign", 1)]) (by decide +kernel)) (si_str (se_var (pv 0))) (fun _ _ _ _ _ => pg_name (i := 1) sc.nd rfl (Or.inl rfl)) (ts_one fun _ _ _ _ _ => st_cmp op_notIn_sign opb_niS (by with_unfolding_all rfl) (se_var (pv 1)) (se_str)) (fun _ _ _ _ _ => se_var (pv 1))) (se_lst (sa_nil)))))) sc_q_is_name
/-! _law_is_spot -/
theorem sc_q_is_spot : FnScope ["_law_what"] ["_law_what"] (defScope s_q_is_spot) := ⟨rfl, rfl, rfl, by decide +kernel, rfl, by decide +kernel, by decide +kernel⟩
def n_q_is_spot : MS := nRet (mOr (mCall F_q_is_name (aCons (mV 0) (aNil))) (mAnd (mIsi "str" (mV 0)) (mB (fEq false) (mV 0) (mC (.str "")))))
@[irreducible] def F_q_is_spot : Fm := fOf ["_law_what"] ["_law_what"] n_q_is_spot
theorem ok_q_is_spot (T : Tx K mg ad fdd) : FnOk P w K mg base CX0 2 (ad 16) (fdd 16) ["_law_what"] (spOf K F_q_is_spot) := by
  unfold F_q_is_spot
  exact fn_sem T.F_q_is_spot sc_q_is_spot fun cdv A ou s H _ hr g => (fun sc =>
      sb_one (ss_ret (se_or (se_call (pe_call (ok_q_is_name T) (hr.mono (by decide)) (by rfl) T.m_q_is_name T.F_q_is_name.kp T.b_q_is_name .nil pass0 paW) (sa_cons (se_var (pv 0)) (sa_nil))) (se_one (se_and (se_isi (pe_callB call_isi (by rfl) T.u_isinstance (by decide +kernel) (pa_cons peW (pa_cons (pe_bltn (by rfl) T.u_str (by decide +kernel) rfl) pa_nil))) (by decide) (se_var (pv 0))) (se_one (se_cmp (op_eqX hr.units) opb_eq (nomark _) (se_var (pv 0)) (se_str)))))))) sc_q_is_spot
/-! _law_is_folder -/
theorem sc_q_is_folder : FnScope ["_law_what"] ["_law_what"] (defScope s_q_is_folder) := ⟨rfl, rfl, rfl, by decide +kernel, rfl, by decide +kernel, by decide +kernel⟩
def n_q_is_folder : MS := nSeq (nIf (tOrT (tNotT (tV (mIsi "tuple" (mV 0)))) (tOrT (tV (mB (fEq true) (mU fLen (mV 0)) (mC (.int 3)))) (tOrT (tNotT (tV (mCall F_q_is_name (aCons (mIx (mV 0) (mC (.int 0))) (aNil))))) (tNotT (tV (mCall F_q_is_spot (aCons (mIx (mV 0) (mC (.int 1))) (aNil)))))))) (nRet (mC (.bool false))) (nNil)) (nRet (mAnd (mB (fEq true) (mIx (mV 0) (mC (.int 0))) (mIx (mV 0) (mC (.int 1)))) (mCall F_q_is_number (aCons (mIx (mV 0) (mC (.int 2))) (aNil)))))
@[irreducible] def F_q_is_folder : Fm := fOf ["_law_what"] ["_law_what"] n_q_is_folder
theorem ok_q_is_folder (T : Tx K mg ad fdd) : FnOk P w K mg base CX0 3 (ad 17) (fdd 17) ["_law_what"] (spOf K F_q_is_folder) := by
  unfold F_q_is_folder
  exact fn_sem T.F_q_is_folder sc_q_is_folder fun cdv A ou s H _ hr g => (fun sc =>
      sb_cons (ss_if (st_bool (sw_or (st_not (st_val (fun _ h => pt_val h) (se_isi (pe_callB call_isi (by rfl) T.u_isinstance (by decide +kernel) (pa_cons peW (pa_cons (pe_bltn (by rfl) T.u_tuple (by decide +kernel) rfl) pa_nil))) (by decide) (se_var (pv 0))))) (sw_or (st_cmp (op_neX hr.units) opb_ne (nomark _) (se_b1 (pe_callB call_len (by rfl) T.u_len (by decide +kernel) paW) opc_len (se_var (pv 0))) (se_int)) (sw_or (st_not (st_val (fun _ h => pt_val h) (se_call (pe_call (ok_q_is_name T) (hr.mono (by decide)) (by rfl) T.m_q_is_name T.F_q_is_name.kp T.b_q_is_name .nil pass0 paW) (sa_cons (se_ix (se_var (pv 0)) (se_int) (fun _ _ => rfl)) (sa_nil))))) (sw_or1 (st_not (st_val (fun _ h => pt_val h) (se_call (pe_call (ok_q_is_spot T) (hr.mono (by decide)) (by rfl) T.m_q_is_spot T.F_q_is_spot.kp T.b_q_is_spot .nil pass0 paW) (sa_cons (se_ix (se_var (pv 0)) (se_int) (fun _ _ => rfl)) (sa_nil)))))))))) (sb_one (ss_ret (se_bl))) (sb_nil))
      (sb_one (ss_ret (se_and (se_cmp (op_neX hr.units) opb_ne (nomark _) (se_ix (se_var (pv 0)) (se_int) (fun _ _ => rfl)) (se_ix (se_var (pv 0)) (se_int) (fun _ _ => rfl))) (se_one (se_call (pe_call (ok_q_is_number T) (hr.mono (by decide)) (by rfl) T.m_q_is_number T.F_q_is_number.kp T.b_q_is_number .nil pass0 paW) (sa_cons (se_ix (se_var (pv 0)) (se_int) (fun _ _ => rfl)) (sa_nil)))))))) sc_q_is_folder
/-! _law_is_move -/
theorem sc_q_is_move : FnScope ["_law_what"] ["_law_what"] (defScope s_q_is_move) := ⟨rfl, rfl, rfl, by decide +kernel, rfl, by decide +kernel, by decide +kernel⟩
def n_q_is_move : MS := nSeq (nIf (tOrT (tNotT (tV (mIsi "tuple" (mV 0)))) (tOrT (tV (mB (fEq true) (mU fLen (mV 0)) (mC (.int 2)))) (tOrT (tNotT (tV (mCall F_q_is_spot (aCons (mIx (mV 0) (mC (.int 0))) (aNil))))) (tNotT (tV (mCall F_q_is_spot (aCons (mIx (mV 0) (mC (.int 1))) (aNil)))))))) (nRet (mC (.bool false))) (nNil)) (nRet (mB (fEq true) (mIx (mV 0) (mC (.int 0))) (mIx (mV 0) (mC (.int 1)))))
@[irreducible] def F_q_is_move : Fm := fOf ["_law_what"] ["_law_what"] n_q_is_move
theorem ok_q_is_move (T : Tx K mg ad fdd) : FnOk P w K mg base CX0 3 (ad 18) (fdd 18) ["_law_what"] (spOf K F_q_is_move) := by
  unfold F_q_is_move
  exact fn_sem T.F_q_is_move sc_q_is_move fun cdv A ou s H _ hr g => (fun sc =>
      sb_cons (ss_if (st_bool (sw_or (st_not (st_val (fun _ h => pt_val h) (se_isi (pe_callB call_isi (by rfl) T.u_isinstance (by decide +kernel) (pa_cons peW (pa_cons (pe_bltn (by rfl) T.u_tuple (by decide +kernel) rfl) pa_nil))) (by decide) (se_var (pv 0))))) (sw_or (st_cmp (op_neX hr.units) opb_ne (nomark _) (se_b1 (pe_callB call_len (by rfl) T.u_len (by decide +kernel) paW) opc_len (se_var (pv 0))) (se_int)) (sw_or (st_not (st_val (fun _ h => pt_val h) (se_call (pe_call (ok_q_is_spot T) (hr.mono (by decide)) (by rfl) T.m_q_is_spot T.F_q_is_spot.kp T.b_q_is_spot .nil pass0 paW) (sa_cons (se_ix (se_var (pv 0)) (se_int) (fun _ _ => rfl)) (sa_nil))))) (sw_or1 (st_not (st_val (fun _ h => pt_val h) (se_call (pe_call (ok_q_is_spot T) (hr.mono (by decide)) (by rfl) T.m_q_is_spot T.F_q_is_spot.kp T.b_q_is_spot .nil pass0 paW) (sa_cons (se_ix (se_var (pv 0)) (se_int) (fun _ _ => rfl)) (sa_nil)))))))))) (sb_one (ss_ret (se_bl))) (sb_nil))
      (sb_one (ss_ret (se_cmp (op_neX hr.units) opb_ne (nomark _) (se_ix (se_var (pv 0)) (se_int) (fun _ _ => rfl)) (se_ix (se_var (pv 0)) (se_int) (fun _ _ => rfl)))))) sc_q_is_move
/-! _law_is_moves -/
theorem sc_q_is_moves : FnScope ["_law_what", "_law_k", "_law_one"] ["_law_what"] (defScope s_q_is_moves) := ⟨rfl, rfl, rfl, by decide +kernel, rfl, by decide +kernel, by decide +kernel⟩
def n_q_is_moves : MS := nSeq (nIf (tOrT (tNotT (tV (mIsi "tuple" (mV 0)))) (tV (mB (fEq true) (mLc 2 (miT (mV 0)) (tNotT (tV (mCall F_q_is_move (aCons (mV 2) (aNil))))) (mV 2)) (mLst (aNil))))) (nRet (mC (.bool false))) (nNil)) (nRet (mB (fEq false) (mLc 1 (miR2 (mC (.int 1)) (mU fLen (mV 0))) (tV (mB (fLtD) (mIx (mV 0) (mV 1)) (mIx (mV 0) (mSub (mV 1) (mC (.int 1)))))) (mV 1)) (mLst (aNil))))
@[irreducible] def F_q_is_moves : Fm := fOf ["_law_what", "_law_k", "_law_one"] ["_law_what"] n_q_is_moves
theorem ok_q_is_moves (T : Tx K mg ad fdd) : FnOk P w K mg base CX0 4 (ad 19) (fdd 19) ["_law_what"] (spOf K F_q_is_moves) := by
  unfold F_q_is_moves
  exact fn_sem T.F_q_is_moves sc_q_is_moves fun cdv A ou s H _ hr g => (fun sc =>
      sb_cons (ss_if (st_bool (sw_or (st_not (st_val (fun _ h => pt_val h) (se_isi (pe_callB call_isi (by rfl) T.u_isinstance (by decide +kernel) (pa_cons peW (pa_cons (pe_bltn (by rfl) T.u_tuple (by decide +kernel) rfl) pa_nil))) (by decide) (se_var (pv 0))))) (sw_or1 (st_cmp (op_neX hr.units) opb_ne (nomark _) (se_lc rfl sc.nd (blkOk_by (N := ["_law_what", "_law_k", "_law_one"]) (sc := defScope s_q_is_moves) (own := [("_law_one", 2)]) (by decide +kernel)) (si_tup (se_var (pv 0))) (fun _ _ _ _ _ => pg_name (i := 2) sc.nd rfl (Or.inl rfl)) (ts_one fun _ _ _ _ _ => st_not (st_val (fun _ h => pt_val h) (se_call (pe_call (ok_q_is_move T) (hr.mono (by decide)) (by rfl) T.m_q_is_move T.F_q_is_move.kp T.b_q_is_move .nil pass0 paW) (sa_cons (se_var (pv 2)) (sa_nil))))) (fun _ _ _ _ _ => se_var (pv 2))) (se_lst (sa_nil)))))) (sb_one (ss_ret (se_bl))) (sb_nil))
      (sb_one (ss_ret (se_cmp (op_eqX hr.units) opb_eq (nomark _) (se_lc rfl sc.nd (blkOk_by (N := ["_law_what", "_law_k", "_law_one"]) (sc := defScope s_q_is_moves) (own := [("_law_k", 1)]) (by decide +kernel)) (si_rng2 (pi_range2 (by rfl) T.u_range paW) (se_int) (se_b1 (pe_callB call_len (by rfl) T.u_len (by decide +kernel) paW) opc_len (se_var (pv 0)))) (fun _ _ _ _ _ => pg_name (i := 1) sc.nd rfl (Or.inl rfl)) (ts_one fun _ _ _ _ _ => st_cmp (op_ltD hr.units) opb_ltD (nomark _) (se_ix (se_var (pv 0)) (se_var (pv 1)) (fun _ _ => rfl)) (se_ix (se_var (pv 0)) (se_sub (se_var (pv 1)) (se_int)) (fun _ _ => rfl))) (fun _ _ _ _ _ => se_var (pv 1))) (se_lst (sa_nil)))))) sc_q_is_moves
/-! _law_is_bulk -/
theorem sc_q_is_bulk : FnScope ["_law_what"] ["_law_what"] (defScope s_q_is_bulk) := ⟨rfl, rfl, rfl, by decide +kernel, rfl, by decide +kernel, by decide +kernel⟩
def n_q_is_bulk : MS := nSeq (nIf (tOrT (tNotT (tV (mIsi "tuple" (mV 0)))) (tOrT (tV (mB (fEq true) (mU fLen (mV 0)) (mC (.int 3)))) (tNotT (tV (mCall F_q_is_move (aCons (mSl (mV 0) (oNo) (oYes (mC (.int 2)))) (aNil))))))) (nRet (mC (.bool false))) (nNil)) (nRet (mAnd (mCall F_q_is_number (aCons (mIx (mV 0) (mC (.int 2))) (aNil))) (mB (fRel fun i j => decide (j < i)) (mIx (mV 0) (mC (.int 2))) (mC (.int 0)))))
@[irreducible] def F_q_is_bulk : Fm := fOf ["_law_what"] ["_law_what"] n_q_is_bulk
theorem ok_q_is_bulk (T : Tx K mg ad fdd) : FnOk P w K mg base CX0 4 (ad 20) (fdd 20) ["_law_what"] (spOf K F_q_is_bulk) := by
  unfold F_q_is_bulk
  exact fn_sem T.F_q_is_bulk sc_q_is_bulk fun cdv A ou s H _ hr g => (fun sc =>
      sb_cons (ss_if (st_bool (sw_or (st_not (st_val (fun _ h => pt_val h) (se_isi (pe_callB call_isi (by rfl) T.u_isinstance (by decide +kernel) (pa_cons peW (pa_cons (pe_bltn (by rfl) T.u_tuple (by decide +kernel) rfl) pa_nil))) (by decide) (se_var (pv 0))))) (sw_or (st_cmp (op_neX hr.units) opb_ne (nomark _) (se_b1 (pe_callB call_len (by rfl) T.u_len (by decide +kernel) paW) opc_len (se_var (pv 0))) (se_int)) (sw_or1 (st_not (st_val (fun _ h => pt_val h) (se_call (pe_call (ok_q_is_move T) (hr.mono (by decide)) (by rfl) T.m_q_is_move T.F_q_is_move.kp T.b_q_is_move .nil pass0 paW) (sa_cons (se_sl (se_var (pv 0)) (so_no) (so_yes (se_int))) (sa_nil))))))))) (sb_one (ss_ret (se_bl))) (sb_nil))
      (sb_one (ss_ret (se_and (se_call (pe_call (ok_q_is_number T) (hr.mono (by decide)) (by rfl) T.m_q_is_number T.F_q_is_number.kp T.b_q_is_number .nil pass0 paW) (sa_cons (se_ix (se_var (pv 0)) (se_int) (fun _ _ => rfl)) (sa_nil))) (se_one (se_cmp op_gt opb_rel (nomark _) (se_ix (se_var (pv 0)) (se_int) (fun _ _ => rfl)) (se_int))))))) sc_q_is_bulk
/-! _law_is_right -/
theorem sc_q_is_right : FnScope ["_law_what", "_law_shown", "_law_due", "_law_told", "_law_late"] ["_law_what"] (defScope s_q_is_right) := ⟨rfl, rfl, rfl, by decide +kernel, rfl, by decide +kernel, by decide +kernel⟩
def n_q_is_right : MS := nSeq (nAsg 1 (mU fRepr (mV 0))) (nSeq (nAsg 2 (mLst (aCons (mAnd (mIsi "int" (mV 0)) (mNot (mIsi "bool" (mV 0)))) (aCons (mCall F_q_is_number (aCons (mV 0) (aNil))) (aCons (mCall F_q_is_name (aCons (mV 0) (aNil))) (aNil)))))) (nSeq (nAsg 2 (mAdd (mV 2) (mLst (aCons (mCall F_q_is_spot (aCons (mV 0) (aNil))) (aCons (mCall F_q_is_folder (aCons (mV 0) (aNil))) (aCons (mCall F_q_is_move (aCons (mV 0) (aNil))) (aCons (mCall F_q_is_moves (aCons (mV 0) (aNil))) (aCons (mCall F_q_is_bulk (aCons (mV 0) (aNil))) (aNil))))))))) (nSeq (nAsg 3 (mLst (aCons (mCall F_is_integer (aCons (mV 0) (aNil))) (aCons (mCall F_is_number (aCons (mV 0) (aNil))) (aCons (mCall F_is_name (aCons (mV 0) (aNil))) (aCons (mCall F_is_spot (aCons (mV 0) (aNil))) (aCons (mCall F_is_folder (aCons (mV 0) (aNil))) (aCons (mCall F_is_move (aCons (mV 0) (aNil))) (aNil))))))))) (nSeq (nAsg 3 (mAdd (mV 3) (mLst (aCons (mCall F_is_moves (aCons (mV 0) (aNil))) (aCons (mCall F_is_bulk (aCons (mV 0) (aNil))) (aNil)))))) (nSeq (nAsg 4 (mLst (aCons (mCallK F_is_integer [0] 1 (aCons (mV 0) (aNil))) (aCons (mCallK F_is_number [0] 1 (aCons (mV 0) (aNil))) (aCons (mCallK F_is_name [0] 1 (aCons (mV 0) (aNil))) (aCons (mCallK F_is_spot [0] 1 (aCons (mV 0) (aNil))) (aNil))))))) (nSeq (nAsg 4 (mAdd (mV 4) (mLst (aCons (mCallK F_is_folder [0] 1 (aCons (mV 0) (aNil))) (aCons (mCallK F_is_move [0] 1 (aCons (mV 0) (aNil))) (aCons (mCallK F_is_moves [0] 1 (aCons (mV 0) (aNil))) (aCons (mCallK F_is_bulk [0] 1 (aCons (mV 0) (aNil))) (aNil)))))))) (nRet (mAnd (mB (fEq false) (mU fRepr (mLst (aCons (mV 3) (aCons (mV 4) (aNil))))) (mU fRepr (mLst (aCons (mV 2) (aCons (mV 2) (aNil)))))) (mB (fEq false) (mU fRepr (mV 0)) (mV 1))))))))))
@[irreducible] def F_q_is_right : Fm := fOf ["_law_what", "_law_shown", "_law_due", "_law_told", "_law_late"] ["_law_what"] n_q_is_right
theorem ok_q_is_right (T : Tx K mg ad fdd) : FnG P w K mg base 5 (ad 21) (fdd 21) ["_law_what"] (spOf K F_q_is_right) := by
  unfold F_q_is_right
  exact fn_semG T.F_q_is_right sc_q_is_right fun cdv A ou s H hG hr g => (fun sc =>
      sb_cons (ss_asg (ps_set (i := 1) sc.nd rfl (Or.inl rfl) peW) (se_b1 (pe_callB (call_reprD hG (u66 hr)) (by rfl) T.u_repr (by decide +kernel) paW) opc_repr (se_var (pv 0))))
      (sb_cons (ss_asg (ps_set (i := 2) sc.nd rfl (Or.inl rfl) peW) (se_lst (sa_cons (se_and (se_isi (pe_callB call_isi (by rfl) T.u_isinstance (by decide +kernel) (pa_cons peW (pa_cons (pe_bltn (by rfl) T.u_int (by decide +kernel) rfl) pa_nil))) (by decide) (se_var (pv 0))) (se_one (se_not (se_isi (pe_callB call_isi (by rfl) T.u_isinstance (by decide +kernel) (pa_cons peW (pa_cons (pe_bltn (by rfl) T.u_bool (by decide +kernel) rfl) pa_nil))) (by decide) (se_var (pv 0)))))) (sa_cons (se_call (pe_call (ok_q_is_number T) (hr.mono (by decide)) (by rfl) T.m_q_is_number T.F_q_is_number.kp T.b_q_is_number .nil pass0 paW) (sa_cons (se_var (pv 0)) (sa_nil))) (sa_cons (se_call (pe_call (ok_q_is_name T) (hr.mono (by decide)) (by rfl) T.m_q_is_name T.F_q_is_name.kp T.b_q_is_name .nil pass0 paW) (sa_cons (se_var (pv 0)) (sa_nil))) (sa_nil))))))
      (sb_cons (ss_asg (ps_set (i := 2) sc.nd rfl (Or.inl rfl) peW) (se_add (se_var (pv 2)) (se_lst (sa_cons (se_call (pe_call (ok_q_is_spot T) (hr.mono (by decide)) (by rfl) T.m_q_is_spot T.F_q_is_spot.kp T.b_q_is_spot .nil pass0 paW) (sa_cons (se_var (pv 0)) (sa_nil))) (sa_cons (se_call (pe_call (ok_q_is_folder T) (hr.mono (by decide)) (by rfl) T.m_q_is_folder T.F_q_is_folder.kp T.b_q_is_folder .nil pass0 paW) (sa_cons (se_var (pv 0)) (sa_nil))) (sa_cons (se_call (pe_call (ok_q_is_move T) (hr.mono (by decide)) (by rfl) T.m_q_is_move T.F_q_is_move.kp T.b_q_is_move .nil pass0 paW) (sa_cons (se_var (pv 0)) (sa_nil))) (sa_cons (se_call (pe_call (ok_q_is_moves T) (hr.mono (by decide)) (by rfl) T.m_q_is_moves T.F_q_is_moves.kp T.b_q_is_moves .nil pass0 paW) (sa_cons (se_var (pv 0)) (sa_nil))) (sa_cons (se_call (pe_call (ok_q_is_bulk T) (hr.mono (by decide)) (by rfl) T.m_q_is_bulk T.F_q_is_bulk.kp T.b_q_is_bulk .nil pass0 paW) (sa_cons (se_var (pv 0)) (sa_nil))) (sa_nil)))))))))
      (sb_cons (ss_asg (ps_set (i := 3) sc.nd rfl (Or.inl rfl) peW) (se_lst (sa_cons (se_call (pe_call (ok_is_integer T) (hr.mono (by decide)) (by rfl) T.m_is_integer T.F_is_integer.kp T.b_is_integer .nil pass0 paW) (sa_cons (se_var (pv 0)) (sa_nil))) (sa_cons (se_call (pe_call (ok_is_number T) (hr.mono (by decide)) (by rfl) T.m_is_number T.F_is_number.kp T.b_is_number .nil pass0 paW) (sa_cons (se_var (pv 0)) (sa_nil))) (sa_cons (se_call (pe_call (ok_is_name T) (hr.mono (by decide)) (by rfl) T.m_is_name T.F_is_name.kp T.b_is_name .nil pass0 paW) (sa_cons (se_var (pv 0)) (sa_nil))) (sa_cons (se_call (pe_call (ok_is_spot T) (hr.mono (by decide)) (by rfl) T.m_is_spot T.F_is_spot.kp T.b_is_spot .nil pass0 paW) (sa_cons (se_var (pv 0)) (sa_nil))) (sa_cons (se_call (pe_call (ok_is_folder T) (hr.mono (by decide)) (by rfl) T.m_is_folder T.F_is_folder.kp T.b_is_folder .nil pass0 paW) (sa_cons (se_var (pv 0)) (sa_nil))) (sa_cons (se_call (pe_call (ok_is_move T) (hr.mono (by decide)) (by rfl) T.m_is_move T.F_is_move.kp T.b_is_move .nil pass0 paW) (sa_cons (se_var (pv 0)) (sa_nil))) (sa_nil)))))))))
      (sb_cons (ss_asg (ps_set (i := 3) sc.nd rfl (Or.inl rfl) peW) (se_add (se_var (pv 3)) (se_lst (sa_cons (se_call (pe_call (ok_is_moves T) (hr.mono (by decide)) (by rfl) T.m_is_moves T.F_is_moves.kp T.b_is_moves .nil pass0 paW) (sa_cons (se_var (pv 0)) (sa_nil))) (sa_cons (se_call (pe_call (ok_is_bulk T) (hr.mono (by decide)) (by rfl) T.m_is_bulk T.F_is_bulk.kp T.b_is_bulk .nil pass0 paW) (sa_cons (se_var (pv 0)) (sa_nil))) (sa_nil))))))
      (sb_cons (ss_asg (ps_set (i := 4) sc.nd rfl (Or.inl rfl) peW) (se_lst (sa_cons (se_callK (pe_callK0 (ok_is_integer T) (hr.mono (by decide)) (by rfl) T.m_is_integer T.F_is_integer.kp T.k_is_integer pkW) (sk_cons (se_var (pv 0)) (sk_nil))) (sa_cons (se_callK (pe_callK0 (ok_is_number T) (hr.mono (by decide)) (by rfl) T.m_is_number T.F_is_number.kp T.k_is_number pkW) (sk_cons (se_var (pv 0)) (sk_nil))) (sa_cons (se_callK (pe_callK0 (ok_is_name T) (hr.mono (by decide)) (by rfl) T.m_is_name T.F_is_name.kp T.k_is_name pkW) (sk_cons (se_var (pv 0)) (sk_nil))) (sa_cons (se_callK (pe_callK0 (ok_is_spot T) (hr.mono (by decide)) (by rfl) T.m_is_spot T.F_is_spot.kp T.k_is_spot pkW) (sk_cons (se_var (pv 0)) (sk_nil))) (sa_nil)))))))
      (sb_cons (ss_asg (ps_set (i := 4) sc.nd rfl (Or.inl rfl) peW) (se_add (se_var (pv 4)) (se_lst (sa_cons (se_callK (pe_callK0 (ok_is_folder T) (hr.mono (by decide)) (by rfl) T.m_is_folder T.F_is_folder.kp T.k_is_folder pkW) (sk_cons (se_var (pv 0)) (sk_nil))) (sa_cons (se_callK (pe_callK0 (ok_is_move T) (hr.mono (by decide)) (by rfl) T.m_is_move T.F_is_move.kp T.k_is_move pkW) (sk_cons (se_var (pv 0)) (sk_nil))) (sa_cons (se_callK (pe_callK0 (ok_is_moves T) (hr.mono (by decide)) (by rfl) T.m_is_moves T.F_is_moves.kp T.k_is_moves pkW) (sk_cons (se_var (pv 0)) (sk_nil))) (sa_cons (se_callK (pe_callK0 (ok_is_bulk T) (hr.mono (by decide)) (by rfl) T.m_is_bulk T.F_is_bulk.kp T.k_is_bulk pkW) (sk_cons (se_var (pv 0)) (sk_nil))) (sa_nil))))))))
      (sb_one (ss_ret (se_and (se_cmp (op_eqX hr.units) opb_eq (nomark _) (se_b1 (pe_callB (call_reprD hG (u66 hr)) (by rfl) T.u_repr (by decide +kernel) paW) opc_repr (se_lst (sa_cons (se_var (pv 3)) (sa_cons (se_var (pv 4)) (sa_nil))))) (se_b1 (pe_callB (call_reprD hG (u66 hr)) (by rfl) T.u_repr (by decide +kernel) paW) opc_repr (se_lst (sa_cons (se_var (pv 2)) (sa_cons (se_var (pv 2)) (sa_nil)))))) (se_one (se_cmp (op_eqX hr.units) opb_eq (nomark _) (se_b1 (pe_callB (call_reprD hG (u66 hr)) (by rfl) T.u_repr (by decide +kernel) paW) opc_repr (se_var (pv 0))) (se_var (pv 1)))))))))))))) sc_q_is_right
/-! _law_fixed -/
theorem sc_q_fixed : FnScope ["_law_some"] [] (defScope s_q_fixed) := ⟨rfl, rfl, rfl, by decide +kernel, rfl, by decide +kernel, by decide +kernel⟩
def n_q_fixed : MS := nSeq (nAsg 0 (mLst (aCons (mC (.int 0)) (aCons (mC (.int 1)) (aCons (mNeg (mC (.int 1))) (aCons (mC (.bool true)) (aCons (mC (.bool false)) (aCons (mPow (mC (.int 10)) (mC (.int 59))) (aCons (mNeg (mPow (mC (.int 10)) (mC (.int 59)))) (aCons (mC .none) (aCons (mC (.str "")) (aCons (mC (.str "a")) (aCons (mC (.str "z")) (aCons (mC (.str "abcdefgh")) (aCons (mC (.str "abcdefghi")) (aCons (mC (.str "A")) (aCons (mC (.str "a b")) (aNil)))))))))))))))))) (nSeq (nAsg 0 (mAdd (mV 0) (mLst (aCons (mC (.str "a1")) (aCons (mC (.str "-")) (aCons (mC (.str " ")) (aCons (mC (.str "a~")) (aCons (mC (.str "~")) (aCons (mTup (aNil)) (aCons (mLst (aNil)) (aCons (mTup (aCons (mC (.str "")) (aNil))) (aCons (mTup (aCons (mC (.str "a")) (aCons (mC (.str "b")) (aNil)))) (aCons (mTup (aCons (mC (.str "a")) (aCons (mC (.str "")) (aNil)))) (aCons (mTup (aCons (mC (.str "")) (aCons (mC (.str "a")) (aNil)))) (aCons (mTup (aCons (mC (.str "")) (aCons (mC (.str "")) (aNil)))) (aCons (mTup (aCons (mC (.str "a")) (aCons (mC (.str "a")) (aNil)))) (aNil))))))))))))))))) (nSeq (nAsg 0 (mAdd (mV 0) (mLst (aCons (mLst (aCons (mC (.str "a")) (aCons (mC (.str "b")) (aNil)))) (aCons (mTup (aCons (mC (.str "a")) (aCons (mC (.str "b")) (aCons (mC (.int 1)) (aNil))))) (aCons (mTup (aCons (mC (.str "a")) (aCons (mC (.str "")) (aCons (mC (.int 0)) (aNil))))) (aCons (mTup (aCons (mC (.str "a")) (aCons (mC (.str "b")) (aCons (mC (.int 0)) (aNil))))) (aCons (mTup (aCons (mC (.str "")) (aCons (mC (.str "a")) (aCons (mC (.int 1)) (aNil))))) (aCons (mTup (aCons (mC (.str "a")) (aCons (mC (.str "a")) (aCons (mC (.int 1)) (aNil))))) (aCons (mTup (aCons (mC (.str "a")) (aCons (mC (.str "b")) (aCons (mNeg (mC (.int 1))) (aNil))))) (aNil))))))))))) (nSeq (nAsg 0 (mAdd (mV 0) (mLst (aCons (mTup (aCons (mC (.str "a")) (aCons (mC (.str "b")) (aCons (mC (.bool true)) (aNil))))) (aCons (mTup (aCons (mC (.str "a")) (aCons (mC (.str "b")) (aCons (mC (.str "1")) (aNil))))) (aCons (mTup (aCons (mC (.str "a")) (aCons (mC .none) (aCons (mC (.int 1)) (aNil))))) (aCons (mTup (aCons (mC (.str "")) (aCons (mC (.str "")) (aCons (mC (.int 1)) (aNil))))) (aCons (mTup (aCons (mC (.str "a")) (aCons (mC (.str "b")) (aCons (mC (.int 1)) (aCons (mC (.int 1)) (aNil)))))) (aCons (mTup (aCons (mC (.str "A")) (aCons (mC (.str "b")) (aCons (mC (.int 1)) (aNil))))) (aNil)))))))))) (nSeq (nAsg 0 (mAdd (mV 0) (mLst (aCons (mTup (aCons (mTup (aCons (mC (.str "a")) (aCons (mC (.str "b")) (aNil)))) (aNil))) (aCons (mTup (aCons (mTup (aCons (mC (.str "a")) (aCons (mC (.str "b")) (aNil)))) (aCons (mTup (aCons (mC (.str "a")) (aCons (mC (.str "b")) (aNil)))) (aNil)))) (aCons (mTup (aCons (mTup (aCons (mC (.str "b")) (aCons (mC (.str "a")) (aNil)))) (aCons (mTup (aCons (mC (.str "a")) (aCons (mC (.str "b")) (aNil)))) (aNil)))) (aCons (mTup (aCons (mTup (aCons (mC (.str "a")) (aCons (mC (.str "b")) (aNil)))) (aCons (mTup (aCons (mC (.str "a")) (aCons (mC (.str "c")) (aNil)))) (aCons (mTup (aNil)) (aNil))))) (aNil)))))))) (nSeq (nApp 0 (mTup (aCons (mTup (aCons (mC (.str "a")) (aCons (mC (.str "b")) (aNil)))) (aCons (mTup (aCons (mC (.str "b")) (aCons (mC (.str "c")) (aNil)))) (aCons (mTup (aCons (mC (.str "a")) (aCons (mC (.str "c")) (aNil)))) (aNil)))))) (nRet (mAdd (mV 0) (mLst (aCons (mTup (aCons (mTup (aCons (mC (.str "")) (aCons (mC (.str "a")) (aNil)))) (aCons (mTup (aCons (mC (.str "a")) (aCons (mC (.str "")) (aNil)))) (aNil)))) (aCons (mLst (aCons (mTup (aCons (mC (.str "a")) (aCons (mC (.str "b")) (aNil)))) (aNil))) (aCons (mTup (aCons (mLst (aCons (mC (.str "a")) (aCons (mC (.str "b")) (aNil)))) (aNil))) (aCons (mTup (aCons (mTup (aCons (mC (.str "a")) (aCons (mC (.str "b")) (aNil)))) (aCons (mC .none) (aNil)))) (aCons (mTup (aCons (mTup (aCons (mC (.str "a")) (aCons (mC (.str "b")) (aNil)))) (aCons (mC (.int 1)) (aNil)))) (aCons (mTup (aCons (mTup (aNil)) (aNil))) (aNil)))))))))))))))
@[irreducible] def F_q_fixed : Fm := fOf ["_law_some"] [] n_q_fixed
theorem ok_q_fixed (T : Tx K mg ad fdd) : FnOk P w K mg base CX0 1 (ad 22) (fdd 22) [] (spOf K F_q_fixed) := by
  unfold F_q_fixed
  exact fn_sem T.F_q_fixed sc_q_fixed fun cdv A ou s H _ hr g => (fun sc =>
      sb_cons (ss_asg (ps_set (i := 0) sc.nd rfl (Or.inl rfl) peW) (se_lst (sa_cons (se_int) (sa_cons (se_int) (sa_cons (se_neg (se_int)) (sa_cons (se_bl) (sa_cons (se_bl) (sa_cons (se_pow (se_int) (se_int)) (sa_cons (se_neg (se_pow (se_int) (se_int))) (sa_cons (se_non) (sa_cons (se_str) (sa_cons (se_str) (sa_cons (se_str) (sa_cons (se_str) (sa_cons (se_str) (sa_cons (se_str) (sa_cons (se_str) (sa_nil))))))))))))))))))
      (sb_cons (ss_asg (ps_set (i := 0) sc.nd rfl (Or.inl rfl) peW) (se_add (se_var (pv 0)) (se_lst (sa_cons (se_str) (sa_cons (se_str) (sa_cons (se_str) (sa_cons (se_str) (sa_cons (se_str) (sa_cons (se_tup (sa_nil)) (sa_cons (se_lst (sa_nil)) (sa_cons (se_tup (sa_cons (se_str) (sa_nil))) (sa_cons (se_tup (sa_cons (se_str) (sa_cons (se_str) (sa_nil)))) (sa_cons (se_tup (sa_cons (se_str) (sa_cons (se_str) (sa_nil)))) (sa_cons (se_tup (sa_cons (se_str) (sa_cons (se_str) (sa_nil)))) (sa_cons (se_tup (sa_cons (se_str) (sa_cons (se_str) (sa_nil)))) (sa_cons (se_tup (sa_cons (se_str) (sa_cons (se_str) (sa_nil)))) (sa_nil)))))))))))))))))
      (sb_cons (ss_asg (ps_set (i := 0) sc.nd rfl (Or.inl rfl) peW) (se_add (se_var (pv 0)) (se_lst (sa_cons (se_lst (sa_cons (se_str) (sa_cons (se_str) (sa_nil)))) (sa_cons (se_tup (sa_cons (se_str) (sa_cons (se_str) (sa_cons (se_int) (sa_nil))))) (sa_cons (se_tup (sa_cons (se_str) (sa_cons (se_str) (sa_cons (se_int) (sa_nil))))) (sa_cons (se_tup (sa_cons (se_str) (sa_cons (se_str) (sa_cons (se_int) (sa_nil))))) (sa_cons (se_tup (sa_cons (se_str) (sa_cons (se_str) (sa_cons (se_int) (sa_nil))))) (sa_cons (se_tup (sa_cons (se_str) (sa_cons (se_str) (sa_cons (se_int) (sa_nil))))) (sa_cons (se_tup (sa_cons (se_str) (sa_cons (se_str) (sa_cons (se_neg (se_int)) (sa_nil))))) (sa_nil)))))))))))
      (sb_cons (ss_asg (ps_set (i := 0) sc.nd rfl (Or.inl rfl) peW) (se_add (se_var (pv 0)) (se_lst (sa_cons (se_tup (sa_cons (se_str) (sa_cons (se_str) (sa_cons (se_bl) (sa_nil))))) (sa_cons (se_tup (sa_cons (se_str) (sa_cons (se_str) (sa_cons (se_str) (sa_nil))))) (sa_cons (se_tup (sa_cons (se_str) (sa_cons (se_non) (sa_cons (se_int) (sa_nil))))) (sa_cons (se_tup (sa_cons (se_str) (sa_cons (se_str) (sa_cons (se_int) (sa_nil))))) (sa_cons (se_tup (sa_cons (se_str) (sa_cons (se_str) (sa_cons (se_int) (sa_cons (se_int) (sa_nil)))))) (sa_cons (se_tup (sa_cons (se_str) (sa_cons (se_str) (sa_cons (se_int) (sa_nil))))) (sa_nil))))))))))
      (sb_cons (ss_asg (ps_set (i := 0) sc.nd rfl (Or.inl rfl) peW) (se_add (se_var (pv 0)) (se_lst (sa_cons (se_tup (sa_cons (se_tup (sa_cons (se_str) (sa_cons (se_str) (sa_nil)))) (sa_nil))) (sa_cons (se_tup (sa_cons (se_tup (sa_cons (se_str) (sa_cons (se_str) (sa_nil)))) (sa_cons (se_tup (sa_cons (se_str) (sa_cons (se_str) (sa_nil)))) (sa_nil)))) (sa_cons (se_tup (sa_cons (se_tup (sa_cons (se_str) (sa_cons (se_str) (sa_nil)))) (sa_cons (se_tup (sa_cons (se_str) (sa_cons (se_str) (sa_nil)))) (sa_nil)))) (sa_cons (se_tup (sa_cons (se_tup (sa_cons (se_str) (sa_cons (se_str) (sa_nil)))) (sa_cons (se_tup (sa_cons (se_str) (sa_cons (se_str) (sa_nil)))) (sa_cons (se_tup (sa_nil)) (sa_nil))))) (sa_nil))))))))
      (sb_cons (ss_app (ps_expr (pe_bm PySem.F.plainAttrs_list PySem.F.slot_list_append PySem.F.type_list_append mt_append (pv 0) paW)) (se_tup (sa_cons (se_tup (sa_cons (se_str) (sa_cons (se_str) (sa_nil)))) (sa_cons (se_tup (sa_cons (se_str) (sa_cons (se_str) (sa_nil)))) (sa_cons (se_tup (sa_cons (se_str) (sa_cons (se_str) (sa_nil)))) (sa_nil))))))
      (sb_one (ss_ret (se_add (se_var (pv 0)) (se_lst (sa_cons (se_tup (sa_cons (se_tup (sa_cons (se_str) (sa_cons (se_str) (sa_nil)))) (sa_cons (se_tup (sa_cons (se_str) (sa_cons (se_str) (sa_nil)))) (sa_nil)))) (sa_cons (se_lst (sa_cons (se_tup (sa_cons (se_str) (sa_cons (se_str) (sa_nil)))) (sa_nil))) (sa_cons (se_tup (sa_cons (se_lst (sa_cons (se_str) (sa_cons (se_str) (sa_nil)))) (sa_nil))) (sa_cons (se_tup (sa_cons (se_tup (sa_cons (se_str) (sa_cons (se_str) (sa_nil)))) (sa_cons (se_non) (sa_nil)))) (sa_cons (se_tup (sa_cons (se_tup (sa_cons (se_str) (sa_cons (se_str) (sa_nil)))) (sa_cons (se_int) (sa_nil)))) (sa_cons (se_tup (sa_cons (se_tup (sa_nil)) (sa_nil))) (sa_nil))))))))))))))))) sc_q_fixed
/-! _law_drawn -/
theorem sc_q_drawn : FnScope ["_law_spool_here", "_law_names_here", "_law_size", "_law_menu", "_law_a", "_law_b", "_law_way", "_law_lap"] ["_law_spool_here"] (defScope s_q_drawn) := ⟨rfl, rfl, rfl, by decide +kernel, rfl, by decide +kernel, by decide +kernel⟩
def n_q_drawn : MS := nSeq (nAsg 1 (mCall F_q_names (aCons (mV 0) (aNil)))) (nSeq (nPar3 4 5 6 (aCons (mIx (mV 1) (mC (.int 0))) (aCons (mCall F_q_any (aCons (mV 0) (aCons (mLst (aCons (mC (.str "")) (aCons (mIx (mV 1) (mC (.int 1))) (aCons (mIx (mV 1) (mC (.int 2))) (aNil))))) (aNil)))) (aCons (mCall F_q_pull (aCons (mV 0) (aCons (mC (.int 6)) (aNil)))) (aNil))))) (nSeq (nAsg 2 (mCall F_q_any (aCons (mV 0) (aCons (mLst (aCons (mC (.int 0)) (aCons (mC (.int 1)) (aCons (mC (.int 2)) (aCons (mC (.int 9)) (aCons (mPow (mC (.int 10)) (mC (.int 59))) (aNil))))))) (aNil))))) (nSeq (nIf (tV (mB (fEq false) (mV 6) (mC (.int 0)))) (nRet (mTup (aCons (mV 4) (aCons (mV 5) (aCons (mV 2) (aNil)))))) (nNil)) (nSeq (nIf (tV (mB (fEq false) (mV 6) (mC (.int 1)))) (nRet (mIf (tV (mB (fEq false) (mCall F_q_pull (aCons (mV 0) (aCons (mC (.int 2)) (aNil)))) (mC (.int 0)))) (mTup (aCons (mV 4) (aCons (mV 5) (aNil)))) (mTup (aCons (mV 5) (aCons (mV 4) (aNil)))))) (nNil)) (nSeq (nIf (tV (mB (fEq false) (mV 6) (mC (.int 2)))) (nRet (mTup (aCons (mV 5) (aCons (mV 4) (aCons (mV 2) (aNil)))))) (nNil)) (nSeq (nIf (tV (mB (fEq false) (mV 6) (mC (.int 3)))) (nRet (mCall F_q_any (aCons (mV 0) (aCons (mLst (aCons (mV 4) (aCons (mV 5) (aCons (mV 2) (aNil))))) (aNil))))) (nNil)) (nSeq (nAsg 3 (mLst (aCons (mTup (aCons (mV 4) (aCons (mV 5) (aNil)))) (aCons (mTup (aCons (mV 5) (aCons (mV 4) (aNil)))) (aCons (mTup (aCons (mC (.str "")) (aCons (mV 4) (aNil)))) (aCons (mTup (aCons (mIx (mV 1) (mC (.int 3))) (aCons (mIx (mV 1) (mC (.int 4))) (aNil)))) (aCons (mTup (aCons (mV 4) (aCons (mIx (mV 1) (mC (.int 3))) (aNil)))) (aNil)))))))) (nRet (mU fTuple (mU fSort (mLc 7 (miR1 (mCall F_q_pull (aCons (mV 0) (aCons (mC (.int 5)) (aNil))))) (fun _ r k => k true r) (mCall F_q_any (aCons (mV 0) (aCons (mV 3) (aNil)))))))))))))))
@[irreducible] def F_q_drawn : Fm := fOf ["_law_spool_here", "_law_names_here", "_law_size", "_law_menu", "_law_a", "_law_b", "_law_way", "_law_lap"] ["_law_spool_here"] n_q_drawn
theorem ok_q_drawn (T : Tx K mg ad fdd) : FnOk P w K mg base CX0 4 (ad 23) (fdd 23) ["_law_spool_here"] (spOf K F_q_drawn) := by
  unfold F_q_drawn
  exact fn_sem T.F_q_drawn sc_q_drawn fun cdv A ou s H _ hr g => (fun sc =>
      sb_cons (ss_asg (ps_set (i := 1) sc.nd rfl (Or.inl rfl) peW) (se_call (pe_call (ok_q_names T) (hr.mono (by decide)) (by rfl) T.m_q_names T.F_q_names.kp T.b_q_names .nil pass0 paW) (sa_cons (se_var (pv 0)) (sa_nil))))
      (sb_cons (ss_par3 (ps_par3 (i := 4) (j := 5) (l := 6) (by rfl) sc.nd rfl rfl rfl (by decide) (by decide) (by decide) rfl rfl rfl paW (by rfl)) (sa_cons (se_ix (se_var (pv 1)) (se_int) (fun _ _ => rfl)) (sa_cons (se_call (pe_call (ok_q_any T) (hr.mono (by decide)) (by rfl) T.m_q_any T.F_q_any.kp T.b_q_any .nil pass0 paW) (sa_cons (se_var (pv 0)) (sa_cons (se_lst (sa_cons (se_str) (sa_cons (se_ix (se_var (pv 1)) (se_int) (fun _ _ => rfl)) (sa_cons (se_ix (se_var (pv 1)) (se_int) (fun _ _ => rfl)) (sa_nil))))) (sa_nil)))) (sa_cons (se_call (pe_call (ok_q_pull T) (hr.mono (by decide)) (by rfl) T.m_q_pull T.F_q_pull.kp T.b_q_pull .nil pass0 paW) (sa_cons (se_var (pv 0)) (sa_cons (se_int) (sa_nil)))) (sa_nil)))))
      (sb_cons (ss_asg (ps_set (i := 2) sc.nd rfl (Or.inl rfl) peW) (se_call (pe_call (ok_q_any T) (hr.mono (by decide)) (by rfl) T.m_q_any T.F_q_any.kp T.b_q_any .nil pass0 paW) (sa_cons (se_var (pv 0)) (sa_cons (se_lst (sa_cons (se_int) (sa_cons (se_int) (sa_cons (se_int) (sa_cons (se_int) (sa_cons (se_pow (se_int) (se_int)) (sa_nil))))))) (sa_nil)))))
      (sb_cons (ss_if (st_cmp (op_eqX hr.units) opb_eq (nomark _) (se_var (pv 6)) (se_int)) (sb_one (ss_ret (se_tup (sa_cons (se_var (pv 4)) (sa_cons (se_var (pv 5)) (sa_cons (se_var (pv 2)) (sa_nil))))))) (sb_nil))
      (sb_cons (ss_if (st_cmp (op_eqX hr.units) opb_eq (nomark _) (se_var (pv 6)) (se_int)) (sb_one (ss_ret (se_if (st_cmp (op_eqX hr.units) opb_eq (nomark _) (se_call (pe_call (ok_q_pull T) (hr.mono (by decide)) (by rfl) T.m_q_pull T.F_q_pull.kp T.b_q_pull .nil pass0 paW) (sa_cons (se_var (pv 0)) (sa_cons (se_int) (sa_nil)))) (se_int)) (se_tup (sa_cons (se_var (pv 4)) (sa_cons (se_var (pv 5)) (sa_nil)))) (se_tup (sa_cons (se_var (pv 5)) (sa_cons (se_var (pv 4)) (sa_nil))))))) (sb_nil))
      (sb_cons (ss_if (st_cmp (op_eqX hr.units) opb_eq (nomark _) (se_var (pv 6)) (se_int)) (sb_one (ss_ret (se_tup (sa_cons (se_var (pv 5)) (sa_cons (se_var (pv 4)) (sa_cons (se_var (pv 2)) (sa_nil))))))) (sb_nil))
      (sb_cons (ss_if (st_cmp (op_eqX hr.units) opb_eq (nomark _) (se_var (pv 6)) (se_int)) (sb_one (ss_ret (se_call (pe_call (ok_q_any T) (hr.mono (by decide)) (by rfl) T.m_q_any T.F_q_any.kp T.b_q_any .nil pass0 paW) (sa_cons (se_var (pv 0)) (sa_cons (se_lst (sa_cons (se_var (pv 4)) (sa_cons (se_var (pv 5)) (sa_cons (se_var (pv 2)) (sa_nil))))) (sa_nil)))))) (sb_nil))
      (sb_cons (ss_asg (ps_set (i := 3) sc.nd rfl (Or.inr rfl) peW) (se_lst (sa_cons (se_tup (sa_cons (se_var (pv 4)) (sa_cons (se_var (pv 5)) (sa_nil)))) (sa_cons (se_tup (sa_cons (se_var (pv 5)) (sa_cons (se_var (pv 4)) (sa_nil)))) (sa_cons (se_tup (sa_cons (se_str) (sa_cons (se_var (pv 4)) (sa_nil)))) (sa_cons (se_tup (sa_cons (se_ix (se_var (pv 1)) (se_int) (fun _ _ => rfl)) (sa_cons (se_ix (se_var (pv 1)) (se_int) (fun _ _ => rfl)) (sa_nil)))) (sa_cons (se_tup (sa_cons (se_var (pv 4)) (sa_cons (se_ix (se_var (pv 1)) (se_int) (fun _ _ => rfl)) (sa_nil)))) (sa_nil))))))))
      (sb_one (ss_ret (se_b1 (pe_callTy call_tuple_of (by rfl) T.u_tuple (by decide +kernel) paW) opc_tuple (se_b1 (pe_callB (call_sortD hr.units) (by rfl) T.u_sorted (by decide +kernel) paW) opc_sort (se_lc rfl sc.nd (blkOk_by (N := ["_law_spool_here", "_law_names_here", "_law_size", "_law_menu", "_law_a", "_law_b", "_law_way", "_law_lap"]) (sc := defScope s_q_drawn) (own := [("_law_lap", 7)]) (by decide +kernel)) (si_rng1 (pi_range1 (by rfl) T.u_range paW) (se_call (pe_call (ok_q_pull T) (hr.mono (by decide)) (by rfl) T.m_q_pull T.F_q_pull.kp T.b_q_pull .nil pass0 paW) (sa_cons (se_var (pv 0)) (sa_cons (se_int) (sa_nil))))) (fun _ _ _ _ _ => pg_name (i := 7) sc.nd rfl (Or.inl rfl)) ts_nil (fun _ _ _ _ _ => se_call (pe_call (ok_q_any T) (hr.mono (by decide)) (by rfl) T.m_q_any T.F_q_any.kp T.b_q_any .nil pass0 paW) (sa_cons (se_var (pv 0)) (sa_cons (se_var (pv 3)) (sa_nil))))))))))))))))) sc_q_drawn
theorem FnG.imp {k : Nat} {f : Addr} {fd : FuncData} {ps : List Str} {sp sp' : Sp} (F : FnG P w K mg base k f fd ps sp) (h : ∀ vs H Q, sp' vs H Q E0 → sp vs H Q E0) : FnG P w K mg base k f fd ps sp' :=
  ⟨fun xs hh q z => F.len _ _ _ (h _ _ _ z), fun A ou s hh ar us xs q hg hr e b v z => F.run A ou s hh ar us xs q hg hr e b v (h _ _ _ z)⟩
def sizeB (x y : PyData) : Bool := (toldD x y).showable && (decide ((toldD x y).depth ≤ 64) && decide ((toldD x y).shown.length ≤ sizeLine))
@[irreducible] def F_q_are_errors_right : Fm := fun _ ws kf => match ws with
  | [.d x, .d y] => sizeB x y && kf (.d (.bool true))
  | _ => false
theorem ok_q_are_errors_right (T : Tx K mg ad fdd) : FnG P w K mg base 3 (ad 25) (fdd 25) ["_law_one", "_law_two"] (spOf K F_q_are_errors_right) := by
  obtain ⟨C, fI, fd, G, e⟩ := T.ex
  refine FnG.imp (ok_err e T.F_q_are_errors_right T.F_q_families T.m_q_families T.b_q_families T.u_repr T.u_ValueError T.u_range) ?_
  intro vs H Q h
  obtain ⟨a, nm, lv, ws, H0, kf, h1, h2, h3, h4, h5, h6⟩ := h
  unfold F_q_are_errors_right at h5
  split at h5
  · rename_i x y
    rw [Bool.and_eq_true] at h5
    obtain ⟨z, hk⟩ := h5
    unfold sizeB at z
    simp only [Bool.and_eq_true, decide_eq_true_eq] at z
    cases h4 with
    | cons d1 t1 =>
      cases t1 with
      | cons d2 t2 =>
        cases t2
        refine ⟨x, y, _, _, rfl, dp_sub h1 d1, dp_sub h1 d2, ⟨z.1, z.2.1, z.2.2⟩, fun H' u => h6 (.bl true) (.d (.bool true)) H0 H' ⟨fun b o q => u _ _ (h1 b o q), ?_, h3, fun _ _ q => q, fun b o _ q => u b o q, fun b o _ q1 q2 => q2⟩ (.bl true) hk⟩
        obtain ⟨l, ns, p, r, t, k1, k2, k3, k4, e1, e2, e3⟩ := h2
        exact ⟨l, ns, p, r, t, k1, k2, k3, k4, e1, u _ _ e2, e3⟩
  · cases h5
theorem sc_law : FnScope ["_law_script", "_law_spool_here", "_law_what", "_law_lap", "_law_near"] ["_law_script"] (defScope s_law) := ⟨rfl, rfl, rfl, by decide +kernel, rfl, by decide +kernel, by decide +kernel⟩
def n_law : MS := nSeq (nFor 2 (fiL (mCall0 F_q_fixed)) (nIf (tNotT (tV (mCall F_q_is_right (aCons (mV 2) (aNil))))) (nRet (mC (.bool false))) (nNil))) (nSeq (nFor 3 (miR1 (mC (.int 12))) (nSeq (nAsg 2 (mCall F_q_drawn (aCons (mV 1) (aNil)))) (nSeq (nAsg 4 (mCall (F_q_bent 9) (aCons (mV 1) (aCons (mV 2) (aNil))))) (nIf (tOrT (tNotT (tV (mCall F_q_is_right (aCons (mV 2) (aNil))))) (tOrT (tNotT (tV (mCall F_q_is_right (aCons (mV 4) (aNil))))) (tNotT (tV (mCall F_q_is_right (aCons (mCall (F_q_bent 9) (aCons (mV 1) (aCons (mV 4) (aNil)))) (aNil))))))) (nRet (mC (.bool false))) (nNil))))) (nRet (mCall F_q_are_errors_right (aCons (mCall F_q_strange (aCons (mV 1) (aNil))) (aCons (mCall F_q_strange (aCons (mV 1) (aNil))) (aNil))))))
theorem bd_law (T : Tx K mg ad fdd) (cdv : Value) (A : Around) (ou : List Env) (s : Shared) (H : Hp) (hG : A.guards = some []) (hr : Room 12 (A.deeper (PyProof.Rows.envOfC "law" (defScope s_law) s.heap.objs.size (ad 26) cdv))) (g : G) : SB (cxOf CX0 P w K mg base ["_law_script", "_law_spool_here", "_law_what", "_law_lap", "_law_near"] "law" (defScope s_law) (ad 26) cdv A ou s H E0).nox g ((defBody s_law).drop 1) n_law := (fun sc =>
      sb_cons (ss_for (ps_for PassesOwn.never rfl piW (pg_name (i := 2) sc.nd rfl (Or.inl rfl)) pbW) (sif_list (se_call0 (pe_call0 (ok_q_fixed T) (hr.mono (by decide)) (by rfl) T.m_q_fixed T.F_q_fixed.kp T.b_q_fixed .nil pass0))) (fun _ => sb_one (ss_if (st_not (st_val (fun _ h => pt_val h) (se_call (pe_callG (ok_q_is_right T) hG (hr.mono (by decide)) (by rfl) T.m_q_is_right T.F_q_is_right.kp T.b_q_is_right paW) (sa_cons (se_var (pv 2)) (sa_nil))))) (sb_one (ss_ret (se_bl))) (sb_nil))))
      (sb_cons (ss_for (ps_for PassesOwn.never rfl piW (pg_name (i := 3) sc.nd rfl (Or.inl rfl)) pbW) (sif_rng1 (pi_range1 (by rfl) T.u_range paW) (se_int)) (fun _ => sb_cons (ss_asg (ps_set (i := 2) sc.nd rfl (Or.inl rfl) peW) (se_call (pe_call (ok_q_drawn T) (hr.mono (by decide)) (by rfl) T.m_q_drawn T.F_q_drawn.kp T.b_q_drawn .nil pass0 paW) (sa_cons (se_var (pv 1)) (sa_nil))))
      (sb_cons (ss_asg (ps_set (i := 4) sc.nd rfl (Or.inl rfl) peW) (se_call (pe_call (ok_q_bent T 9) (hr.mono (by decide)) (by rfl) T.m_q_bent T.F_q_bent.kp T.b_q_bent .nil pass0 paW) (sa_cons (se_var (pv 1)) (sa_cons (se_var (pv 2)) (sa_nil)))))
      (sb_one (ss_if (st_bool (sw_or (st_not (st_val (fun _ h => pt_val h) (se_call (pe_callG (ok_q_is_right T) hG (hr.mono (by decide)) (by rfl) T.m_q_is_right T.F_q_is_right.kp T.b_q_is_right paW) (sa_cons (se_var (pv 2)) (sa_nil))))) (sw_or (st_not (st_val (fun _ h => pt_val h) (se_call (pe_callG (ok_q_is_right T) hG (hr.mono (by decide)) (by rfl) T.m_q_is_right T.F_q_is_right.kp T.b_q_is_right paW) (sa_cons (se_var (pv 4)) (sa_nil))))) (sw_or1 (st_not (st_val (fun _ h => pt_val h) (se_call (pe_callG (ok_q_is_right T) hG (hr.mono (by decide)) (by rfl) T.m_q_is_right T.F_q_is_right.kp T.b_q_is_right paW) (sa_cons (se_call (pe_call (ok_q_bent T 9) (hr.mono (by decide)) (by rfl) T.m_q_bent T.F_q_bent.kp T.b_q_bent .nil pass0 paW) (sa_cons (se_var (pv 1)) (sa_cons (se_var (pv 4)) (sa_nil)))) (sa_nil))))))))) (sb_one (ss_ret (se_bl))) (sb_nil))))))
      (sb_one (ss_ret (se_call (pe_callG (ok_q_are_errors_right T) hG (hr.mono (by decide)) (by rfl) T.m_q_are_errors_right T.F_q_are_errors_right.kp T.b_q_are_errors_right paW) (sa_cons (se_call (pe_call (ok_q_strange T) (hr.mono (by decide)) (by rfl) T.m_q_strange T.F_q_strange.kp T.b_q_strange .nil pass0 paW) (sa_cons (se_var (pv 1)) (sa_nil))) (sa_cons (se_call (pe_call (ok_q_strange T) (hr.mono (by decide)) (by rfl) T.m_q_strange T.F_q_strange.kp T.b_q_strange .nil pass0 paW) (sa_cons (se_var (pv 1)) (sa_nil))) (sa_nil)))))))) sc_law
end
end K01

set_option Elab.async false
set_option linter.all false
set_option maxRecDepth 100000
set_option maxHeartbeats 1900000
namespace Pz
open PySem L2
theorem spD_merge (l : Addr) (p r t : Int) : mergeK [] ([(Sum.inr "cells", .ref l), (Sum.inr "next", .int p), (Sum.inr "rest", .int r), (Sum.inr "turn", .int t)] : List (Key × V)) = spD l p r t := by
  unfold mergeK spD
  simp [putK, kk1, kk2, kk3, kk4, kk5, kk6]
theorem cut_ints (ns : List Int) (lo hi : Option Int) : ∃ ms : List Int, cutV (ns.map V.int) lo hi = ms.map V.int ∧ ms.length ≤ ns.length := by
  refine ⟨(ns.drop (HT.sIx (ns.map V.int).length 0 lo)).take (HT.sIx (ns.map V.int).length (ns.map V.int).length hi - HT.sIx (ns.map V.int).length 0 lo), ?_, ?_⟩
  · unfold cutV
    rw [List.map_take]; rw [List.map_drop]
  · rw [List.length_take, List.length_drop]
    omega
/-- a new spool, of any cells -/
def spSpool (K : PySem.W.Frag) : Sp := fun vs H Q _ => ∃ (a : Addr) (ns : List Int), vs = [.ref a] ∧ SqL K H a (ns.map V.int) ∧ ∀ (p l : Addr) (ms : List Int) (H' : Hp), (∀ b o, H b = some o → H' b = some o) → H' p = some (.dK (spD l 0 0 0)) → H' l = some (.lst (ms.map V.int)) → Q (.ref p) H'
end Pz
namespace K01
open PySem L2 Pz
variable {P : Program} {w : World} {K : PySem.W.Frag} {mg : Str → Option Value} {base : Heap} {ad : Nat → Addr} {fdd : Nat → FuncData}
theorem sc_q_spool : FnScope ["_law_script"] ["_law_script"] (defScope s_q_spool) := ⟨rfl, rfl, rfl, by decide +kernel, rfl, by decide +kernel, by decide +kernel⟩
theorem ok_q_spool (T : Tx K mg ad fdd) : FnOk P w K mg base CX0 1 (ad 8) (fdd 8) ["_law_script"] (spSpool K) := by
  refine T.F_q_spool.ok sc_q_spool (fun vs H Q E h => ?_) (fun cdv A ou s H vs Q E hr h => ?_)
  · obtain ⟨a, ns, rfl, _⟩ := h
    rfl
  · obtain ⟨a, ns,
        rfl, hS, k⟩ := h
    refine ⟨_, pss_one (ps_ret (pe_disp (pps_cons pe_str (pe_callTy call_list_of (by rfl) T.u_list (by decide +kernel) (pa_cons (pe_slice sl_list (pv 0) po_none (po_some pe_int)) pa_nil)) (pps_cons pe_str pe_int (pps_cons pe_str pe_int (pps_cons pe_str pe_int pps_nil)))) rfl rfl (by decide) (by decide))), ?_⟩
    intro p hp
    have sq : SqL K (upd H p (.dK [])) a (ns.map V.int) := sub_seqL (fun b o e => by rw [upd_ne (ne_of_none e hp)]; exact e) hS
    obtain ⟨ms, em, _⟩ := cut_ints ns none (some 63)
    refine ⟨_, rfl, 63, rfl, a, _, rfl, sq, fun q hq => ?_⟩
    rw [em]
    refine ⟨q, _, rfl, .inl (SqL.of upd_same), fun l hl => ?_⟩
    have nqp : p ≠ q := fun e => by rw [← e, upd_same] at hq; cases hq
    have nlp : p ≠ l := fun e => by rw [← e, upd_ne nqp, upd_same] at hl; cases hl
    have nlq : q ≠ l := fun e => by rw [← e, upd_same] at hl; cases hl
    refine ⟨by rw [upd_ne nlp, upd_ne nqp, upd_same], [(Sum.inr "cells", .ref l), (Sum.inr "next", .int 0), (Sum.inr "rest", .int 0), (Sum.inr "turn", .int 0)], rfl, (by show 4 ≤ 15; decide), ?_⟩
    rw [spD_merge]
    refine k p l ms _ (fun b o e => ?_) upd_same (by rw [upd_ne (Ne.symm nlp), upd_same])
    have nb : b ≠ p := ne_of_none e hp
    have hq0 : H q = none := by rw [upd_ne (Ne.symm nqp)] at hq; exact hq
    have hl0 : H l = none := by rw [upd_ne (Ne.symm nlq), upd_ne (Ne.symm nlp)] at hl; exact hl
    rw [upd_ne nb, upd_ne (ne_of_none e hl0), upd_ne (ne_of_none e hq0), upd_ne nb]
    exact e
/-- the promise of the law -/
def spLaw (K : PySem.W.Frag) : Sp := fun vs H Q _ => ∃ (a : Addr) (ns : List Int),
      vs = [.ref a] ∧ SqL K H a (ns.map V.int) ∧ ∀ H', Q (.bl true) H'
/-- true, and nothing else -/
def isTru : W → Bool
  | .d (.bool true) => true
  | _ => false
def lawK : KS := { nx := fun _ => false, rt := isTru }
def lawR : Rho := [.un, .val .sp, .un, .un, .un]
theorem ok_law (T : Tx K mg ad fdd) (run : n_law noX lawR lawK = true) : FnG P w K mg base 13 (ad 26) (fdd 26) ["_law_script"] (spLaw K) := by
  refine fnG_of T.F_law sc_law (fun vs H Q h => ?_) (fun cdv A ou s H vs Q hG hr h => ?_)
  · obtain ⟨a, ns, rfl, _⟩ := h
    rfl
  · obtain ⟨a, ns,
        rfl, hS, k⟩ := h
    refine wB_of (pss_cons (ps_set (i := 1) sc_law.nd rfl (Or.inl rfl) (pe_call (ok_q_spool T) (hr.mono (by decide)) (by rfl) T.m_q_spool T.F_q_spool.kp T.b_q_spool .nil pass0 (pa_cons (pv 0) pa_nil))) (pbW (cs := (defBody s_law).drop 1))) ?_
    refine ⟨_, rfl, a, ns, rfl, hS, fun p l ms H' _ hp hl => ?_⟩
    have npl : l ≠ p := fun e => by rw [e, hp] at hl; cases hl
    let H0 : Hp := fun b => if b = l then some (.lst (ms.map V.int)) else none
    have e0 : H0 l = some (.lst (ms.map V.int)) := if_pos rfl
    have n0 : ∀ b o, H0 b = some o → b = l ∧ o = .lst (ms.map V.int) := fun b o q => by
      by_cases c : b = l
      · subst c; rw [e0] at q; cases q; exact ⟨rfl, rfl⟩
      · rw [show H0 b = none from if_neg c] at q; cases q
    have spn : H0 p = none := if_neg (Ne.symm npl)
    have er : Rel ⟨K, p, spNames, H0, H0, 0⟩ H0 (fun _ => p) lawR [some (.ref a), some (.ref p), none, none, none] H' := by
      refine ⟨fun b o q => ?_, SpOk.mk rfl hp e0, spn, fun _ _ q => q, fun b o _ q => ?_, fun b o _ q1 q2 => q2, rfl, fun i w q => ?_, fun i xs q => ?_, fun i j xs ys q => ?_⟩
      · obtain ⟨rfl, rfl⟩ := n0 b o q; exact hl
      · obtain ⟨rfl, rfl⟩ := n0 b o q; exact hl
      · match i, q with
        | 1, q => cases q; exact ⟨_, rfl, rfl⟩
        | 0, q => cases q
        | 2, q => cases q
        | 3, q => cases q
        | 4, q => cases q
        | _ + 5, q => cases q
      · match i, q with
        | 0, q => cases q
        | 1, q => cases q
        | 2, q => cases q
        | 3, q => cases q
        | 4, q => cases q
        | _ + 5, q => cases q
      · match i, q with
        | 0, q => cases q
        | 1, q => cases q
        | 2, q => cases q
        | 3, q => cases q
        | 4, q => cases q
        | _ + 5, q => cases q
    have no : ∀ d : L2.St → Hp → Prop, SSk ⟨K, p, spNames, H0, H0, 0⟩ (fun _ => false) d := fun d _ _ _ _ _ _ hk => nomatch (show false = true from hk)
    refine bd_law T cdv A ou s H hG hr ⟨K, p, spNames, H0, H0, 0⟩ noX (fun _ => p) H0 lawR _ H' lawK ⟨rfl, rfl, ?_⟩ er run _ ⟨no _, fun v w H0' H'' f hw hk => ?_, no _, no _⟩
    · exact hr.mono (Nat.zero_le _)
    · match w, hk with
      | .d (.bool true), _ =>
        cases (show Dq K H0' v (.bool true) from hw) with
        | bl b => exact k _
end K01

set_option Elab.async false
set_option linter.all false
set_option maxRecDepth 100000
set_option maxHeartbeats 1900000
namespace Pz
open PySem L2
theorem lcGo_pure {i : Nat} {t : MT} {m : M} {r : Rho} (p : PyData → Bool) (f : PyData → PyData) : ∀ (xs acc : List PyData) (r' : Rho) (kk : List PyData → Rho → Bool), (∀ s, r'.set i s = r.set i s) → acc.length + xs.length ≤ sizeLine →
    (∀ x ∈ xs, ∀ k, t noX (r.set i (.val (.d x))) k = k (p x) (r.set i (.val (.d x)))) → (∀ x ∈ xs, p x = true → ∀ k, m noX (r.set i (.val (.d x))) k = k (.val (.d (f x))) (r.set i (.val (.d x)))) →
    mLcGo i t m xs acc r' (fun a r2 => kk a (r2.set i .un)) = kk (acc ++ (xs.filter p).map f) (r.set i .un)
  | [], acc, r', kk, hr, _, _, _ => by
    unfold mLcGo
    show kk acc (r'.set i .un) = _
    rw [hr, List.filter_nil, List.map_nil, List.append_nil]
  | x :: xs, acc, r', kk, hr, hl, ht, hm => by
    have hr2 : ∀ s, (r.set i (.val (.d x))).set i s = r.set i s := fun s => List.set_set ..
    rw [List.length_cons] at hl
    unfold mLcGo
    rw [hr, ht x (List.mem_cons_self ..)]
    cases hp : p x with
    | true =>
      rw [if_pos rfl, hm x (List.mem_cons_self ..) hp]
      show (decide (acc.length < sizeLine) && mLcGo i t m xs (acc ++ [f x]) (r.set i (.val (.d x))) _) = _
      rw [decide_eq_true (show acc.length < sizeLine by omega), Bool.true_and, lcGo_pure p f xs (acc ++ [f x]) _ kk hr2 (by rw [List.length_append, List.length_singleton]; omega) (fun y hy => ht y (List.mem_cons_of_mem _ hy)) (fun y hy => hm y (List.mem_cons_of_mem _ hy)), List.filter_cons_of_pos hp, List.map_cons, List.append_assoc]
      rfl
    | false =>
      rw [if_neg Bool.false_ne_true, lcGo_pure p f xs acc _ kk hr2 (by omega) (fun y hy => ht y (List.mem_cons_of_mem _ hy)) (fun y hy => hm y (List.mem_cons_of_mem _ hy)), List.filter_cons_of_neg (by rw [hp]; exact Bool.false_ne_true)]
end Pz
namespace K01
open PySem L2 Pz
def intB : PyData → Bool
  | .int _ => true
  | _ => false
def numB : PyData → Bool
  | .int i => decide (0 ≤ i)
  | _ => false
def lowC (c : Nat) : Bool := decide (97 ≤ c) && decide (c ≤ 122)
def nameS (s : Str) : Bool := decide (1 ≤ s.length) && (decide (s.length ≤ 8) && s.cps.toList.all lowC)
def nameB : PyData → Bool
  | .str s => nameS s
  | _ => false
def spotB : PyData → Bool
  | .str s => nameS s || s == ""
  | _ => false
def sameB : PyData → PyData → Bool
  | .str a, .str b => a == b
  | _, _ => false
def folderL : List PyData → Bool
  | [a, b, c] => nameB a && (spotB b && (!sameB b a && numB c))
  | _ => false
def folderB : PyData → Bool
  | .tuple xs => folderL xs
  | _ => false
def moveL : List PyData → Bool
  | [a, b] => spotB a && (spotB b && !sameB a b)
  | _ => false
def moveB : PyData → Bool
  | .tuple xs => moveL xs
  | _ => false
theorem p_int (x : PyData) (kf : W → Bool) : F_is_integer noX [.d x] kf = kf (.d (.bool (intB x))) := by
  unfold F_is_integer
  cases x <;> rfl
theorem p_num (x : PyData) (kf : W → Bool) : F_is_number noX [.d x] kf = kf (.d (.bool (numB x))) := by
  unfold F_is_number
  refine (p_int x _).trans ?_
  cases x <;> rfl
theorem l_num (x : PyData) (kf : W → Bool) : F_q_is_number noX [.d x] kf = kf (.d (.bool (numB x))) := by
  unfold F_q_is_number
  cases x <;> rfl
theorem low_alpha : (List.range 128).all (fun c => (Unicode.isAlpha c && (!(Unicode.isUpper c || Unicode.isTitle c))) == lowC c && (!lowC c || Unicode.isLower c)) = true := by decide +kernel
theorem low_at {c : Nat} (h : c < 128) : (Unicode.isAlpha c && (!(Unicode.isUpper c || Unicode.isTitle c))) = lowC c ∧ (lowC c = true → Unicode.isLower c = true) := by
  have q := List.all_eq_true.mp low_alpha c (List.mem_range.mpr h)
  rw [Bool.and_eq_true] at q
  refine ⟨eq_of_beq q.1, fun z => ?_⟩
  have q2 := q.2
  rw [z] at q2
  simpa using q2
theorem low_str (s : Str) : (Txt.isascii s && (Txt.isalpha s && Txt.islower s)) = (decide (1 ≤ s.length) && s.cps.toList.all lowC) := by
  rw [Bool.eq_iff_iff]
  unfold Txt.isascii Txt.isalpha Txt.islower
  simp only [Bool.and_eq_true, Array.all_eq_true_iff_forall_mem, decide_eq_true_eq, List.all_eq_true, Array.mem_toList_iff, Bool.not_eq_true', Array.any_eq_true, Array.any_eq_false]
  constructor
  · rintro ⟨h1, ⟨h2, h3⟩, h4, h5⟩
    refine ⟨h2, fun c hc => ?_⟩
    rw [← (low_at (h1 c hc)).1, h3 c hc, Bool.true_and]
    obtain ⟨i, hi, e⟩ := Array.getElem_of_mem hc
    have q := h5 i hi
    rw [e] at q
    simpa using q
  · rintro ⟨h1, h2⟩
    have h128 : ∀ c ∈ s.cps, c < 128 := fun c hc => by
      have q := h2 c hc
      unfold lowC at q
      rw [Bool.and_eq_true, decide_eq_true_eq, decide_eq_true_eq] at q
      omega
    have hA : ∀ c ∈ s.cps, Unicode.isAlpha c = true ∧ (Unicode.isUpper c || Unicode.isTitle c) = false := fun c hc => by
      have q := (low_at (h128 c hc)).1
      rw [h2 c hc, Bool.and_eq_true] at q
      exact ⟨q.1, by simpa using q.2⟩
    refine ⟨h128, ⟨h1, fun c hc => (hA c hc).1⟩, ⟨0, h1, ?_⟩, fun i hi => ?_⟩
    · exact (low_at (h128 _ (Array.getElem_mem h1))).2 (h2 _ (Array.getElem_mem h1))
    · have q := (hA _ (Array.getElem_mem hi)).2
      simpa using q
theorem p_name (x : PyData) (kf : W → Bool) (h : ∀ s, x = .str s → s.length ≤ sizeLine) : F_is_name noX [.d x] kf = kf (.d (.bool (nameB x))) := by
  unfold F_is_name
  cases x with
  | str s =>
    have hz := h s rfl
    show (decide (s.length ≤ sizeLine) && (if decide ((8 : Int) < ((s.length : Nat) : Int)) = true then _ else _)) = _
    rw [decide_eq_true hz, Bool.true_and]
    have e : nameB (.str s) = (decide (s.length ≤ 8) && (Txt.isascii s && (Txt.isalpha s && Txt.islower s))) := by
      rw [low_str]
      show (decide (1 ≤ s.length) && (decide (s.length ≤ 8) && s.cps.toList.all lowC)) = _
      cases decide (1 ≤ s.length) <;> cases decide (s.length ≤ 8) <;> rfl
    rw [e]
    by_cases h8 : s.length ≤ 8
    · rw [decide_eq_true h8, Bool.true_and, if_neg (by rw [decide_eq_true_eq]; omega)]
      show mAnd (mC (.bool (Txt.isascii s))) (mAnd (mC (.bool (Txt.isalpha s))) (mC (.bool (Txt.islower s)))) noX [] (fun y r1 => kf (y.esc r1).1) = _
      generalize Txt.isascii s = a
      generalize Txt.isalpha s = b
      generalize Txt.islower s = c
      cases a <;> cases b <;> rfl
    · rw [decide_eq_false h8, Bool.false_and, if_pos (by rw [decide_eq_true_eq]; omega)]
      rfl
  | _ => rfl
theorem abc_eq : ("abcdefghijklmnopqrstuvwxyz" : Str).cps.toList = (List.range 26).map (· + 97) := by decide +kernel
theorem abc_low (c : Nat) : decide (c ∈ ("abcdefghijklmnopqrstuvwxyz" : Str).cps.toList) = lowC c := by
  rw [abc_eq, Bool.eq_iff_iff, decide_eq_true_eq]
  unfold lowC
  rw [Bool.and_eq_true, decide_eq_true_eq, decide_eq_true_eq, List.mem_map]
  constructor
  · rintro ⟨a, ha, rfl⟩
    have := List.mem_range.mp ha
    omega
  · rintro ⟨h1, h2⟩
    exact ⟨c - 97, List.mem_range.mpr (by omega), by omega⟩
def offS : PyData → Bool
  | .str z => (match z.cps.toList with
    | [c] => xor true (decide (c ∈ ("abcdefghijklmnopqrstuvwxyz" : Str).cps.toList))
    | _ => false)
  | _ => false
theorem off_all (s : Str) : ((signs s).filter offS).isEmpty = s.cps.toList.all lowC := by
  unfold signs
  induction s.cps.toList with
  | nil => rfl
  | cons c cs ih =>
    rw [List.map_cons, List.all_cons]
    have e : offS (.str ⟨#[c]⟩) = !lowC c := by
      show xor true (decide (c ∈ ("abcdefghijklmnopqrstuvwxyz" : Str).cps.toList)) = _
      rw [abc_low, Bool.true_xor]
    cases h : lowC c with
    | true => rw [List.filter_cons_of_neg (by rw [e, h]; exact Bool.false_ne_true), ih, Bool.true_and]
    | false => rw [List.filter_cons_of_pos (by rw [e, h]; rfl), Bool.false_and]; rfl
theorem lay_filter (p : PyData → Bool) : ∀ {xs : List PyData}, PyData.canLayAll0 xs = true → PyData.canLayAll0 (xs.filter p) = true
  | [], h => h
  | x :: xs, h => by
    have h' : x.canLay0 = true ∧ PyData.canLayAll0 xs = true := by simpa only [PyData.canLayAll0, Bool.and_eq_true] using h
    by_cases hp : p x = true
    · rw [List.filter_cons_of_pos (hp)]
      simp only [PyData.canLayAll0, Bool.and_eq_true]
      exact ⟨h'.1, lay_filter p h'.2⟩
    · rw [List.filter_cons_of_neg hp]
      exact lay_filter p h'.2
theorem depth_filter (p : PyData → Bool) : ∀ (xs : List PyData), PyData.depthAll (xs.filter p) ≤ PyData.depthAll xs
  | [] => Nat.le_refl _
  | x :: xs => by
    have ih := depth_filter p xs
    by_cases hp : p x = true
    · rw [List.filter_cons_of_pos (hp)]
      simp only [PyData.depthAll]
      omega
    · rw [List.filter_cons_of_neg hp]
      simp only [PyData.depthAll]
      omega
theorem lay_signs (s : Str) (h : PyData.strOk s = true) : PyData.canLayAll0 (signs s) = true ∧ PyData.depthAll (signs s) = 0 := by
  have hc : ∀ c ∈ s.cps.toList, c < 0x110000 := fun c hc => by
    unfold PyData.strOk at h
    have q := (Array.all_eq_true_iff_forall_mem.mp h) c (Array.mem_toList_iff.mp hc)
    simpa using q
  unfold signs
  revert hc
  induction s.cps.toList with
  | nil => intro _; exact ⟨rfl, rfl⟩
  | cons c cs ih =>
    intro hc
    obtain ⟨i1, i2⟩ := ih fun d hd => hc d (List.mem_cons_of_mem _ hd)
    rw [List.map_cons]
    simp only [PyData.canLayAll0, PyData.depthAll, PyData.canLay0, Bool.and_eq_true]
    refine ⟨⟨?_, i1⟩, ?_⟩
    · unfold PyData.strOk
      have := hc c (List.mem_cons_self ..)
      simpa using this
    · rw [i2]
      simp [PyData.depth]
theorem shaped_list {xs : List PyData} (h1 : PyData.canLayAll0 xs = true) (h2 : PyData.depthAll xs ≤ 63) : SeqAt.shaped (.list xs) = true := by
  unfold SeqAt.shaped
  rw [Bool.and_eq_true]
  refine ⟨by simpa [PyData.canLay0] using h1, decide_eq_true ?_⟩
  have e : PyData.depth (.list xs) = PyData.depthAll xs + 1 := by simp only [PyData.depth]
  omega
theorem eqv_empty (xs : List PyData) : PyData.eqv (.list xs) (.list []) = xs.isEmpty := by
  cases xs <;> simp [PyData.eqv, PyData.eqvAll]
theorem l_name (x : PyData) (kf : W → Bool) (h : ∀ s, x = .str s → s.length < sizeLine ∧ PyData.strOk s = true) : F_q_is_name noX [.d x] kf = kf (.d (.bool (nameB x))) := by
  unfold F_q_is_name
  cases x with
  | str s =>
    obtain ⟨hz, hs⟩ := h s rfl
    have hz' : s.length ≤ sizeLine := Nat.le_of_lt hz
    show (decide (s.length ≤ sizeLine) && (if decide ((1 : Int) ≤ ((s.length : Nat) : Int)) = true then _ else _)) = _
    rw [decide_eq_true hz', Bool.true_and]
    by_cases h1 : 1 ≤ s.length
    · rw [if_pos (by rw [decide_eq_true_eq]; omega)]
      by_cases h8 : s.length ≤ 8
      · have e8 : decide (((s.length : Nat) : Int) ≤ 8) = true := by rw [decide_eq_true_eq]; omega
        have go := lcGo_pure (i := 1) (t := tV (mB (fInS true) (mV 1) (mC (.str "abcdefghijklmnopqrstuvwxyz")))) (m := mV 1) (r := [.val (.d (.str s)), .un]) offS id (signs s) [] [.val (.d (.str s)), .un]
          (fun acc r2 => mLst aNil noX r2 fun y2 r3 => fEq false (.fr acc) y2 r3 fun y _ => kf (y.esc []).1) (fun _ => rfl) (by unfold signs; rw [List.length_map]; show 0 + s.cps.size ≤ _; have : s.cps.size = s.length := rfl; omega)
          (fun x hx k => by
            unfold signs at hx
            obtain ⟨c, _, rfl⟩ := List.mem_map.mp hx
            rfl) (fun x hx _ k => rfl)
        show (if (!decide (((s.length : Nat) : Int) ≤ 8)) = true then _ else mLcGo 1 _ _ (signs s) [] _ _) = _
        rw [e8]
        show mLcGo 1 _ _ (signs s) [] _ (fun acc r2 => (fun (acc : List PyData) (r2 : Rho) => mLst aNil noX r2 fun y2 r3 => fEq false (.fr acc) y2 r3 fun y _ => kf (y.esc []).1) acc (r2.set 1 .un)) = _
        refine go.trans ?_
        rw [List.nil_append, List.map_id]
        obtain ⟨l1, l2⟩ := lay_signs s hs
        show (SeqAt.shaped (.list ((signs s).filter offS)) && (SeqAt.shaped (.list []) && kf (.d (.bool (xor false (PyData.eqv (.list ((signs s).filter offS)) (.list []))))))) = _
        rw [shaped_list (lay_filter offS l1) (by have := depth_filter offS (signs s); omega), eqv_empty, off_all, Bool.false_xor, Bool.true_and]
        show kf (.d (.bool (s.cps.toList.all lowC))) = kf (.d (.bool (decide (1 ≤ s.length) && (decide (s.length ≤ 8) && s.cps.toList.all lowC))))
        rw [decide_eq_true h1, decide_eq_true h8]
        rfl
      · have e8 : decide (((s.length : Nat) : Int) ≤ 8) = false := by rw [decide_eq_false_iff_not]; omega
        show (if (!decide (((s.length : Nat) : Int) ≤ 8)) = true then _ else _) = _
        rw [e8]
        show kf (.d (.bool false)) = kf (.d (.bool (decide (1 ≤ s.length) && (decide (s.length ≤ 8) && s.cps.toList.all lowC))))
        rw [decide_eq_false h8, Bool.false_and, Bool.and_false]
    · rw [if_neg (by rw [decide_eq_true_eq]; omega)]
      show kf (.d (.bool false)) = kf (.d (.bool (decide (1 ≤ s.length) && (decide (s.length ≤ 8) && s.cps.toList.all lowC))))
      rw [decide_eq_false h1, Bool.false_and]
  | _ => rfl
/-- data of moderate size -/
structure Gd (x : PyData) : Prop where
  lay : x.canLay0 = true
  sh : x.showable = true
  dp : x.depth ≤ 20
  wt : x.weight ≤ 8000
theorem big : 8000 < sizeLine := by decide
theorem Gd.str {s : Str} (h : Gd (.str s)) : s.length < sizeLine ∧ PyData.strOk s = true := by
  have h1 := h.wt
  have h2 := h.lay
  simp only [PyData.weight, PyData.canLay0] at h1 h2
  exact ⟨Nat.lt_of_le_of_lt h1 big, h2⟩
theorem Gd.s1 {x : PyData} (h : Gd x) : ∀ s, x = .str s → s.length ≤ sizeLine := fun s e => by subst e; exact Nat.le_of_lt h.str.1
theorem Gd.s2 {x : PyData} (h : Gd x) : ∀ s, x = .str s → s.length < sizeLine ∧ PyData.strOk s = true := fun s e => by subst e; exact h.str
theorem all_mem : ∀ {xs : List PyData} {y : PyData}, y ∈ xs → PyData.canLayAll0 xs = true → PyData.showableAll xs = true → y.canLay0 = true ∧ y.showable = true ∧ y.depth ≤ PyData.depthAll xs ∧ y.weight + 1 ≤ PyData.weightAll xs
  | x :: xs, y, hy, h1, h2 => by
    simp only [PyData.canLayAll0, PyData.showableAll, Bool.and_eq_true] at h1 h2
    simp only [PyData.depthAll, PyData.weightAll]
    cases hy with
    | head => exact ⟨h1.1, h2.1, Nat.le_max_left .., by omega⟩
    | tail _ hy =>
      obtain ⟨q1, q2, q3, q4⟩ := all_mem hy h1.2 h2.2
      exact ⟨q1, q2, Nat.le_trans q3 (Nat.le_max_right ..), by omega⟩
theorem Gd.tup {xs : List PyData} (h : Gd (.tuple xs)) {y : PyData} (hy : y ∈ xs) : Gd y := by
  have h1 := h.lay
  have h2 := h.sh
  have h3 := h.dp
  have h4 := h.wt
  simp only [PyData.canLay0, PyData.showable, PyData.depth, PyData.weight] at h1 h2 h3 h4
  obtain ⟨q1, q2, q3, q4⟩ := all_mem hy h1 h2
  exact ⟨q1, q2, by omega, by omega⟩
theorem p_spot (x : PyData) (kf : W → Bool) (h : Gd x) : F_is_spot noX [.d x] kf = kf (.d (.bool (spotB x))) := by
  unfold F_is_spot
  refine (p_name x _ h.s1).trans ?_
  cases x with
  | str s =>
    show (match some (PyData.bool (nameS s)) with | some (.bool false) => _ | some (.bool true) => _ | _ => false) = kf (.d (.bool (nameS s || s == "")))
    generalize nameS s = b
    cases b
    · show kf (.d (.bool (xor false (s == "")))) = _
      rw [Bool.false_xor]
      rfl
    · rfl
  | _ => rfl
theorem l_spot (x : PyData) (kf : W → Bool) (h : Gd x) : F_q_is_spot noX [.d x] kf = kf (.d (.bool (spotB x))) := by
  unfold F_q_is_spot
  refine (l_name x _ h.s2).trans ?_
  cases x with
  | str s =>
    show (match some (PyData.bool (nameS s)) with | some (.bool false) => _ | some (.bool true) => _ | _ => false) = kf (.d (.bool (nameS s || s == "")))
    generalize nameS s = b
    cases b
    · show kf (.d (.bool (xor false (s == "")))) = _
      rw [Bool.false_xor]
      rfl
    · rfl
  | _ => rfl
theorem len_off {xs : List PyData} {j : Int} (h : (xs.length : Int) ≠ j) : xor true (PyData.eqv (.int xs.length) (.int j)) = true := by
  have e : PyData.eqv (.int xs.length) (.int j) = ((xs.length : Int) == j) := by simp only [PyData.eqv]
  rw [e, Bool.true_xor, beq_eq_false_iff_ne.mpr h]
  rfl
theorem name_str {x : PyData} (h : nameB x = true) : ∃ s, x = .str s := by
  cases x with
  | str s => exact ⟨s, rfl⟩
  | _ => cases h
theorem spot_str {x : PyData} (h : spotB x = true) : ∃ s, x = .str s := by
  cases x with
  | str s => exact ⟨s, rfl⟩
  | _ => cases h
theorem p_folder (x : PyData) (kf : W → Bool) (h : Gd x) : F_is_folder noX [.d x] kf = kf (.d (.bool (folderB x))) := by
  unfold F_is_folder
  cases x with
  | tuple xs =>
    match xs, h with
    | [], _ => rfl
    | [_], _ => rfl
    | [_, _], _ => rfl
    | [a, b, c], h =>
      have ga := h.tup (y := a) (by simp)
      have gb := h.tup (y := b) (by simp)
      refine (p_name a _ ga.s1).trans ?_
      show _ = kf (.d (.bool (nameB a && (spotB b && (!sameB b a && numB c)))))
      cases ha : nameB a with
      | false => rfl
      | true =>
        refine (p_spot b _ gb).trans ?_
        cases hb : spotB b with
        | false => rfl
        | true =>
          obtain ⟨sa, rfl⟩ := name_str ha
          obtain ⟨sb, rfl⟩ := spot_str hb
          show (match some (PyData.bool (xor true (sb == sa))) with | some (.bool true) => _ | some (.bool false) => _ | _ => false) = kf (.d (.bool (true && (true && (!(sb == sa) && numB c)))))
          rw [Bool.true_xor]
          cases (!(sb == sa)) with
          | false => rfl
          | true => exact p_num c _
    | a :: b :: c :: d :: r, _ =>
      rfl
  | _ => rfl
theorem l_folder (x : PyData) (kf : W → Bool) (h : Gd x) : F_q_is_folder noX [.d x] kf = kf (.d (.bool (folderB x))) := by
  unfold F_q_is_folder
  cases x with
  | tuple xs =>
    match xs, h with
    | [], _ => rfl
    | [_], _ => rfl
    | [_, _], _ => rfl
    | [a, b, c], h =>
      have ga := h.tup (y := a) (by simp)
      have gb := h.tup (y := b) (by simp)
      refine (l_name a _ ga.s2).trans ?_
      show _ = kf (.d (.bool (nameB a && (spotB b && (!sameB b a && numB c)))))
      cases ha : nameB a with
      | false => rfl
      | true =>
        refine (l_spot b _ gb).trans ?_
        cases hb : spotB b with
        | false => rfl
        | true =>
          obtain ⟨sa, rfl⟩ := name_str ha
          obtain ⟨sb, rfl⟩ := spot_str hb
          show (match some (PyData.bool (xor true (sa == sb))) with | some (.bool true) => _ | some (.bool false) => _ | _ => false) = kf (.d (.bool (true && (true && (!(sb == sa) && numB c)))))
          rw [Bool.true_xor, show (sa == sb) = (sb == sa) from BEq.comm]
          cases (!(sb == sa)) with
          | false => rfl
          | true => exact l_num c _
    | a :: b :: c :: d :: r, _ =>
      rfl
  | _ => rfl
theorem p_move (x : PyData) (kf : W → Bool) (h : Gd x) : F_is_move noX [.d x] kf = kf (.d (.bool (moveB x))) := by
  unfold F_is_move
  cases x with
  | tuple xs =>
    match xs, h with
    | [], _ => rfl
    | [_], _ => rfl
    | [a, b], h =>
      have ga := h.tup (y := a) (by simp)
      have gb := h.tup (y := b) (by simp)
      refine (p_spot a _ ga).trans ?_
      show _ = kf (.d (.bool (spotB a && (spotB b && !sameB a b))))
      cases ha : spotB a with
      | false => rfl
      | true =>
        refine (p_spot b _ gb).trans ?_
        cases hb : spotB b with
        | false => rfl
        | true =>
          obtain ⟨sa, rfl⟩ := spot_str ha
          obtain ⟨sb, rfl⟩ := spot_str hb
          show kf (.d (.bool (xor true (sa == sb)))) = kf (.d (.bool (true && (true && !(sa == sb)))))
          rw [Bool.true_xor]
          rfl
    | a :: b :: c :: r, _ =>
      rfl
  | _ => rfl
theorem l_move (x : PyData) (kf : W → Bool) (h : Gd x) : F_q_is_move noX [.d x] kf = kf (.d (.bool (moveB x))) := by
  unfold F_q_is_move
  cases x with
  | tuple xs =>
    match xs, h with
    | [], _ => rfl
    | [_], _ => rfl
    | [a, b], h =>
      have ga := h.tup (y := a) (by simp)
      have gb := h.tup (y := b) (by simp)
      refine (l_spot a _ ga).trans ?_
      show _ = kf (.d (.bool (spotB a && (spotB b && !sameB a b))))
      cases ha : spotB a with
      | false => rfl
      | true =>
        refine (l_spot b _ gb).trans ?_
        cases hb : spotB b with
        | false => rfl
        | true =>
          obtain ⟨sa, rfl⟩ := spot_str ha
          obtain ⟨sb, rfl⟩ := spot_str hb
          show kf (.d (.bool (xor true (sa == sb)))) = kf (.d (.bool (true && (true && !(sa == sb)))))
          rw [Bool.true_xor]
          rfl
    | a :: b :: c :: r, _ =>
      rfl
  | _ => rfl
def posB : PyData → Bool
  | .int i => decide (0 < i)
  | _ => false
def bulkL : List PyData → Bool
  | [a, b, c] => moveL [a, b] && posB c
  | _ => false
def bulkB : PyData → Bool
  | .tuple xs => bulkL xs
  | _ => false
theorem Gd.two {a b c : PyData} (h : Gd (.tuple [a, b, c])) : Gd (.tuple [a, b]) := by
  have h1 := h.lay
  have h2 := h.sh
  have h3 := h.dp
  have h4 := h.wt
  simp only [PyData.canLay0, PyData.showable, PyData.depth, PyData.weight, PyData.canLayAll0, PyData.showableAll, PyData.depthAll, PyData.weightAll, Bool.and_eq_true] at h1 h2 h3 h4
  refine ⟨?_, ?_, ?_, ?_⟩
  · simp only [PyData.canLay0, PyData.canLayAll0, Bool.and_eq_true]
    exact ⟨h1.1, h1.2.1, trivial⟩
  · simp only [PyData.showable, PyData.showableAll, Bool.and_eq_true]
    exact ⟨h2.1, h2.2.1, trivial⟩
  · simp only [PyData.depth, PyData.depthAll]
    omega
  · simp only [PyData.weight, PyData.weightAll]
    omega
end K01

set_option Elab.async false
set_option linter.all false
set_option maxRecDepth 100000
set_option maxHeartbeats 390000
namespace K01
open PySem L2 Pz
theorem p_bulk (x : PyData) (kf : W → Bool) (h : Gd x) : F_is_bulk noX [.d x] kf = kf (.d (.bool (bulkB x))) := by
  unfold F_is_bulk
  cases x with
  | tuple xs =>
    match xs, h with
    | [], _ => rfl
    | [_], _ => rfl
    | [_, _], _ => rfl
    | [a, b, c], h =>
      refine (p_move (.tuple [a, b]) _ h.two).trans ?_
      show _ = kf (.d (.bool (moveB (.tuple [a, b]) && posB c)))
      cases hm : moveB (.tuple [a, b]) with
      | false => rfl
      | true =>
        refine (p_num c _).trans ?_
        cases c with
        | int i =>
          show (match some (PyData.bool (decide (0 ≤ i))) with | some (.bool true) => kf (.d (.bool (decide ((1 : Int) ≤ i)))) | some (.bool false) => kf (.d (.bool false)) | _ => false) = kf (.d (.bool (true && decide (0 < i))))
          by_cases h0 : 0 < i
          · rw [decide_eq_true h0, decide_eq_true (show 0 ≤ i by omega)]
            show kf (.d (.bool (decide ((1 : Int) ≤ i)))) = _
            rw [decide_eq_true (show (1 : Int) ≤ i by omega)]
            rfl
          · rw [decide_eq_false h0]
            by_cases h1 : 0 ≤ i
            · rw [decide_eq_true h1]
              show kf (.d (.bool (decide ((1 : Int) ≤ i)))) = _
              rw [decide_eq_false (show ¬ (1 : Int) ≤ i by omega)]
              rfl
            · rw [decide_eq_false h1]
              rfl
        | _ => rfl
    | a :: b :: c :: d :: r, _ => rfl
  | _ => rfl
theorem seqIf {t : MT} {n1 n2 : MS} {xq : XQ} {r : Rho} {K : KS} (b : Bool) (h : ∀ kk : Bool → Rho → Bool, t xq r kk = kk b r) : nSeq (nIf t n1 nNil) n2 xq r K = if b = true then nSeq n1 n2 xq r K else n2 xq r K := by
  unfold nSeq nIf
  rw [h]
  cases b <;> rfl
theorem orT_f {ta tb : MT} {xq : XQ} {r : Rho} {k : Bool → Rho → Bool} (h : ∀ kk : Bool → Rho → Bool, ta xq r kk = kk false r) : Pz.tOrT ta tb xq r k = tb xq r k := by
  unfold Pz.tOrT
  rw [h, if_neg (Bool.false_ne_true)]
theorem fOf_at {N ps : List Str} {n : MS} {w : W} {kf : W → Bool} (h : ps.length = 1) : fOf N ps n noX [w] kf = n noX (startR N [w]) { nx := fun _ => kf (.d .none), rt := kf } := by
  unfold fOf
  rw [decide_eq_true (show [w].length = ps.length from h.symm), Bool.true_and]
theorem l_bulk3 (a b c : PyData) (kf : W → Bool) (h : Gd (.tuple [a, b, c])) : F_q_is_bulk noX [.d (.tuple [a, b, c])] kf = kf (.d (.bool (bulkB (.tuple [a, b, c])))) := by
  have hA : ∀ kk : Bool → Rho → Bool, tNotT (tV (mIsi "tuple" (mV 0))) noX [S.val (.d (.tuple [a, b, c]))] kk = kk false [S.val (.d (.tuple [a, b, c]))] := fun _ => rfl
  have hB : ∀ kk : Bool → Rho → Bool, tV (mB (fEq true) (mU fLen (mV 0)) (mC (.int 3))) noX [S.val (.d (.tuple [a, b, c]))] kk = kk false [S.val (.d (.tuple [a, b, c]))] := fun _ => rfl
  have hC : ∀ kk : Bool → Rho → Bool, tNotT (tV (mCall F_q_is_move (aCons (mSl (mV 0) (oNo) (oYes (mC (.int 2)))) (aNil)))) noX [S.val (.d (.tuple [a, b, c]))] kk = kk (!moveB (.tuple [a, b])) [S.val (.d (.tuple [a, b, c]))] := fun kk => l_move (.tuple [a, b]) _ h.two
  have hT : ∀ kk : Bool → Rho → Bool, Pz.tOrT (tNotT (tV (mIsi "tuple" (mV 0)))) (Pz.tOrT (tV (mB (fEq true) (mU fLen (mV 0)) (mC (.int 3)))) (tNotT (tV (mCall F_q_is_move (aCons (mSl (mV 0) (oNo) (oYes (mC (.int 2)))) (aNil)))))) noX [S.val (.d (.tuple [a, b, c]))] kk = kk (!moveB (.tuple [a, b])) [S.val (.d (.tuple [a, b, c]))] := fun kk => by
    rw [orT_f hA, orT_f hB, hC]
  unfold F_q_is_bulk
  rw [fOf_at rfl]
  refine (seqIf (!moveB (.tuple [a, b])) hT).trans ?_
  show _ = kf (.d (.bool (moveB (.tuple [a, b]) && posB c)))
  cases hm : moveB (.tuple [a, b]) with
  | false => rfl
  | true =>
    rw [if_neg (by simp)]
    refine (l_num c _).trans ?_
    cases c with
    | int i =>
      show (match some (PyData.bool (decide (0 ≤ i))) with | some (.bool true) => kf (.d (.bool (decide ((0 : Int) < i)))) | some (.bool false) => kf (.d (.bool false)) | _ => false) = kf (.d (.bool (true && decide (0 < i))))
      by_cases h0 : 0 < i
      · rw [decide_eq_true h0, decide_eq_true (show 0 ≤ i by omega)]
        rfl
      · rw [decide_eq_false h0]
        cases decide (0 ≤ i) <;> rfl
    | _ => rfl
theorem l_bulk (x : PyData) (kf : W → Bool) (h : Gd x) : F_q_is_bulk noX [.d x] kf = kf (.d (.bool (bulkB x))) := by
  cases x with
  | tuple xs =>
    match xs, h with
    | [a, b, c], h => exact l_bulk3 a b c kf h
    | [], _ =>
      unfold F_q_is_bulk
      rfl
    | [_], _ =>
      unfold F_q_is_bulk
      rfl
    | [_, _], _ =>
      unfold F_q_is_bulk
      rfl
    | a :: b :: c :: d :: r, _ =>
      unfold F_q_is_bulk
      rfl
  | _ =>
    unfold F_q_is_bulk
    rfl
end K01

set_option Elab.async false
set_option linter.all false
set_option maxRecDepth 100000
set_option maxHeartbeats 390000
namespace K01
open PySem L2 Pz PySem.W PyProof.Rows
abbrev leD : PyData → PyData → Bool := PySem.W.dataLe false id
theorem leD_eq (a b : PyData) : leD a b = !dataLt b a := rfl
theorem leD_trans (a b c : PyData) : leD a b = true → leD b c = true → leD a c = true := by
  rw [leD_eq, leD_eq, leD_eq, Bool.not_eq_true', Bool.not_eq_true', Bool.not_eq_true']
  intro h1 h2
  cases h : dataLt c a with
  | false => rfl
  | true =>
    rcases lex_negTrans (O := itemOrd) (keyToks c) (keyToks b) (keyToks a) h with q | q
    · have q' : dataLt c b = true := q
      rw [h2] at q'; cases q'
    · have q' : dataLt b a = true := q
      rw [h1] at q'; cases q'
theorem leD_total (a b : PyData) : (leD a b || leD b a) = true := by
  rw [leD_eq, leD_eq]
  cases h1 : dataLt b a with
  | false => rfl
  | true =>
    cases h2 : dataLt a b with
    | false => rfl
    | true =>
      have q : dataLt b b = true := lex_trans (O := itemOrd) (keyToks b) (keyToks a) (keyToks b) h1 h2
      rw [show dataLt b b = false from lex_irrefl (O := itemOrd) _] at q
      cases q
/-- one behind another, in order -/
def inRow (xs : List PyData) : Prop := xs.Pairwise fun x y => leD x y = true
theorem row_of_next {xs : List PyData} (h : ∀ (i : Nat) (hi : i + 1 < xs.length), leD (xs[i]'(by omega)) xs[i + 1] = true) : inRow xs := by
  unfold inRow
  rw [(List.pairwise_iff_getElem)]
  intro i j hi hj hij
  obtain ⟨d, rfl⟩ : ∃ d, j = i + 1 + d := ⟨j - (i + 1), by omega⟩
  induction d with
  | zero => exact h i hj
  | succ d ih => exact leD_trans _ _ _ (ih (by omega) (by omega)) (h (i + 1 + d) hj)
theorem sort_of_row {xs : List PyData} (h : inRow xs) : xs.mergeSort leD = xs := List.mergeSort_of_pairwise h
theorem row_sort (xs : List PyData) : inRow (xs.mergeSort leD) := List.pairwise_mergeSort leD_trans leD_total xs
/-- a pair of texts -/
def pairS : PyData → Bool
  | .tuple [.str _, .str _] => true
  | _ => false
theorem eqv_pair {x y : PyData} (hx : pairS x = true) (hy : pairS y = true) : PyData.eqv x y = true ↔ x = y := by
  unfold pairS at hx hy
  split at hx
  · split at hy
    · simp [PyData.eqv, PyData.eqvAll]
    · cases hy
  · cases hx
theorem eqv_pairs : ∀ {xs ys : List PyData}, (∀ x ∈ xs, pairS x = true) → (∀ y ∈ ys, pairS y = true) → (PyData.eqvAll xs ys = true ↔ xs = ys)
  | [], [], _, _ => by simp [PyData.eqvAll]
  | [], _ :: _, _, _ => by simp [PyData.eqvAll]
  | _ :: _, [], _, _ => by simp [PyData.eqvAll]
  | x :: xs, y :: ys, hx, hy => by
    have h1 := eqv_pair (hx x (List.mem_cons_self ..)) (hy y (List.mem_cons_self ..))
    have h2 := eqv_pairs (xs := xs) (ys := ys) (fun z hz => hx z (List.mem_cons_of_mem _ hz)) (fun z hz => hy z (List.mem_cons_of_mem _ hz))
    simp only [PyData.eqvAll, Bool.and_eq_true, List.cons.injEq]
    rw [h1, h2]
theorem move_pair {x : PyData} (h : moveB x = true) : pairS x = true := by
  cases x with
  | tuple xs =>
    match xs, h with
    | [a, b], h =>
      have h' : (spotB a && (spotB b && !sameB a b)) = true := h
      simp only [Bool.and_eq_true] at h' ⊢
      obtain ⟨sa, rfl⟩ := spot_str h'.1
      obtain ⟨sb, rfl⟩ := spot_str h'.2.1
      rfl
  | _ => cases h
open Classical in
/-- moves by form -/
noncomputable def movesB : PyData → Bool
  | .tuple xs => xs.all moveB && decide (inRow xs)
  | _ => false
theorem eqv_sorted {xs : List PyData} (h : ∀ x ∈ xs, moveB x = true) : PyData.eqv (.list xs) (.list (xs.mergeSort leD)) = @decide (inRow xs) (Classical.propDecidable _) := by
  have e : PyData.eqv (.list xs) (.list (xs.mergeSort leD)) = PyData.eqvAll xs (xs.mergeSort leD) := by simp only [PyData.eqv]
  rw [e, Bool.eq_iff_iff]
  rw [eqv_pairs (fun x hx => move_pair (h x hx)) (fun y hy => move_pair (h y (List.mem_mergeSort.mp hy)))]
  constructor
  · intro q
    refine @decide_eq_true _ (Classical.propDecidable _) ?_
    rw [q]
    exact row_sort xs
  · intro q
    exact (sort_of_row (@of_decide_eq_true _ (Classical.propDecidable _) q)).symm
end K01

set_option Elab.async false
set_option linter.all false
set_option maxRecDepth 100000
set_option maxHeartbeats 390000
namespace K01
open PySem L2 Pz PySem.W PyProof.Rows
theorem layAll_of : ∀ {xs : List PyData}, (∀ x ∈ xs, x.canLay0 = true) → PyData.canLayAll0 xs = true
  | [], _ => by simp only [PyData.canLayAll0]
  | x :: xs, h => by
    simp only [PyData.canLayAll0, Bool.and_eq_true]
    exact ⟨h x (List.mem_cons_self ..), layAll_of fun y hy => h y (List.mem_cons_of_mem _ hy)⟩
theorem depthAll_of {n : Nat} : ∀ {xs : List PyData}, (∀ x ∈ xs, x.depth ≤ n) → PyData.depthAll xs ≤ n
  | [], _ => by simp [PyData.depthAll]
  | x :: xs, h => by
    simp only [PyData.depthAll]
    exact Nat.max_le.mpr ⟨h x (List.mem_cons_self ..), depthAll_of fun y hy => h y (List.mem_cons_of_mem _ hy)⟩
theorem bools_map (f : PyData → Bool) : ∀ xs : List PyData, bools (xs.map fun x => .bool (f x)) = some (xs.map f)
  | [] => rfl
  | x :: xs => by
    rw [List.map_cons]; rw [List.map_cons]
    unfold bools
    rw [bools_map f xs]
    rfl
theorem alike_pair {x y : PyData} (hx : pairS x = true) (hy : pairS y = true) : alike x y = true := by
  unfold pairS at hx hy
  split at hx
  · split at hy
    · simp [alike, alikeAll]
    · cases hy
  · cases hx
theorem Gd.len {xs : List PyData} (h : Gd (.tuple xs)) : xs.length ≤ 8000 := by
  have h1 := h.wt
  simp only [PyData.weight] at h1
  have : ∀ ys : List PyData, ys.length ≤ PyData.weightAll ys := fun ys => by
    induction ys with
    | nil => simp
    | cons y ys ih => simp only [PyData.weightAll, List.length_cons]; omega
  exact Nat.le_trans (this xs) h1
theorem p_moves (x : PyData) (kf : W → Bool) (h : Gd x) : F_is_moves noX [.d x] kf = kf (.d (.bool (movesB x))) := by
  unfold F_is_moves
  cases x with
  | tuple xs =>
    have hl := h.len
    have hA : ∀ kk : Bool → Rho → Bool, tNotT (tV (mIsi "tuple" (mV 0))) noX [S.val (.d (.tuple xs)), .un] kk = kk false [S.val (.d (.tuple xs)), .un] := fun _ => rfl
    have hB : ∀ kk : Bool → Rho → Bool, tNotT (tV (mU fAll (mLc 1 (miT (mV 0)) (fun _ r k => k true r) (mCall F_is_move (aCons (mV 1) (aNil)))))) noX [S.val (.d (.tuple xs)), .un] kk = kk (!xs.all moveB) [S.val (.d (.tuple xs)), .un] := fun kk => by
      have go := lcGo_pure (i := 1) (t := fun _ r k => k true r) (m := mCall F_is_move (aCons (mV 1) aNil)) (r := [S.val (.d (.tuple xs)), .un]) (fun _ => true) (fun y => .bool (moveB y)) xs [] [S.val (.d (.tuple xs)), .un]
        (fun a r3 => fAll (.fr a) r3 fun z r4 => match z.dat with | some (.bool b) => kk (!b) r4 | _ => false) (fun _ => rfl) (by show 0 + xs.length ≤ _; have := big; omega) (fun _ _ _ => rfl) (fun y hy _ k => p_move y _ (h.tup hy))
      refine Eq.trans ?_ (go.trans ?_)
      · rfl
      · rw [List.nil_append, List.filter_eq_self.mpr (fun _ _ => rfl)]
        show (match bools (xs.map fun y => .bool (moveB y)) with | some bs => kk (!(bs.all id)) [S.val (.d (.tuple xs)), .un] | none => false) = _
        rw [bools_map]
        show kk (!((xs.map moveB).all id)) _ = _
        rw [List.all_map]
        rfl
    have hT : ∀ kk : Bool → Rho → Bool, Pz.tOrT (tNotT (tV (mIsi "tuple" (mV 0)))) (tNotT (tV (mU fAll (mLc 1 (miT (mV 0)) (fun _ r k => k true r) (mCall F_is_move (aCons (mV 1) (aNil))))))) noX [S.val (.d (.tuple xs)), .un] kk = kk (!xs.all moveB) [S.val (.d (.tuple xs)), .un] := fun kk => by
      rw [orT_f hA, hB]

    rw [fOf_at rfl]
    refine (seqIf (!xs.all moveB) hT).trans ?_
    cases hm : xs.all moveB with
    | false =>
      show kf (.d (.bool false)) = kf (.d (.bool (xs.all moveB && _)))
      rw [hm]
      rfl
    | true =>
      rw [if_neg (by simp)]
      have hmv : ∀ x ∈ xs, moveB x = true := List.all_eq_true.mp hm
      have hp : ∀ x ∈ xs, pairS x = true := fun x hx => move_pair (hmv x hx)
      have a1 : alikeB xs = true := List.all_eq_true.mpr fun x hx => List.all_eq_true.mpr fun y hy => alike_pair (hp x hx) (hp y hy)
      have a2 : sortB xs = true := by
        unfold sortB
        rw [Bool.or_eq_true]
        left
        refine List.all_eq_true.mpr fun x hx => ?_
        have q := hp x hx
        unfold pairS at q
        split at q
        · rfl
        · cases q
      have a3 : xs.all (fun d => decide (d.depth ≤ 60)) = true := List.all_eq_true.mpr fun x hx => decide_eq_true (by have := (h.tup hx).dp; omega)
      have a4 : decide (xs.length ≤ sizeLine) = true := decide_eq_true (by have := big; omega)
      have s1 : SeqAt.shaped (.list xs) = true := shaped_list (layAll_of fun x hx => (h.tup hx).lay) (depthAll_of fun x hx => by have := (h.tup hx).dp; omega)
      have s2 : SeqAt.shaped (.list (xs.mergeSort leD)) = true := shaped_list (layAll_of fun x hx => (h.tup (List.mem_mergeSort.mp hx)).lay) (depthAll_of fun x hx => by have := (h.tup (List.mem_mergeSort.mp hx)).dp; omega)
      show (alikeB xs && (sortB xs && (decide (xs.length ≤ sizeLine) && (xs.all (fun d => decide (d.depth ≤ 60)) && (SeqAt.shaped (.list xs) && (SeqAt.shaped (.list (xs.mergeSort leD)) && kf (.d (.bool (xor false (PyData.eqv (.list xs) (.list (xs.mergeSort leD))))))))))) ) = kf (.d (.bool (xs.all moveB && @decide (inRow xs) (Classical.propDecidable _))))
      rw [a1, a2, a3, a4, s1, s2, eqv_sorted hmv, Bool.false_xor, hm]
      simp only [Bool.true_and]
  | _ => rfl
def offI (xs : List PyData) : PyData → Bool
  | .int k => (match atI xs k, atI xs (k - 1) with
    | some x, some y => dataLt x y
    | _, _ => false)
  | _ => false
theorem at_nat {xs : List PyData} {i : Nat} (h : i < xs.length) : atI xs ((i : Nat) : Int) = some xs[i] := by
  unfold atI ixN
  rw [if_pos (by omega)]; rw [if_pos (by omega)]
  show xs[((i : Nat) : Int).toNat]? = _
  rw [Int.toNat_natCast, List.getElem?_eq_getElem h]
theorem ints_mem : ∀ (n : Nat) (lo : Int) (d : PyData), d ∈ intsD lo n → ∃ i : Nat, i < n ∧ d = .int (lo + i)
  | n + 1, lo, d, h => by
    unfold intsD at h
    cases h with
    | head => exact ⟨0, by omega, by simp⟩
    | tail _ h =>
      obtain ⟨i, h1, rfl⟩ := ints_mem n (lo + 1) d h
      exact ⟨i + 1, by omega, by congr 1; push_cast; omega⟩
theorem ints_has : ∀ (n : Nat) (lo : Int) (i : Nat), i < n → PyData.int (lo + i) ∈ intsD lo n
  | n + 1, lo, 0, _ => by
    unfold intsD
    simp
  | n + 1, lo, i + 1, h => by
    unfold intsD
    have q := ints_has n (lo + 1) i (by omega)
    have e : lo + 1 + (i : Int) = lo + ((i + 1 : Nat) : Int) := by push_cast; omega
    rw [e] at q
    exact List.mem_cons_of_mem _ q
theorem off_int {xs : List PyData} {i : Nat} (h : i + 1 < xs.length) : offI xs (.int (1 + (i : Int))) = dataLt xs[i + 1] (xs[i]'(by omega)) := by
  have e1 : (1 : Int) + (i : Int) = ((i + 1 : Nat) : Int) := by push_cast; omega
  have e2 : ((i + 1 : Nat) : Int) - 1 = ((i : Nat) : Int) := by push_cast; omega
  rw [e1]
  show (match atI xs ((i + 1 : Nat) : Int), atI xs (((i + 1 : Nat) : Int) - 1) with | some x, some y => dataLt x y | _, _ => false) = _
  rw [e2, at_nat h, at_nat (show i < xs.length by omega)]
theorem off_row (xs : List PyData) : ((intsD 1 (xs.length - 1)).filter (offI xs)).isEmpty = @decide (inRow xs) (Classical.propDecidable _) := by
  rw [Bool.eq_iff_iff, List.isEmpty_iff, List.filter_eq_nil_iff]
  constructor
  · intro h
    refine @decide_eq_true _ (Classical.propDecidable _) (row_of_next fun i hi => ?_)
    have q := h _ (ints_has (xs.length - 1) 1 i (by omega))
    rw [off_int hi] at q
    rw [leD_eq, Bool.not_eq_true']
    simpa using q
  · intro h d hd
    have h := @of_decide_eq_true _ (Classical.propDecidable _) h
    obtain ⟨i, hi, rfl⟩ := ints_mem _ _ d hd
    rw [off_int (show i + 1 < xs.length by omega)]
    have q := List.pairwise_iff_getElem.mp h i (i + 1) (by omega) (by omega) (by omega)
    rw [leD_eq, Bool.not_eq_true'] at q
    rw [q]
    exact Bool.false_ne_true
theorem ints_lay : ∀ (n : Nat) (lo : Int), PyData.canLayAll0 (intsD lo n) = true ∧ PyData.depthAll (intsD lo n) = 0
  | 0, _ => by unfold intsD; simp [PyData.canLayAll0, PyData.depthAll]
  | n + 1, lo => by
    obtain ⟨h1, h2⟩ := ints_lay n (lo + 1)
    unfold intsD
    simp [PyData.canLayAll0, PyData.depthAll, PyData.canLay0, PyData.depth, h1, h2]
theorem ints_len : ∀ (n : Nat) (lo : Int), (intsD lo n).length = n
  | 0, _ => by unfold intsD; rfl
  | n + 1, lo => by
    unfold intsD
    rw [List.length_cons, ints_len n (lo + 1)]
theorem none_off (xs : List PyData) : (xs.filter fun y => !moveB y).isEmpty = xs.all moveB := by
  rw [Bool.eq_iff_iff, List.isEmpty_iff, List.filter_eq_nil_iff, List.all_eq_true]
  simp
theorem miR2_at {ma mb : M} {r : Rho} {k : List PyData → Rho → Bool} {i j : Int} (ha : ∀ k' : KE, ma noX r k' = k' (.val (.d (.int i))) r) (hb : ∀ k' : KE, mb noX r k' = k' (.val (.d (.int j))) r) (b1 : decide (-(2 ^ 62) ≤ i) = true) (b2 : decide (i < 2 ^ 62) = true) (b3 : decide (-(2 ^ 62) ≤ j) = true) (b4 : decide (j < 2 ^ 62) = true) :
    miR2 ma mb noX r k = k (intsD i (j - i).toNat) r := by
  unfold miR2
  rw [ha, hb]
  show (decide (-(2 ^ 62) ≤ i) && (decide (i < 2 ^ 62) && (decide (-(2 ^ 62) ≤ j) && (decide (j < 2 ^ 62) && k (intsD i (j - i).toNat) r)))) = _
  rw [b1, b2, b3, b4]
  rfl
theorem retB {f : R → R → Rho → KE → Bool} {ma mb : M} {r : Rho} {K : KS} : nRet (mB f ma mb) noX r K = ma noX r (fun y1 r1 => mb noX r1 fun y2 r2 => f y1 y2 r2 fun y r3 => K.rt (y.esc r3).1) := rfl
theorem lc_at {i : Nat} {mi : MI} {t : MT} {m : M} {r : Rho} {k : KE} {xs : List PyData} (h : ∀ k' : List PyData → Rho → Bool, mi noX r k' = k' xs r) (hu : r[i]? = some S.un) : mLc i mi t m noX r k = mLcGo i t m xs [] r (fun acc r2 => k (.fr acc) (r2.set i .un)) := by
  unfold mLc
  rw [h]
  show (match r[i]? with | some S.un => mLcGo i t m xs [] r (fun acc r2 => k (.fr acc) (r2.set i .un)) | _ => false) = _
  rw [hu]
theorem l_moves (x : PyData) (kf : W → Bool) (h : Gd x) : F_q_is_moves noX [.d x] kf = kf (.d (.bool (movesB x))) := by
  unfold F_q_is_moves
  cases x with
  | tuple xs =>
    have hl := h.len
    have hA : ∀ kk : Bool → Rho → Bool, tNotT (tV (mIsi "tuple" (mV 0))) noX [S.val (.d (.tuple xs)), .un, .un] kk = kk false [S.val (.d (.tuple xs)), .un, .un] := fun _ => rfl
    have hB : ∀ kk : Bool → Rho → Bool, tV (mB (fEq true) (mLc 2 (miT (mV 0)) (tNotT (tV (mCall F_q_is_move (aCons (mV 2) (aNil))))) (mV 2)) (mLst (aNil))) noX [S.val (.d (.tuple xs)), .un, .un] kk = kk (!xs.all moveB) [S.val (.d (.tuple xs)), .un, .un] := fun kk => by
      have go := lcGo_pure (i := 2) (t := tNotT (tV (mCall F_q_is_move (aCons (mV 2) aNil)))) (m := mV 2) (r := [S.val (.d (.tuple xs)), .un, .un]) (fun y => !moveB y) id xs [] [S.val (.d (.tuple xs)), .un, .un]
        (fun a r3 => fEq true (.fr a) (.fr []) r3 fun z r4 => match z.dat with | some (.bool b) => kk b r4 | _ => false) (fun _ => rfl) (by show 0 + xs.length ≤ _; have := big; omega) (fun y hy k => l_move y _ (h.tup hy)) (fun y hy _ k => rfl)
      refine Eq.trans ?_ (go.trans ?_)
      · rfl
      · rw [List.nil_append, List.map_id]
        show (SeqAt.shaped (.list (xs.filter fun y => !moveB y)) && (SeqAt.shaped (.list []) && kk (xor true (PyData.eqv (.list (xs.filter fun y => !moveB y)) (.list []))) [S.val (.d (.tuple xs)), .un, .un])) = _
        rw [shaped_list (lay_filter _ (layAll_of fun x hx => (h.tup hx).lay)) (Nat.le_trans (depth_filter _ xs) (depthAll_of fun x hx => by have := (h.tup hx).dp; omega)), eqv_empty, none_off, Bool.true_xor, Bool.true_and]
        rfl
    have hT : ∀ kk : Bool → Rho → Bool, Pz.tOrT (tNotT (tV (mIsi "tuple" (mV 0)))) (tV (mB (fEq true) (mLc 2 (miT (mV 0)) (tNotT (tV (mCall F_q_is_move (aCons (mV 2) (aNil))))) (mV 2)) (mLst (aNil)))) noX [S.val (.d (.tuple xs)), .un, .un] kk = kk (!xs.all moveB) [S.val (.d (.tuple xs)), .un, .un] := fun kk => by
      rw [orT_f hA, hB]

    rw [fOf_at rfl]
    refine (seqIf (!xs.all moveB) hT).trans ?_
    cases hm : xs.all moveB with
    | false =>
      show kf (.d (.bool false)) = kf (.d (.bool (xs.all moveB && _)))
      rw [hm]
      rfl
    | true =>
      rw [if_neg (by simp)]
      have hmv : ∀ x ∈ xs, moveB x = true := List.all_eq_true.mp hm
      have hp : ∀ x ∈ xs, pairS x = true := fun x hx => move_pair (hmv x hx)
      have hn : ((xs.length : Int) - 1).toNat = xs.length - 1 := by omega
      have go := lcGo_pure (i := 1) (t := tV (mB (fLtD) (mIx (mV 0) (mV 1)) (mIx (mV 0) (mSub (mV 1) (mC (.int 1)))))) (m := mV 1) (r := [S.val (.d (.tuple xs)), .un, .un]) (offI xs) id (intsD 1 ((xs.length : Int) - 1).toNat) [] [S.val (.d (.tuple xs)), .un, .un]
        (fun a r3 => fEq false (.fr a) (.fr []) r3 fun z r4 => kf (z.esc []).1) (fun _ => rfl) (by rw [ints_len, hn]; show 0 + (xs.length - 1) ≤ _; have := big; omega) (fun y hy k => by
          rw [hn] at hy
          obtain ⟨i, hi, rfl⟩ := ints_mem _ _ y hy
          have h1 : i + 1 < xs.length := by omega
          rw [off_int h1]
          have e1 : atI xs (1 + (i : Int)) = some xs[i + 1] := by
            rw [show (1 : Int) + (i : Int) = ((i + 1 : Nat) : Int) by push_cast; omega, at_nat h1]
          have e2 : atI xs (1 + (i : Int) - 1) = some (xs[i]'(by omega)) := by
            rw [show (1 : Int) + (i : Int) - 1 = ((i : Nat) : Int) by omega, at_nat (show i < xs.length by omega)]
          have g1 : alike xs[i + 1] (xs[i]'(by omega)) = true := alike_pair (hp _ (List.getElem_mem h1)) (hp _ (List.getElem_mem _))
          have g2 : nonB xs[i + 1] = false := by
            have q := hp _ (List.getElem_mem h1)
            revert q
            cases xs[i + 1] <;> first | (intro _; rfl) | (intro q; cases q)
          have g3 : decide (xs[i + 1].depth ≤ 60) = true := decide_eq_true (by have := (h.tup (List.getElem_mem h1)).dp; omega)
          show (match atI xs (1 + (i : Int)) with | some x => (match atI xs (1 + (i : Int) - 1) with | some y => (alike x y && (!nonB x && (decide (x.depth ≤ 60) && k (dataLt x y) [S.val (.d (.tuple xs)), S.val (.d (.int (1 + (i : Int)))), .un]))) | none => false) | none => false) = _
          rw [e1]
          show (match atI xs (1 + (i : Int) - 1) with | some y => (alike xs[i + 1] y && (!nonB xs[i + 1] && (decide (xs[i + 1].depth ≤ 60) && k (dataLt xs[i + 1] y) [S.val (.d (.tuple xs)), S.val (.d (.int (1 + (i : Int)))), .un]))) | none => false) = _
          rw [e2]
          show (alike xs[i + 1] (xs[i]'(by omega)) && (!nonB xs[i + 1] && (decide (xs[i + 1].depth ≤ 60) && k (dataLt xs[i + 1] (xs[i]'(by omega))) [S.val (.d (.tuple xs)), S.val (.d (.int (1 + (i : Int)))), .un]))) = _
          rw [g1, g2, g3]
          rfl) (fun y hy _ k => rfl)
      have b3 : decide (-(2 ^ 62) ≤ ((xs.length : Nat) : Int)) = true := decide_eq_true (by omega)
      have b4 : decide (((xs.length : Nat) : Int) < 2 ^ 62) = true := decide_eq_true (by omega)
      obtain ⟨l1, l2⟩ := ints_lay (xs.length - 1) 1
      have tail := go.trans (show _ = kf (.d (.bool (xs.all moveB && @decide (inRow xs) (Classical.propDecidable _)))) by
        rw [List.nil_append, List.map_id, hn]
        show (SeqAt.shaped (.list ((intsD 1 (xs.length - 1)).filter (offI xs))) && (SeqAt.shaped (.list []) && kf (.d (.bool (xor false (PyData.eqv (.list ((intsD 1 (xs.length - 1)).filter (offI xs))) (.list []))))))) = _
        rw [shaped_list (lay_filter _ l1) (Nat.le_trans (depth_filter _ _) (by omega)), eqv_empty, off_row, Bool.false_xor, hm, Bool.true_and, Bool.true_and]
        rfl)
      have b1 : decide (-(2 ^ 62) ≤ (1 : Int)) = true := decide_eq_true (by omega)
      have b2 : decide ((1 : Int) < 2 ^ 62) = true := decide_eq_true (by omega)
      have hR : ∀ k' : List PyData → Rho → Bool, miR2 (mC (.int 1)) (mU fLen (mV 0)) noX [S.val (.d (.tuple xs)), .un, .un] k' = k' (intsD 1 ((xs.length : Int) - 1).toNat) [S.val (.d (.tuple xs)), .un, .un] := fun k' => by
        exact miR2_at (fun _ => rfl) (fun _ => rfl) b1 b2 b3 b4
      rw [retB]
      refine (lc_at hR rfl).trans ?_
      exact tail
  | _ => rfl
end K01

set_option Elab.async false
set_option linter.all false
set_option maxRecDepth 100000
set_option maxHeartbeats 990000
namespace K01
open PySem L2 Pz
mutual
theorem short_of : ∀ d : PyData, d.showable = true → PyData.intsShort 1921 d = true
  | .int i, h => by
    simp only [PyData.showable, decide_eq_true_eq] at h
    simp only [decide_eq_true_eq, PyData.intsShort]
    exact PyProof.Rows.int_text_len_1921 h
  | .none, _ => by simp only [PyData.intsShort]
  | .bool _, _ => by simp only [PyData.intsShort]
  | .str _, _ => by simp only [PyData.intsShort]
  | .dict _, _ => by simp only [PyData.intsShort]
  | .list xs, h => by
    simp only [PyData.showable] at h
    simp only [PyData.intsShort]
    exact short_all xs h
  | .tuple xs, h => by
    simp only [PyData.showable] at h
    simp only [PyData.intsShort]
    exact short_all xs h
theorem short_all : ∀ xs : List PyData, PyData.showableAll xs = true → PyData.intsShortAll 1921 xs = true
  | [], _ => by unfold PyData.intsShortAll; rfl
  | x :: xs, h => by
    simp only [PyData.showableAll, Bool.and_eq_true] at h
    simp only [Bool.and_eq_true, PyData.intsShortAll]
    exact ⟨short_of x h.1, short_all xs h.2⟩
end
theorem shown_ok {x : PyData} (h : Gd x) : (shownI x).length ≤ sizeLine := by
  rw [shownI_eq]
  have h1 := PyData.shown_le 1921 (by decide) x (PyData.leavesShort_of_canLay0 1921 x h.lay (short_of x h.sh))
  have h2 := h.wt
  have h3 : (1921 + 2) * x.weight ≤ (1921 + 2) * 8000 := Nat.mul_le_mul_left _ h2
  have e : sizeLine = 16777216 := by decide
  omega
theorem a_int (x : PyData) (r : Rho) (k : KE) : mAnd (mIsi "int" (mV 0)) (mNot (mIsi "bool" (mV 0))) noX (S.val (.d x) :: r) k = k (.val (.d (.bool (intB x)))) (S.val (.d x) :: r) := by
  cases x <;> rfl
def d8 (b1 b2 b3 b4 b5 b6 b7 b8 : Bool) : PyData := .list [.list [.bool b1, .bool b2, .bool b3, .bool b4, .bool b5, .bool b6, .bool b7, .bool b8], .list [.bool b1, .bool b2, .bool b3, .bool b4, .bool b5, .bool b6, .bool b7, .bool b8]]
theorem len8 (b1 b2 b3 b4 b5 b6 b7 b8 : Bool) : (shownI (d8 b1 b2 b3 b4 b5 b6 b7 b8)).length ≤ sizeLine := by
  rw [shownI_eq]
  have h1 := PyData.shown_le 13 (by decide) (d8 b1 b2 b3 b4 b5 b6 b7 b8) (by simp [d8, PyData.leavesShort, PyData.leavesShortAll])
  have h2 : (d8 b1 b2 b3 b4 b5 b6 b7 b8).weight = 18 := by simp [d8, PyData.weight, PyData.weightAll]
  have e : sizeLine = 16777216 := by decide
  rw [h2] at h1
  omega
theorem fEq_self (s : Str) {r : Rho} {k : KE} : fEq false (.val (.d (.str s))) (.val (.d (.str s))) r k = k (.val (.d (.bool true))) r := by
  unfold fEq
  show k (.val (.d (.bool (xor false (s == s))))) r = _
  rw [beq_self_eq_true]
  rfl
theorem right (x : PyData) (h : Gd x) (kf : W → Bool) (hk : kf (.d (.bool true)) = true) : F_q_is_right noX [.d x] kf = true := by
  unfold F_q_is_right
  refine andB rfl ?_
  refine andB h.sh (andB (decide_eq_true (by have := h.dp; omega)) (andB (decide_eq_true (shown_ok h)) ?_))
  refine (a_int x _ _).trans ?_
  refine (l_num x _).trans ?_
  refine (l_name x _ h.s2).trans ?_
  refine (l_spot x _ h).trans ?_
  refine (l_folder x _ h).trans ?_
  refine (l_move x _ h).trans ?_
  refine (l_moves x _ h).trans ?_
  refine (l_bulk x _ h).trans ?_
  refine (p_int x _).trans ?_
  refine (p_num x _).trans ?_
  refine (p_name x _ h.s1).trans ?_
  refine (p_spot x _ h).trans ?_
  refine (p_folder x _ h).trans ?_
  refine (p_move x _ h).trans ?_
  refine (p_moves x _ h).trans ?_
  refine (p_bulk x _ h).trans ?_
  refine (p_int x _).trans ?_
  refine (p_num x _).trans ?_
  refine (p_name x _ h.s1).trans ?_
  refine (p_spot x _ h).trans ?_
  refine (p_folder x _ h).trans ?_
  refine (p_move x _ h).trans ?_
  refine (p_moves x _ h).trans ?_
  refine (p_bulk x _ h).trans ?_
  generalize intB x = b1
  generalize numB x = b2
  generalize nameB x = b3
  generalize spotB x = b4
  generalize folderB x = b5
  generalize moveB x = b6
  generalize movesB x = b7
  generalize bulkB x = b8
  refine andB (decide_eq_true (len8 b1 b2 b3 b4 b5 b6 b7 b8)) ?_
  refine andB ?hl ?hr
  case hl =>
    dsimp only [List.cons_append, List.nil_append]
    exact decide_eq_true (len8 b1 b2 b3 b4 b5 b6 b7 b8)
  case hr =>
    dsimp only [List.cons_append, List.nil_append]
    simp only [R.esc, asg, R.soft, startR, List.append, List.set_cons_zero, List.set_cons_succ, List.getElem?_cons_zero, List.getElem?_cons_succ, List.map_cons, List.map_nil, List.length_cons, List.length_nil, List.replicate, List.cons_append, List.nil_append, fEq_self, R.dat]
    refine andB ?h1 ?h2
    case h1 => exact h.sh
    case h2 =>
      refine andB ?h3 ?h4
      case h3 => exact decide_eq_true (by have := h.dp; omega)
      case h4 =>
        refine andB ?h5 ?h6
        case h5 => exact decide_eq_true (shown_ok h)
        case h6 =>
          show kf (.d (.bool (xor false (shownI x == shownI x)))) = true
          rw [beq_self_eq_true]
          exact hk
end K01

set_option Elab.async false
set_option linter.all false
set_option maxRecDepth 100000
set_option maxHeartbeats 390000
namespace K01
open PySem L2 Pz
def gdB (x : PyData) : Bool := x.canLay0 && (x.showable && (decide (x.depth ≤ 20) && decide (x.weight ≤ 8000)))
theorem gd_of {x : PyData} (h : gdB x = true) : Gd x := by
  unfold gdB at h
  simp only [decide_eq_true_eq, Bool.and_eq_true] at h
  exact ⟨h.1, h.2.1, h.2.2.1, h.2.2.2⟩
def fixedL : List PyData := [.int (0), .int (1), .int (-1), .bool true, .bool false, .int (100000000000000000000000000000000000000000000000000000000000), .int (-100000000000000000000000000000000000000000000000000000000000), .none, .str "", .str "a", .str "z", .str "abcdefgh", .str "abcdefghi", .str "A", .str "a b", .str "a1", .str "-", .str " ", .str "a~", .str "~", .tuple [], .list [], .tuple [.str ""], .tuple [.str "a", .str "b"], .tuple [.str "a", .str ""], .tuple [.str "", .str "a"], .tuple [.str "", .str ""], .tuple [.str "a", .str "a"], .list [.str "a", .str "b"], .tuple [.str "a", .str "b", .int (1)], .tuple [.str "a", .str "", .int (0)], .tuple [.str "a", .str "b", .int (0)], .tuple [.str "", .str "a", .int (1)], .tuple [.str "a", .str "a", .int (1)], .tuple [.str "a", .str "b", .int (-1)], .tuple [.str "a", .str "b", .bool true], .tuple [.str "a", .str "b", .str "1"], .tuple [.str "a", .none, .int (1)], .tuple [.str "", .str "", .int (1)], .tuple [.str "a", .str "b", .int (1), .int (1)], .tuple [.str "A", .str "b", .int (1)], .tuple [.tuple [.str "a", .str "b"]], .tuple [.tuple [.str "a", .str "b"], .tuple [.str "a", .str "b"]], .tuple [.tuple [.str "b", .str "a"], .tuple [.str "a", .str "b"]], .tuple [.tuple [.str "a", .str "b"], .tuple [.str "a", .str "c"], .tuple []], .tuple [.tuple [.str "a", .str "b"], .tuple [.str "b", .str "c"], .tuple [.str "a", .str "c"]], .tuple [.tuple [.str "", .str "a"], .tuple [.str "a", .str ""]], .list [.tuple [.str "a", .str "b"]], .tuple [.list [.str "a", .str "b"]], .tuple [.tuple [.str "a", .str "b"], .none], .tuple [.tuple [.str "a", .str "b"], .int (1)], .tuple [.tuple []]]
theorem fixed_gd : fixedL.all gdB = true := by decide +kernel
theorem fixed_is (kf : W → Bool) : F_q_fixed noX [] kf = kf (.d (.list fixedL)) := by kernel_rfl
end K01

set_option Elab.async false
set_option linter.all false
set_option maxRecDepth 100000
set_option maxHeartbeats 390000
namespace K01
open PySem L2 Pz
/-! ### sizes of what is drawn -/
theorem canA_iff : ∀ xs : List PyData, PyData.canLayAll0 xs = true ↔ ∀ x ∈ xs, x.canLay0 = true
  | [] =>
        by simp [PyData.canLayAll0]
  | x :: xs => by simp [PyData.canLayAll0, canA_iff xs]
theorem depA_iff (D : Nat) : ∀ xs : List PyData, PyData.depthAll xs ≤ D ↔ ∀ x ∈ xs, x.depth ≤ D
  | [] =>
        by simp [PyData.depthAll]
  | x :: xs => by simp [PyData.depthAll, depA_iff D xs, Nat.max_le]
theorem wA_app : ∀ xs ys : List PyData, PyData.weightAll (xs ++ ys) = PyData.weightAll xs + PyData.weightAll ys
  | [], ys => by simp [PyData.weightAll]
  | x :: xs, ys => by
    rw [List.cons_append]
    simp only [PyData.weightAll, wA_app xs ys]
    omega
theorem wA_cut (xs : List PyData) (k : Nat) : PyData.weightAll (xs.take k) + PyData.weightAll (xs.drop k) = PyData.weightAll xs := by
  rw [← wA_app, List.take_append_drop]
theorem wA_mem : ∀ {xs : List PyData} {x : PyData}, x ∈ xs → x.weight + 1 ≤ PyData.weightAll xs
  | y :: ys, x, h => by
    simp only [PyData.weightAll]
    cases h with
    | head => omega
    | tail _ h => have := wA_mem h; omega
theorem wA_len : ∀ xs : List PyData, xs.length ≤ PyData.weightAll xs
  | [] => Nat.zero_le _
  | x :: xs => by
    have := wA_len xs
    simp only [PyData.weightAll, List.length_cons]
    omega
/-- data that can be laid, so deep and so heavy at most -/
structure Qd (D w : Nat) (x : PyData) : Prop where
  lay : x.canLay0 = true
  dp : x.depth ≤ D
  wt : x.weight ≤ w
structure Qa (D w : Nat) (xs : List PyData) : Prop where
  el : ∀ x ∈ xs, x.canLay0 = true ∧ x.depth ≤ D
  wt : PyData.weightAll xs ≤ w
theorem Qd.tup {D w : Nat} {xs : List PyData} : Qd (D + 1) w (.tuple xs) ↔ Qa D w xs := by
  constructor
  · rintro ⟨h1, h2, h3⟩
    simp only [PyData.canLay0, PyData.depth, PyData.weight] at h1 h2 h3
    exact ⟨fun x hx => ⟨(canA_iff xs).mp h1 x hx, (depA_iff D xs).mp (by omega) x hx⟩, h3⟩
  · rintro ⟨h1, h2⟩
    have e1 := (canA_iff xs).mpr fun x hx => (h1 x hx).1
    have e2 := (depA_iff D xs).mpr fun x hx => (h1 x hx).2
    exact ⟨by simpa only [PyData.canLay0] using e1, by simp only [PyData.depth]; omega, by simpa only [PyData.weight] using h2⟩
theorem Qd.lst {D w : Nat} {xs : List PyData} (h : Qa D w xs) : Qd (D + 1) w (.list xs) := by
  have e1 := (canA_iff xs).mpr fun x hx => (h.el x hx).1
  have e2 := (depA_iff D xs).mpr fun x hx => (h.el x hx).2
  exact ⟨by simpa only [PyData.canLay0] using e1, by simp only [PyData.depth]; omega, by simpa only [PyData.weight] using h.wt⟩
theorem Qa.app {D w v : Nat} {xs ys : List PyData} (h1 : Qa D w xs) (h2 : Qa D v ys) : Qa D (w + v) (xs ++ ys) :=
  ⟨fun x hx => (List.mem_append.mp hx).elim (h1.el x) (h2.el x), by rw [wA_app]; have := h1.wt; have := h2.wt; omega⟩
theorem Qa.one {D w : Nat} {x : PyData} (h : Qd D w x) : Qa D (w + 1) [x] :=
  ⟨fun y hy => by cases List.mem_singleton.mp hy; exact ⟨h.lay, h.dp⟩, by simp only [PyData.weightAll]; have := h.wt; omega⟩
theorem Qa.mono {D w D' w' : Nat} {xs : List PyData} (h : Qa D w xs) (h1 : D ≤ D') (h2 : w ≤ w') : Qa D' w' xs := ⟨fun x hx => ⟨(h.el x hx).1, Nat.le_trans (h.el x hx).2 h1⟩, Nat.le_trans h.wt h2⟩
theorem Qd.mono {D w D' w' : Nat} {x : PyData} (h : Qd D w x) (h1 : D ≤ D') (h2 : w ≤ w') : Qd D' w' x := ⟨h.lay, Nat.le_trans h.dp h1, Nat.le_trans h.wt h2⟩
theorem Qa.take {D w : Nat} {xs : List PyData} (h : Qa D w xs) (k : Nat) : Qa D (PyData.weightAll (xs.take k)) (xs.take k) := ⟨fun x hx => h.el x (List.mem_of_mem_take hx), Nat.le_refl _⟩
theorem Qa.drop {D w : Nat} {xs : List PyData} (h : Qa D w xs) (k : Nat) : Qa D (PyData.weightAll (xs.drop k)) (xs.drop k) := ⟨fun x hx => h.el x (List.mem_of_mem_drop hx), Nat.le_refl _⟩
theorem Qa.rev {D w : Nat} {xs : List PyData} (h : Qa D w xs) : Qa D w xs.reverse := ⟨fun x hx => h.el x (List.mem_reverse.mp hx), by
  have e : ∀ ys : List PyData, PyData.weightAll ys.reverse = PyData.weightAll ys := fun ys => by
    induction ys with
    | nil => rfl
    | cons y ys ih =>
      rw [List.reverse_cons, wA_app, ih]
      simp only [PyData.weightAll]
      omega
  rw [e]; exact h.wt⟩
theorem Qa.get {D w : Nat} {xs : List PyData} (h : Qa D w xs) {x : PyData} (hx : x ∈ xs) : Qd D (w - 1) x := ⟨(h.el x hx).1, (h.el x hx).2, by have := wA_mem hx; have := h.wt; omega⟩
mutual
theorem show_of : ∀ x : PyData, x.canLay0 = true → x.weight ≤ 1900 → x.showable = true
  | .none, _, _ => rfl
  | .bool _, _, _ => rfl
  | .str _, _, _ => rfl
  | .dict _, h, _ => by simp [PyData.canLay0] at h
  | .int i, _, h => by
    simp only [PyData.weight] at h
    simp only [PyData.showable,
          decide_eq_true_eq]
    split at h
    · rename_i q
      have : i = 0 := by simpa using q
      subst this
      decide
    · omega
  | .list xs, h1, h2 => by
    simp only [PyData.canLay0, PyData.weight] at h1 h2
    simp only [PyData.showable]
    exact showA_of xs h1 h2
  | .tuple xs, h1, h2 => by
    simp only [PyData.canLay0, PyData.weight] at h1 h2
    simp only [PyData.showable]
    exact showA_of xs h1 h2
theorem showA_of : ∀ xs : List PyData, PyData.canLayAll0 xs = true → PyData.weightAll xs ≤ 1900 → PyData.showableAll xs = true
  | [], _, _ => by simp only [PyData.showableAll]
  | x :: xs, h1, h2 => by
    simp only [PyData.canLayAll0, PyData.weightAll, Bool.and_eq_true] at h1 h2
    simp only [PyData.showableAll,
          Bool.and_eq_true]
    exact ⟨show_of x h1.1 (by omega), showA_of xs h1.2 (by omega)⟩
end
theorem Qd.gd {D w : Nat} {x : PyData} (h : Qd D w x) (h1 : D ≤ 20) (h2 : w ≤ 1900) : Gd x := ⟨h.lay, show_of x h.lay (Nat.le_trans h.wt h2), Nat.le_trans h.dp h1, Nat.le_trans (Nat.le_trans h.wt h2) (by decide)⟩
theorem cut_lo (xs : List PyData) (k : Nat) (h : k ≤ xs.length) : cutD xs (some (k : Int)) none = xs.drop k := by
  unfold cutD
  rw [HT.sIx_nat, HT.sIx_none, Nat.min_eq_left h]
  refine List.take_of_length_le ?_
  rw [List.length_drop]
  omega
theorem cut_hi (xs : List PyData) (k : Nat) (h : k ≤ xs.length) : cutD xs none (some (k : Int)) = xs.take k := by
  unfold cutD
  rw [HT.sIx_nat, HT.sIx_none, Nat.min_eq_left h, List.drop_zero, Nat.sub_zero]
/-! ### the draws -/
theorem pull_ok {n : Int} (h0 : 0 < n) (h1 : n < 100000) {kf : W → Bool} (h : ∀ r : Nat, (r : Int) < n → kf (.d (.int r)) = true) : F_q_pull noX [.sp, .d (.int n)] kf = true := by
  unfold F_q_pull
  show (decide ((0 : Int) < n) && (decide (n < 1073741824) && (List.range n.toNat).all fun r => kf (.d (.int r)))) = true
  rw [decide_eq_true h0, decide_eq_true (show n < 1073741824 by omega), Bool.true_and, Bool.true_and]
  exact List.all_eq_true.mpr fun r hr => h r (by have := List.mem_range.mp hr; omega)
def nAnyG (Fp : Fm) : MS := nRet (mIx (mV 1) (mCall Fp (aCons (mV 0) (aCons (mU fLen (mV 1)) (aNil)))))
theorem any_gen (Fp : Fm) (xs : List PyData) (kf : W → Bool) : fOf ["_law_spool_here", "_law_rows"] ["_law_spool_here", "_law_rows"] (nAnyG Fp) noX [.sp, .d (.list xs)] kf = Fp noX [.sp, .d (.int xs.length)] (fun w => fIx (.val (.d (.list xs))) (.val w) [] fun y _ => kf (y.esc []).1) := rfl
theorem any_ok {xs : List PyData} (h0 : 0 < xs.length) (h1 : xs.length < 100000) {kf : W → Bool} (h : ∀ x ∈ xs, kf (.d x) = true) : F_q_any noX [.sp, .d (.list xs)] kf = true := by
  unfold F_q_any
  refine (any_gen F_q_pull xs kf).trans ?_
  refine pull_ok (by omega) (by omega) fun r hr => ?_
  show (match atI xs (r : Int) with | some x => kf (.d x) | none => false) = true
  rw [at_nat (show r < xs.length by omega)]
  exact h _ (List.getElem_mem _)
/-- the two draws -/
structure Dr (Fp Fa : Fm) : Prop where
  p : ∀ {n : Int} {kf : W → Bool}, 0 < n → n < 100000 → (∀ r : Nat, (r : Int) < n → kf (.d (.int r)) = true) → Fp noX [.sp, .d (.int n)] kf = true
  a : ∀ {xs : List PyData} {kf : W → Bool}, 0 < xs.length → xs.length < 100000 → (∀ x ∈ xs, kf (.d x) = true) → Fa noX [.sp, .d (.list xs)] kf = true
theorem dr : Dr F_q_pull F_q_any := ⟨fun h0 h1 h => pull_ok h0 h1 h, fun h0 h1 h => any_ok h0 h1 h⟩
end K01

set_option Elab.async false
set_option linter.all false
set_option maxRecDepth 100000
set_option maxHeartbeats 390000
namespace K01
open PySem L2 Pz
theorem cons_of {α : Type} {xs : List α} {n : Nat} (h : xs.length = n + 1) : ∃ a r, xs = a :: r ∧ r.length = n := by
  cases xs with
  | nil => simp at h
  | cons a r => exact ⟨a, r, rfl, by simpa using h⟩
theorem sz {n : Nat} (h : n ≤ 10000) : decide (n ≤ sizeLine) = true := by
  have e : sizeLine = 16777216 := by decide
  exact
        decide_eq_true (by omega)
def nmB : PyData → Bool
  | .str s => decide (s.length ≤ 8) && PyData.strOk s
  | _ => false
theorem nm_str {x : PyData} (h : nmB x = true) : ∃ s, x = .str s ∧ s.length ≤ 8 ∧ PyData.strOk s = true := by
  cases x with
  | str s =>
    unfold nmB at h
    rw [Bool.and_eq_true,
          decide_eq_true_eq] at h
    exact ⟨s, rfl, h⟩
  | _ => cases h
theorem nm_q {x : PyData} (h : nmB x = true) : Qd 0 8 x := by
  obtain ⟨s, rfl, h1, h2⟩ := nm_str h
  exact ⟨by simpa only [PyData.canLay0] using h2, by simp [PyData.depth], by simp only [PyData.weight]; exact h1⟩
def pool0 : List PyData := [.str "a", .str "aa", .str "ab", .str "abc", .str "b", .str "ba", .str "c", .str "cc", .str "d", .str "e", .str "f", .str "zz", .str "zzzzzzzz", .str "z", .str "y", .str "x"]
def pool1 : List PyData := [.str "top", .str "room", .str "in", .str "folder", .str "bin", .str "mail", .str "home", .str "work", .str "old", .str "new", .str "tmp", .str "share", .str "abcdefgh", .str "h", .str "hh", .str "q"]
theorem pool0_nm : pool0.all nmB = true := by decide +kernel
theorem pool1_nm : pool1.all nmB = true := by decide +kernel
def nNamesG (Fp Fa : Fm) : MS := nSeq (nAsg 1 (mLst (aCons (mLst (aCons (mC (.str "a")) (aCons (mC (.str "aa")) (aCons (mC (.str "ab")) (aCons (mC (.str "abc")) (aCons (mC (.str "b")) (aCons (mC (.str "ba")) (aCons (mC (.str "c")) (aCons (mC (.str "cc")) (aCons (mC (.str "d")) (aCons (mC (.str "e")) (aCons (mC (.str "f")) (aCons (mC (.str "zz")) (aCons (mC (.str "zzzzzzzz")) (aCons (mC (.str "z")) (aCons (mC (.str "y")) (aCons (mC (.str "x")) (aNil)))))))))))))))))) (aNil)))) (nSeq (nApp 1 (mLst (aCons (mC (.str "top")) (aCons (mC (.str "room")) (aCons (mC (.str "in")) (aCons (mC (.str "folder")) (aCons (mC (.str "bin")) (aCons (mC (.str "mail")) (aCons (mC (.str "home")) (aCons (mC (.str "work")) (aCons (mC (.str "old")) (aCons (mC (.str "new")) (aCons (mC (.str "tmp")) (aCons (mC (.str "share")) (aNil))))))))))))))) (nSeq (nAsg 2 (mCall Fa (aCons (mV 0) (aCons (mLst (aCons (mIx (mV 1) (mC (.int 0))) (aCons (mAdd (mIx (mV 1) (mC (.int 1))) (mLst (aCons (mC (.str "abcdefgh")) (aCons (mC (.str "h")) (aCons (mC (.str "hh")) (aCons (mC (.str "q")) (aNil))))))) (aNil)))) (aNil))))) (nSeq (nAsg 3 (mCall Fp (aCons (mV 0) (aCons (mC (.int 16)) (aNil))))) (nRet (mAdd (mSl (mV 2) (oYes (mV 3)) (oNo)) (mSl (mV 2) (oNo) (oYes (mV 3))))))))
def nNames2 (Fp : Fm) : MS := nSeq (nAsg 3 (mCall Fp (aCons (mV 0) (aCons (mC (.int 16)) (aNil))))) (nRet (mAdd (mSl (mV 2) (oYes (mV 3)) (oNo)) (mSl (mV 2) (oNo) (oYes (mV 3)))))
theorem names_eq (Fp Fa : Fm) (kf : W → Bool) : fOf ["_law_spool_here", "_law_pools", "_law_some", "_law_k"] ["_law_spool_here"] (nNamesG Fp Fa) noX [.sp] kf = Fa noX [.sp, .d (.list [.list pool0, .list pool1])] (fun w => nNames2 Fp noX [.val .sp, .own [.list pool0, .list pool1], .val w, .un] { nx := fun _ => kf (.d .none), rt := kf }) := by kernel_rfl
theorem names2_eq (Fp : Fm) (kf : W → Bool) (ps : List PyData) (ks : KS) : nNames2 Fp noX [.val .sp, .own [.list pool0, .list pool1], .val (.d (.list ps)), .un] { ks with rt := kf } = Fp noX [.sp, .d (.int 16)] (fun w => nRet (mAdd (mSl (mV 2) (oYes (mV 3)) (oNo)) (mSl (mV 2) (oNo) (oYes (mV 3)))) noX [.val .sp, .own [.list pool0, .list pool1], .val (.d (.list ps)), .val w] { ks with rt := kf }) := rfl
theorem names_gen {Fp Fa : Fm} (D : Dr Fp Fa) {kf : W → Bool} (h : ∀ ns : List PyData, ns.length = 16 → ns.all nmB = true → kf (.d (.list ns)) = true) : fOf ["_law_spool_here", "_law_pools", "_law_some", "_law_k"] ["_law_spool_here"] (nNamesG Fp Fa) noX [.sp] kf = true := by
  rw [names_eq]
  refine D.a (by decide) (by decide) ?_
  intro x hx
  have hx' : ∃ ps, x = .list ps ∧ ps.length = 16 ∧ ps.all nmB = true := by
    rcases List.mem_cons.mp hx with
          rfl | hx
    · exact ⟨_, rfl, rfl, pool0_nm⟩
    · cases List.mem_singleton.mp hx
      exact ⟨_, rfl, rfl, pool1_nm⟩
  obtain ⟨ps, rfl, h1, h2⟩ := hx'
  refine (names2_eq Fp kf ps { nx := fun _ => kf (.d .none), rt := kf }).trans ?_
  refine D.p (by decide) (by decide) fun r hr => ?_
  show (decide ((cutD ps (some (r : Int)) none).length + (cutD ps none (some (r : Int))).length ≤ sizeLine) && kf (.d (.list (cutD ps (some (r : Int)) none ++ cutD ps none (some (r : Int)))))) = true
  rw [cut_lo ps r (by omega), cut_hi ps r (by omega)]
  refine andB (sz (by rw [List.length_drop, List.length_take]; omega)) (h _ (by rw [List.length_append, List.length_drop, List.length_take]; omega) ?_)
  rw [List.all_eq_true] at h2 ⊢
  intro x hx
  rcases List.mem_append.mp hx with
        hx | hx
  · exact h2 x (List.mem_of_mem_drop hx)
  · exact h2 x (List.mem_of_mem_take hx)
/-! strange -/
def strangeL : List PyData := [.none, .bool true, .bool false, .int 0, .int 1, .int (-1), .int (10 ^ 59), .str "A", .str "a b", .str "abcdefghi", .str "a1", .str "-", .str "a~",
  .tuple [], .list [], .tuple [.str "Q"], .list [.str "a"], .tuple [.none], .tuple [.int 1, .int 2, .int 3], .tuple [.str "a", .str "", .int (-1)], .tuple [.str "a", .str "", .bool true], .tuple [.str "a", .str "a", .int 1], .tuple [.tuple []],
  .tuple [.str "a", .str "", .int 1, .int 1], .tuple [.str "a", .none, .int 1], .tuple [.tuple [.str "a", .str "", .int 1], .tuple [.str "a", .str "", .int 1]], .list [.tuple [.str "a", .str "", .int 1]], .tuple [.tuple [.str "b", .str "a", .int 1]],
  .tuple [.str "a", .str "b"], .list [.str "a", .str "b"], .tuple [.str "a", .str "a"], .tuple [.str "", .str ""], .tuple [.str "a"], .tuple [.tuple [.str "b", .str "a"], .tuple [.str "a", .str "b"]], .str "1"]
def qdB (D w : Nat) (x : PyData) : Bool := x.canLay0 && (decide (x.depth ≤ D) && decide (x.weight ≤ w))
theorem qd_of {D w : Nat} {x : PyData} (h : qdB D w x = true) : Qd D w x := by
  unfold qdB at h
  simp only [Bool.and_eq_true,
        decide_eq_true_eq] at h
  exact ⟨h.1, h.2.1, h.2.2⟩
theorem strange_q : strangeL.all (qdB 2 200) = true := by decide +kernel
def nStrangeG (Fa : Fm) : MS := nSeq (nAsg 1 (mLst (aCons (mC .none) (aCons (mC (.bool true)) (aCons (mC (.bool false)) (aCons (mC (.int 0)) (aCons (mC (.int 1)) (aCons (mNeg (mC (.int 1))) (aCons (mPow (mC (.int 10)) (mC (.int 59))) (aCons (mC (.str "A")) (aCons (mC (.str "a b")) (aCons (mC (.str "abcdefghi")) (aCons (mC (.str "a1")) (aCons (mC (.str "-")) (aCons (mC (.str "a~")) (aNil)))))))))))))))) (nSeq (nAsg 1 (mAdd (mV 1) (mLst (aCons (mTup (aNil)) (aCons (mLst (aNil)) (aCons (mTup (aCons (mC (.str "Q")) (aNil))) (aCons (mLst (aCons (mC (.str "a")) (aNil))) (aCons (mTup (aCons (mC .none) (aNil))) (aCons (mTup (aCons (mC (.int 1)) (aCons (mC (.int 2)) (aCons (mC (.int 3)) (aNil))))) (aCons (mTup (aCons (mC (.str "a")) (aCons (mC (.str "")) (aCons (mNeg (mC (.int 1))) (aNil))))) (aCons (mTup (aCons (mC (.str "a")) (aCons (mC (.str "")) (aCons (mC (.bool true)) (aNil))))) (aCons (mTup (aCons (mC (.str "a")) (aCons (mC (.str "a")) (aCons (mC (.int 1)) (aNil))))) (aCons (mTup (aCons (mTup (aNil)) (aNil))) (aNil)))))))))))))) (nSeq (nAsg 1 (mAdd (mV 1) (mLst (aCons (mTup (aCons (mC (.str "a")) (aCons (mC (.str "")) (aCons (mC (.int 1)) (aCons (mC (.int 1)) (aNil)))))) (aCons (mTup (aCons (mC (.str "a")) (aCons (mC .none) (aCons (mC (.int 1)) (aNil))))) (aCons (mTup (aCons (mTup (aCons (mC (.str "a")) (aCons (mC (.str "")) (aCons (mC (.int 1)) (aNil))))) (aCons (mTup (aCons (mC (.str "a")) (aCons (mC (.str "")) (aCons (mC (.int 1)) (aNil))))) (aNil)))) (aCons (mLst (aCons (mTup (aCons (mC (.str "a")) (aCons (mC (.str "")) (aCons (mC (.int 1)) (aNil))))) (aNil))) (aCons (mTup (aCons (mTup (aCons (mC (.str "b")) (aCons (mC (.str "a")) (aCons (mC (.int 1)) (aNil))))) (aNil))) (aNil))))))))) (nRet (mCall Fa (aCons (mV 0) (aCons (mAdd (mV 1) (mLst (aCons (mTup (aCons (mC (.str "a")) (aCons (mC (.str "b")) (aNil)))) (aCons (mLst (aCons (mC (.str "a")) (aCons (mC (.str "b")) (aNil)))) (aCons (mTup (aCons (mC (.str "a")) (aCons (mC (.str "a")) (aNil)))) (aCons (mTup (aCons (mC (.str "")) (aCons (mC (.str "")) (aNil)))) (aCons (mTup (aCons (mC (.str "a")) (aNil))) (aCons (mTup (aCons (mTup (aCons (mC (.str "b")) (aCons (mC (.str "a")) (aNil)))) (aCons (mTup (aCons (mC (.str "a")) (aCons (mC (.str "b")) (aNil)))) (aNil)))) (aCons (mC (.str "1")) (aNil)))))))))) (aNil)))))))
theorem strange_eq (Fa : Fm) (kf : W → Bool) : fOf ["_law_spool_here", "_law_some"] ["_law_spool_here"] (nStrangeG Fa) noX [.sp] kf = Fa noX [.sp, .d (.list strangeL)] kf := by kernel_rfl
theorem strange_gen {Fp Fa : Fm} (D : Dr Fp Fa) {kf : W → Bool} (h : ∀ x, Qd 2 200 x → kf (.d x) = true) : fOf ["_law_spool_here", "_law_some"] ["_law_spool_here"] (nStrangeG Fa) noX [.sp] kf = true := by
  rw [strange_eq]
  exact D.a (by decide) (by decide) fun x hx => h x (qd_of (List.all_eq_true.mp strange_q x hx))
theorem names_ok {kf : W → Bool} (h : ∀ ns : List PyData, ns.length = 16 → ns.all nmB = true → kf (.d (.list ns)) = true) : F_q_names noX [.sp] kf = true := by
  unfold F_q_names
  exact names_gen dr h
theorem strange_ok {kf : W → Bool} (h : ∀ x, Qd 2 200 x → kf (.d x) = true) : F_q_strange noX [.sp] kf = true := by
  unfold F_q_strange
  exact strange_gen dr h
end K01

set_option Elab.async false
set_option linter.all false
set_option maxRecDepth 100000
set_option maxHeartbeats 390000
namespace K01
open PySem L2 Pz
def mK (w : W) : M := fun _ r k => k (.val w) r
def nDrawnG (Fp Fa Fn : Fm) : MS := nSeq (nAsg 1 (mCall Fn (aCons (mV 0) (aNil)))) (nSeq (nPar3 4 5 6 (aCons (mIx (mV 1) (mC (.int 0))) (aCons (mCall Fa (aCons (mV 0) (aCons (mLst (aCons (mC (.str "")) (aCons (mIx (mV 1) (mC (.int 1))) (aCons (mIx (mV 1) (mC (.int 2))) (aNil))))) (aNil)))) (aCons (mCall Fp (aCons (mV 0) (aCons (mC (.int 6)) (aNil)))) (aNil))))) (nSeq (nAsg 2 (mCall Fa (aCons (mV 0) (aCons (mLst (aCons (mC (.int 0)) (aCons (mC (.int 1)) (aCons (mC (.int 2)) (aCons (mC (.int 9)) (aCons (mPow (mC (.int 10)) (mC (.int 59))) (aNil))))))) (aNil))))) (nSeq (nIf (tV (mB (fEq false) (mV 6) (mC (.int 0)))) (nRet (mTup (aCons (mV 4) (aCons (mV 5) (aCons (mV 2) (aNil)))))) (nNil)) (nSeq (nIf (tV (mB (fEq false) (mV 6) (mC (.int 1)))) (nRet (mIf (tV (mB (fEq false) (mCall Fp (aCons (mV 0) (aCons (mC (.int 2)) (aNil)))) (mC (.int 0)))) (mTup (aCons (mV 4) (aCons (mV 5) (aNil)))) (mTup (aCons (mV 5) (aCons (mV 4) (aNil)))))) (nNil)) (nSeq (nIf (tV (mB (fEq false) (mV 6) (mC (.int 2)))) (nRet (mTup (aCons (mV 5) (aCons (mV 4) (aCons (mV 2) (aNil)))))) (nNil)) (nSeq (nIf (tV (mB (fEq false) (mV 6) (mC (.int 3)))) (nRet (mCall Fa (aCons (mV 0) (aCons (mLst (aCons (mV 4) (aCons (mV 5) (aCons (mV 2) (aNil))))) (aNil))))) (nNil)) (nSeq (nAsg 3 (mLst (aCons (mTup (aCons (mV 4) (aCons (mV 5) (aNil)))) (aCons (mTup (aCons (mV 5) (aCons (mV 4) (aNil)))) (aCons (mTup (aCons (mC (.str "")) (aCons (mV 4) (aNil)))) (aCons (mTup (aCons (mIx (mV 1) (mC (.int 3))) (aCons (mIx (mV 1) (mC (.int 4))) (aNil)))) (aCons (mTup (aCons (mV 4) (aCons (mIx (mV 1) (mC (.int 3))) (aNil)))) (aNil)))))))) (nRet (mU fTuple (mU fSort (mLc 7 (miR1 (mCall Fp (aCons (mV 0) (aCons (mC (.int 5)) (aNil))))) (fun _ r k => k true r) (mCall Fa (aCons (mV 0) (aCons (mV 3) (aNil)))))))))))))))
def nD1 (Fp Fa : Fm) : MS := nSeq (nPar3 4 5 6 (aCons (mIx (mV 1) (mC (.int 0))) (aCons (mCall Fa (aCons (mV 0) (aCons (mLst (aCons (mC (.str "")) (aCons (mIx (mV 1) (mC (.int 1))) (aCons (mIx (mV 1) (mC (.int 2))) (aNil))))) (aNil)))) (aCons (mCall Fp (aCons (mV 0) (aCons (mC (.int 6)) (aNil)))) (aNil))))) (nSeq (nAsg 2 (mCall Fa (aCons (mV 0) (aCons (mLst (aCons (mC (.int 0)) (aCons (mC (.int 1)) (aCons (mC (.int 2)) (aCons (mC (.int 9)) (aCons (mPow (mC (.int 10)) (mC (.int 59))) (aNil))))))) (aNil))))) (nSeq (nIf (tV (mB (fEq false) (mV 6) (mC (.int 0)))) (nRet (mTup (aCons (mV 4) (aCons (mV 5) (aCons (mV 2) (aNil)))))) (nNil)) (nSeq (nIf (tV (mB (fEq false) (mV 6) (mC (.int 1)))) (nRet (mIf (tV (mB (fEq false) (mCall Fp (aCons (mV 0) (aCons (mC (.int 2)) (aNil)))) (mC (.int 0)))) (mTup (aCons (mV 4) (aCons (mV 5) (aNil)))) (mTup (aCons (mV 5) (aCons (mV 4) (aNil)))))) (nNil)) (nSeq (nIf (tV (mB (fEq false) (mV 6) (mC (.int 2)))) (nRet (mTup (aCons (mV 5) (aCons (mV 4) (aCons (mV 2) (aNil)))))) (nNil)) (nSeq (nIf (tV (mB (fEq false) (mV 6) (mC (.int 3)))) (nRet (mCall Fa (aCons (mV 0) (aCons (mLst (aCons (mV 4) (aCons (mV 5) (aCons (mV 2) (aNil))))) (aNil))))) (nNil)) (nSeq (nAsg 3 (mLst (aCons (mTup (aCons (mV 4) (aCons (mV 5) (aNil)))) (aCons (mTup (aCons (mV 5) (aCons (mV 4) (aNil)))) (aCons (mTup (aCons (mC (.str "")) (aCons (mV 4) (aNil)))) (aCons (mTup (aCons (mIx (mV 1) (mC (.int 3))) (aCons (mIx (mV 1) (mC (.int 4))) (aNil)))) (aCons (mTup (aCons (mV 4) (aCons (mIx (mV 1) (mC (.int 3))) (aNil)))) (aNil)))))))) (nRet (mU fTuple (mU fSort (mLc 7 (miR1 (mCall Fp (aCons (mV 0) (aCons (mC (.int 5)) (aNil))))) (fun _ r k => k true r) (mCall Fa (aCons (mV 0) (aCons (mV 3) (aNil))))))))))))))
def nD2 (Fp Fa : Fm) : MS := nSeq (nAsg 2 (mCall Fa (aCons (mV 0) (aCons (mLst (aCons (mC (.int 0)) (aCons (mC (.int 1)) (aCons (mC (.int 2)) (aCons (mC (.int 9)) (aCons (mPow (mC (.int 10)) (mC (.int 59))) (aNil))))))) (aNil))))) (nSeq (nIf (tV (mB (fEq false) (mV 6) (mC (.int 0)))) (nRet (mTup (aCons (mV 4) (aCons (mV 5) (aCons (mV 2) (aNil)))))) (nNil)) (nSeq (nIf (tV (mB (fEq false) (mV 6) (mC (.int 1)))) (nRet (mIf (tV (mB (fEq false) (mCall Fp (aCons (mV 0) (aCons (mC (.int 2)) (aNil)))) (mC (.int 0)))) (mTup (aCons (mV 4) (aCons (mV 5) (aNil)))) (mTup (aCons (mV 5) (aCons (mV 4) (aNil)))))) (nNil)) (nSeq (nIf (tV (mB (fEq false) (mV 6) (mC (.int 2)))) (nRet (mTup (aCons (mV 5) (aCons (mV 4) (aCons (mV 2) (aNil)))))) (nNil)) (nSeq (nIf (tV (mB (fEq false) (mV 6) (mC (.int 3)))) (nRet (mCall Fa (aCons (mV 0) (aCons (mLst (aCons (mV 4) (aCons (mV 5) (aCons (mV 2) (aNil))))) (aNil))))) (nNil)) (nSeq (nAsg 3 (mLst (aCons (mTup (aCons (mV 4) (aCons (mV 5) (aNil)))) (aCons (mTup (aCons (mV 5) (aCons (mV 4) (aNil)))) (aCons (mTup (aCons (mC (.str "")) (aCons (mV 4) (aNil)))) (aCons (mTup (aCons (mIx (mV 1) (mC (.int 3))) (aCons (mIx (mV 1) (mC (.int 4))) (aNil)))) (aCons (mTup (aCons (mV 4) (aCons (mIx (mV 1) (mC (.int 3))) (aNil)))) (aNil)))))))) (nRet (mU fTuple (mU fSort (mLc 7 (miR1 (mCall Fp (aCons (mV 0) (aCons (mC (.int 5)) (aNil))))) (fun _ r k => k true r) (mCall Fa (aCons (mV 0) (aCons (mV 3) (aNil)))))))))))))
def nD3 (Fp Fa : Fm) : MS := nSeq (nIf (tV (mB (fEq false) (mV 6) (mC (.int 0)))) (nRet (mTup (aCons (mV 4) (aCons (mV 5) (aCons (mV 2) (aNil)))))) (nNil)) (nSeq (nIf (tV (mB (fEq false) (mV 6) (mC (.int 1)))) (nRet (mIf (tV (mB (fEq false) (mCall Fp (aCons (mV 0) (aCons (mC (.int 2)) (aNil)))) (mC (.int 0)))) (mTup (aCons (mV 4) (aCons (mV 5) (aNil)))) (mTup (aCons (mV 5) (aCons (mV 4) (aNil)))))) (nNil)) (nSeq (nIf (tV (mB (fEq false) (mV 6) (mC (.int 2)))) (nRet (mTup (aCons (mV 5) (aCons (mV 4) (aCons (mV 2) (aNil)))))) (nNil)) (nSeq (nIf (tV (mB (fEq false) (mV 6) (mC (.int 3)))) (nRet (mCall Fa (aCons (mV 0) (aCons (mLst (aCons (mV 4) (aCons (mV 5) (aCons (mV 2) (aNil))))) (aNil))))) (nNil)) (nSeq (nAsg 3 (mLst (aCons (mTup (aCons (mV 4) (aCons (mV 5) (aNil)))) (aCons (mTup (aCons (mV 5) (aCons (mV 4) (aNil)))) (aCons (mTup (aCons (mC (.str "")) (aCons (mV 4) (aNil)))) (aCons (mTup (aCons (mIx (mV 1) (mC (.int 3))) (aCons (mIx (mV 1) (mC (.int 4))) (aNil)))) (aCons (mTup (aCons (mV 4) (aCons (mIx (mV 1) (mC (.int 3))) (aNil)))) (aNil)))))))) (nRet (mU fTuple (mU fSort (mLc 7 (miR1 (mCall Fp (aCons (mV 0) (aCons (mC (.int 5)) (aNil))))) (fun _ r k => k true r) (mCall Fa (aCons (mV 0) (aCons (mV 3) (aNil))))))))))))
def nD8 (Fp Fa : Fm) : MS := nRet (mU fTuple (mU fSort (mLc 7 (miR1 (mCall Fp (aCons (mV 0) (aCons (mC (.int 5)) (aNil))))) (fun _ r k => k true r) (mCall Fa (aCons (mV 0) (aCons (mV 3) (aNil)))))))
def sizeL : List PyData := [.int 0, .int 1, .int 2, .int 9, .int (10 ^ 59)]
theorem size_q : sizeL.all (qdB 0 200) = true := by decide +kernel
theorem d1_eq (Fp Fa Fn : Fm) (kf : W → Bool) : fOf ["_law_spool_here", "_law_names_here", "_law_size", "_law_menu", "_law_a", "_law_b", "_law_way", "_law_lap"] ["_law_spool_here"] (nDrawnG Fp Fa Fn) noX [.sp] kf = Fn noX [.sp] (fun w => nD1 Fp Fa noX [.val .sp, .val w, .un, .un, .un, .un, .un, .un] { nx := fun _ => kf (.d .none), rt := kf }) := by kernel_rfl
theorem d2_eq (Fp Fa : Fm) (ks : KS) (a0 a1 a2 a3 a4 a5 a6 a7 a8 a9 a10 a11 a12 a13 a14 a15 : PyData) : nD1 Fp Fa noX [.val .sp, .val (.d (.list [a0, a1, a2, a3, a4, a5, a6, a7, a8, a9, a10, a11, a12, a13, a14, a15])), .un, .un, .un, .un, .un, .un] ks = Fa noX [.sp, .d (.list [.str "", a1, a2])] (fun wb => Fp noX [.sp, .d (.int 6)] fun ww => nD2 Fp Fa noX [.val .sp, .val (.d (.list [a0, a1, a2, a3, a4, a5, a6, a7, a8, a9, a10, a11, a12, a13, a14, a15])), .un, .un, .val (.d a0), .val wb, .val ww, .un] ks) := by kernel_rfl
theorem d3_eq (Fp Fa : Fm) (ks : KS) (x a0 : PyData) (wb ww : W) : nD2 Fp Fa noX [.val .sp, .val (.d x), .un, .un, .val (.d a0), .val wb, .val ww, .un] ks = Fa noX [.sp, .d (.list sizeL)] (fun wz => nD3 Fp Fa noX [.val .sp, .val (.d x), .val wz, .un, .val (.d a0), .val wb, .val ww, .un] ks) := by kernel_rfl
theorem w0_eq (Fp Fa : Fm) (ks : KS) (a0 a1 a2 a3 a4 a5 a6 a7 a8 a9 a10 a11 a12 a13 a14 a15 b z : PyData) : nD3 Fp Fa noX [.val .sp, .val (.d (.list [a0, a1, a2, a3, a4, a5, a6, a7, a8, a9, a10, a11, a12, a13, a14, a15])), .val (.d z), .un, .val (.d a0), .val (.d b), .val (.d (.int 0)), .un] ks = ks.rt (.d (.tuple [a0, b, z])) := by kernel_rfl
theorem w1_eq (Fp Fa : Fm) (ks : KS) (a0 a1 a2 a3 a4 a5 a6 a7 a8 a9 a10 a11 a12 a13 a14 a15 b z : PyData) : nD3 Fp Fa noX [.val .sp, .val (.d (.list [a0, a1, a2, a3, a4, a5, a6, a7, a8, a9, a10, a11, a12, a13, a14, a15])), .val (.d z), .un, .val (.d a0), .val (.d b), .val (.d (.int 1)), .un] ks = Fp noX [.sp, .d (.int 2)] (fun w => nRet (mIf (tV (mB (fEq false) (mK w) (mC (.int 0)))) (mTup (aCons (mV 4) (aCons (mV 5) (aNil)))) (mTup (aCons (mV 5) (aCons (mV 4) (aNil))))) noX [.val .sp, .val (.d (.list [a0, a1, a2, a3, a4, a5, a6, a7, a8, a9, a10, a11, a12, a13, a14, a15])), .val (.d z), .un, .val (.d a0), .val (.d b), .val (.d (.int 1)), .un] ks) := by kernel_rfl
theorem w1a_eq (Fp Fa : Fm) (ks : KS) (a0 a1 a2 a3 a4 a5 a6 a7 a8 a9 a10 a11 a12 a13 a14 a15 b z : PyData) : (fun w => nRet (mIf (tV (mB (fEq false) (mK w) (mC (.int 0)))) (mTup (aCons (mV 4) (aCons (mV 5) (aNil)))) (mTup (aCons (mV 5) (aCons (mV 4) (aNil))))) noX [.val .sp, .val (.d (.list [a0, a1, a2, a3, a4, a5, a6, a7, a8, a9, a10, a11, a12, a13, a14, a15])), .val (.d z), .un, .val (.d a0), .val (.d b), .val (.d (.int 1)), .un] ks) (.d (.int 0)) = ks.rt (.d (.tuple [a0, b])) := by kernel_rfl
theorem w1b_eq (Fp Fa : Fm) (ks : KS) (a0 a1 a2 a3 a4 a5 a6 a7 a8 a9 a10 a11 a12 a13 a14 a15 b z : PyData) : (fun w => nRet (mIf (tV (mB (fEq false) (mK w) (mC (.int 0)))) (mTup (aCons (mV 4) (aCons (mV 5) (aNil)))) (mTup (aCons (mV 5) (aCons (mV 4) (aNil))))) noX [.val .sp, .val (.d (.list [a0, a1, a2, a3, a4, a5, a6, a7, a8, a9, a10, a11, a12, a13, a14, a15])), .val (.d z), .un, .val (.d a0), .val (.d b), .val (.d (.int 1)), .un] ks) (.d (.int 1)) = ks.rt (.d (.tuple [b, a0])) := by kernel_rfl
theorem w2_eq (Fp Fa : Fm) (ks : KS) (a0 a1 a2 a3 a4 a5 a6 a7 a8 a9 a10 a11 a12 a13 a14 a15 b z : PyData) : nD3 Fp Fa noX [.val .sp, .val (.d (.list [a0, a1, a2, a3, a4, a5, a6, a7, a8, a9, a10, a11, a12, a13, a14, a15])), .val (.d z), .un, .val (.d a0), .val (.d b), .val (.d (.int 2)), .un] ks = ks.rt (.d (.tuple [b, a0, z])) := by kernel_rfl
theorem w3_eq (Fp Fa : Fm) (ks : KS) (a0 a1 a2 a3 a4 a5 a6 a7 a8 a9 a10 a11 a12 a13 a14 a15 b z : PyData) : nD3 Fp Fa noX [.val .sp, .val (.d (.list [a0, a1, a2, a3, a4, a5, a6, a7, a8, a9, a10, a11, a12, a13, a14, a15])), .val (.d z), .un, .val (.d a0), .val (.d b), .val (.d (.int 3)), .un] ks = Fa noX [.sp, .d (.list [a0, b, z])] ks.rt := by kernel_rfl
theorem w4_eq (Fp Fa : Fm) (ks : KS) (a0 a1 a2 a3 a4 a5 a6 a7 a8 a9 a10 a11 a12 a13 a14 a15 b z : PyData) : nD3 Fp Fa noX [.val .sp, .val (.d (.list [a0, a1, a2, a3, a4, a5, a6, a7, a8, a9, a10, a11, a12, a13, a14, a15])), .val (.d z), .un, .val (.d a0), .val (.d b), .val (.d (.int 4)), .un] ks = nD8 Fp Fa noX [.val .sp, .val (.d (.list [a0, a1, a2, a3, a4, a5, a6, a7, a8, a9, a10, a11, a12, a13, a14, a15])), .val (.d z), .own [.tuple [a0, b], .tuple [b, a0], .tuple [.str "", a0], .tuple [a3, a4], .tuple [a0, a3]], .val (.d a0), .val (.d b), .val (.d (.int 4)), .un] ks := by kernel_rfl
theorem w5_eq (Fp Fa : Fm) (ks : KS) (a0 a1 a2 a3 a4 a5 a6 a7 a8 a9 a10 a11 a12 a13 a14 a15 b z : PyData) : nD3 Fp Fa noX [.val .sp, .val (.d (.list [a0, a1, a2, a3, a4, a5, a6, a7, a8, a9, a10, a11, a12, a13, a14, a15])), .val (.d z), .un, .val (.d a0), .val (.d b), .val (.d (.int 5)), .un] ks = nD8 Fp Fa noX [.val .sp, .val (.d (.list [a0, a1, a2, a3, a4, a5, a6, a7, a8, a9, a10, a11, a12, a13, a14, a15])), .val (.d z), .own [.tuple [a0, b], .tuple [b, a0], .tuple [.str "", a0], .tuple [a3, a4], .tuple [a0, a3]], .val (.d a0), .val (.d b), .val (.d (.int 5)), .un] ks := by kernel_rfl
theorem call_own3 {Fa : Fm} {r1 : Rho} {menu : List PyData} {k : KE} (g0 : r1[0]? = some (.val .sp)) (g3 : r1[3]? = some (.own menu)) : mCall Fa (aCons (mV 0) (aCons (mV 3) (aNil))) noX r1 k = Fa noX [.sp, .d (.list menu)] (fun w => k (.val w) (r1.set 3 (.val (.d (.list menu))))) := by
  have v0 : ∀ k : KE, mV 0 noX r1 k = k (.val .sp) r1 := fun k => by unfold mV; rw [g0]
  have v3 : ∀ k : KE, mV 3 noX r1 k = k (.pk 3 menu) r1 := fun k => by unfold mV; rw [g3]
  have es : R.esc (.pk 3 menu) r1 = (.d (.list menu), r1.set 3 (.val (.d (.list menu)))) := by
    show (W.d (.list menu), match r1[3]? with | some (S.own _) => r1.set 3 (.val (.d (.list menu))) | _ => r1) = _
    rw [g3]
  unfold mCall aCons
  rw [v0]
  show (mV 3 noX r1 _) = _
  rw [v3, es]
  rfl
theorem call_val3 {Fa : Fm} {r1 : Rho} {menu : List PyData} {k : KE} (g0 : r1[0]? = some (.val .sp)) (g3 : r1[3]? = some (.val (.d (.list menu)))) : mCall Fa (aCons (mV 0) (aCons (mV 3) (aNil))) noX r1 k = Fa noX [.sp, .d (.list menu)] (fun w => k (.val w) r1) := by
  have v0 : ∀ k : KE, mV 0 noX r1 k = k (.val .sp) r1 := fun k => by unfold mV; rw [g0]
  have v3 : ∀ k : KE, mV 3 noX r1 k = k (.val (.d (.list menu))) r1 := fun k => by unfold mV; rw [g3]
  unfold mCall aCons
  rw [v0]
  show (mV 3 noX r1 _) = _
  rw [v3]
  rfl
/-- the moves of a drawn tuple -/
theorem lc_any {Fp Fa : Fm} (D : Dr Fp Fa) {menu : List PyData} (h0 : 0 < menu.length) (h1 : menu.length < 100000) (kk : List PyData → Rho → Bool) : ∀ (xs acc : List PyData) (r : Rho), r[0]? = some (.val .sp) → r[3]? = some (.own menu) ∨ r[3]? = some (.val (.d (.list menu))) → 3 < r.length → acc.length + xs.length ≤ 1000 →
    (∀ ys r', ys.length = acc.length + xs.length → (∀ y ∈ ys, y ∈ acc ∨ y ∈ menu) → kk ys r' = true) → mLcGo 7 (fun _ r k => k true r) (mCall Fa (aCons (mV 0) (aCons (mV 3) (aNil)))) xs acc r kk = true
  | [], acc, r, _, _, _, _, h => h acc r (by simp) fun y hy => .inl hy
  | x :: xs, acc, r, e0, e3, hl, hz, h => by
    rw [List.length_cons] at hz
    have g0 : (r.set 7 (.val (.d x)))[0]? = some (.val .sp) := by rw [List.getElem?_set_ne (by decide)]; exact e0
    have step : ∀ r2 : Rho, r2[0]? = some (.val .sp) → r2[3]? = some (.own menu) ∨ r2[3]? = some (.val (.d (.list menu))) → 3 < r2.length → ∀ y ∈ menu, (decide (acc.length < sizeLine) && mLcGo 7 (fun _ r k => k true r) (mCall Fa (aCons (mV 0) (aCons (mV 3) (aNil)))) xs (acc ++ [y]) r2 kk) = true := fun r2 f0 f3 fl y hy => by
      refine andB (decide_eq_true (by have e : sizeLine = 16777216 := by decide
                                      omega)) ?_
      refine lc_any D h0 h1 kk xs (acc ++ [y]) r2 f0 f3 fl (by rw [List.length_append, List.length_singleton]; omega) fun ys r' q1 q2 => h ys r' (by rw [q1, List.length_append, List.length_singleton, List.length_cons]; omega) fun z hz' => ?_
      rcases q2 z hz' with q | q
      · rcases List.mem_append.mp q with
            q | q
        · exact .inl q
        · exact .inr (by cases List.mem_singleton.mp q; exact hy)
      · exact .inr q
    have hl7 : 3 < (r.set 7 (.val (.d x))).length := by rw [List.length_set]; exact hl
    have go : mLcGo 7 (fun _ r k => k true r) (mCall Fa (aCons (mV 0) (aCons (mV 3) (aNil)))) (x :: xs) acc r kk = mCall Fa (aCons (mV 0) (aCons (mV 3) (aNil))) noX (r.set 7 (.val (.d x))) (fun y r2 => (match y.esc r2 with
        | (.d d, r3) => decide (acc.length < sizeLine) && mLcGo 7 (fun _ r k => k true r) (mCall Fa (aCons (mV 0) (aCons (mV 3) (aNil)))) xs (acc ++ [d]) r3 kk
        | _ => false)) := rfl
    rw [go]
    rcases e3 with e3 | e3
    · have g3 : (r.set 7 (.val (.d x)))[3]? = some (.own menu) := by rw [List.getElem?_set_ne (by decide)]; exact e3
      rw [call_own3 g0 g3]
      refine D.a h0 h1 fun y hy => ?_
      refine step _ ?_ (.inr ?_) (by rw [List.length_set]; exact hl7) y hy
      · rw [List.getElem?_set_ne (by decide)]; exact g0
      · exact List.getElem?_set_self hl7
    · have g3 : (r.set 7 (.val (.d x)))[3]? = some (.val (.d (.list menu))) := by rw [List.getElem?_set_ne (by decide)]; exact e3
      rw [call_val3 g0 g3]
      refine D.a h0 h1 fun y hy => ?_
      exact step _ g0 (.inr g3) hl7 y hy
theorem d8a_eq (Fp Fa : Fm) (ks : KS) (x0 x1 : PyData) (menu : List PyData) (w4 w5 w6 : PyData) : nD8 Fp Fa noX [.val .sp, .val (.d x0), .val (.d x1), .own menu, .val (.d w4), .val (.d w5), .val (.d w6), .un] ks = Fp noX [.sp, .d (.int 5)] (fun w => nRet (mU fTuple (mU fSort (mLc 7 (miR1 (mK w)) (fun _ r k => k true r) (mCall Fa (aCons (mV 0) (aCons (mV 3) (aNil))))))) noX [.val .sp, .val (.d x0), .val (.d x1), .own menu, .val (.d w4), .val (.d w5), .val (.d w6), .un] ks) := by kernel_rfl
theorem d8b0_eq (Fp Fa : Fm) (ks : KS) (x0 x1 : PyData) (menu : List PyData) (w4 w5 w6 : PyData) : (fun w => nRet (mU fTuple (mU fSort (mLc 7 (miR1 (mK w)) (fun _ r k => k true r) (mCall Fa (aCons (mV 0) (aCons (mV 3) (aNil))))))) noX [.val .sp, .val (.d x0), .val (.d x1), .own menu, .val (.d w4), .val (.d w5), .val (.d w6), .un] ks) (.d (.int 0)) = mLcGo 7 (fun _ r k => k true r) (mCall Fa (aCons (mV 0) (aCons (mV 3) (aNil)))) (intsD 0 0) [] [.val .sp, .val (.d x0), .val (.d x1), .own menu, .val (.d w4), .val (.d w5), .val (.d w6), .un] (fun acc r2 => fSort (.fr acc) (r2.set 7 .un) fun y r3 => fTuple y r3 fun y r4 => ks.rt (y.esc r4).1) := by kernel_rfl
theorem d8b1_eq (Fp Fa : Fm) (ks : KS) (x0 x1 : PyData) (menu : List PyData) (w4 w5 w6 : PyData) : (fun w => nRet (mU fTuple (mU fSort (mLc 7 (miR1 (mK w)) (fun _ r k => k true r) (mCall Fa (aCons (mV 0) (aCons (mV 3) (aNil))))))) noX [.val .sp, .val (.d x0), .val (.d x1), .own menu, .val (.d w4), .val (.d w5), .val (.d w6), .un] ks) (.d (.int 1)) = mLcGo 7 (fun _ r k => k true r) (mCall Fa (aCons (mV 0) (aCons (mV 3) (aNil)))) (intsD 0 1) [] [.val .sp, .val (.d x0), .val (.d x1), .own menu, .val (.d w4), .val (.d w5), .val (.d w6), .un] (fun acc r2 => fSort (.fr acc) (r2.set 7 .un) fun y r3 => fTuple y r3 fun y r4 => ks.rt (y.esc r4).1) := by kernel_rfl
theorem d8b2_eq (Fp Fa : Fm) (ks : KS) (x0 x1 : PyData) (menu : List PyData) (w4 w5 w6 : PyData) : (fun w => nRet (mU fTuple (mU fSort (mLc 7 (miR1 (mK w)) (fun _ r k => k true r) (mCall Fa (aCons (mV 0) (aCons (mV 3) (aNil))))))) noX [.val .sp, .val (.d x0), .val (.d x1), .own menu, .val (.d w4), .val (.d w5), .val (.d w6), .un] ks) (.d (.int 2)) = mLcGo 7 (fun _ r k => k true r) (mCall Fa (aCons (mV 0) (aCons (mV 3) (aNil)))) (intsD 0 2) [] [.val .sp, .val (.d x0), .val (.d x1), .own menu, .val (.d w4), .val (.d w5), .val (.d w6), .un] (fun acc r2 => fSort (.fr acc) (r2.set 7 .un) fun y r3 => fTuple y r3 fun y r4 => ks.rt (y.esc r4).1) := by kernel_rfl
theorem d8b3_eq (Fp Fa : Fm) (ks : KS) (x0 x1 : PyData) (menu : List PyData) (w4 w5 w6 : PyData) : (fun w => nRet (mU fTuple (mU fSort (mLc 7 (miR1 (mK w)) (fun _ r k => k true r) (mCall Fa (aCons (mV 0) (aCons (mV 3) (aNil))))))) noX [.val .sp, .val (.d x0), .val (.d x1), .own menu, .val (.d w4), .val (.d w5), .val (.d w6), .un] ks) (.d (.int 3)) = mLcGo 7 (fun _ r k => k true r) (mCall Fa (aCons (mV 0) (aCons (mV 3) (aNil)))) (intsD 0 3) [] [.val .sp, .val (.d x0), .val (.d x1), .own menu, .val (.d w4), .val (.d w5), .val (.d w6), .un] (fun acc r2 => fSort (.fr acc) (r2.set 7 .un) fun y r3 => fTuple y r3 fun y r4 => ks.rt (y.esc r4).1) := by kernel_rfl
theorem d8b4_eq (Fp Fa : Fm) (ks : KS) (x0 x1 : PyData) (menu : List PyData) (w4 w5 w6 : PyData) : (fun w => nRet (mU fTuple (mU fSort (mLc 7 (miR1 (mK w)) (fun _ r k => k true r) (mCall Fa (aCons (mV 0) (aCons (mV 3) (aNil))))))) noX [.val .sp, .val (.d x0), .val (.d x1), .own menu, .val (.d w4), .val (.d w5), .val (.d w6), .un] ks) (.d (.int 4)) = mLcGo 7 (fun _ r k => k true r) (mCall Fa (aCons (mV 0) (aCons (mV 3) (aNil)))) (intsD 0 4) [] [.val .sp, .val (.d x0), .val (.d x1), .own menu, .val (.d w4), .val (.d w5), .val (.d w6), .un] (fun acc r2 => fSort (.fr acc) (r2.set 7 .un) fun y r3 => fTuple y r3 fun y r4 => ks.rt (y.esc r4).1) := by kernel_rfl
theorem intsD_len : ∀ (i : Int) (n : Nat), (intsD i n).length = n
  | i, 0 => rfl
  | i, n + 1 => by
    show (PyData.int i :: intsD (i + 1) n).length = n + 1
    rw [List.length_cons, intsD_len (i + 1) n]
theorem drawn_gen {Fp Fa Fn : Fm} (D : Dr Fp Fa) (hN : ∀ {kf : W → Bool}, (∀ ns : List PyData, ns.length = 16 → ns.all nmB = true → kf (.d (.list ns)) = true) → Fn noX [.sp] kf = true) {kf : W → Bool} (h : ∀ x, Qd 2 230 x → kf (.d x) = true) : fOf ["_law_spool_here", "_law_names_here", "_law_size", "_law_menu", "_law_a", "_law_b", "_law_way", "_law_lap"] ["_law_spool_here"] (nDrawnG Fp Fa Fn) noX [.sp] kf = true := by
  rw [d1_eq]
  refine hN fun ns hl hs => ?_
  rw [List.all_eq_true] at hs
  obtain ⟨a0, n0, rfl, l0⟩ := cons_of hl
  obtain ⟨a1, n1, rfl, l1⟩ := cons_of l0
  obtain ⟨a2, n2, rfl, l2⟩ := cons_of l1
  obtain ⟨a3, n3, rfl, l3⟩ := cons_of l2
  obtain ⟨a4, n4, rfl, l4⟩ := cons_of l3
  obtain ⟨a5, n5, rfl, l5⟩ := cons_of l4
  obtain ⟨a6, n6, rfl, l6⟩ := cons_of l5
  obtain ⟨a7, n7, rfl, l7⟩ := cons_of l6
  obtain ⟨a8, n8, rfl, l8⟩ := cons_of l7
  obtain ⟨a9, n9, rfl, l9⟩ := cons_of l8
  obtain ⟨a10, n10, rfl, l10⟩ := cons_of l9
  obtain ⟨a11, n11, rfl, l11⟩ := cons_of l10
  obtain ⟨a12, n12, rfl, l12⟩ := cons_of l11
  obtain ⟨a13, n13, rfl, l13⟩ := cons_of l12
  obtain ⟨a14, n14, rfl, l14⟩ := cons_of l13
  obtain ⟨a15, n15, rfl, l15⟩ := cons_of l14
  cases List.eq_nil_of_length_eq_zero l15
  rw [d2_eq]
  have q0 := nm_q (hs a0 (by simp))
  have q3 := nm_q (hs a3 (by simp))
  have q4 := nm_q (hs a4 (by simp))
  obtain ⟨s0, e0, _, _⟩ := nm_str (hs a0 (by simp))
  obtain ⟨s3, e3, _, _⟩ := nm_str (hs a3 (by simp))
  obtain ⟨s4, e4, _, _⟩ := nm_str (hs a4 (by simp))
  refine D.a (by simp) (by simp) fun b hb => ?_
  have nb : nmB b = true := by
    rcases List.mem_cons.mp hb with
          rfl | hb
    · decide +kernel
    · exact hs b (by
        rcases List.mem_cons.mp hb with
              rfl | hb
        · simp
        · cases List.mem_singleton.mp hb; simp)
  have qb := nm_q nb
  obtain ⟨sb, eb, _, _⟩ := nm_str nb
  refine D.p (by decide) (by decide) fun r hr => ?_
  rw [d3_eq]
  refine D.a (by decide) (by decide) fun z hz => ?_
  have qz : Qd 0 200 z := qd_of (List.all_eq_true.mp size_q z hz)
  have t2 : ∀ {x y : PyData} {m n : Nat}, Qd 0 m x → Qd 0 n y → m + n + 2 ≤ 230 → Qd 2 230 (.tuple [x, y]) := fun hx hy hm => Qd.mono (Qd.tup.mpr ((Qa.one hx).app (Qa.one hy))) (by decide) (by omega)
  have t3 : ∀ {x y z : PyData} {m n l : Nat}, Qd 0 m x → Qd 0 n y → Qd 0 l z → m + n + l + 3 ≤ 230 → Qd 2 230 (.tuple [x, y, z]) := fun hx hy hz hm => Qd.mono (Qd.tup.mpr ((Qa.one hx).app ((Qa.one hy).app (Qa.one hz)))) (by decide) (by omega)
  have menu_q : ∀ y ∈ [.tuple [a0, b], .tuple [b, a0], .tuple [.str "", a0], .tuple [a3, a4], .tuple [a0, a3]], pairS y = true ∧ Qd 1 18 y := fun y hy => by
    have qe : Qd 0 8 (.str "") := nm_q (by decide +kernel)
    have m2 : ∀ {x y : PyData}, Qd 0 8 x → Qd 0 8 y → Qd 1 18 (.tuple [x, y]) := fun hx hy => Qd.tup.mpr ((Qa.one hx).app (Qa.one hy))
    rcases List.mem_cons.mp hy with
          rfl | hy
    · exact ⟨by rw [e0, eb]; rfl, m2 q0 qb⟩
    rcases List.mem_cons.mp hy with
          rfl | hy
    · exact ⟨by rw [e0, eb]; rfl, m2 qb q0⟩
    rcases List.mem_cons.mp hy with
          rfl | hy
    · exact ⟨by rw [e0]; rfl, m2 qe q0⟩
    rcases List.mem_cons.mp hy with
          rfl | hy
    · exact ⟨by rw [e3, e4]; rfl, m2 q3 q4⟩
    · cases List.mem_singleton.mp hy
      exact ⟨by rw [e0, e3]; rfl, m2 q0 q3⟩
  have fin : ∀ r' : PyData, nD8 Fp Fa noX [.val .sp, .val (.d (.list [a0, a1, a2, a3, a4, a5, a6, a7, a8, a9, a10, a11, a12, a13, a14, a15])), .val (.d z), .own [.tuple [a0, b], .tuple [b, a0], .tuple [.str "", a0], .tuple [a3, a4], .tuple [a0, a3]], .val (.d a0), .val (.d b), .val (.d r'), .un] { nx := fun _ => kf (.d .none), rt := kf } = true := fun r' => by
    rw [d8a_eq]
    have done : ∀ j : Nat, j ≤ 4 → mLcGo 7 (fun _ r k => k true r) (mCall Fa (aCons (mV 0) (aCons (mV 3) (aNil)))) (intsD 0 j) [] [.val .sp, .val (.d (.list [a0, a1, a2, a3, a4, a5, a6, a7, a8, a9, a10, a11, a12, a13, a14, a15])), .val (.d z), .own [.tuple [a0, b], .tuple [b, a0], .tuple [.str "", a0], .tuple [a3, a4], .tuple [a0, a3]], .val (.d a0), .val (.d b), .val (.d r'), .un] (fun acc r2 => fSort (.fr acc) (r2.set 7 .un) fun y r3 => fTuple y r3 fun y r4 => kf (y.esc r4).1) = true := fun j hj => by
      have il : (intsD 0 j).length = j := intsD_len 0 j
      refine lc_any D (menu := [.tuple [a0, b], .tuple [b, a0], .tuple [.str "", a0], .tuple [a3, a4], .tuple [a0, a3]]) (by simp) (by simp) _ _ _ _ rfl (.inl rfl) (by simp) (by rw [il]; simp; omega) fun ys r2 h1 h2 => ?_
      rw [il] at h1
      have hy : ∀ y ∈ ys, pairS y = true ∧ Qd 1 18 y := fun y hy => menu_q y ((h2 y hy).resolve_left (by simp))
      have h1' : ys.length ≤ 4 := by simpa using (show ys.length ≤ 4 by simp at h1; omega)
      have s1 : alikeB ys = true := List.all_eq_true.mpr fun x hx => List.all_eq_true.mpr fun y hyy => alike_pair (hy x hx).1 (hy y hyy).1
      have s2 : sortB ys = true := by
        unfold sortB
        rw [Bool.or_eq_true]
        refine .inl (List.all_eq_true.mpr fun x hx => ?_)
        have := (hy x hx).1
        unfold pairS at this
        split at this
        · rfl
        · cases this
      have s3 : decide (ys.length ≤ sizeLine) = true := sz (by omega)
      have s4 : (ys.all fun d => decide (d.depth ≤ 60)) = true := List.all_eq_true.mpr fun x hx => decide_eq_true (Nat.le_trans (hy x hx).2.dp (by decide))
      show (alikeB ys && (sortB ys && (decide (ys.length ≤ sizeLine) && ((ys.all fun d => decide (d.depth ≤ 60)) && kf (.d (.tuple (ys.mergeSort (PySem.W.dataLe false id)))))))) = true
      rw [s1, s2, s3, s4]
      refine h _ (Qd.tup.mpr ?_)
      have wl : ∀ zs : List PyData, (∀ y ∈ zs, Qd 1 18 y) → PyData.weightAll zs ≤ zs.length * 19 := fun zs => by
        induction zs with
        | nil => intro _; simp [PyData.weightAll]
        | cons y ys ih =>
          intro q
          have := ih fun z hz => q z (List.mem_cons_of_mem _ hz)
          have := (q y (List.mem_cons_self ..)).wt
          simp only [PyData.weightAll, List.length_cons]
          omega
      have hm : ∀ y ∈ ys.mergeSort (PySem.W.dataLe false id), Qd 1 18 y := fun y hy' => (hy y (List.mem_mergeSort.mp hy')).2
      exact ⟨fun y hy' => ⟨(hm y hy').lay, (hm y hy').dp⟩, Nat.le_trans (wl _ hm) (by rw [List.length_mergeSort]; omega)⟩
    refine D.p (by decide) (by decide) fun j hj => ?_
    match j, hj with
    | 0, _ => exact (d8b0_eq Fp ..).trans (done 0 (by decide))
    | 1, _ => exact (d8b1_eq Fp ..).trans (done 1 (by decide))
    | 2, _ => exact (d8b2_eq Fp ..).trans (done 2 (by decide))
    | 3, _ => exact (d8b3_eq Fp ..).trans (done 3 (by decide))
    | 4, _ => exact (d8b4_eq Fp ..).trans (done 4 (by decide))
    | n + 5, hj => exact absurd hj (by omega)
  match r, hr with
  | 0, _ => exact (w0_eq ..).trans (h _ (t3 q0 qb qz (by decide)))
  | 1, _ =>
    refine (w1_eq ..).trans (D.p (by decide) (by decide) fun j hj => ?_)
    match j, hj with
    | 0, _ => exact (w1a_eq Fp Fa _ a0 a1 a2 a3 a4 a5 a6 a7 a8 a9 a10 a11 a12 a13 a14 a15 b z).trans (h _ (t2 q0 qb (by decide)))
    | 1, _ => exact (w1b_eq Fp Fa _ a0 a1 a2 a3 a4 a5 a6 a7 a8 a9 a10 a11 a12 a13 a14 a15 b z).trans (h _ (t2 qb q0 (by decide)))
    | n + 2, hj => exact absurd hj (by omega)
  | 2, _ => exact (w2_eq ..).trans (h _ (t3 qb q0 qz (by decide)))
  | 3, _ =>
    refine (w3_eq ..).trans (D.a (by simp) (by simp) fun x hx => h x ?_)
    rcases List.mem_cons.mp hx with
          rfl | hx
    · exact q0.mono (by decide) (by decide)
    rcases List.mem_cons.mp hx with
          rfl | hx
    · exact qb.mono (by decide) (by decide)
    · cases List.mem_singleton.mp hx
      exact qz.mono (by decide) (by decide)
  | 4, _ => exact (w4_eq ..).trans (fin _)
  | 5, _ => exact (w5_eq ..).trans (fin _)
  | n + 6, hr => exact absurd hr (by omega)
theorem drawn_ok {kf : W → Bool} (h : ∀ x, Qd 2 230 x → kf (.d x) = true) : F_q_drawn noX [.sp] kf = true := by
  unfold F_q_drawn
  exact drawn_gen (Fn := F_q_names) dr (fun h => names_ok h) h
end K01

set_option Elab.async false
set_option linter.all false
set_option maxRecDepth 100000
set_option maxHeartbeats 390000
namespace K01
open PySem L2 Pz
def nB1 (F Fp : Fm) : MS := nIf (tAndT (tV (mIsi "tuple" (mV 1))) (tAndT (tV (mB (fRel fun i j => decide (j < i)) (mU fLen (mV 1)) (mC (.int 0)))) (tV (mB (fRel fun i j => decide (j < i)) (mCall Fp (aCons (mV 0) (aCons (mC (.int 4)) (aNil)))) (mC (.int 0)))))) (nSeq (nAsg 2 (mCall Fp (aCons (mV 0) (aCons (mU fLen (mV 1)) (aNil))))) (nRet (mAdd (mAdd (mSl (mV 1) (oNo) (oYes (mV 2))) (mTup (aCons (mCall F (aCons (mV 0) (aCons (mIx (mV 1) (mV 2)) (aNil)))) (aNil)))) (mSl (mV 1) (oYes (mAdd (mV 2) (mC (.int 1)))) (oNo))))) (nNil)
def nBA (F : Fm) : MS := nRet (mAdd (mAdd (mSl (mV 1) (oNo) (oYes (mV 2))) (mTup (aCons (mCall F (aCons (mV 0) (aCons (mIx (mV 1) (mV 2)) (aNil)))) (aNil)))) (mSl (mV 1) (oYes (mAdd (mV 2) (mC (.int 1)))) (oNo)))
def nBR (Fp Fa Fs : Fm) : MS := nSeq (nPar 3 4 (mCall Fp (aCons (mV 0) (aCons (mC (.int 7)) (aNil)))) (mCall Fs (aCons (mV 0) (aNil)))) (nSeq (nIf (tAndT (tV (mIsi "tuple" (mV 1))) (tV (mB (fRel fun i j => decide (i < j)) (mV 3) (mC (.int 6))))) (nSeq (nAsg 2 (mCall Fp (aCons (mV 0) (aCons (mAdd (mU fLen (mV 1)) (mC (.int 1))) (aNil))))) (nSeq (nIf (tV (mB (fEq false) (mV 3) (mC (.int 0)))) (nRet (mU fList (mV 1))) (nNil)) (nSeq (nIf (tV (mB (fEq false) (mV 3) (mC (.int 1)))) (nRet (mAdd (mSl (mV 1) (oNo) (oYes (mV 2))) (mSl (mV 1) (oYes (mAdd (mV 2) (mC (.int 1)))) (oNo)))) (nNil)) (nSeq (nIf (tV (mB (fEq false) (mV 3) (mC (.int 2)))) (nRet (mAdd (mAdd (mSl (mV 1) (oNo) (oYes (mV 2))) (mSl (mV 1) (oYes (mV 2)) (oYes (mAdd (mV 2) (mC (.int 1)))))) (mSl (mV 1) (oYes (mV 2)) (oNo)))) (nNil)) (nRet (mIf (tV (mB (fRel fun i j => decide (i < j)) (mV 3) (mC (.int 5)))) (mAdd (mAdd (mSl (mV 1) (oNo) (oYes (mV 2))) (mTup (aCons (mV 4) (aNil)))) (mSl (mV 1) (oYes (mV 2)) (oNo))) (mRev (mV 1)))))))) (nNil)) (nSeq (nIf (tAndT (tV (mIsi "str" (mV 1))) (tV (mB (fRel fun i j => decide (i < j)) (mV 3) (mC (.int 6))))) (nSeq (nAsg 2 (mCall Fp (aCons (mV 0) (aCons (mAdd (mU fLen (mV 1)) (mC (.int 1))) (aNil))))) (nRet (mAdd (mAdd (mSl (mV 1) (oNo) (oYes (mV 2))) (mCall Fa (aCons (mV 0) (aCons (mLst (aCons (mC (.str "a")) (aCons (mC (.str "b")) (aCons (mC (.str "z")) (aCons (mC (.str "A")) (aCons (mC (.str "")) (aCons (mC (.str " ")) (aCons (mC (.str "1")) (aCons (mC (.str "zz")) (aNil)))))))))) (aNil))))) (mSl (mV 1) (oYes (mAdd (mV 2) (mU fInt (mB (fRel fun i j => decide (j < i)) (mV 3) (mC (.int 3)))))) (oNo))))) (nNil)) (nSeq (nIf (tAndT (tV (mIsi "int" (mV 1))) (tAndT (tNotT (tV (mIsi "bool" (mV 1)))) (tV (mB (fRel fun i j => decide (i < j)) (mV 3) (mC (.int 5)))))) (nRet (mIx (mLst (aCons (mAdd (mV 1) (mC (.int 1))) (aCons (mSub (mV 1) (mC (.int 1))) (aCons (mNeg (mV 1)) (aCons (mB (fEq false) (mV 1) (mC (.int 1))) (aCons (mU fStr (mV 1)) (aNil))))))) (mV 3))) (nNil)) (nRet (mV 4)))))
def nBS (Fp Fa : Fm) : MS := nSeq (nIf (tAndT (tV (mIsi "tuple" (mV 1))) (tV (mB (fRel fun i j => decide (i < j)) (mV 3) (mC (.int 6))))) (nSeq (nAsg 2 (mCall Fp (aCons (mV 0) (aCons (mAdd (mU fLen (mV 1)) (mC (.int 1))) (aNil))))) (nSeq (nIf (tV (mB (fEq false) (mV 3) (mC (.int 0)))) (nRet (mU fList (mV 1))) (nNil)) (nSeq (nIf (tV (mB (fEq false) (mV 3) (mC (.int 1)))) (nRet (mAdd (mSl (mV 1) (oNo) (oYes (mV 2))) (mSl (mV 1) (oYes (mAdd (mV 2) (mC (.int 1)))) (oNo)))) (nNil)) (nSeq (nIf (tV (mB (fEq false) (mV 3) (mC (.int 2)))) (nRet (mAdd (mAdd (mSl (mV 1) (oNo) (oYes (mV 2))) (mSl (mV 1) (oYes (mV 2)) (oYes (mAdd (mV 2) (mC (.int 1)))))) (mSl (mV 1) (oYes (mV 2)) (oNo)))) (nNil)) (nRet (mIf (tV (mB (fRel fun i j => decide (i < j)) (mV 3) (mC (.int 5)))) (mAdd (mAdd (mSl (mV 1) (oNo) (oYes (mV 2))) (mTup (aCons (mV 4) (aNil)))) (mSl (mV 1) (oYes (mV 2)) (oNo))) (mRev (mV 1)))))))) (nNil)) (nSeq (nIf (tAndT (tV (mIsi "str" (mV 1))) (tV (mB (fRel fun i j => decide (i < j)) (mV 3) (mC (.int 6))))) (nSeq (nAsg 2 (mCall Fp (aCons (mV 0) (aCons (mAdd (mU fLen (mV 1)) (mC (.int 1))) (aNil))))) (nRet (mAdd (mAdd (mSl (mV 1) (oNo) (oYes (mV 2))) (mCall Fa (aCons (mV 0) (aCons (mLst (aCons (mC (.str "a")) (aCons (mC (.str "b")) (aCons (mC (.str "z")) (aCons (mC (.str "A")) (aCons (mC (.str "")) (aCons (mC (.str " ")) (aCons (mC (.str "1")) (aCons (mC (.str "zz")) (aNil)))))))))) (aNil))))) (mSl (mV 1) (oYes (mAdd (mV 2) (mU fInt (mB (fRel fun i j => decide (j < i)) (mV 3) (mC (.int 3)))))) (oNo))))) (nNil)) (nSeq (nIf (tAndT (tV (mIsi "int" (mV 1))) (tAndT (tNotT (tV (mIsi "bool" (mV 1)))) (tV (mB (fRel fun i j => decide (i < j)) (mV 3) (mC (.int 5)))))) (nRet (mIx (mLst (aCons (mAdd (mV 1) (mC (.int 1))) (aCons (mSub (mV 1) (mC (.int 1))) (aCons (mNeg (mV 1)) (aCons (mB (fEq false) (mV 1) (mC (.int 1))) (aCons (mU fStr (mV 1)) (aNil))))))) (mV 3))) (nNil)) (nRet (mV 4))))
def nBT : MS := nSeq (nIf (tV (mB (fEq false) (mV 3) (mC (.int 0)))) (nRet (mU fList (mV 1))) (nNil)) (nSeq (nIf (tV (mB (fEq false) (mV 3) (mC (.int 1)))) (nRet (mAdd (mSl (mV 1) (oNo) (oYes (mV 2))) (mSl (mV 1) (oYes (mAdd (mV 2) (mC (.int 1)))) (oNo)))) (nNil)) (nSeq (nIf (tV (mB (fEq false) (mV 3) (mC (.int 2)))) (nRet (mAdd (mAdd (mSl (mV 1) (oNo) (oYes (mV 2))) (mSl (mV 1) (oYes (mV 2)) (oYes (mAdd (mV 2) (mC (.int 1)))))) (mSl (mV 1) (oYes (mV 2)) (oNo)))) (nNil)) (nRet (mIf (tV (mB (fRel fun i j => decide (i < j)) (mV 3) (mC (.int 5)))) (mAdd (mAdd (mSl (mV 1) (oNo) (oYes (mV 2))) (mTup (aCons (mV 4) (aNil)))) (mSl (mV 1) (oYes (mV 2)) (oNo))) (mRev (mV 1))))))
def nBU (Fa : Fm) : MS := nRet (mAdd (mAdd (mSl (mV 1) (oNo) (oYes (mV 2))) (mCall Fa (aCons (mV 0) (aCons (mLst (aCons (mC (.str "a")) (aCons (mC (.str "b")) (aCons (mC (.str "z")) (aCons (mC (.str "A")) (aCons (mC (.str "")) (aCons (mC (.str " ")) (aCons (mC (.str "1")) (aCons (mC (.str "zz")) (aNil)))))))))) (aNil))))) (mSl (mV 1) (oYes (mAdd (mV 2) (mU fInt (mB (fRel fun i j => decide (j < i)) (mV 3) (mC (.int 3)))))) (oNo)))
theorem ini_eq (x : PyData) : startR ["_law_spool_here", "_law_what", "_law_k", "_law_way", "_law_odd"] [W.sp, W.d x] = [.val .sp, .val (.d x), .un, .un, .un] := rfl
theorem bR_eq (Fp Fa Fs : Fm) (x : PyData) (ks : KS) : nBR Fp Fa Fs noX [.val .sp, .val (.d x), .un, .un, .un] ks = Fp noX [.sp, .d (.int 7)] (fun w => Fs noX [.sp] fun o => nBS Fp Fa noX [.val .sp, .val (.d x), .un, .val w, .val o] ks) := by kernel_rfl
theorem b1_none (F Fp : Fm)  (ks : KS) : nB1 F Fp noX [.val .sp, .val (.d (.none)), .un, .un, .un] ks = ks.nx [.val .sp, .val (.d (.none)), .un, .un, .un] := by kernel_rfl
theorem bS_none (Fp Fa : Fm)  (w o : W) (ks : KS) : nBS Fp Fa noX [.val .sp, .val (.d (.none)), .un, .val w, .val o] ks = ks.rt o := by kernel_rfl
theorem b1_bool (F Fp : Fm) (q : Bool) (ks : KS) : nB1 F Fp noX [.val .sp, .val (.d (.bool q)), .un, .un, .un] ks = ks.nx [.val .sp, .val (.d (.bool q)), .un, .un, .un] := by kernel_rfl
theorem bS_bool (Fp Fa : Fm) (q : Bool) (w o : W) (ks : KS) : nBS Fp Fa noX [.val .sp, .val (.d (.bool q)), .un, .val w, .val o] ks = ks.rt o := by kernel_rfl
theorem b1_int (F Fp : Fm) (q : Int) (ks : KS) : nB1 F Fp noX [.val .sp, .val (.d (.int q)), .un, .un, .un] ks = ks.nx [.val .sp, .val (.d (.int q)), .un, .un, .un] := by kernel_rfl
theorem b1_str (F Fp : Fm) (q : Str) (ks : KS) : nB1 F Fp noX [.val .sp, .val (.d (.str q)), .un, .un, .un] ks = ks.nx [.val .sp, .val (.d (.str q)), .un, .un, .un] := by kernel_rfl
theorem b1_list (F Fp : Fm) (q : List PyData) (ks : KS) : nB1 F Fp noX [.val .sp, .val (.d (.list q)), .un, .un, .un] ks = ks.nx [.val .sp, .val (.d (.list q)), .un, .un, .un] := by kernel_rfl
theorem bS_list (Fp Fa : Fm) (q : List PyData) (w o : W) (ks : KS) : nBS Fp Fa noX [.val .sp, .val (.d (.list q)), .un, .val w, .val o] ks = ks.rt o := by kernel_rfl
theorem b1_dict (F Fp : Fm) (q : List (PyData × PyData)) (ks : KS) : nB1 F Fp noX [.val .sp, .val (.d (.dict q)), .un, .un, .un] ks = ks.nx [.val .sp, .val (.d (.dict q)), .un, .un, .un] := by kernel_rfl
theorem bS_dict (Fp Fa : Fm) (q : List (PyData × PyData)) (w o : W) (ks : KS) : nBS Fp Fa noX [.val .sp, .val (.d (.dict q)), .un, .val w, .val o] ks = ks.rt o := by kernel_rfl
theorem b1_tup0 (F Fp : Fm) (ks : KS) : nB1 F Fp noX [.val .sp, .val (.d (.tuple [])), .un, .un, .un] ks = ks.nx [.val .sp, .val (.d (.tuple [])), .un, .un, .un] := by kernel_rfl
theorem b1_tup (F Fp : Fm) (y : PyData) (ys : List PyData) (ks : KS) : nB1 F Fp noX [.val .sp, .val (.d (.tuple (y :: ys))), .un, .un, .un] ks = Fp noX [.sp, .d (.int 4)] (fun w => tV (mB (fRel fun i j => decide (j < i)) (mK w) (mC (.int 0))) noX [.val .sp, .val (.d (.tuple (y :: ys))), .un, .un, .un] fun b r1 => if b = true then Fp noX [.sp, .d (.int (ys.length + 1 : Nat))] (fun w => nBA F noX [.val .sp, .val (.d (.tuple (y :: ys))), .val w, .un, .un] ks) else ks.nx r1) := by
  have h : decide ((0 : Int) < ((y :: ys).length : Nat)) = true := decide_eq_true (by rw [List.length_cons]; omega)
  show (if decide ((0 : Int) < ((y :: ys).length : Nat)) = true then _ else _) = _
  rw [h]
  rfl
theorem bA_eq (F : Fm) (xs : List PyData) (k : Int) (e : PyData) (he : atI xs k = some e) (ks : KS) (h : F noX [.sp, .d e] (fun w => match w with
    | .d y => decide ([y].length ≤ sizeLine) && (decide ((cutD xs none (some k)).length + [y].length ≤ sizeLine) && (decide ((cutD xs none (some k) ++ [y]).length + (cutD xs (some (k + 1)) none).length ≤ sizeLine) && ks.rt (.d (.tuple ((cutD xs none (some k) ++ [y]) ++ cutD xs (some (k + 1)) none)))))
    | .sp => false) = true) : nBA F noX [.val .sp, .val (.d (.tuple xs)), .val (.d (.int k)), .un, .un] ks = true := by
  show (match atI xs k with | some e => F noX [.sp, .d e] _ | none => false) = true
  rw [he]
  refine (congrArg (F noX [.sp, .d e]) (funext fun w => ?_)).trans h
  cases w with
  | sp => rfl
  | d y => rfl
theorem bS_tup6 (Fp Fa : Fm) (xs : List PyData) (o : W) (ks : KS) : nBS Fp Fa noX [.val .sp, .val (.d (.tuple xs)), .un, .val (.d (.int 6)), .val o] ks = ks.rt o := by kernel_rfl
theorem bS_str6 (Fp Fa : Fm) (q : Str) (o : W) (ks : KS) : nBS Fp Fa noX [.val .sp, .val (.d (.str q)), .un, .val (.d (.int 6)), .val o] ks = ks.rt o := by kernel_rfl
theorem bS_tup0 (Fp Fa : Fm) (xs : List PyData) (o : W) (ks : KS) : nBS Fp Fa noX [.val .sp, .val (.d (.tuple xs)), .un, .val (.d (.int 0)), .val o] ks = Fp noX [.sp, .d (.int ((xs.length : Int) + 1))] (fun w => nBT noX [.val .sp, .val (.d (.tuple xs)), .val w, .val (.d (.int 0)), .val o] ks) := by kernel_rfl
theorem bS_str0 (Fp Fa : Fm) (q : Str) (o : W) (ks : KS) : nBS Fp Fa noX [.val .sp, .val (.d (.str q)), .un, .val (.d (.int 0)), .val o] ks = (decide (q.length ≤ sizeLine) && Fp noX [.sp, .d (.int ((q.length : Int) + 1))] (fun w => nBU Fa noX [.val .sp, .val (.d (.str q)), .val w, .val (.d (.int 0)), .val o] ks)) := by kernel_rfl
theorem bS_tup1 (Fp Fa : Fm) (xs : List PyData) (o : W) (ks : KS) : nBS Fp Fa noX [.val .sp, .val (.d (.tuple xs)), .un, .val (.d (.int 1)), .val o] ks = Fp noX [.sp, .d (.int ((xs.length : Int) + 1))] (fun w => nBT noX [.val .sp, .val (.d (.tuple xs)), .val w, .val (.d (.int 1)), .val o] ks) := by kernel_rfl
theorem bS_str1 (Fp Fa : Fm) (q : Str) (o : W) (ks : KS) : nBS Fp Fa noX [.val .sp, .val (.d (.str q)), .un, .val (.d (.int 1)), .val o] ks = (decide (q.length ≤ sizeLine) && Fp noX [.sp, .d (.int ((q.length : Int) + 1))] (fun w => nBU Fa noX [.val .sp, .val (.d (.str q)), .val w, .val (.d (.int 1)), .val o] ks)) := by kernel_rfl
theorem bS_tup2 (Fp Fa : Fm) (xs : List PyData) (o : W) (ks : KS) : nBS Fp Fa noX [.val .sp, .val (.d (.tuple xs)), .un, .val (.d (.int 2)), .val o] ks = Fp noX [.sp, .d (.int ((xs.length : Int) + 1))] (fun w => nBT noX [.val .sp, .val (.d (.tuple xs)), .val w, .val (.d (.int 2)), .val o] ks) := by kernel_rfl
theorem bS_str2 (Fp Fa : Fm) (q : Str) (o : W) (ks : KS) : nBS Fp Fa noX [.val .sp, .val (.d (.str q)), .un, .val (.d (.int 2)), .val o] ks = (decide (q.length ≤ sizeLine) && Fp noX [.sp, .d (.int ((q.length : Int) + 1))] (fun w => nBU Fa noX [.val .sp, .val (.d (.str q)), .val w, .val (.d (.int 2)), .val o] ks)) := by kernel_rfl
theorem bS_tup3 (Fp Fa : Fm) (xs : List PyData) (o : W) (ks : KS) : nBS Fp Fa noX [.val .sp, .val (.d (.tuple xs)), .un, .val (.d (.int 3)), .val o] ks = Fp noX [.sp, .d (.int ((xs.length : Int) + 1))] (fun w => nBT noX [.val .sp, .val (.d (.tuple xs)), .val w, .val (.d (.int 3)), .val o] ks) := by kernel_rfl
theorem bS_str3 (Fp Fa : Fm) (q : Str) (o : W) (ks : KS) : nBS Fp Fa noX [.val .sp, .val (.d (.str q)), .un, .val (.d (.int 3)), .val o] ks = (decide (q.length ≤ sizeLine) && Fp noX [.sp, .d (.int ((q.length : Int) + 1))] (fun w => nBU Fa noX [.val .sp, .val (.d (.str q)), .val w, .val (.d (.int 3)), .val o] ks)) := by kernel_rfl
theorem bS_tup4 (Fp Fa : Fm) (xs : List PyData) (o : W) (ks : KS) : nBS Fp Fa noX [.val .sp, .val (.d (.tuple xs)), .un, .val (.d (.int 4)), .val o] ks = Fp noX [.sp, .d (.int ((xs.length : Int) + 1))] (fun w => nBT noX [.val .sp, .val (.d (.tuple xs)), .val w, .val (.d (.int 4)), .val o] ks) := by kernel_rfl
theorem bS_str4 (Fp Fa : Fm) (q : Str) (o : W) (ks : KS) : nBS Fp Fa noX [.val .sp, .val (.d (.str q)), .un, .val (.d (.int 4)), .val o] ks = (decide (q.length ≤ sizeLine) && Fp noX [.sp, .d (.int ((q.length : Int) + 1))] (fun w => nBU Fa noX [.val .sp, .val (.d (.str q)), .val w, .val (.d (.int 4)), .val o] ks)) := by kernel_rfl
theorem bS_tup5 (Fp Fa : Fm) (xs : List PyData) (o : W) (ks : KS) : nBS Fp Fa noX [.val .sp, .val (.d (.tuple xs)), .un, .val (.d (.int 5)), .val o] ks = Fp noX [.sp, .d (.int ((xs.length : Int) + 1))] (fun w => nBT noX [.val .sp, .val (.d (.tuple xs)), .val w, .val (.d (.int 5)), .val o] ks) := by kernel_rfl
theorem bS_str5 (Fp Fa : Fm) (q : Str) (o : W) (ks : KS) : nBS Fp Fa noX [.val .sp, .val (.d (.str q)), .un, .val (.d (.int 5)), .val o] ks = (decide (q.length ≤ sizeLine) && Fp noX [.sp, .d (.int ((q.length : Int) + 1))] (fun w => nBU Fa noX [.val .sp, .val (.d (.str q)), .val w, .val (.d (.int 5)), .val o] ks)) := by kernel_rfl
theorem bT0 (xs : List PyData) (k : Int) (o : PyData) (ks : KS) : nBT noX [.val .sp, .val (.d (.tuple xs)), .val (.d (.int k)), .val (.d (.int 0)), .val (.d o)] ks = ks.rt (.d (.list xs)) := by kernel_rfl
theorem bT1 (xs : List PyData) (k : Int) (o : PyData) (ks : KS) : nBT noX [.val .sp, .val (.d (.tuple xs)), .val (.d (.int k)), .val (.d (.int 1)), .val (.d o)] ks = (decide ((cutD xs none (some k)).length + (cutD xs (some (k + 1)) none).length ≤ sizeLine) && ks.rt (.d (.tuple (cutD xs none (some k) ++ cutD xs (some (k + 1)) none)))) := by kernel_rfl
theorem bT2 (xs : List PyData) (k : Int) (o : PyData) (ks : KS) : nBT noX [.val .sp, .val (.d (.tuple xs)), .val (.d (.int k)), .val (.d (.int 2)), .val (.d o)] ks = (decide ((cutD xs none (some k)).length + (cutD xs (some k) (some (k + 1))).length ≤ sizeLine) && (decide ((cutD xs none (some k) ++ cutD xs (some k) (some (k + 1))).length + (cutD xs (some k) none).length ≤ sizeLine) && ks.rt (.d (.tuple ((cutD xs none (some k) ++ cutD xs (some k) (some (k + 1))) ++ cutD xs (some k) none))))) := by kernel_rfl
theorem bT3 (xs : List PyData) (k : Int) (o : PyData) (ks : KS) : nBT noX [.val .sp, .val (.d (.tuple xs)), .val (.d (.int k)), .val (.d (.int 3)), .val (.d o)] ks = (decide ([o].length ≤ sizeLine) && (decide ((cutD xs none (some k)).length + [o].length ≤ sizeLine) && (decide ((cutD xs none (some k) ++ [o]).length + (cutD xs (some k) none).length ≤ sizeLine) && ks.rt (.d (.tuple ((cutD xs none (some k) ++ [o]) ++ cutD xs (some k) none)))))) := by kernel_rfl
theorem bT4 (xs : List PyData) (k : Int) (o : PyData) (ks : KS) : nBT noX [.val .sp, .val (.d (.tuple xs)), .val (.d (.int k)), .val (.d (.int 4)), .val (.d o)] ks = (decide ([o].length ≤ sizeLine) && (decide ((cutD xs none (some k)).length + [o].length ≤ sizeLine) && (decide ((cutD xs none (some k) ++ [o]).length + (cutD xs (some k) none).length ≤ sizeLine) && ks.rt (.d (.tuple ((cutD xs none (some k) ++ [o]) ++ cutD xs (some k) none)))))) := by kernel_rfl
theorem bT5 (xs : List PyData) (k : Int) (o : PyData) (ks : KS) : nBT noX [.val .sp, .val (.d (.tuple xs)), .val (.d (.int k)), .val (.d (.int 5)), .val (.d o)] ks = ks.rt (.d (.tuple xs.reverse)) := by kernel_rfl
def bitsL : List PyData := [.str "a", .str "b", .str "z", .str "A", .str "", .str " ", .str "1", .str "zz"]
theorem bU0 (Fa : Fm) (q : Str) (k : Int) (o : PyData) (ks : KS) : nBU Fa noX [.val .sp, .val (.d (.str q)), .val (.d (.int k)), .val (.d (.int 0)), .val (.d o)] ks = (decide (q.length ≤ sizeLine) && Fa noX [.sp, .d (.list bitsL)] (fun w => fAdd (.val (.d (.str (cutS q none (some k))))) (.val w) [.val .sp, .val (.d (.str q)), .val (.d (.int k)), .val (.d (.int 0)), .val (.d o)] fun y r1 => mSl (mV 1) (oYes (mC (.int (k + 0)))) oNo noX r1 fun z r2 => fAdd y z r2 fun y r3 => ks.rt (y.esc r3).1)) := by kernel_rfl
theorem bU1 (Fa : Fm) (q : Str) (k : Int) (o : PyData) (ks : KS) : nBU Fa noX [.val .sp, .val (.d (.str q)), .val (.d (.int k)), .val (.d (.int 1)), .val (.d o)] ks = (decide (q.length ≤ sizeLine) && Fa noX [.sp, .d (.list bitsL)] (fun w => fAdd (.val (.d (.str (cutS q none (some k))))) (.val w) [.val .sp, .val (.d (.str q)), .val (.d (.int k)), .val (.d (.int 1)), .val (.d o)] fun y r1 => mSl (mV 1) (oYes (mC (.int (k + 0)))) oNo noX r1 fun z r2 => fAdd y z r2 fun y r3 => ks.rt (y.esc r3).1)) := by kernel_rfl
theorem bU2 (Fa : Fm) (q : Str) (k : Int) (o : PyData) (ks : KS) : nBU Fa noX [.val .sp, .val (.d (.str q)), .val (.d (.int k)), .val (.d (.int 2)), .val (.d o)] ks = (decide (q.length ≤ sizeLine) && Fa noX [.sp, .d (.list bitsL)] (fun w => fAdd (.val (.d (.str (cutS q none (some k))))) (.val w) [.val .sp, .val (.d (.str q)), .val (.d (.int k)), .val (.d (.int 2)), .val (.d o)] fun y r1 => mSl (mV 1) (oYes (mC (.int (k + 0)))) oNo noX r1 fun z r2 => fAdd y z r2 fun y r3 => ks.rt (y.esc r3).1)) := by kernel_rfl
theorem bU3 (Fa : Fm) (q : Str) (k : Int) (o : PyData) (ks : KS) : nBU Fa noX [.val .sp, .val (.d (.str q)), .val (.d (.int k)), .val (.d (.int 3)), .val (.d o)] ks = (decide (q.length ≤ sizeLine) && Fa noX [.sp, .d (.list bitsL)] (fun w => fAdd (.val (.d (.str (cutS q none (some k))))) (.val w) [.val .sp, .val (.d (.str q)), .val (.d (.int k)), .val (.d (.int 3)), .val (.d o)] fun y r1 => mSl (mV 1) (oYes (mC (.int (k + 0)))) oNo noX r1 fun z r2 => fAdd y z r2 fun y r3 => ks.rt (y.esc r3).1)) := by kernel_rfl
theorem bU4 (Fa : Fm) (q : Str) (k : Int) (o : PyData) (ks : KS) : nBU Fa noX [.val .sp, .val (.d (.str q)), .val (.d (.int k)), .val (.d (.int 4)), .val (.d o)] ks = (decide (q.length ≤ sizeLine) && Fa noX [.sp, .d (.list bitsL)] (fun w => fAdd (.val (.d (.str (cutS q none (some k))))) (.val w) [.val .sp, .val (.d (.str q)), .val (.d (.int k)), .val (.d (.int 4)), .val (.d o)] fun y r1 => mSl (mV 1) (oYes (mC (.int (k + 1)))) oNo noX r1 fun z r2 => fAdd y z r2 fun y r3 => ks.rt (y.esc r3).1)) := by kernel_rfl
theorem bU5 (Fa : Fm) (q : Str) (k : Int) (o : PyData) (ks : KS) : nBU Fa noX [.val .sp, .val (.d (.str q)), .val (.d (.int k)), .val (.d (.int 5)), .val (.d o)] ks = (decide (q.length ≤ sizeLine) && Fa noX [.sp, .d (.list bitsL)] (fun w => fAdd (.val (.d (.str (cutS q none (some k))))) (.val w) [.val .sp, .val (.d (.str q)), .val (.d (.int k)), .val (.d (.int 5)), .val (.d o)] fun y r1 => mSl (mV 1) (oYes (mC (.int (k + 1)))) oNo noX r1 fun z r2 => fAdd y z r2 fun y r3 => ks.rt (y.esc r3).1)) := by kernel_rfl
theorem bS_int0 (Fp Fa : Fm) (q : Int) (o : W) (ks : KS) : nBS Fp Fa noX [.val .sp, .val (.d (.int q)), .un, .val (.d (.int 0)), .val o] ks = (decide (q.natAbs.log2 < 1920) && ks.rt (.d (.int (q + 1)))) := by kernel_rfl
theorem bS_int1 (Fp Fa : Fm) (q : Int) (o : W) (ks : KS) : nBS Fp Fa noX [.val .sp, .val (.d (.int q)), .un, .val (.d (.int 1)), .val o] ks = (decide (q.natAbs.log2 < 1920) && ks.rt (.d (.int (q - 1)))) := by kernel_rfl
theorem bS_int2 (Fp Fa : Fm) (q : Int) (o : W) (ks : KS) : nBS Fp Fa noX [.val .sp, .val (.d (.int q)), .un, .val (.d (.int 2)), .val o] ks = (decide (q.natAbs.log2 < 1920) && ks.rt (.d (.int (-q)))) := by kernel_rfl
theorem bS_int3 (Fp Fa : Fm) (q : Int) (o : W) (ks : KS) : nBS Fp Fa noX [.val .sp, .val (.d (.int q)), .un, .val (.d (.int 3)), .val o] ks = (decide (q.natAbs.log2 < 1920) && ks.rt (.d (.bool (xor false (PyData.eqv (.int q) (.int 1)))))) := by kernel_rfl
theorem bS_int4 (Fp Fa : Fm) (q : Int) (o : W) (ks : KS) : nBS Fp Fa noX [.val .sp, .val (.d (.int q)), .un, .val (.d (.int 4)), .val o] ks = (decide (q.natAbs.log2 < 1920) && ks.rt (.d (.str (toString q)))) := by kernel_rfl
theorem bS_int5 (Fp Fa : Fm) (q : Int) (o : W) (ks : KS) : nBS Fp Fa noX [.val .sp, .val (.d (.int q)), .un, .val (.d (.int 5)), .val o] ks = ks.rt o := by kernel_rfl
theorem bS_int6 (Fp Fa : Fm) (q : Int) (o : W) (ks : KS) : nBS Fp Fa noX [.val .sp, .val (.d (.int q)), .un, .val (.d (.int 6)), .val o] ks = ks.rt o := by kernel_rfl
end K01

set_option Elab.async false
set_option linter.all false
set_option maxRecDepth 100000
set_option maxHeartbeats 390000
namespace K01
open PySem L2 Pz
theorem cutI_lo (xs : List PyData) (i : Int) (h : 0 ≤ i) (hz : i ≤ xs.length + 1) : cutD xs (some i) none = xs.drop i.toNat := by
  obtain ⟨k, rfl⟩ := Int.eq_ofNat_of_zero_le h
  rw [Int.toNat_natCast]
  unfold cutD
  rw [HT.sIx_nat, HT.sIx_none]
  by_cases q : k ≤ xs.length
  · rw [Nat.min_eq_left q]
    refine List.take_of_length_le ?_
    rw [List.length_drop]
    omega
  · rw [Nat.min_eq_right (by omega), List.drop_of_length_le (Nat.le_refl _), List.drop_of_length_le (by omega), List.take_nil]
theorem cutI_mid (xs : List PyData) (k : Nat) (h : k ≤ xs.length) : cutD xs (some (k : Int)) (some ((k : Int) + 1)) = (xs.drop k).take 1 := by
  unfold cutD
  rw [show ((k : Int) + 1) = ((k + 1 : Nat) : Int) from rfl, HT.sIx_nat, HT.sIx_nat, Nat.min_eq_left h]
  by_cases q : k + 1 ≤ xs.length
  · rw [Nat.min_eq_left q, show k + 1 - k = 1 by omega]
  · rw [Nat.min_eq_right (by omega), show xs.length - k = 0 by omega, List.drop_of_length_le (by omega), List.take_nil, List.take_nil]
theorem wI_le {i j : Int} (h : j.natAbs ≤ i.natAbs + 1) : PyData.weight (.int j) ≤ PyData.weight (.int i) + 1 := by
  simp only [PyData.weight]
  have lg : ∀ m n : Nat, m ≠ 0 → m ≤ 2 * n → n ≠ 0 → m.log2 ≤ n.log2 + 1 := fun m n hm h1 hn => by
    have h2 : n < 2 ^ (n.log2 + 1) := Nat.lt_log2_self
    have h3 : m < 2 ^ (n.log2 + 2) := by
      have : 2 ^ (n.log2 + 2) = 2 * 2 ^ (n.log2 + 1) := by rw [Nat.pow_succ]; omega
      omega
    have := (Nat.log2_lt hm).mpr h3
    omega
  by_cases c : j = 0
  · subst c
    simp
  · have c' : (j == 0) = false := by simpa using c
    rw [c', if_neg Bool.false_ne_true]
    have hj : j.natAbs ≠ 0 := by omega
    by_cases d : i = 0
    · subst d
      have : j.natAbs = 1 := by simp at h; omega
      rw [this]
      decide
    · have d' : (i == 0) = false := by simpa using d
      rw [d', if_neg Bool.false_ne_true]
      have := lg j.natAbs i.natAbs hj (by omega) (by omega)
      omega
theorem qd_int {i : Int} {w D : Nat} (h : PyData.weight (.int i) ≤ w) : Qd D w (.int i) := ⟨by simp [PyData.canLay0], by simp [PyData.depth], h⟩
theorem log_of {i : Int} {w : Nat} (h : PyData.weight (.int i) ≤ w) (hw : w ≤ 1900) : i.natAbs.log2 < 1920 := by
  simp only [PyData.weight] at h
  by_cases c : i = 0
  · subst c; decide
  · have c' : (i == 0) = false := by simpa using c
    rw [c', if_neg Bool.false_ne_true] at h
    omega
theorem ofString_strOk (s : String) : PyData.strOk (Str.ofString s) = true := by
  unfold PyData.strOk
  rw [Str.ofString_eq_toList]
  rw [Array.all_eq_true_iff_forall_mem]
  intro c hc
  obtain ⟨ch, _, rfl⟩ := List.mem_map.mp (List.mem_toArray.mp hc)
  have := ch.valid
  have h2 : ch.toNat < 0x110000 := by
    rcases this with h | ⟨_, h⟩
    · exact Nat.lt_trans h (by decide)
    · exact h
  exact decide_eq_true h2
theorem qd_text {i : Int} {w D : Nat} (h : PyData.weight (.int i) ≤ w) : Qd D (w + 2) (.str (toString i)) := by
  refine ⟨by simp only [PyData.canLay0]; exact ofString_strOk _, by simp [PyData.depth], ?_⟩
  simp only [PyData.weight]
  have e := int_text_length_le (a := i) (k := i.natAbs.log2 + 1) (by omega) (by omega)
  have e2 : (Str.ofString (toString i)).cps.size = (toString i).length := ofString_length _
  have e3 : i.natAbs.log2 + 1 ≤ PyData.weight (.int i) + 1 := by
    simp only [PyData.weight]
    by_cases c : i = 0
    · subst c; decide
    · have c' : (i == 0) = false := by simpa using c
      rw [c', if_neg Bool.false_ne_true]
      omega
  have : (Str.ofString (toString i)).cps.size ≤ w + 2 := by omega
  exact this
theorem bits_ok : bitsL.all (fun x => match x with | .str t => decide (t.length ≤ 2) && PyData.strOk t | _ => false) = true := by decide +kernel
/-- a text, as a list of signs -/
theorem qd_str {s : Str} {w D : Nat} (h1 : s.length ≤ w) (h2 : ∀ c ∈ s.cps.toList, c < 0x110000) : Qd D w (.str s) := by
  refine ⟨?_, by simp [PyData.depth], by simp only [PyData.weight]; exact h1⟩
  simp only [PyData.canLay0, PyData.strOk]
  rw [Array.all_eq_true_iff_forall_mem]
  exact fun c hc => decide_eq_true (h2 c (Array.mem_toList_iff.mpr hc))
theorem str_qd {s : Str} {w D : Nat} (h : Qd D w (.str s)) : s.length ≤ w ∧ ∀ c ∈ s.cps.toList, c < 0x110000 := by
  obtain ⟨h1, _, h3⟩ := h
  simp only [PyData.weight] at h3
  simp only [PyData.canLay0, PyData.strOk] at h1
  rw [Array.all_eq_true_iff_forall_mem] at h1
  exact ⟨h3, fun c hc => by simpa using h1 c (Array.mem_toList_iff.mp hc)⟩
theorem cutS_mem (s : Str) (lo hi : Option Int) : ∀ c ∈ (cutS s lo hi).cps.toList, c ∈ s.cps.toList := fun c hc => by
  unfold cutS at hc
  rw [List.toList_toArray] at hc
  exact List.mem_of_mem_drop (List.mem_of_mem_take hc)
theorem cutS_len (s : Str) (lo hi : Option Int) : (cutS s lo hi).length ≤ s.length := by
  have : (cutS s lo hi).length = ((s.cps.toList.drop (HT.sIx s.length 0 lo)).take (HT.sIx s.length s.length hi - HT.sIx s.length 0 lo)).length := by
    unfold cutS
    exact List.size_toArray ..
  rw [this, List.length_take, List.length_drop, Array.length_toList]
  have e : s.cps.size = s.length := rfl
  omega
theorem app_signs (x y : Str) : (x ++ y).cps.toList = x.cps.toList ++ y.cps.toList := by
  show (x.cps ++ y.cps).toList = _
  exact Array.toList_append
theorem ints7 {r : Nat} (hr : (r : Int) < 7) : r = 0 ∨ r = 1 ∨ r = 2 ∨ r = 3 ∨ r = 4 ∨ r = 5 ∨ r = 6 := by omega
theorem bent_gen {Fp Fa Fs : Fm} (D : Dr Fp Fa) (hS : ∀ {kf : W → Bool}, (∀ x, Qd 2 200 x → kf (.d x) = true) → Fs noX [.sp] kf = true) {n w : Nat} {x : PyData} (hx : Qd n w x) (hw : w ≤ 700) {kf : W → Bool} (h : ∀ y, Qd (n + 3) (2 * w + 205) y → kf (.d y) = true) (ks : KS) (hk : ks.rt = kf) :
    nBR Fp Fa Fs noX [.val .sp, .val (.d x), .un, .un, .un] ks = true := by
  rw [bR_eq]
  refine D.p (by decide) (by decide) fun r hr => ?_
  refine hS fun o ho => ?_
  subst hk
  have odd : ks.rt (.d o) = true := h o (ho.mono (by omega) (by omega))
  have hr7 := ints7 hr
  cases x with
  | none => rw [bS_none]; exact odd
  | bool q => rw [bS_bool]; exact odd
  | list q => rw [bS_list]; exact odd
  | dict q => rw [bS_dict]; exact odd
  | int q =>
    have hq := hx.wt
    have lg : decide (q.natAbs.log2 < 1920) = true := decide_eq_true (log_of hq (by omega))
    rcases hr7 with rfl | rfl | rfl | rfl | rfl | rfl | rfl
    · exact (bS_int0 ..).trans (andB lg (h _ (qd_int (Nat.le_trans (wI_le (i := q) (by omega)) (by omega)))))
    · exact (bS_int1 ..).trans (andB lg (h _ (qd_int (Nat.le_trans (wI_le (i := q) (by omega)) (by omega)))))
    · exact (bS_int2 ..).trans (andB lg (h _ (qd_int (Nat.le_trans (wI_le (i := q) (by omega)) (by omega)))))
    · exact (bS_int3 ..).trans (andB lg (h _ ⟨by simp [PyData.canLay0], by simp [PyData.depth], by simp [PyData.weight]⟩))
    · exact (bS_int4 ..).trans (andB lg (h _ ((qd_text hq).mono (Nat.le_refl _) (by omega))))
    · exact (bS_int5 ..).trans odd
    · exact (bS_int6 ..).trans odd
  | str q =>
    obtain ⟨q1, q2⟩ := str_qd hx
    have l0 : decide (q.length ≤ sizeLine) = true := sz (by omega)
    have key : ∀ (k : Nat) (r : Int) (j : Int) (rho : Rho) (t : PyData), t ∈ bitsL → rho = [.val .sp, .val (.d (.str q)), .val (.d (.int k)), .val (.d (.int r)), .val (.d o)] →
        (fun w => fAdd (.val (.d (.str (cutS q none (some (k : Int)))))) (.val w) rho fun y r1 => mSl (mV 1) (oYes (mC (.int (k + j)))) oNo noX r1 fun z r2 => fAdd y z r2 fun y r3 => ks.rt (y.esc r3).1) (.d t) = true := fun k r j rho t ht er => by
      subst er
      have ht' := List.all_eq_true.mp bits_ok t ht
      cases t with
      | str t =>
        rw [Bool.and_eq_true, decide_eq_true_eq] at ht'
        obtain ⟨t1, t2⟩ := ht'
        obtain ⟨_, t3⟩ := str_qd (s := t) (w := t.length) (D := 0) ⟨by simpa only [PyData.canLay0] using t2, by simp [PyData.depth], by simp only [PyData.weight]; exact Nat.le_refl _⟩
        show (decide ((cutS q none (some (k : Int))).length + t.length ≤ sizeLine) && (decide (q.length ≤ sizeLine) && (decide ((cutS q none (some (k : Int)) ++ t).length + (cutS q (some (k + j)) none).length ≤ sizeLine) && ks.rt (.d (.str ((cutS q none (some (k : Int)) ++ t) ++ cutS q (some (k + j)) none)))))) = true
        have c1 := cutS_len q none (some (k : Int))
        have c2 := cutS_len q (some (k + j)) none
        have c3 : (cutS q none (some (k : Int)) ++ t).length = (cutS q none (some (k : Int))).length + t.length := strLen_append _ _
        have c4 : ((cutS q none (some (k : Int)) ++ t) ++ cutS q (some (k + j)) none).length = (cutS q none (some (k : Int)) ++ t).length + (cutS q (some (k + j)) none).length := strLen_append _ _
        refine andB (sz (by omega)) (andB l0 (andB (sz (by omega)) (h _ (qd_str (by omega) fun c hc => ?_))))
        rw [app_signs, app_signs] at hc
        rcases List.mem_append.mp hc with
              hc | hc
        · rcases List.mem_append.mp hc with hc | hc
          · exact q2 c (cutS_mem _ _ _ c hc)
          · exact t3 c hc
        · exact q2 c (cutS_mem _ _ _ c hc)
      | _ => cases ht'
    rcases hr7 with rfl | rfl | rfl | rfl | rfl | rfl | rfl
    · exact (bS_str0 ..).trans (andB l0 (D.p (by omega) (by omega) fun k hk => (bU0 ..).trans (andB l0 (D.a (by decide) (by decide) fun t ht => key k _ _ _ t ht rfl))))
    · exact (bS_str1 ..).trans (andB l0 (D.p (by omega) (by omega) fun k hk => (bU1 ..).trans (andB l0 (D.a (by decide) (by decide) fun t ht => key k _ _ _ t ht rfl))))
    · exact (bS_str2 ..).trans (andB l0 (D.p (by omega) (by omega) fun k hk => (bU2 ..).trans (andB l0 (D.a (by decide) (by decide) fun t ht => key k _ _ _ t ht rfl))))
    · exact (bS_str3 ..).trans (andB l0 (D.p (by omega) (by omega) fun k hk => (bU3 ..).trans (andB l0 (D.a (by decide) (by decide) fun t ht => key k _ _ _ t ht rfl))))
    · exact (bS_str4 ..).trans (andB l0 (D.p (by omega) (by omega) fun k hk => (bU4 ..).trans (andB l0 (D.a (by decide) (by decide) fun t ht => key k _ _ _ t ht rfl))))
    · exact (bS_str5 ..).trans (andB l0 (D.p (by omega) (by omega) fun k hk => (bU5 ..).trans (andB l0 (D.a (by decide) (by decide) fun t ht => key k _ _ _ t ht rfl))))
    · exact (bS_str6 ..).trans odd
  | tuple xs =>
    have hl : xs.length ≤ 700 := by
      have := hx.wt
      simp only [PyData.weight] at this
      have := wA_len xs
      omega
    have hA : Qa n w xs := (Qd.tup.mp (hx.mono (Nat.le_succ n) (Nat.le_refl _)))
    have hc := fun k => wA_cut xs k
    have hww := hA.wt
    rcases hr7 with rfl | rfl | rfl | rfl | rfl | rfl | rfl
    · refine (bS_tup0 ..).trans (D.p (by omega) (by omega) fun k hk => (bT0 ..).trans (h _ ((Qd.lst hA).mono (by omega) (by omega))))
    · refine (bS_tup1 ..).trans (D.p (by omega) (by omega) fun k hk => (bT1 ..).trans ?_)
      rw [cut_hi xs k (by omega), cutI_lo xs (k + 1) (by omega) (by omega), show ((k : Int) + 1).toNat = k + 1 by omega]
      refine andB (sz (by rw [List.length_take, List.length_drop]; omega)) (h _ (Qd.mono (Qd.tup.mpr ((hA.take k).app (hA.drop (k + 1)))) (by omega) ?_))
      have a1 := hc k
      have a2 := hc (k + 1)
      omega
    · refine (bS_tup2 ..).trans (D.p (by omega) (by omega) fun k hk => (bT2 ..).trans ?_)
      rw [cut_hi xs k (by omega), cutI_mid xs k (by omega), cut_lo xs k (by omega)]
      have a1 := hc k
      have a2 := wA_cut (xs.drop k) 1
      have hM : Qa n (PyData.weightAll ((xs.drop k).take 1)) ((xs.drop k).take 1) := (hA.drop k).take 1
      refine andB (sz (by simp; omega)) (andB (sz (by simp; omega)) (h _ (Qd.mono (Qd.tup.mpr (((hA.take k).app hM).app (hA.drop k))) (by omega) (by omega))))
    · refine (bS_tup3 ..).trans (D.p (by omega) (by omega) fun k hk => (bT3 ..).trans ?_)
      rw [cut_hi xs k (by omega), cut_lo xs k (by omega)]
      have a1 := hc k
      refine andB (sz (by simp)) (andB (sz (by simp; omega)) (andB (sz (by simp; omega)) (h _ (Qd.mono (Qd.tup.mpr ((((hA.take k).mono (D' := n + 2) (by omega) (Nat.le_refl _)).app (Qa.one (ho.mono (by omega) (Nat.le_refl _)))).app ((hA.drop k).mono (by omega) (Nat.le_refl _)))) (by omega) (by omega)))))
    · refine (bS_tup4 ..).trans (D.p (by omega) (by omega) fun k hk => (bT4 ..).trans ?_)
      rw [cut_hi xs k (by omega), cut_lo xs k (by omega)]
      have a1 := hc k
      refine andB (sz (by simp)) (andB (sz (by simp; omega)) (andB (sz (by simp; omega)) (h _ (Qd.mono (Qd.tup.mpr ((((hA.take k).mono (D' := n + 2) (by omega) (Nat.le_refl _)).app (Qa.one (ho.mono (by omega) (Nat.le_refl _)))).app ((hA.drop k).mono (by omega) (Nat.le_refl _)))) (by omega) (by omega)))))
    · refine (bS_tup5 ..).trans (D.p (by omega) (by omega) fun k hk => (bT5 ..).trans (h _ (Qd.mono (Qd.tup.mpr hA.rev) (by omega) (by omega))))
    · exact (bS_tup6 ..).trans odd
theorem bent_ok : ∀ (f n w : Nat) (x : PyData), x.depth < f → Qd n w x → w ≤ 700 → ∀ {kf : W → Bool}, (∀ y, Qd (n + 3) (2 * w + 205) y → kf (.d y) = true) → F_q_bent f noX [.sp, .d x] kf = true
  | 0, _, _, _, hf, _, _, _, _ => absurd hf (Nat.not_lt_zero _)
  | f + 1, n, w, x, hf, hx, hw, kf, h => by
    refine andB rfl ?_
    show nSeq (nB1 (F_q_bent f) F_q_pull) (nBR F_q_pull F_q_any F_q_strange) noX [.val .sp, .val (.d x), .un, .un, .un] { nx := fun _ => kf (.d .none), rt := kf } = true
    have rest := bent_gen dr (fun h => strange_ok h) hx hw h { nx := fun _ => kf (.d .none), rt := kf } rfl
    unfold nSeq
    cases x with
    | none => rw [b1_none]; exact rest
    | bool q => rw [b1_bool]; exact rest
    | int q => rw [b1_int]; exact rest
    | str q => rw [b1_str]; exact rest
    | list q => rw [b1_list]; exact rest
    | dict q => rw [b1_dict]; exact rest
    | tuple xs =>
      cases xs with
      | nil => rw [b1_tup0]; exact rest
      | cons y ys =>
        rw [b1_tup]
        have hl : (y :: ys).length ≤ 700 := by
          have := hx.wt
          simp only [PyData.weight] at this
          have := wA_len (y :: ys)
          omega
        rw [List.length_cons] at hl
        have step : F_q_pull noX [.sp, .d (.int (ys.length + 1 : Nat))] (fun w => nBA (F_q_bent f) noX [.val .sp, .val (.d (.tuple (y :: ys))), .val w, .un, .un] { nx := fun r' => nBR F_q_pull F_q_any F_q_strange noX r' { nx := fun _ => kf (.d .none), rt := kf }, rt := kf }) = true := by
          refine pull_ok (by omega) (by omega) fun k hk => ?_
          have hk' : k < (y :: ys).length := by rw [List.length_cons]; omega
          have hm := List.getElem_mem hk'
          obtain ⟨n', rfl⟩ : ∃ n', n = n' + 1 := by
            have := hx.dp
            simp only [PyData.depth] at this
            exact ⟨n - 1, by omega⟩
          have hA : Qa n' w (y :: ys) := Qd.tup.mp hx
          have he : Qd n' (PyData.weight ((y :: ys)[k])) ((y :: ys)[k]) := ⟨(hA.el _ hm).1, (hA.el _ hm).2, Nat.le_refl _⟩
          have hwt := wA_mem hm
          have hww := hA.wt
          have hd : ((y :: ys)[k]).depth < f := by
            have h1 : PyData.depthAll (y :: ys) < f := by
              simp only [PyData.depth] at hf
              omega
            have h2 := (depA_iff (PyData.depthAll (y :: ys)) (y :: ys)).mp (Nat.le_refl _) _ hm
            omega
          refine bA_eq (F_q_bent f) (y :: ys) k _ (at_nat hk') _ ?_
          refine bent_ok f n' _ _ hd he (by omega) fun z hz => ?_
          show (decide ([z].length ≤ sizeLine) && (decide ((cutD (y :: ys) none (some (k : Int))).length + [z].length ≤ sizeLine) && (decide ((cutD (y :: ys) none (some (k : Int)) ++ [z]).length + (cutD (y :: ys) (some ((k : Int) + 1)) none).length ≤ sizeLine) && kf (.d (.tuple ((cutD (y :: ys) none (some (k : Int)) ++ [z]) ++ cutD (y :: ys) (some ((k : Int) + 1)) none)))))) = true
          rw [cut_hi _ k (by omega), cutI_lo _ (k + 1) (by omega) (by omega), show ((k : Int) + 1).toNat = k + 1 by omega]
          have a1 := wA_cut (y :: ys) k
          have a2 : PyData.weightAll ((y :: ys).drop k) = PyData.weight ((y :: ys)[k]) + 1 + PyData.weightAll ((y :: ys).drop (k + 1)) := by
            rw [List.drop_eq_getElem_cons hk']
            simp only [PyData.weightAll]
          refine andB (sz (by simp)) (andB (sz (by rw [List.length_take, List.length_cons, List.length_singleton]; omega)) (andB (sz (by rw [List.length_append, List.length_take, List.length_drop, List.length_cons, List.length_singleton]; omega)) (h _ ?_)))
          refine Qd.mono (Qd.tup.mpr ((((hA.take k).mono (D' := n' + 3) (by omega) (Nat.le_refl _)).app (Qa.one hz)).app ((hA.drop (k + 1)).mono (by omega) (Nat.le_refl _)))) (by omega) (by omega)
        refine pull_ok (by decide) (by decide) fun r hr => ?_
        rcases (show r = 0 ∨ r = 1 ∨ r = 2 ∨ r = 3 by omega) with rfl | rfl | rfl | rfl
        · exact rest
        · exact step
        · exact step
        · exact step
end K01

set_option Elab.async false
set_option linter.all false
set_option maxRecDepth 100000
set_option maxHeartbeats 390000
namespace K01
open PySem L2 Pz
def nLawG (Ff Fr Fd Fb Fe Fs : Fm) : MS := nSeq (nFor 2 (fiL (mCall0 Ff)) (nIf (tNotT (tV (mCall Fr (aCons (mV 2) (aNil))))) (nRet (mC (.bool false))) (nNil))) (nSeq (nFor 3 (miR1 (mC (.int 12))) (nSeq (nAsg 2 (mCall Fd (aCons (mV 1) (aNil)))) (nSeq (nAsg 4 (mCall Fb (aCons (mV 1) (aCons (mV 2) (aNil))))) (nIf (tOrT (tNotT (tV (mCall Fr (aCons (mV 2) (aNil))))) (tOrT (tNotT (tV (mCall Fr (aCons (mV 4) (aNil))))) (tNotT (tV (mCall Fr (aCons (mCall Fb (aCons (mV 1) (aCons (mV 4) (aNil)))) (aNil))))))) (nRet (mC (.bool false))) (nNil))))) (nRet (mCall Fe (aCons (mCall Fs (aCons (mV 1) (aNil))) (aCons (mCall Fs (aCons (mV 1) (aNil))) (aNil))))))
def nL1 (Fr : Fm) : MS := nIf (tNotT (tV (mCall Fr (aCons (mV 2) (aNil))))) (nRet (mC (.bool false))) (nNil)
def nL2 (Fr Fd Fb : Fm) : MS := nSeq (nAsg 2 (mCall Fd (aCons (mV 1) (aNil)))) (nSeq (nAsg 4 (mCall Fb (aCons (mV 1) (aCons (mV 2) (aNil))))) (nIf (tOrT (tNotT (tV (mCall Fr (aCons (mV 2) (aNil))))) (tOrT (tNotT (tV (mCall Fr (aCons (mV 4) (aNil))))) (tNotT (tV (mCall Fr (aCons (mCall Fb (aCons (mV 1) (aCons (mV 4) (aNil)))) (aNil))))))) (nRet (mC (.bool false))) (nNil)))
def nL2a (Fr Fb : Fm) : MS := nSeq (nAsg 4 (mCall Fb (aCons (mV 1) (aCons (mV 2) (aNil))))) (nIf (tOrT (tNotT (tV (mCall Fr (aCons (mV 2) (aNil))))) (tOrT (tNotT (tV (mCall Fr (aCons (mV 4) (aNil))))) (tNotT (tV (mCall Fr (aCons (mCall Fb (aCons (mV 1) (aCons (mV 4) (aNil)))) (aNil))))))) (nRet (mC (.bool false))) (nNil))
def nL2b (Fr Fb : Fm) : MS := nIf (tOrT (tNotT (tV (mCall Fr (aCons (mV 2) (aNil))))) (tOrT (tNotT (tV (mCall Fr (aCons (mV 4) (aNil))))) (tNotT (tV (mCall Fr (aCons (mCall Fb (aCons (mV 1) (aCons (mV 4) (aNil)))) (aNil))))))) (nRet (mC (.bool false))) (nNil)
def nL3 (Fe Fs : Fm) : MS := nRet (mCall Fe (aCons (mCall Fs (aCons (mV 1) (aNil))) (aCons (mCall Fs (aCons (mV 1) (aNil))) (aNil))))
def RtOk (Fr : Fm) : Prop := ∀ x, Gd x → ∀ kf : W → Bool, kf (.d (.bool true)) = true → Fr noX [.d x] kf = true
theorem law_eq (Ff Fr Fd Fb Fe Fs : Fm) : nLawG Ff Fr Fd Fb Fe Fs noX lawR lawK = Ff noX [] (fun w => fiL (mK w) noX lawR fun xs r1 => nForGo 2 (nL1 Fr) noX { lawK with nx := fun r => nSeq (nFor 3 (miR1 (mC (.int 12))) (nL2 Fr Fd Fb)) (nL3 Fe Fs) noX r lawK } xs r1) := by kernel_rfl
theorem law2_eq (Fr Fd Fb Fe Fs : Fm) (s : S) : nSeq (nFor 3 (miR1 (mC (.int 12))) (nL2 Fr Fd Fb)) (nL3 Fe Fs) noX [.un, .val .sp, s, .un, .un] lawK = nForGo 3 (nL2 Fr Fd Fb) noX { lawK with nx := fun r => nL3 Fe Fs noX r lawK } (intsD 0 12) [.un, .val .sp, s, .un, .un] := by kernel_rfl
theorem l1_eq (Fr : Fm) (K : KS) (x : PyData) (xs : List PyData) (s : S) : nForGo 2 (nL1 Fr) noX K (x :: xs) [.un, .val .sp, s, .un, .un] = Fr noX [.d x] (fun w => tNotT (tV (mK w)) noX [.un, .val .sp, .val (.d x), .un, .un] fun b r1 => if b = true then K.rt (.d (.bool false)) else nForGo 2 (nL1 Fr) noX K xs r1) := by kernel_rfl
theorem l2_eq (Fr Fd Fb : Fm) (K : KS) (x : PyData) (xs : List PyData) (s2 s3 s4 : S) : nForGo 3 (nL2 Fr Fd Fb) noX K (x :: xs) [.un, .val .sp, s2, s3, s4] = Fd noX [.sp] (fun w => nL2a Fr Fb noX [.un, .val .sp, .val w, .val (.d x), s4] { K with nx := fun r' => nForGo 3 (nL2 Fr Fd Fb) noX K xs r', ct := fun r' => nForGo 3 (nL2 Fr Fd Fb) noX K xs r', bk := K.nx }) := by kernel_rfl
theorem l2a_eq (Fr Fb : Fm) (K : KS) (x v : PyData) (s4 : S) : nL2a Fr Fb noX [.un, .val .sp, .val (.d v), .val (.d x), s4] K = Fb noX [.sp, .d v] (fun w => nL2b Fr Fb noX [.un, .val .sp, .val (.d v), .val (.d x), .val w] K) := by kernel_rfl
theorem l2b_eq (Fr Fb : Fm) (K : KS) (x v u : PyData) : nL2b Fr Fb noX [.un, .val .sp, .val (.d v), .val (.d x), .val (.d u)] K = Fr noX [.d v] (fun w1 => tNotT (tV (mK w1)) noX [.un, .val .sp, .val (.d v), .val (.d x), .val (.d u)] fun b1 r1 => if b1 = true then K.rt (.d (.bool false)) else
    Fr noX [.d u] (fun w2 => tNotT (tV (mK w2)) noX r1 fun b2 r2 => if b2 = true then K.rt (.d (.bool false)) else Fb noX [.sp, .d u] (fun w3 => Fr noX [w3] (fun w4 => tNotT (tV (mK w4)) noX r2 fun b3 r3 => if b3 = true then K.rt (.d (.bool false)) else K.nx r3)))) := by
  refine congrArg (Fr noX [.d v]) (funext fun w1 => ?_)
  cases w1 with
  | sp => rfl
  | d a =>
    cases a with
    | bool b =>
      cases b with
      | false => rfl
      | true =>
        refine congrArg (Fr noX [.d u]) (funext fun w2 => ?_)
        cases w2 with
        | sp => rfl
        | d a =>
          cases a with
          | bool b =>
            cases b with
            | false => rfl
            | true => rfl
          | _ => rfl
    | _ => rfl
theorem l3_eq (Fe Fs : Fm) (s2 s3 s4 : S) : nL3 Fe Fs noX [.un, .val .sp, s2, s3, s4] lawK = Fs noX [.sp] (fun w1 => Fs noX [.sp] fun w2 => Fe noX [w1, w2] isTru) := by kernel_rfl
theorem loop1 {Fr : Fm} (hR : RtOk Fr) (K : KS) (hK : ∀ s, K.nx [.un, .val .sp, s, .un, .un] = true) : ∀ (xs : List PyData) (s : S), (∀ x ∈ xs, Gd x) → nForGo 2 (nL1 Fr) noX K xs [.un, .val .sp, s, .un, .un] = true
  | [], s, _ => hK s
  | x :: xs, s, h => by
    rw [l1_eq]
    refine hR x (h x (List.mem_cons_self ..)) _ ?_
    exact loop1 hR K hK xs _ fun y hy => h y (List.mem_cons_of_mem _ hy)
theorem loop2 {Fr Fd Fb : Fm} (hR : RtOk Fr) (hD : ∀ {kf : W → Bool}, (∀ x, Qd 2 230 x → kf (.d x) = true) → Fd noX [.sp] kf = true)
    (hB : ∀ (n w : Nat) (x : PyData), n ≤ 8 → Qd n w x → w ≤ 700 → ∀ {kf : W → Bool}, (∀ y, Qd (n + 3) (2 * w + 205) y → kf (.d y) = true) → Fb noX [.sp, .d x] kf = true) (K : KS) (hK : ∀ s2 s3 s4, K.nx [.un, .val .sp, s2, s3, s4] = true) :
    ∀ (xs : List PyData) (s2 s3 s4 : S), nForGo 3 (nL2 Fr Fd Fb) noX K xs [.un, .val .sp, s2, s3, s4] = true
  | [], s2, s3, s4 => hK s2 s3 s4
  | x :: xs, s2, s3, s4 => by
    rw [l2_eq]
    refine hD fun v hv => ?_
    rw [l2a_eq]
    refine hB 2 230 v (by decide) hv (by decide) fun u hu => ?_
    rw [l2b_eq]
    refine hR v (hv.gd (by decide) (by decide)) _ ?_
    refine hR u (hu.gd (by decide) (by decide)) _ ?_
    refine hB 5 665 u (by decide) hu (by decide) fun z hz => ?_
    refine hR z (hz.gd (by decide) (by decide)) _ ?_
    exact loop2 hR hD hB K hK xs _ _ _
theorem law_gen {Ff Fr Fd Fb Fe Fs : Fm} (hF : ∀ kf, Ff noX [] kf = kf (.d (.list fixedL))) (hR : RtOk Fr) (hD : ∀ {kf : W → Bool}, (∀ x, Qd 2 230 x → kf (.d x) = true) → Fd noX [.sp] kf = true)
    (hB : ∀ (n w : Nat) (x : PyData), n ≤ 8 → Qd n w x → w ≤ 700 → ∀ {kf : W → Bool}, (∀ y, Qd (n + 3) (2 * w + 205) y → kf (.d y) = true) → Fb noX [.sp, .d x] kf = true)
    (hS : ∀ {kf : W → Bool}, (∀ x, Qd 2 200 x → kf (.d x) = true) → Fs noX [.sp] kf = true) (hE : ∀ x y, Qd 2 200 x → Qd 2 200 y → ∀ kf : W → Bool, kf (.d (.bool true)) = true → Fe noX [.d x, .d y] kf = true) : nLawG Ff Fr Fd Fb Fe Fs noX lawR lawK = true := by
  rw [law_eq, hF]
  refine loop1 hR _ (fun s => ?_) fixedL .un fun x hx => gd_of (List.all_eq_true.mp fixed_gd x hx)
  show nSeq (nFor 3 (miR1 (mC (.int 12))) (nL2 Fr Fd Fb)) (nL3 Fe Fs) noX [.un, .val .sp, s, .un, .un] lawK = true
  rw [law2_eq]
  refine loop2 hR hD hB _ (fun s2 s3 s4 => ?_) _ _ _ _
  show nL3 Fe Fs noX [.un, .val .sp, s2, s3, s4] lawK = true
  rw [l3_eq]
  exact hS fun x hx => hS fun y hy => hE x y hx hy _ rfl
theorem right_ok : RtOk F_q_is_right := fun x hx kf hk => right x hx kf hk
theorem bent9 : ∀ (n w : Nat) (x : PyData), n ≤ 8 → Qd n w x → w ≤ 700 → ∀ {kf : W → Bool}, (∀ y, Qd (n + 3) (2 * w + 205) y → kf (.d y) = true) → F_q_bent 9 noX [.sp, .d x] kf = true := fun n w x hn hx hw kf h => bent_ok 9 n w x (by have := hx.dp; omega) hx hw h
theorem run_of (hE : ∀ x y, Qd 2 200 x → Qd 2 200 y → ∀ kf : W → Bool, kf (.d (.bool true)) = true → F_q_are_errors_right noX [.d x, .d y] kf = true) : n_law noX lawR lawK = true :=
  law_gen (Ff := F_q_fixed) (Fr := F_q_is_right) (Fd := F_q_drawn) (Fb := F_q_bent 9) (Fe := F_q_are_errors_right) (Fs := F_q_strange) fixed_is right_ok (fun h => drawn_ok h) bent9 (fun h => strange_ok h) hE
end K01

set_option Elab.async false
set_option linter.all false
set_option maxRecDepth 100000
set_option maxHeartbeats 390000
namespace K01
open PySem L2 Pz
theorem size_ok {x y : PyData} (hx : Qd 2 200 x) (hy : Qd 2 200 y) : sizeB x y = true := by
  have sx := show_of x hx.lay (Nat.le_trans hx.wt (by decide))
  have sy := show_of y hy.lay (Nat.le_trans hy.wt (by decide))
  have lx := hx.lay
  have ly := hy.lay
  have wx := hx.wt
  have wy := hy.wt
  have dx := hx.dp
  have dy := hy.dp
  have z1 : (toldD x y).showable = true := by
    unfold toldD
    simp only [PyData.showable, PyData.showableAll, sx, sy, Bool.and_self]
  have z0 : (toldD x y).canLay0 = true := by
    unfold toldD
    simp only [PyData.canLay0, PyData.canLayAll0, lx, ly, Bool.and_self]
  have z2 : (toldD x y).depth ≤ 64 := by
    unfold toldD
    simp only [PyData.depth,
          PyData.depthAll]
    omega
  have zw : (toldD x y).weight ≤ 5000 := by
    unfold toldD
    simp only [PyData.weight, PyData.weightAll]
    omega
  have z3 : (toldD x y).shown.length ≤ sizeLine := by
    have h1 := PyData.shown_le 1921 (by decide) (toldD x y) (PyData.leavesShort_of_canLay0 1921 _ z0 (short_of _ z1))
    have h3 : (1921 + 2) * (toldD x y).weight ≤ (1921 + 2) * 5000 := Nat.mul_le_mul_left _ zw
    have e : sizeLine = 16777216 := by decide
    omega
  unfold sizeB
  rw [z1, decide_eq_true z2, decide_eq_true z3]
  rfl
theorem err_ok : ∀ x y, Qd 2 200 x → Qd 2 200 y → ∀ kf : W → Bool, kf (.d (.bool true)) = true → F_q_are_errors_right noX [.d x, .d y] kf = true := fun x y hx hy kf hk => by
  unfold F_q_are_errors_right
  exact andB (size_ok hx hy) hk
theorem run_law : n_law noX lawR lawK = true := run_of err_ok
end K01

set_option maxHeartbeats 0
namespace K01
open PySem L2 Pz
theorem all2 {p : Str → Prop} {f g : Str} (h1 : p f) (h2 : p g) : ∀ x ∈ [f, g], p x := fun x hx => by
  rcases List.mem_cons.mp hx with rfl | hy
  · exact h1
  · cases List.mem_singleton.mp hy
    exact h2
theorem all1 {p : Str → Prop} {f : Str} (h1 : p f) : ∀ x ∈ [f], p x := fun x hx => by
  cases List.mem_singleton.mp hx
  exact h1
/-! what the top has written -/
theorem all_mk {l : PySem.W.OpenLaw} {w : World} {K : PySem.W.Frag} {h : Heap} {mg : Str → Option Value} {fa f0 f1 f2 f3 f4 f5 f6 f7 f8 f9 f10 f11 f12 f13 f14 f15 f16 f17 f18 f19 f20 f21 f22 f23 f24 f25 f26 : Addr} (X : K.In h) (G : h.Ns mainGlobals mg) (hfa : mg "law" = some (.ref fa))
    {od0 an0 od1 an1 od2 an2 od3 an3 od4 an4 od5 an5 od6 an6 od7 an7 od8 an8 od9 an9 od10 an10 od11 an11 od12 an12 od13 an13 od14 an14 od15 an15 od16 an16 od17 an17 od18 an18 od19 an19 od20 an20 od21 an21 od22 an22 od23 an23 od24 an24 od25 an25 od26 an26 : Option Addr} {sl0 sl1 sl2 sl3 sl4 sl5 sl6 sl7 sl8 sl9 sl10 sl11 sl12 sl13 sl14 sl15 sl16 sl17 sl18 sl19 sl20 sl21 sl22 sl23 sl24 sl25 sl26 : Array (Option Value)} {oc0 kV0 dc0 pm0 cd0 ct0 oc1 kV1 dc1 pm1 cd1 ct1 oc2 kV2 dc2 pm2 cd2 ct2 oc3 kV3 dc3 pm3 cd3 ct3 oc4 kV4 dc4 pm4 cd4 ct4 oc5 kV5 dc5 pm5 cd5 ct5 oc6 kV6 dc6 pm6 cd6 ct6 oc7 kV7 dc7 pm7 cd7 ct7 oc8 kV8 dc8 pm8 cd8 ct8 oc9 kV9 dc9 pm9 cd9 ct9 oc10 kV10 dc10 pm10 cd10 ct10 oc11 kV11 dc11 pm11 cd11 ct11 oc12 kV12 dc12 pm12 cd12 ct12 oc13 kV13 dc13 pm13 cd13 ct13 oc14 kV14 dc14 pm14 cd14 ct14 oc15 kV15 dc15 pm15 cd15 ct15 oc16 kV16 dc16 pm16 cd16 ct16 oc17 kV17 dc17 pm17 cd17 ct17 oc18 kV18 dc18 pm18 cd18 ct18 oc19 kV19 dc19 pm19 cd19 ct19 oc20 kV20 dc20 pm20 cd20 ct20 oc21 kV21 dc21 pm21 cd21 ct21 oc22 kV22 dc22 pm22 cd22 ct22 oc23 kV23 dc23 pm23 cd23 ct23 oc24 kV24 dc24 pm24 cd24 ct24 oc25 kV25 dc25 pm25 cd25 ct25 oc26 kV26 dc26 pm26 cd26 ct26 : Value} {t_LONGEST_NAME : Tok}
    (a0 : PySem.W.nsIn K mainGlobals "is_integer" = some (some (.ref f0))) (l0 : K.lookup f0 = some ⟨oc0, od0, .func (PySem.W.fnOf "is_integer" "is_integer" (defArgs s_is_integer) (defBody s_is_integer) (defScope s_is_integer) .none kV0 dc0 pm0 an0 cd0 ct0), sl0⟩) (c0 : PySem.W.codeIn K cd0 "is_integer" = true) (k0 : PySem.W.keepIn K (.ref f0) = true)
    (a1 : PySem.W.nsIn K mainGlobals "is_number" = some (some (.ref f1))) (l1 : K.lookup f1 = some ⟨oc1, od1, .func (PySem.W.fnOf "is_number" "is_number" (defArgs s_is_number) (defBody s_is_number) (defScope s_is_number) .none kV1 dc1 pm1 an1 cd1 ct1), sl1⟩) (c1 : PySem.W.codeIn K cd1 "is_number" = true) (k1 : PySem.W.keepIn K (.ref f1) = true)
    (a2 : PySem.W.nsIn K mainGlobals "is_name" = some (some (.ref f2))) (l2 : K.lookup f2 = some ⟨oc2, od2, .func (PySem.W.fnOf "is_name" "is_name" (defArgs s_is_name) (defBody s_is_name) (defScope s_is_name) .none kV2 dc2 pm2 an2 cd2 ct2), sl2⟩) (c2 : PySem.W.codeIn K cd2 "is_name" = true) (k2 : PySem.W.keepIn K (.ref f2) = true)
    (a3 : PySem.W.nsIn K mainGlobals "is_spot" = some (some (.ref f3))) (l3 : K.lookup f3 = some ⟨oc3, od3, .func (PySem.W.fnOf "is_spot" "is_spot" (defArgs s_is_spot) (defBody s_is_spot) (defScope s_is_spot) .none kV3 dc3 pm3 an3 cd3 ct3), sl3⟩) (c3 : PySem.W.codeIn K cd3 "is_spot" = true) (k3 : PySem.W.keepIn K (.ref f3) = true)
    (a4 : PySem.W.nsIn K mainGlobals "is_folder" = some (some (.ref f4))) (l4 : K.lookup f4 = some ⟨oc4, od4, .func (PySem.W.fnOf "is_folder" "is_folder" (defArgs s_is_folder) (defBody s_is_folder) (defScope s_is_folder) .none kV4 dc4 pm4 an4 cd4 ct4), sl4⟩) (c4 : PySem.W.codeIn K cd4 "is_folder" = true) (k4 : PySem.W.keepIn K (.ref f4) = true)
    (a5 : PySem.W.nsIn K mainGlobals "is_move" = some (some (.ref f5))) (l5 : K.lookup f5 = some ⟨oc5, od5, .func (PySem.W.fnOf "is_move" "is_move" (defArgs s_is_move) (defBody s_is_move) (defScope s_is_move) .none kV5 dc5 pm5 an5 cd5 ct5), sl5⟩) (c5 : PySem.W.codeIn K cd5 "is_move" = true) (k5 : PySem.W.keepIn K (.ref f5) = true)
    (a6 : PySem.W.nsIn K mainGlobals "is_moves" = some (some (.ref f6))) (l6 : K.lookup f6 = some ⟨oc6, od6, .func (PySem.W.fnOf "is_moves" "is_moves" (defArgs s_is_moves) (defBody s_is_moves) (defScope s_is_moves) .none kV6 dc6 pm6 an6 cd6 ct6), sl6⟩) (c6 : PySem.W.codeIn K cd6 "is_moves" = true) (k6 : PySem.W.keepIn K (.ref f6) = true)
    (a7 : PySem.W.nsIn K mainGlobals "is_bulk" = some (some (.ref f7))) (l7 : K.lookup f7 = some ⟨oc7, od7, .func (PySem.W.fnOf "is_bulk" "is_bulk" (defArgs s_is_bulk) (defBody s_is_bulk) (defScope s_is_bulk) .none kV7 dc7 pm7 an7 cd7 ct7), sl7⟩) (c7 : PySem.W.codeIn K cd7 "is_bulk" = true) (k7 : PySem.W.keepIn K (.ref f7) = true)
    (a8 : PySem.W.nsIn K mainGlobals "_law_spool" = some (some (.ref f8))) (l8 : K.lookup f8 = some ⟨oc8, od8, .func (PySem.W.fnOf "_law_spool" "_law_spool" (defArgs s_q_spool) (defBody s_q_spool) (defScope s_q_spool) .none kV8 dc8 pm8 an8 cd8 ct8), sl8⟩) (c8 : PySem.W.codeIn K cd8 "_law_spool" = true) (k8 : PySem.W.keepIn K (.ref f8) = true)
    (a9 : PySem.W.nsIn K mainGlobals "_law_pull" = some (some (.ref f9))) (l9 : K.lookup f9 = some ⟨oc9, od9, .func (PySem.W.fnOf "_law_pull" "_law_pull" (defArgs s_q_pull) (defBody s_q_pull) (defScope s_q_pull) .none kV9 dc9 pm9 an9 cd9 ct9), sl9⟩) (c9 : PySem.W.codeIn K cd9 "_law_pull" = true) (k9 : PySem.W.keepIn K (.ref f9) = true)
    (a10 : PySem.W.nsIn K mainGlobals "_law_any" = some (some (.ref f10))) (l10 : K.lookup f10 = some ⟨oc10, od10, .func (PySem.W.fnOf "_law_any" "_law_any" (defArgs s_q_any) (defBody s_q_any) (defScope s_q_any) .none kV10 dc10 pm10 an10 cd10 ct10), sl10⟩) (c10 : PySem.W.codeIn K cd10 "_law_any" = true) (k10 : PySem.W.keepIn K (.ref f10) = true)
    (a11 : PySem.W.nsIn K mainGlobals "_law_names" = some (some (.ref f11))) (l11 : K.lookup f11 = some ⟨oc11, od11, .func (PySem.W.fnOf "_law_names" "_law_names" (defArgs s_q_names) (defBody s_q_names) (defScope s_q_names) .none kV11 dc11 pm11 an11 cd11 ct11), sl11⟩) (c11 : PySem.W.codeIn K cd11 "_law_names" = true) (k11 : PySem.W.keepIn K (.ref f11) = true)
    (a12 : PySem.W.nsIn K mainGlobals "_law_strange" = some (some (.ref f12))) (l12 : K.lookup f12 = some ⟨oc12, od12, .func (PySem.W.fnOf "_law_strange" "_law_strange" (defArgs s_q_strange) (defBody s_q_strange) (defScope s_q_strange) .none kV12 dc12 pm12 an12 cd12 ct12), sl12⟩) (c12 : PySem.W.codeIn K cd12 "_law_strange" = true) (k12 : PySem.W.keepIn K (.ref f12) = true)
    (a13 : PySem.W.nsIn K mainGlobals "_law_bent" = some (some (.ref f13))) (l13 : K.lookup f13 = some ⟨oc13, od13, .func (PySem.W.fnOf "_law_bent" "_law_bent" (defArgs s_q_bent) (defBody s_q_bent) (defScope s_q_bent) .none kV13 dc13 pm13 an13 cd13 ct13), sl13⟩) (c13 : PySem.W.codeIn K cd13 "_law_bent" = true) (k13 : PySem.W.keepIn K (.ref f13) = true)
    (a14 : PySem.W.nsIn K mainGlobals "_law_is_number" = some (some (.ref f14))) (l14 : K.lookup f14 = some ⟨oc14, od14, .func (PySem.W.fnOf "_law_is_number" "_law_is_number" (defArgs s_q_is_number) (defBody s_q_is_number) (defScope s_q_is_number) .none kV14 dc14 pm14 an14 cd14 ct14), sl14⟩) (c14 : PySem.W.codeIn K cd14 "_law_is_number" = true) (k14 : PySem.W.keepIn K (.ref f14) = true)
    (a15 : PySem.W.nsIn K mainGlobals "_law_is_name" = some (some (.ref f15))) (l15 : K.lookup f15 = some ⟨oc15, od15, .func (PySem.W.fnOf "_law_is_name" "_law_is_name" (defArgs s_q_is_name) (defBody s_q_is_name) (defScope s_q_is_name) .none kV15 dc15 pm15 an15 cd15 ct15), sl15⟩) (c15 : PySem.W.codeIn K cd15 "_law_is_name" = true) (k15 : PySem.W.keepIn K (.ref f15) = true)
    (a16 : PySem.W.nsIn K mainGlobals "_law_is_spot" = some (some (.ref f16))) (l16 : K.lookup f16 = some ⟨oc16, od16, .func (PySem.W.fnOf "_law_is_spot" "_law_is_spot" (defArgs s_q_is_spot) (defBody s_q_is_spot) (defScope s_q_is_spot) .none kV16 dc16 pm16 an16 cd16 ct16), sl16⟩) (c16 : PySem.W.codeIn K cd16 "_law_is_spot" = true) (k16 : PySem.W.keepIn K (.ref f16) = true)
    (a17 : PySem.W.nsIn K mainGlobals "_law_is_folder" = some (some (.ref f17))) (l17 : K.lookup f17 = some ⟨oc17, od17, .func (PySem.W.fnOf "_law_is_folder" "_law_is_folder" (defArgs s_q_is_folder) (defBody s_q_is_folder) (defScope s_q_is_folder) .none kV17 dc17 pm17 an17 cd17 ct17), sl17⟩) (c17 : PySem.W.codeIn K cd17 "_law_is_folder" = true) (k17 : PySem.W.keepIn K (.ref f17) = true)
    (a18 : PySem.W.nsIn K mainGlobals "_law_is_move" = some (some (.ref f18))) (l18 : K.lookup f18 = some ⟨oc18, od18, .func (PySem.W.fnOf "_law_is_move" "_law_is_move" (defArgs s_q_is_move) (defBody s_q_is_move) (defScope s_q_is_move) .none kV18 dc18 pm18 an18 cd18 ct18), sl18⟩) (c18 : PySem.W.codeIn K cd18 "_law_is_move" = true) (k18 : PySem.W.keepIn K (.ref f18) = true)
    (a19 : PySem.W.nsIn K mainGlobals "_law_is_moves" = some (some (.ref f19))) (l19 : K.lookup f19 = some ⟨oc19, od19, .func (PySem.W.fnOf "_law_is_moves" "_law_is_moves" (defArgs s_q_is_moves) (defBody s_q_is_moves) (defScope s_q_is_moves) .none kV19 dc19 pm19 an19 cd19 ct19), sl19⟩) (c19 : PySem.W.codeIn K cd19 "_law_is_moves" = true) (k19 : PySem.W.keepIn K (.ref f19) = true)
    (a20 : PySem.W.nsIn K mainGlobals "_law_is_bulk" = some (some (.ref f20))) (l20 : K.lookup f20 = some ⟨oc20, od20, .func (PySem.W.fnOf "_law_is_bulk" "_law_is_bulk" (defArgs s_q_is_bulk) (defBody s_q_is_bulk) (defScope s_q_is_bulk) .none kV20 dc20 pm20 an20 cd20 ct20), sl20⟩) (c20 : PySem.W.codeIn K cd20 "_law_is_bulk" = true) (k20 : PySem.W.keepIn K (.ref f20) = true)
    (a21 : PySem.W.nsIn K mainGlobals "_law_is_right" = some (some (.ref f21))) (l21 : K.lookup f21 = some ⟨oc21, od21, .func (PySem.W.fnOf "_law_is_right" "_law_is_right" (defArgs s_q_is_right) (defBody s_q_is_right) (defScope s_q_is_right) .none kV21 dc21 pm21 an21 cd21 ct21), sl21⟩) (c21 : PySem.W.codeIn K cd21 "_law_is_right" = true) (k21 : PySem.W.keepIn K (.ref f21) = true)
    (a22 : PySem.W.nsIn K mainGlobals "_law_fixed" = some (some (.ref f22))) (l22 : K.lookup f22 = some ⟨oc22, od22, .func (PySem.W.fnOf "_law_fixed" "_law_fixed" (defArgs s_q_fixed) (defBody s_q_fixed) (defScope s_q_fixed) .none kV22 dc22 pm22 an22 cd22 ct22), sl22⟩) (c22 : PySem.W.codeIn K cd22 "_law_fixed" = true) (k22 : PySem.W.keepIn K (.ref f22) = true)
    (a23 : PySem.W.nsIn K mainGlobals "_law_drawn" = some (some (.ref f23))) (l23 : K.lookup f23 = some ⟨oc23, od23, .func (PySem.W.fnOf "_law_drawn" "_law_drawn" (defArgs s_q_drawn) (defBody s_q_drawn) (defScope s_q_drawn) .none kV23 dc23 pm23 an23 cd23 ct23), sl23⟩) (c23 : PySem.W.codeIn K cd23 "_law_drawn" = true) (k23 : PySem.W.keepIn K (.ref f23) = true)
    (a24 : PySem.W.nsIn K mainGlobals "_law_families" = some (some (.ref f24))) (l24 : K.lookup f24 = some ⟨oc24, od24, .func (PySem.W.fnOf "_law_families" "_law_families" (defArgs s_q_families) (defBody s_q_families) (defScope s_q_families) .none kV24 dc24 pm24 an24 cd24 ct24), sl24⟩) (c24 : PySem.W.codeIn K cd24 "_law_families" = true) (k24 : PySem.W.keepIn K (.ref f24) = true)
    (a25 : PySem.W.nsIn K mainGlobals "_law_are_errors_right" = some (some (.ref f25))) (l25 : K.lookup f25 = some ⟨oc25, od25, .func (PySem.W.fnOf "_law_are_errors_right" "_law_are_errors_right" (defArgs s_q_are_errors_right) (defBody s_q_are_errors_right) (defScope s_q_are_errors_right) .none kV25 dc25 pm25 an25 cd25 ct25), sl25⟩) (c25 : PySem.W.codeIn K cd25 "_law_are_errors_right" = true) (k25 : PySem.W.keepIn K (.ref f25) = true)
    (a26 : PySem.W.nsIn K mainGlobals "law" = some (some (.ref f26))) (l26 : K.lookup f26 = some ⟨oc26, od26, .func (PySem.W.fnOf "law" "law" (defArgs s_law) (defBody s_law) (defScope s_law) .none kV26 dc26 pm26 an26 cd26 ct26), sl26⟩) (c26 : PySem.W.codeIn K cd26 "law" = true) (k26 : PySem.W.keepIn K (.ref f26) = true)
    (g_LONGEST_NAME : PySem.W.nsIn K mainGlobals "LONGEST_NAME" = some (some (.int 8 t_LONGEST_NAME)))
    (z_ValueError : PySem.W.nsIn K mainGlobals "ValueError" = some none)
    (z_len : PySem.W.nsIn K mainGlobals "len" = some none)
    (z_tuple : PySem.W.nsIn K mainGlobals "tuple" = some none)
    (z_list : PySem.W.nsIn K mainGlobals "list" = some none)
    (z_int : PySem.W.nsIn K mainGlobals "int" = some none)
    (z_str : PySem.W.nsIn K mainGlobals "str" = some none)
    (z_bool : PySem.W.nsIn K mainGlobals "bool" = some none)
    (z_all : PySem.W.nsIn K mainGlobals "all" = some none)
    (z_sorted : PySem.W.nsIn K mainGlobals "sorted" = some none)
    (z_repr : PySem.W.nsIn K mainGlobals "repr" = some none)
    (z_isinstance : PySem.W.nsIn K mainGlobals "isinstance" = some none)
    (z_range : PySem.W.nsIn K mainGlobals "range" = some none)
    {cC0 cI0 cN0 cC1 cI1 cN1 cC2 cI2 cN2 cC3 cI3 cN3 cC4 cI4 cN4 cC5 cI5 cN5 cC6 cI6 cN6 cG0 cG1 cG2 cG3 cG4 : Addr} {enm0 eq0 enm1 eq1 enm2 eq2 enm3 eq3 enm4 eq4 enm5 eq5 enm6 eq6 : Str} {ebs0 ebm0 esub0 ebs1 ebm1 esub1 ebs2 ebm2 esub2 ebs3 ebm3 esub3 ebs4 ebm4 esub4 ebs5 ebm5 esub5 ebs6 ebm6 esub6 : List Value} {esn0 esn1 esn2 esn3 esn4 esn5 esn6 : List Str} {eab0 eab1 eab2 eab3 eab4 eab5 eab6 : Bool} {ecol0 ecol1 ecol2 ecol3 ecol4 ecol5 ecol6 : Option Bool}
    {edd0 iod0 ian0 edd1 iod1 ian1 edd2 iod2 ian2 edd3 iod3 ian3 edd4 iod4 ian4 edd5 iod5 ian5 edd6 iod6 ian6 : Option Addr} {ek00 ek10 ek20 ek30 ek50 ek01 ek11 ek21 ek31 ek51 ek02 ek12 ek22 ek32 ek52 ek03 ek13 ek23 ek33 ek53 ek04 ek14 ek24 ek34 ek54 ek05 ek15 ek25 ek35 ek55 ek06 ek16 ek26 ek36 ek56 : Option Value} {ioc0 ikV0 idc0 ipm0 icd0 ict0 ioc1 ikV1 idc1 ipm1 icd1 ict1 ioc2 ikV2 idc2 ipm2 icd2 ict2 ioc3 ikV3 idc3 ipm3 icd3 ict3 ioc4 ikV4 idc4 ipm4 icd4 ict4 ioc5 ikV5 idc5 ipm5 icd5 ict5 ioc6 ikV6 idc6 ipm6 icd6 ict6 : Value} {isl0 isl1 isl2 isl3 isl4 isl5 isl6 : Array (Option Value)}
    (gg0 : PySem.W.nsIn K mainGlobals "PaperError" = some (some (.ref cG0)))
    (gg1 : PySem.W.nsIn K mainGlobals "TreeError" = some (some (.ref cG1)))
    (gg2 : PySem.W.nsIn K mainGlobals "MovingError" = some (some (.ref cG2)))
    (gg3 : PySem.W.nsIn K mainGlobals "TextError" = some (some (.ref cG3)))
    (gg4 : PySem.W.nsIn K mainGlobals "RoomError" = some (some (.ref cG4)))
    (hsn : PySem.W.specialIn K (.builtin "object.__class__") "__get__" = some (some (.builtin "getset_descriptor.__get__")))
    (htk : PySem.W.takesIn K (.builtin "object.__class__") = some true)
    (gc0 : PySem.W.nsIn K mainGlobals "InvalidPaper" = some (some (.ref cC0)))
    (hc0 : K.lookup cC0 = some (excClassObj enm0 eq0 cC0 cN0 ebs0 ebm0 true esn0 esub0 eab0 ecol0 edd0 ek00 ek10 ek20 ek30 ek50 "ValueError.__new__"))
    (hm0 : PySem.HandSPX.refsVE ebm0 = true)
    (sa0 : PySem.W.findIn K (.ref cC0) "__setattr__" = some (some (.builtin "object.__setattr__")))
    (xe0 : PySem.W.subIn K (.ref cC0) (.type "BaseException") = some true)
    (ty0 : PySem.W.typeIn K (.ref cC0) = some (.type "type"))
    (kc0 : PySem.W.keepIn K (.ref cC0) = true)
    (ga0 : PySem.W.findIn K (.ref cC0) "__getattribute__" = some (some (.builtin "BaseException.__getattribute__")))
    (gt0 : PySem.W.findIn K (.ref cC0) "__getattr__" = some none)
    (hd0 : PySem.W.hasDictIn K cC0 = true)
    (ha0 : PySem.W.findIn K (.ref cC0) "__class__" = some (some (.builtin "object.__class__")))
    (mr0 : PySem.W.mroIn K cC0 (.type "object") = some true)
    (ii0 : PySem.W.findIn K (.ref cC0) "__init__" = some (some (.ref cI0)))
    (ti0 : PySem.W.typeIn K (.ref cI0) = some (.type "function"))
    (no0_word : PySem.W.findIn K (.ref cC0) "word" = some none)
    (no0_at : PySem.W.findIn K (.ref cC0) "at" = some none)
    (il0 : K.lookup cI0 = some ⟨ioc0, iod0, .func (PySem.W.fnOf "__init__" "InvalidPaper.__init__" (defArgs (initE 16)) (defBody (initE 16)) (defScope (initE 16)) .none ikV0 idc0 ipm0 ian0 icd0 ict0), isl0⟩)
    (ic0 : PySem.W.codeIn K icd0 "InvalidPaper.__init__" = true)
    (ik0 : PySem.W.keepIn K (.ref cI0) = true)
    (gc1 : PySem.W.nsIn K mainGlobals "NotUsable" = some (some (.ref cC1)))
    (hc1 : K.lookup cC1 = some (excClassObj enm1 eq1 cC1 cN1 ebs1 ebm1 true esn1 esub1 eab1 ecol1 edd1 ek01 ek11 ek21 ek31 ek51 "ValueError.__new__"))
    (hm1 : PySem.HandSPX.refsVE ebm1 = true)
    (sa1 : PySem.W.findIn K (.ref cC1) "__setattr__" = some (some (.builtin "object.__setattr__")))
    (xe1 : PySem.W.subIn K (.ref cC1) (.type "BaseException") = some true)
    (ty1 : PySem.W.typeIn K (.ref cC1) = some (.type "type"))
    (kc1 : PySem.W.keepIn K (.ref cC1) = true)
    (ga1 : PySem.W.findIn K (.ref cC1) "__getattribute__" = some (some (.builtin "BaseException.__getattribute__")))
    (gt1 : PySem.W.findIn K (.ref cC1) "__getattr__" = some none)
    (hd1 : PySem.W.hasDictIn K cC1 = true)
    (ha1 : PySem.W.findIn K (.ref cC1) "__class__" = some (some (.builtin "object.__class__")))
    (mr1 : PySem.W.mroIn K cC1 (.type "object") = some true)
    (ii1 : PySem.W.findIn K (.ref cC1) "__init__" = some (some (.ref cI1)))
    (ti1 : PySem.W.typeIn K (.ref cI1) = some (.type "function"))
    (no1_word : PySem.W.findIn K (.ref cC1) "word" = some none)
    (no1_at : PySem.W.findIn K (.ref cC1) "at" = some none)
    (il1 : K.lookup cI1 = some ⟨ioc1, iod1, .func (PySem.W.fnOf "__init__" "NotUsable.__init__" (defArgs (initE 17)) (defBody (initE 17)) (defScope (initE 17)) .none ikV1 idc1 ipm1 ian1 icd1 ict1), isl1⟩)
    (ic1 : PySem.W.codeIn K icd1 "NotUsable.__init__" = true)
    (ik1 : PySem.W.keepIn K (.ref cI1) = true)
    (gc2 : PySem.W.nsIn K mainGlobals "InvalidEvent" = some (some (.ref cC2)))
    (hc2 : K.lookup cC2 = some (excClassObj enm2 eq2 cC2 cN2 ebs2 ebm2 true esn2 esub2 eab2 ecol2 edd2 ek02 ek12 ek22 ek32 ek52 "ValueError.__new__"))
    (hm2 : PySem.HandSPX.refsVE ebm2 = true)
    (sa2 : PySem.W.findIn K (.ref cC2) "__setattr__" = some (some (.builtin "object.__setattr__")))
    (xe2 : PySem.W.subIn K (.ref cC2) (.type "BaseException") = some true)
    (ty2 : PySem.W.typeIn K (.ref cC2) = some (.type "type"))
    (kc2 : PySem.W.keepIn K (.ref cC2) = true)
    (ga2 : PySem.W.findIn K (.ref cC2) "__getattribute__" = some (some (.builtin "BaseException.__getattribute__")))
    (gt2 : PySem.W.findIn K (.ref cC2) "__getattr__" = some none)
    (hd2 : PySem.W.hasDictIn K cC2 = true)
    (ha2 : PySem.W.findIn K (.ref cC2) "__class__" = some (some (.builtin "object.__class__")))
    (mr2 : PySem.W.mroIn K cC2 (.type "object") = some true)
    (ii2 : PySem.W.findIn K (.ref cC2) "__init__" = some (some (.ref cI2)))
    (ti2 : PySem.W.typeIn K (.ref cI2) = some (.type "function"))
    (no2_event : PySem.W.findIn K (.ref cC2) "event" = some none)
    (no2_reason : PySem.W.findIn K (.ref cC2) "reason" = some none)
    (il2 : K.lookup cI2 = some ⟨ioc2, iod2, .func (PySem.W.fnOf "__init__" "InvalidEvent.__init__" (defArgs (initE 18)) (defBody (initE 18)) (defScope (initE 18)) .none ikV2 idc2 ipm2 ian2 icd2 ict2), isl2⟩)
    (ic2 : PySem.W.codeIn K icd2 "InvalidEvent.__init__" = true)
    (ik2 : PySem.W.keepIn K (.ref cI2) = true)
    (gc3 : PySem.W.nsIn K mainGlobals "Barred" = some (some (.ref cC3)))
    (hc3 : K.lookup cC3 = some (excClassObj enm3 eq3 cC3 cN3 ebs3 ebm3 true esn3 esub3 eab3 ecol3 edd3 ek03 ek13 ek23 ek33 ek53 "ValueError.__new__"))
    (hm3 : PySem.HandSPX.refsVE ebm3 = true)
    (sa3 : PySem.W.findIn K (.ref cC3) "__setattr__" = some (some (.builtin "object.__setattr__")))
    (xe3 : PySem.W.subIn K (.ref cC3) (.type "BaseException") = some true)
    (ty3 : PySem.W.typeIn K (.ref cC3) = some (.type "type"))
    (kc3 : PySem.W.keepIn K (.ref cC3) = true)
    (ga3 : PySem.W.findIn K (.ref cC3) "__getattribute__" = some (some (.builtin "BaseException.__getattribute__")))
    (gt3 : PySem.W.findIn K (.ref cC3) "__getattr__" = some none)
    (hd3 : PySem.W.hasDictIn K cC3 = true)
    (ha3 : PySem.W.findIn K (.ref cC3) "__class__" = some (some (.builtin "object.__class__")))
    (mr3 : PySem.W.mroIn K cC3 (.type "object") = some true)
    (ii3 : PySem.W.findIn K (.ref cC3) "__init__" = some (some (.ref cI3)))
    (ti3 : PySem.W.typeIn K (.ref cI3) = some (.type "function"))
    (no3_event : PySem.W.findIn K (.ref cC3) "event" = some none)
    (no3_folders : PySem.W.findIn K (.ref cC3) "folders" = some none)
    (il3 : K.lookup cI3 = some ⟨ioc3, iod3, .func (PySem.W.fnOf "__init__" "Barred.__init__" (defArgs (initE 20)) (defBody (initE 20)) (defScope (initE 20)) .none ikV3 idc3 ipm3 ian3 icd3 ict3), isl3⟩)
    (ic3 : PySem.W.codeIn K icd3 "Barred.__init__" = true)
    (ik3 : PySem.W.keepIn K (.ref cI3) = true)
    (gc4 : PySem.W.nsIn K mainGlobals "InvalidText" = some (some (.ref cC4)))
    (hc4 : K.lookup cC4 = some (excClassObj enm4 eq4 cC4 cN4 ebs4 ebm4 true esn4 esub4 eab4 ecol4 edd4 ek04 ek14 ek24 ek34 ek54 "ValueError.__new__"))
    (hm4 : PySem.HandSPX.refsVE ebm4 = true)
    (sa4 : PySem.W.findIn K (.ref cC4) "__setattr__" = some (some (.builtin "object.__setattr__")))
    (xe4 : PySem.W.subIn K (.ref cC4) (.type "BaseException") = some true)
    (ty4 : PySem.W.typeIn K (.ref cC4) = some (.type "type"))
    (kc4 : PySem.W.keepIn K (.ref cC4) = true)
    (ga4 : PySem.W.findIn K (.ref cC4) "__getattribute__" = some (some (.builtin "BaseException.__getattribute__")))
    (gt4 : PySem.W.findIn K (.ref cC4) "__getattr__" = some none)
    (hd4 : PySem.W.hasDictIn K cC4 = true)
    (ha4 : PySem.W.findIn K (.ref cC4) "__class__" = some (some (.builtin "object.__class__")))
    (mr4 : PySem.W.mroIn K cC4 (.type "object") = some true)
    (ii4 : PySem.W.findIn K (.ref cC4) "__init__" = some (some (.ref cI4)))
    (ti4 : PySem.W.typeIn K (.ref cI4) = some (.type "function"))
    (no4_line : PySem.W.findIn K (.ref cC4) "line" = some none)
    (no4_field : PySem.W.findIn K (.ref cC4) "field" = some none)
    (il4 : K.lookup cI4 = some ⟨ioc4, iod4, .func (PySem.W.fnOf "__init__" "InvalidText.__init__" (defArgs (initE 21)) (defBody (initE 21)) (defScope (initE 21)) .none ikV4 idc4 ipm4 ian4 icd4 ict4), isl4⟩)
    (ic4 : PySem.W.codeIn K icd4 "InvalidText.__init__" = true)
    (ik4 : PySem.W.keepIn K (.ref cI4) = true)
    (gc5 : PySem.W.nsIn K mainGlobals "NothingToUndo" = some (some (.ref cC5)))
    (hc5 : K.lookup cC5 = some (excClassObj enm5 eq5 cC5 cN5 ebs5 ebm5 true esn5 esub5 eab5 ecol5 edd5 ek05 ek15 ek25 ek35 ek55 "ValueError.__new__"))
    (hm5 : PySem.HandSPX.refsVE ebm5 = true)
    (sa5 : PySem.W.findIn K (.ref cC5) "__setattr__" = some (some (.builtin "object.__setattr__")))
    (xe5 : PySem.W.subIn K (.ref cC5) (.type "BaseException") = some true)
    (ty5 : PySem.W.typeIn K (.ref cC5) = some (.type "type"))
    (kc5 : PySem.W.keepIn K (.ref cC5) = true)
    (ga5 : PySem.W.findIn K (.ref cC5) "__getattribute__" = some (some (.builtin "BaseException.__getattribute__")))
    (gt5 : PySem.W.findIn K (.ref cC5) "__getattr__" = some none)
    (hd5 : PySem.W.hasDictIn K cC5 = true)
    (ha5 : PySem.W.findIn K (.ref cC5) "__class__" = some (some (.builtin "object.__class__")))
    (mr5 : PySem.W.mroIn K cC5 (.type "object") = some true)
    (ii5 : PySem.W.findIn K (.ref cC5) "__init__" = some (some (.ref cI5)))
    (ti5 : PySem.W.typeIn K (.ref cI5) = some (.type "function"))
    (no5_steps : PySem.W.findIn K (.ref cC5) "steps" = some none)
    (il5 : K.lookup cI5 = some ⟨ioc5, iod5, .func (PySem.W.fnOf "__init__" "NothingToUndo.__init__" (defArgs (initE 19)) (defBody (initE 19)) (defScope (initE 19)) .none ikV5 idc5 ipm5 ian5 icd5 ict5), isl5⟩)
    (ic5 : PySem.W.codeIn K icd5 "NothingToUndo.__init__" = true)
    (ik5 : PySem.W.keepIn K (.ref cI5) = true)
    (gc6 : PySem.W.nsIn K mainGlobals "InvalidRow" = some (some (.ref cC6)))
    (hc6 : K.lookup cC6 = some (excClassObj enm6 eq6 cC6 cN6 ebs6 ebm6 true esn6 esub6 eab6 ecol6 edd6 ek06 ek16 ek26 ek36 ek56 "ValueError.__new__"))
    (hm6 : PySem.HandSPX.refsVE ebm6 = true)
    (sa6 : PySem.W.findIn K (.ref cC6) "__setattr__" = some (some (.builtin "object.__setattr__")))
    (xe6 : PySem.W.subIn K (.ref cC6) (.type "BaseException") = some true)
    (ty6 : PySem.W.typeIn K (.ref cC6) = some (.type "type"))
    (kc6 : PySem.W.keepIn K (.ref cC6) = true)
    (ga6 : PySem.W.findIn K (.ref cC6) "__getattribute__" = some (some (.builtin "BaseException.__getattribute__")))
    (gt6 : PySem.W.findIn K (.ref cC6) "__getattr__" = some none)
    (hd6 : PySem.W.hasDictIn K cC6 = true)
    (ha6 : PySem.W.findIn K (.ref cC6) "__class__" = some (some (.builtin "object.__class__")))
    (mr6 : PySem.W.mroIn K cC6 (.type "object") = some true)
    (ii6 : PySem.W.findIn K (.ref cC6) "__init__" = some (some (.ref cI6)))
    (ti6 : PySem.W.typeIn K (.ref cI6) = some (.type "function"))
    (no6_row : PySem.W.findIn K (.ref cC6) "row" = some none)
    (il6 : K.lookup cI6 = some ⟨ioc6, iod6, .func (PySem.W.fnOf "__init__" "InvalidRow.__init__" (defArgs (initE 22)) (defBody (initE 22)) (defScope (initE 22)) .none ikV6 idc6 ipm6 ian6 icd6 ict6), isl6⟩)
    (ic6 : PySem.W.codeIn K icd6 "InvalidRow.__init__" = true)
    (ik6 : PySem.W.keepIn K (.ref cI6) = true)
    (f0_0 : PySem.W.kitOne K (.ref cC0) (.ref cG0) = some true)
    (f0_1 : PySem.W.kitOne K (.ref cC0) (.ref cG1) = some false)
    (f0_2 : PySem.W.kitOne K (.ref cC0) (.ref cG2) = some false)
    (f0_3 : PySem.W.kitOne K (.ref cC0) (.ref cG3) = some false)
    (r0 : PySem.W.kitOne K (.ref cC0) (.ref cG4) = some true)
    (v0 : PySem.W.kitOne K (.ref cC0) (.type "ValueError") = some true)
    (f1_0 : PySem.W.kitOne K (.ref cC1) (.ref cG0) = some false)
    (f1_1 : PySem.W.kitOne K (.ref cC1) (.ref cG1) = some true)
    (f1_2 : PySem.W.kitOne K (.ref cC1) (.ref cG2) = some false)
    (f1_3 : PySem.W.kitOne K (.ref cC1) (.ref cG3) = some false)
    (r1 : PySem.W.kitOne K (.ref cC1) (.ref cG4) = some true)
    (v1 : PySem.W.kitOne K (.ref cC1) (.type "ValueError") = some true)
    (f2_0 : PySem.W.kitOne K (.ref cC2) (.ref cG0) = some false)
    (f2_1 : PySem.W.kitOne K (.ref cC2) (.ref cG1) = some false)
    (f2_2 : PySem.W.kitOne K (.ref cC2) (.ref cG2) = some true)
    (f2_3 : PySem.W.kitOne K (.ref cC2) (.ref cG3) = some false)
    (r2 : PySem.W.kitOne K (.ref cC2) (.ref cG4) = some true)
    (v2 : PySem.W.kitOne K (.ref cC2) (.type "ValueError") = some true)
    (f3_0 : PySem.W.kitOne K (.ref cC3) (.ref cG0) = some false)
    (f3_1 : PySem.W.kitOne K (.ref cC3) (.ref cG1) = some false)
    (f3_2 : PySem.W.kitOne K (.ref cC3) (.ref cG2) = some true)
    (f3_3 : PySem.W.kitOne K (.ref cC3) (.ref cG3) = some false)
    (r3 : PySem.W.kitOne K (.ref cC3) (.ref cG4) = some true)
    (v3 : PySem.W.kitOne K (.ref cC3) (.type "ValueError") = some true)
    (f4_0 : PySem.W.kitOne K (.ref cC4) (.ref cG0) = some false)
    (f4_1 : PySem.W.kitOne K (.ref cC4) (.ref cG1) = some false)
    (f4_2 : PySem.W.kitOne K (.ref cC4) (.ref cG2) = some false)
    (f4_3 : PySem.W.kitOne K (.ref cC4) (.ref cG3) = some true)
    (r4 : PySem.W.kitOne K (.ref cC4) (.ref cG4) = some true)
    (v4 : PySem.W.kitOne K (.ref cC4) (.type "ValueError") = some true)
    (f5_0 : PySem.W.kitOne K (.ref cC5) (.ref cG0) = some false)
    (f5_1 : PySem.W.kitOne K (.ref cC5) (.ref cG1) = some false)
    (f5_2 : PySem.W.kitOne K (.ref cC5) (.ref cG2) = some true)
    (f5_3 : PySem.W.kitOne K (.ref cC5) (.ref cG3) = some false)
    (r5 : PySem.W.kitOne K (.ref cC5) (.ref cG4) = some true)
    (v5 : PySem.W.kitOne K (.ref cC5) (.type "ValueError") = some true)
    (f6_0 : PySem.W.kitOne K (.ref cC6) (.ref cG0) = some false)
    (f6_1 : PySem.W.kitOne K (.ref cC6) (.ref cG1) = some false)
    (f6_2 : PySem.W.kitOne K (.ref cC6) (.ref cG2) = some false)
    (f6_3 : PySem.W.kitOne K (.ref cC6) (.ref cG3) = some true)
    (r6 : PySem.W.kitOne K (.ref cC6) (.ref cG4) = some true)
    (v6 : PySem.W.kitOne K (.ref cC6) (.type "ValueError") = some true)
    (s0_1 : PySem.W.kitOne K (.ref cC0) (.ref cC1) = some false)
    (s2_3 : PySem.W.kitOne K (.ref cC2) (.ref cC3) = some false)
    (s3_2 : PySem.W.kitOne K (.ref cC3) (.ref cC2) = some false)
    (s4_6 : PySem.W.kitOne K (.ref cC4) (.ref cC6) = some false)
    (s6_4 : PySem.W.kitOne K (.ref cC6) (.ref cC4) = some false)
    (s5_2 : PySem.W.kitOne K (.ref cC5) (.ref cC2) = some false)
    (s2_5 : PySem.W.kitOne K (.ref cC2) (.ref cC5) = some false)
    (run : n_law noX lawR lawK = true) : ∃ fd : FuncData, (∀ (s : Shared) (v : Value), BindsTo s fd ⟨[v], []⟩ [("_law_script", v)]) ∧ ∀ bs : Heap, K.In bs → bs.Ns mainGlobals mg → FnG l.prog w K mg bs 13 fa fd ["_law_script"] (spLaw K) := by
  have e := hfa.symm.trans (PySem.W.mg_of X G a26)
  cases e
  have F0 := fun_mk (st := s_is_integer) l0 c0 k0
  have F1 := fun_mk (st := s_is_number) l1 c1 k1
  have F2 := fun_mk (st := s_is_name) l2 c2 k2
  have F3 := fun_mk (st := s_is_spot) l3 c3 k3
  have F4 := fun_mk (st := s_is_folder) l4 c4 k4
  have F5 := fun_mk (st := s_is_move) l5 c5 k5
  have F6 := fun_mk (st := s_is_moves) l6 c6 k6
  have F7 := fun_mk (st := s_is_bulk) l7 c7 k7
  have F8 := fun_mk (st := s_q_spool) l8 c8 k8
  have F9 := fun_mk (st := s_q_pull) l9 c9 k9
  have F10 := fun_mk (st := s_q_any) l10 c10 k10
  have F11 := fun_mk (st := s_q_names) l11 c11 k11
  have F12 := fun_mk (st := s_q_strange) l12 c12 k12
  have F13 := fun_mk (st := s_q_bent) l13 c13 k13
  have F14 := fun_mk (st := s_q_is_number) l14 c14 k14
  have F15 := fun_mk (st := s_q_is_name) l15 c15 k15
  have F16 := fun_mk (st := s_q_is_spot) l16 c16 k16
  have F17 := fun_mk (st := s_q_is_folder) l17 c17 k17
  have F18 := fun_mk (st := s_q_is_move) l18 c18 k18
  have F19 := fun_mk (st := s_q_is_moves) l19 c19 k19
  have F20 := fun_mk (st := s_q_is_bulk) l20 c20 k20
  have F21 := fun_mk (st := s_q_is_right) l21 c21 k21
  have F22 := fun_mk (st := s_q_fixed) l22 c22 k22
  have F23 := fun_mk (st := s_q_drawn) l23 c23 k23
  have F24 := fun_mk (st := s_q_families) l24 c24 k24
  have F25 := fun_mk (st := s_q_are_errors_right) l25 c25 k25
  have F26 := fun_mk (st := s_law) l26 c26 k26
  have T : Tx K mg (fun i => [f0, f1, f2, f3, f4, f5, f6, f7, f8, f9, f10, f11, f12, f13, f14, f15, f16, f17, f18, f19, f20, f21, f22, f23, f24, f25, fa].getD i 0) (fun i => [PySem.W.fnOf "is_integer" "is_integer" (defArgs s_is_integer) (defBody s_is_integer) (defScope s_is_integer) .none kV0 dc0 pm0 an0 cd0 ct0, PySem.W.fnOf "is_number" "is_number" (defArgs s_is_number) (defBody s_is_number) (defScope s_is_number) .none kV1 dc1 pm1 an1 cd1 ct1, PySem.W.fnOf "is_name" "is_name" (defArgs s_is_name) (defBody s_is_name) (defScope s_is_name) .none kV2 dc2 pm2 an2 cd2 ct2, PySem.W.fnOf "is_spot" "is_spot" (defArgs s_is_spot) (defBody s_is_spot) (defScope s_is_spot) .none kV3 dc3 pm3 an3 cd3 ct3, PySem.W.fnOf "is_folder" "is_folder" (defArgs s_is_folder) (defBody s_is_folder) (defScope s_is_folder) .none kV4 dc4 pm4 an4 cd4 ct4, PySem.W.fnOf "is_move" "is_move" (defArgs s_is_move) (defBody s_is_move) (defScope s_is_move) .none kV5 dc5 pm5 an5 cd5 ct5, PySem.W.fnOf "is_moves" "is_moves" (defArgs s_is_moves) (defBody s_is_moves) (defScope s_is_moves) .none kV6 dc6 pm6 an6 cd6 ct6, PySem.W.fnOf "is_bulk" "is_bulk" (defArgs s_is_bulk) (defBody s_is_bulk) (defScope s_is_bulk) .none kV7 dc7 pm7 an7 cd7 ct7, PySem.W.fnOf "_law_spool" "_law_spool" (defArgs s_q_spool) (defBody s_q_spool) (defScope s_q_spool) .none kV8 dc8 pm8 an8 cd8 ct8, PySem.W.fnOf "_law_pull" "_law_pull" (defArgs s_q_pull) (defBody s_q_pull) (defScope s_q_pull) .none kV9 dc9 pm9 an9 cd9 ct9, PySem.W.fnOf "_law_any" "_law_any" (defArgs s_q_any) (defBody s_q_any) (defScope s_q_any) .none kV10 dc10 pm10 an10 cd10 ct10, PySem.W.fnOf "_law_names" "_law_names" (defArgs s_q_names) (defBody s_q_names) (defScope s_q_names) .none kV11 dc11 pm11 an11 cd11 ct11, PySem.W.fnOf "_law_strange" "_law_strange" (defArgs s_q_strange) (defBody s_q_strange) (defScope s_q_strange) .none kV12 dc12 pm12 an12 cd12 ct12, PySem.W.fnOf "_law_bent" "_law_bent" (defArgs s_q_bent) (defBody s_q_bent) (defScope s_q_bent) .none kV13 dc13 pm13 an13 cd13 ct13, PySem.W.fnOf "_law_is_number" "_law_is_number" (defArgs s_q_is_number) (defBody s_q_is_number) (defScope s_q_is_number) .none kV14 dc14 pm14 an14 cd14 ct14, PySem.W.fnOf "_law_is_name" "_law_is_name" (defArgs s_q_is_name) (defBody s_q_is_name) (defScope s_q_is_name) .none kV15 dc15 pm15 an15 cd15 ct15, PySem.W.fnOf "_law_is_spot" "_law_is_spot" (defArgs s_q_is_spot) (defBody s_q_is_spot) (defScope s_q_is_spot) .none kV16 dc16 pm16 an16 cd16 ct16, PySem.W.fnOf "_law_is_folder" "_law_is_folder" (defArgs s_q_is_folder) (defBody s_q_is_folder) (defScope s_q_is_folder) .none kV17 dc17 pm17 an17 cd17 ct17, PySem.W.fnOf "_law_is_move" "_law_is_move" (defArgs s_q_is_move) (defBody s_q_is_move) (defScope s_q_is_move) .none kV18 dc18 pm18 an18 cd18 ct18, PySem.W.fnOf "_law_is_moves" "_law_is_moves" (defArgs s_q_is_moves) (defBody s_q_is_moves) (defScope s_q_is_moves) .none kV19 dc19 pm19 an19 cd19 ct19, PySem.W.fnOf "_law_is_bulk" "_law_is_bulk" (defArgs s_q_is_bulk) (defBody s_q_is_bulk) (defScope s_q_is_bulk) .none kV20 dc20 pm20 an20 cd20 ct20, PySem.W.fnOf "_law_is_right" "_law_is_right" (defArgs s_q_is_right) (defBody s_q_is_right) (defScope s_q_is_right) .none kV21 dc21 pm21 an21 cd21 ct21, PySem.W.fnOf "_law_fixed" "_law_fixed" (defArgs s_q_fixed) (defBody s_q_fixed) (defScope s_q_fixed) .none kV22 dc22 pm22 an22 cd22 ct22, PySem.W.fnOf "_law_drawn" "_law_drawn" (defArgs s_q_drawn) (defBody s_q_drawn) (defScope s_q_drawn) .none kV23 dc23 pm23 an23 cd23 ct23, PySem.W.fnOf "_law_families" "_law_families" (defArgs s_q_families) (defBody s_q_families) (defScope s_q_families) .none kV24 dc24 pm24 an24 cd24 ct24, PySem.W.fnOf "_law_are_errors_right" "_law_are_errors_right" (defArgs s_q_are_errors_right) (defBody s_q_are_errors_right) (defScope s_q_are_errors_right) .none kV25 dc25 pm25 an25 cd25 ct25, PySem.W.fnOf "law" "law" (defArgs s_law) (defBody s_law) (defScope s_law) .none kV26 dc26 pm26 an26 cd26 ct26].getD i default) := by
    constructor
    · exact F0
    · exact PySem.W.mg_of X G a0
    · exact F0.binds fun _ _ _ _ _ _ us hl => match us, hl with | [_], _ => rfl
    · exact F1
    · exact PySem.W.mg_of X G a1
    · exact F1.binds fun _ _ _ _ _ _ us hl => match us, hl with | [_], _ => rfl
    · exact F2
    · exact PySem.W.mg_of X G a2
    · exact F2.binds fun _ _ _ _ _ _ us hl => match us, hl with | [_], _ => rfl
    · exact F3
    · exact PySem.W.mg_of X G a3
    · exact F3.binds fun _ _ _ _ _ _ us hl => match us, hl with | [_], _ => rfl
    · exact F4
    · exact PySem.W.mg_of X G a4
    · exact F4.binds fun _ _ _ _ _ _ us hl => match us, hl with | [_], _ => rfl
    · exact F5
    · exact PySem.W.mg_of X G a5
    · exact F5.binds fun _ _ _ _ _ _ us hl => match us, hl with | [_], _ => rfl
    · exact F6
    · exact PySem.W.mg_of X G a6
    · exact F6.binds fun _ _ _ _ _ _ us hl => match us, hl with | [_], _ => rfl
    · exact F7
    · exact PySem.W.mg_of X G a7
    · exact F7.binds fun _ _ _ _ _ _ us hl => match us, hl with | [_], _ => rfl
    · exact F8
    · exact PySem.W.mg_of X G a8
    · exact F8.binds fun _ _ _ _ _ _ us hl => match us, hl with | [_], _ => rfl
    · exact F9
    · exact PySem.W.mg_of X G a9
    · exact F9.binds fun _ _ _ _ _ _ us hl => match us, hl with | [_, _], _ => rfl
    · exact F10
    · exact PySem.W.mg_of X G a10
    · exact F10.binds fun _ _ _ _ _ _ us hl => match us, hl with | [_, _], _ => rfl
    · exact F11
    · exact PySem.W.mg_of X G a11
    · exact F11.binds fun _ _ _ _ _ _ us hl => match us, hl with | [_], _ => rfl
    · exact F12
    · exact PySem.W.mg_of X G a12
    · exact F12.binds fun _ _ _ _ _ _ us hl => match us, hl with | [_], _ => rfl
    · exact F13
    · exact PySem.W.mg_of X G a13
    · exact F13.binds fun _ _ _ _ _ _ us hl => match us, hl with | [_, _], _ => rfl
    · exact F14
    · exact PySem.W.mg_of X G a14
    · exact F14.binds fun _ _ _ _ _ _ us hl => match us, hl with | [_], _ => rfl
    · exact F15
    · exact PySem.W.mg_of X G a15
    · exact F15.binds fun _ _ _ _ _ _ us hl => match us, hl with | [_], _ => rfl
    · exact F16
    · exact PySem.W.mg_of X G a16
    · exact F16.binds fun _ _ _ _ _ _ us hl => match us, hl with | [_], _ => rfl
    · exact F17
    · exact PySem.W.mg_of X G a17
    · exact F17.binds fun _ _ _ _ _ _ us hl => match us, hl with | [_], _ => rfl
    · exact F18
    · exact PySem.W.mg_of X G a18
    · exact F18.binds fun _ _ _ _ _ _ us hl => match us, hl with | [_], _ => rfl
    · exact F19
    · exact PySem.W.mg_of X G a19
    · exact F19.binds fun _ _ _ _ _ _ us hl => match us, hl with | [_], _ => rfl
    · exact F20
    · exact PySem.W.mg_of X G a20
    · exact F20.binds fun _ _ _ _ _ _ us hl => match us, hl with | [_], _ => rfl
    · exact F21
    · exact PySem.W.mg_of X G a21
    · exact F21.binds fun _ _ _ _ _ _ us hl => match us, hl with | [_], _ => rfl
    · exact F22
    · exact PySem.W.mg_of X G a22
    · exact F22.binds fun _ _ _ _ _ _ us hl => match us, hl with | [], _ => rfl
    · exact F23
    · exact PySem.W.mg_of X G a23
    · exact F23.binds fun _ _ _ _ _ _ us hl => match us, hl with | [_], _ => rfl
    · exact F24
    · exact PySem.W.mg_of X G a24
    · exact F24.binds fun _ _ _ _ _ _ us hl => match us, hl with | [_], _ => rfl
    · exact F25
    · exact PySem.W.mg_of X G a25
    · exact F25.binds fun _ _ _ _ _ _ us hl => match us, hl with | [_, _], _ => rfl
    · exact F26
    · exact PySem.W.mg_of X G a26
    · exact F26.binds fun _ _ _ _ _ _ us hl => match us, hl with | [_], _ => rfl
    · exact fun s ws hl => match ws, hl with | [_], _ => .of_eq rfl
    · exact fun s ws hl => match ws, hl with | [_], _ => .of_eq rfl
    · exact fun s ws hl => match ws, hl with | [_], _ => .of_eq rfl
    · exact fun s ws hl => match ws, hl with | [_], _ => .of_eq rfl
    · exact fun s ws hl => match ws, hl with | [_], _ => .of_eq rfl
    · exact fun s ws hl => match ws, hl with | [_], _ => .of_eq rfl
    · exact fun s ws hl => match ws, hl with | [_], _ => .of_eq rfl
    · exact fun s ws hl => match ws, hl with | [_], _ => .of_eq rfl
    · exact ⟨_, PySem.W.mg_of X G g_LONGEST_NAME⟩
    · exact PySem.W.mg_none_of X G z_ValueError
    · exact PySem.W.mg_none_of X G z_len
    · exact PySem.W.mg_none_of X G z_tuple
    · exact PySem.W.mg_none_of X G z_list
    · exact PySem.W.mg_none_of X G z_int
    · exact PySem.W.mg_none_of X G z_str
    · exact PySem.W.mg_none_of X G z_bool
    · exact PySem.W.mg_none_of X G z_all
    · exact PySem.W.mg_none_of X G z_sorted
    · exact PySem.W.mg_none_of X G z_repr
    · exact PySem.W.mg_none_of X G z_isinstance
    · exact PySem.W.mg_none_of X G z_range
    ·
      have iF0 := fun_mk (st := initE 16) il0 ic0 ik0
      have iF1 := fun_mk (st := initE 17) il1 ic1 ik1
      have iF2 := fun_mk (st := initE 18) il2 ic2 ik2
      have iF3 := fun_mk (st := initE 20) il3 ic3 ik3
      have iF4 := fun_mk (st := initE 21) il4 ic4 ik4
      have iF5 := fun_mk (st := initE 19) il5 ic5 ik5
      have iF6 := fun_mk (st := initE 22) il6 ic6 ik6
      refine ⟨fun i => [cC0, cC1, cC2, cC3, cC4, cC5, cC6].getD i 0, fun i => [cI0, cI1, cI2, cI3, cI4, cI5, cI6].getD i 0, fun i => [PySem.W.fnOf "__init__" "InvalidPaper.__init__" (defArgs (initE 16)) (defBody (initE 16)) (defScope (initE 16)) .none ikV0 idc0 ipm0 ian0 icd0 ict0, PySem.W.fnOf "__init__" "NotUsable.__init__" (defArgs (initE 17)) (defBody (initE 17)) (defScope (initE 17)) .none ikV1 idc1 ipm1 ian1 icd1 ict1, PySem.W.fnOf "__init__" "InvalidEvent.__init__" (defArgs (initE 18)) (defBody (initE 18)) (defScope (initE 18)) .none ikV2 idc2 ipm2 ian2 icd2 ict2, PySem.W.fnOf "__init__" "Barred.__init__" (defArgs (initE 20)) (defBody (initE 20)) (defScope (initE 20)) .none ikV3 idc3 ipm3 ian3 icd3 ict3, PySem.W.fnOf "__init__" "InvalidText.__init__" (defArgs (initE 21)) (defBody (initE 21)) (defScope (initE 21)) .none ikV4 idc4 ipm4 ian4 icd4 ict4, PySem.W.fnOf "__init__" "NothingToUndo.__init__" (defArgs (initE 19)) (defBody (initE 19)) (defScope (initE 19)) .none ikV5 idc5 ipm5 ian5 icd5 ict5, PySem.W.fnOf "__init__" "InvalidRow.__init__" (defArgs (initE 22)) (defBody (initE 22)) (defScope (initE 22)) .none ikV6 idc6 ipm6 ian6 icd6 ict6].getD i default, fun i => [cG0, cG1, cG2, cG3, cG4].getD i 0, ?_⟩
      constructor
      · exact ⟨⟨⟨_, _, _, _, _, _, _, _, _, _, _, _, _, _, _, hc0, hm0⟩, sa0, xe0, ty0, kc0⟩, ⟨ga0, gt0, xe0, hd0⟩, ⟨ga0, gt0, xe0, hd0, ha0, hsn, htk, mr0⟩, ii0, ti0, all2 no0_word no0_at, PySem.W.mg_of X G gc0, iF0⟩
      · exact iF0.binds fun _ _ _ _ _ _ us hl => match us, hl with | [_, _, _], _ => rfl
      · exact fun s u ws hl => match ws, hl with | [_, _], _ => .of_eq rfl
      · exact f0_0
      · exact f0_1
      · exact f0_2
      · exact f0_3
      · exact r0
      · exact v0
      · exact ⟨⟨⟨_, _, _, _, _, _, _, _, _, _, _, _, _, _, _, hc1, hm1⟩, sa1, xe1, ty1, kc1⟩, ⟨ga1, gt1, xe1, hd1⟩, ⟨ga1, gt1, xe1, hd1, ha1, hsn, htk, mr1⟩, ii1, ti1, all2 no1_word no1_at, PySem.W.mg_of X G gc1, iF1⟩
      · exact iF1.binds fun _ _ _ _ _ _ us hl => match us, hl with | [_, _, _], _ => rfl
      · exact fun s u ws hl => match ws, hl with | [_, _], _ => .of_eq rfl
      · exact f1_0
      · exact f1_1
      · exact f1_2
      · exact f1_3
      · exact r1
      · exact v1
      · exact ⟨⟨⟨_, _, _, _, _, _, _, _, _, _, _, _, _, _, _, hc2, hm2⟩, sa2, xe2, ty2, kc2⟩, ⟨ga2, gt2, xe2, hd2⟩, ⟨ga2, gt2, xe2, hd2, ha2, hsn, htk, mr2⟩, ii2, ti2, all2 no2_event no2_reason, PySem.W.mg_of X G gc2, iF2⟩
      · exact iF2.binds fun _ _ _ _ _ _ us hl => match us, hl with | [_, _, _], _ => rfl
      · exact fun s u ws hl => match ws, hl with | [_, _], _ => .of_eq rfl
      · exact f2_0
      · exact f2_1
      · exact f2_2
      · exact f2_3
      · exact r2
      · exact v2
      · exact ⟨⟨⟨_, _, _, _, _, _, _, _, _, _, _, _, _, _, _, hc3, hm3⟩, sa3, xe3, ty3, kc3⟩, ⟨ga3, gt3, xe3, hd3⟩, ⟨ga3, gt3, xe3, hd3, ha3, hsn, htk, mr3⟩, ii3, ti3, all2 no3_event no3_folders, PySem.W.mg_of X G gc3, iF3⟩
      · exact iF3.binds fun _ _ _ _ _ _ us hl => match us, hl with | [_, _, _], _ => rfl
      · exact fun s u ws hl => match ws, hl with | [_, _], _ => .of_eq rfl
      · exact f3_0
      · exact f3_1
      · exact f3_2
      · exact f3_3
      · exact r3
      · exact v3
      · exact ⟨⟨⟨_, _, _, _, _, _, _, _, _, _, _, _, _, _, _, hc4, hm4⟩, sa4, xe4, ty4, kc4⟩, ⟨ga4, gt4, xe4, hd4⟩, ⟨ga4, gt4, xe4, hd4, ha4, hsn, htk, mr4⟩, ii4, ti4, all2 no4_line no4_field, PySem.W.mg_of X G gc4, iF4⟩
      · exact iF4.binds fun _ _ _ _ _ _ us hl => match us, hl with | [_, _, _], _ => rfl
      · exact fun s u ws hl => match ws, hl with | [_, _], _ => .of_eq rfl
      · exact f4_0
      · exact f4_1
      · exact f4_2
      · exact f4_3
      · exact r4
      · exact v4
      · exact ⟨⟨⟨_, _, _, _, _, _, _, _, _, _, _, _, _, _, _, hc5, hm5⟩, sa5, xe5, ty5, kc5⟩, ⟨ga5, gt5, xe5, hd5⟩, ⟨ga5, gt5, xe5, hd5, ha5, hsn, htk, mr5⟩, ii5, ti5, all1 no5_steps, PySem.W.mg_of X G gc5, iF5⟩
      · exact iF5.binds fun _ _ _ _ _ _ us hl => match us, hl with | [_, _], _ => rfl
      · exact fun s u ws hl => match ws, hl with | [_], _ => .of_eq rfl
      · exact f5_0
      · exact f5_1
      · exact f5_2
      · exact f5_3
      · exact r5
      · exact v5
      · exact ⟨⟨⟨_, _, _, _, _, _, _, _, _, _, _, _, _, _, _, hc6, hm6⟩, sa6, xe6, ty6, kc6⟩, ⟨ga6, gt6, xe6, hd6⟩, ⟨ga6, gt6, xe6, hd6, ha6, hsn, htk, mr6⟩, ii6, ti6, all1 no6_row, PySem.W.mg_of X G gc6, iF6⟩
      · exact iF6.binds fun _ _ _ _ _ _ us hl => match us, hl with | [_, _], _ => rfl
      · exact fun s u ws hl => match ws, hl with | [_], _ => .of_eq rfl
      · exact f6_0
      · exact f6_1
      · exact f6_2
      · exact f6_3
      · exact r6
      · exact v6
      · exact s0_1
      · exact s2_3
      · exact s3_2
      · exact s4_6
      · exact s6_4
      · exact s5_2
      · exact s2_5
      · exact ⟨PySem.W.mg_of X G gg0, PySem.W.mg_of X G gg1, PySem.W.mg_of X G gg2, PySem.W.mg_of X G gg3, PySem.W.mg_of X G gg4, PySem.W.mg_none_of X G z_isinstance⟩
  exact ⟨PySem.W.fnOf "law" "law" (defArgs s_law) (defBody s_law) (defScope s_law) .none kV26 dc26 pm26 an26 cd26 ct26, fun s v => .of_eq rfl, fun bs _ _ => ok_law T run⟩
/-- the walk of the law -/
theorem walk {l : PySem.W.OpenLaw} {q : Program} {loose : List Str} {XP : (Str → Option Value) → Heap → Prop} {YP : World → Heap → Prop} {d : DefRec} {K : Params → PySem.W.Frag} (hn : l.most = some 63) (hdf : d.params.defaults = []) (hY : ∀ (w : World) (h : Heap), YP w h → (K w.params).In h)
    (F : ∀ (w : World) (mg : Str → Option Value) (fa : Addr) (hh : Heap), (K w.params).In hh → hh.Ns mainGlobals mg → mg d.name = some (.ref fa) →
      ∃ fd : FuncData, (∀ (s : Shared) (u : Value), BindsTo s fd ⟨[u], []⟩ [("_law_script", u)]) ∧ ∀ bs : Heap, (K w.params).In bs → bs.Ns mainGlobals mg → FnG l.prog w (K w.params) mg bs 13 fa fd ["_law_script"] (spLaw (K w.params))) :
    PySem.W.WalkO q loose XP YP (l.row.toRowW) d [] (fun f vs => PySem.call f vs) :=
  walkG (n := 63) (k := 13) (x := "_law_script") (sp := fun w => spLaw (K w.params)) hn ⟨rfl, by decide, by decide⟩ (by decide) hdf hY F fun _ _ a ns _ _ hS => ⟨a, ns, rfl, hS, fun _ => rfl⟩
end K01
open PySem PySem.W PyProof.Rows in
set_option maxRecDepth 99000 in
set_option maxHeartbeats 0 in
theorem PySem.Challenge.cw_roomrings_k01_forms_and_errors_holds : PySem.Challenge.rw_roomrings_k01_forms_and_errors.Holds := by
  w_on; o_law; k_head; (case hw => w_witness2)
  k_fill
  refine K01.walk (l := PySem.Challenge.rw_roomrings_k01_forms_and_errors) rfl rfl (fun w h Y => PySem.W.kIn_of Y) ?F
  case F =>
    intro w mg fa h KX G hmg
    refine' K01.all_mk KX G hmg ?a0 ?l0 ?c0 ?k0 ?a1 ?l1 ?c1 ?k1 ?a2 ?l2 ?c2 ?k2 ?a3 ?l3 ?c3 ?k3 ?a4 ?l4 ?c4 ?k4 ?a5 ?l5 ?c5 ?k5 ?a6 ?l6 ?c6 ?k6 ?a7 ?l7 ?c7 ?k7 ?a8 ?l8 ?c8 ?k8 ?a9 ?l9 ?c9 ?k9 ?a10 ?l10 ?c10 ?k10 ?a11 ?l11 ?c11 ?k11 ?a12 ?l12 ?c12 ?k12 ?a13 ?l13 ?c13 ?k13 ?a14 ?l14 ?c14 ?k14 ?a15 ?l15 ?c15 ?k15 ?a16 ?l16 ?c16 ?k16 ?a17 ?l17 ?c17 ?k17 ?a18 ?l18 ?c18 ?k18 ?a19 ?l19 ?c19 ?k19 ?a20 ?l20 ?c20 ?k20 ?a21 ?l21 ?c21 ?k21 ?a22 ?l22 ?c22 ?k22 ?a23 ?l23 ?c23 ?k23 ?a24 ?l24 ?c24 ?k24 ?a25 ?l25 ?c25 ?k25 ?a26 ?l26 ?c26 ?k26 ?g_LONGEST_NAME ?z_ValueError ?z_len ?z_tuple ?z_list ?z_int ?z_str ?z_bool ?z_all ?z_sorted ?z_repr ?z_isinstance ?z_range ?gg0 ?gg1 ?gg2 ?gg3 ?gg4 ?hsn ?htk ?gc0 ?hc0 ?hm0 ?sa0 ?xe0 ?ty0 ?kc0 ?ga0 ?gt0 ?hd0 ?ha0 ?mr0 ?ii0 ?ti0 ?no0_word ?no0_at ?il0 ?ic0 ?ik0 ?gc1 ?hc1 ?hm1 ?sa1 ?xe1 ?ty1 ?kc1 ?ga1 ?gt1 ?hd1 ?ha1 ?mr1 ?ii1 ?ti1 ?no1_word ?no1_at ?il1 ?ic1 ?ik1 ?gc2 ?hc2 ?hm2 ?sa2 ?xe2 ?ty2 ?kc2 ?ga2 ?gt2 ?hd2 ?ha2 ?mr2 ?ii2 ?ti2 ?no2_event ?no2_reason ?il2 ?ic2 ?ik2 ?gc3 ?hc3 ?hm3 ?sa3 ?xe3 ?ty3 ?kc3 ?ga3 ?gt3 ?hd3 ?ha3 ?mr3 ?ii3 ?ti3 ?no3_event ?no3_folders ?il3 ?ic3 ?ik3 ?gc4 ?hc4 ?hm4 ?sa4 ?xe4 ?ty4 ?kc4 ?ga4 ?gt4 ?hd4 ?ha4 ?mr4 ?ii4 ?ti4 ?no4_line ?no4_field ?il4 ?ic4 ?ik4 ?gc5 ?hc5 ?hm5 ?sa5 ?xe5 ?ty5 ?kc5 ?ga5 ?gt5 ?hd5 ?ha5 ?mr5 ?ii5 ?ti5 ?no5_steps ?il5 ?ic5 ?ik5 ?gc6 ?hc6 ?hm6 ?sa6 ?xe6 ?ty6 ?kc6 ?ga6 ?gt6 ?hd6 ?ha6 ?mr6 ?ii6 ?ti6 ?no6_row ?il6 ?ic6 ?ik6 ?f0_0 ?f0_1 ?f0_2 ?f0_3 ?r0 ?v0 ?f1_0 ?f1_1 ?f1_2 ?f1_3 ?r1 ?v1 ?f2_0 ?f2_1 ?f2_2 ?f2_3 ?r2 ?v2 ?f3_0 ?f3_1 ?f3_2 ?f3_3 ?r3 ?v3 ?f4_0 ?f4_1 ?f4_2 ?f4_3 ?r4 ?v4 ?f5_0 ?f5_1 ?f5_2 ?f5_3 ?r5 ?v5 ?f6_0 ?f6_1 ?f6_2 ?f6_3 ?r6 ?v6 ?s0_1 ?s2_3 ?s3_2 ?s4_6 ?s6_4 ?s5_2 ?s2_5 K01.run_law
    (case a0 => k_is)
    (case l0 => k_is)
    (case c0 => k_is)
    (case k0 => k_is)
    (case a1 => k_is)
    (case l1 => k_is)
    (case c1 => k_is)
    (case k1 => k_is)
    (case a2 => k_is)
    (case l2 => k_is)
    (case c2 => k_is)
    (case k2 => k_is)
    (case a3 => k_is)
    (case l3 => k_is)
    (case c3 => k_is)
    (case k3 => k_is)
    (case a4 => k_is)
    (case l4 => k_is)
    (case c4 => k_is)
    (case k4 => k_is)
    (case a5 => k_is)
    (case l5 => k_is)
    (case c5 => k_is)
    (case k5 => k_is)
    (case a6 => k_is)
    (case l6 => k_is)
    (case c6 => k_is)
    (case k6 => k_is)
    (case a7 => k_is)
    (case l7 => k_is)
    (case c7 => k_is)
    (case k7 => k_is)
    (case a8 => k_is)
    (case l8 => k_is)
    (case c8 => k_is)
    (case k8 => k_is)
    (case a9 => k_is)
    (case l9 => k_is)
    (case c9 => k_is)
    (case k9 => k_is)
    (case a10 => k_is)
    (case l10 => k_is)
    (case c10 => k_is)
    (case k10 => k_is)
    (case a11 => k_is)
    (case l11 => k_is)
    (case c11 => k_is)
    (case k11 => k_is)
    (case a12 => k_is)
    (case l12 => k_is)
    (case c12 => k_is)
    (case k12 => k_is)
    (case a13 => k_is)
    (case l13 => k_is)
    (case c13 => k_is)
    (case k13 => k_is)
    (case a14 => k_is)
    (case l14 => k_is)
    (case c14 => k_is)
    (case k14 => k_is)
    (case a15 => k_is)
    (case l15 => k_is)
    (case c15 => k_is)
    (case k15 => k_is)
    (case a16 => k_is)
    (case l16 => k_is)
    (case c16 => k_is)
    (case k16 => k_is)
    (case a17 => k_is)
    (case l17 => k_is)
    (case c17 => k_is)
    (case k17 => k_is)
    (case a18 => k_is)
    (case l18 => k_is)
    (case c18 => k_is)
    (case k18 => k_is)
    (case a19 => k_is)
    (case l19 => k_is)
    (case c19 => k_is)
    (case k19 => k_is)
    (case a20 => k_is)
    (case l20 => k_is)
    (case c20 => k_is)
    (case k20 => k_is)
    (case a21 => k_is)
    (case l21 => k_is)
    (case c21 => k_is)
    (case k21 => k_is)
    (case a22 => k_is)
    (case l22 => k_is)
    (case c22 => k_is)
    (case k22 => k_is)
    (case a23 => k_is)
    (case l23 => k_is)
    (case c23 => k_is)
    (case k23 => k_is)
    (case a24 => k_is)
    (case l24 => k_is)
    (case c24 => k_is)
    (case k24 => k_is)
    (case a25 => k_is)
    (case l25 => k_is)
    (case c25 => k_is)
    (case k25 => k_is)
    (case a26 => k_is)
    (case l26 => k_is)
    (case c26 => k_is)
    (case k26 => k_is)
    (case g_LONGEST_NAME => k_is)
    (case z_ValueError => k_is)
    (case z_len => k_is)
    (case z_tuple => k_is)
    (case z_list => k_is)
    (case z_int => k_is)
    (case z_str => k_is)
    (case z_bool => k_is)
    (case z_all => k_is)
    (case z_sorted => k_is)
    (case z_repr => k_is)
    (case z_isinstance => k_is)
    (case z_range => k_is)
    (case gg0 => k_is)
    (case gg1 => k_is)
    (case gg2 => k_is)
    (case gg3 => k_is)
    (case gg4 => k_is)
    (case hsn => k_is)
    (case htk => k_is)
    (case gc0 => k_is)
    (case hc0 => k_is)
    (case hm0 => decide +kernel)
    (case sa0 => k_is)
    (case xe0 => k_is)
    (case ty0 => k_is)
    (case kc0 => k_is)
    (case ga0 => k_is)
    (case gt0 => k_is)
    (case hd0 => k_is)
    (case ha0 => k_is)
    (case mr0 => k_is)
    (case ii0 => k_is)
    (case ti0 => k_is)
    (case no0_word => k_is)
    (case no0_at => k_is)
    (case il0 => k_is)
    (case ic0 => k_is)
    (case ik0 => k_is)
    (case gc1 => k_is)
    (case hc1 => k_is)
    (case hm1 => decide +kernel)
    (case sa1 => k_is)
    (case xe1 => k_is)
    (case ty1 => k_is)
    (case kc1 => k_is)
    (case ga1 => k_is)
    (case gt1 => k_is)
    (case hd1 => k_is)
    (case ha1 => k_is)
    (case mr1 => k_is)
    (case ii1 => k_is)
    (case ti1 => k_is)
    (case no1_word => k_is)
    (case no1_at => k_is)
    (case il1 => k_is)
    (case ic1 => k_is)
    (case ik1 => k_is)
    (case gc2 => k_is)
    (case hc2 => k_is)
    (case hm2 => decide +kernel)
    (case sa2 => k_is)
    (case xe2 => k_is)
    (case ty2 => k_is)
    (case kc2 => k_is)
    (case ga2 => k_is)
    (case gt2 => k_is)
    (case hd2 => k_is)
    (case ha2 => k_is)
    (case mr2 => k_is)
    (case ii2 => k_is)
    (case ti2 => k_is)
    (case no2_event => k_is)
    (case no2_reason => k_is)
    (case il2 => k_is)
    (case ic2 => k_is)
    (case ik2 => k_is)
    (case gc3 => k_is)
    (case hc3 => k_is)
    (case hm3 => decide +kernel)
    (case sa3 => k_is)
    (case xe3 => k_is)
    (case ty3 => k_is)
    (case kc3 => k_is)
    (case ga3 => k_is)
    (case gt3 => k_is)
    (case hd3 => k_is)
    (case ha3 => k_is)
    (case mr3 => k_is)
    (case ii3 => k_is)
    (case ti3 => k_is)
    (case no3_event => k_is)
    (case no3_folders => k_is)
    (case il3 => k_is)
    (case ic3 => k_is)
    (case ik3 => k_is)
    (case gc4 => k_is)
    (case hc4 => k_is)
    (case hm4 => decide +kernel)
    (case sa4 => k_is)
    (case xe4 => k_is)
    (case ty4 => k_is)
    (case kc4 => k_is)
    (case ga4 => k_is)
    (case gt4 => k_is)
    (case hd4 => k_is)
    (case ha4 => k_is)
    (case mr4 => k_is)
    (case ii4 => k_is)
    (case ti4 => k_is)
    (case no4_line => k_is)
    (case no4_field => k_is)
    (case il4 => k_is)
    (case ic4 => k_is)
    (case ik4 => k_is)
    (case gc5 => k_is)
    (case hc5 => k_is)
    (case hm5 => decide +kernel)
    (case sa5 => k_is)
    (case xe5 => k_is)
    (case ty5 => k_is)
    (case kc5 => k_is)
    (case ga5 => k_is)
    (case gt5 => k_is)
    (case hd5 => k_is)
    (case ha5 => k_is)
    (case mr5 => k_is)
    (case ii5 => k_is)
    (case ti5 => k_is)
    (case no5_steps => k_is)
    (case il5 => k_is)
    (case ic5 => k_is)
    (case ik5 => k_is)
    (case gc6 => k_is)
    (case hc6 => k_is)
    (case hm6 => decide +kernel)
    (case sa6 => k_is)
    (case xe6 => k_is)
    (case ty6 => k_is)
    (case kc6 => k_is)
    (case ga6 => k_is)
    (case gt6 => k_is)
    (case hd6 => k_is)
    (case ha6 => k_is)
    (case mr6 => k_is)
    (case ii6 => k_is)
    (case ti6 => k_is)
    (case no6_row => k_is)
    (case il6 => k_is)
    (case ic6 => k_is)
    (case ik6 => k_is)
    (case f0_0 => kit_is)
    (case f0_1 => kit_is)
    (case f0_2 => kit_is)
    (case f0_3 => kit_is)
    (case r0 => kit_is)
    (case v0 => kit_is)
    (case f1_0 => kit_is)
    (case f1_1 => kit_is)
    (case f1_2 => kit_is)
    (case f1_3 => kit_is)
    (case r1 => kit_is)
    (case v1 => kit_is)
    (case f2_0 => kit_is)
    (case f2_1 => kit_is)
    (case f2_2 => kit_is)
    (case f2_3 => kit_is)
    (case r2 => kit_is)
    (case v2 => kit_is)
    (case f3_0 => kit_is)
    (case f3_1 => kit_is)
    (case f3_2 => kit_is)
    (case f3_3 => kit_is)
    (case r3 => kit_is)
    (case v3 => kit_is)
    (case f4_0 => kit_is)
    (case f4_1 => kit_is)
    (case f4_2 => kit_is)
    (case f4_3 => kit_is)
    (case r4 => kit_is)
    (case v4 => kit_is)
    (case f5_0 => kit_is)
    (case f5_1 => kit_is)
    (case f5_2 => kit_is)
    (case f5_3 => kit_is)
    (case r5 => kit_is)
    (case v5 => kit_is)
    (case f6_0 => kit_is)
    (case f6_1 => kit_is)
    (case f6_2 => kit_is)
    (case f6_3 => kit_is)
    (case r6 => kit_is)
    (case v6 => kit_is)
    (case s0_1 => kit_is)
    (case s2_3 => kit_is)
    (case s3_2 => kit_is)
    (case s4_6 => kit_is)
    (case s6_4 => kit_is)
    (case s5_2 => kit_is)
    (case s2_5 => kit_is)
