import PyProof.Rows.All
import Wide.All
import OpenK.AllK
import Wide.FinOn
import HandS.ForMost
import HandS.Wide
import HandS.WideBits
import HandS.Flow
import HandS.Style
import HandS.Small
import HandS.SortInts
import HandS.IsInst
import HandS.TupAny
import HandS.RaiseMore
import HandS.Defaults
import HandS.Codes
import KE.KBits
import PySem.Challenge.RW_farbits_k03_sizes_and_heights
set_option Elab.async false
set_option linter.all false
set_option maxRecDepth 100000
set_option maxHeartbeats 4000000
namespace Fb
open PySem L2
/-- a def that stands in the module and keeps a promise -/
structure Has (P : Program) (w : World) (K : PySem.W.Frag) (mg : Str → Option Value) (base : Heap) (k : Nat) (x : Str) (ps : List Str) (dvs : List V) (sp : Sp) : Prop where
  ex : ∃ f fd ds, FnOk P w K mg base CX0 k f fd ps sp ∧ PySem.W.keepIn K (.ref f) = true ∧ mg x = some (.ref f) ∧ Vals dvs ds ∧ Binds K fd ps ds
section
variable {X : Cx} {k : Nat} {x : Str} {ps : List Str} {dvs : List V} {sp : Sp} {e : Expr} {es : List Expr} {t : TA} {p pos : Pos}
theorem pe_H (C : Has X.prog X.w X.K X.mg X.base k x ps dvs sp) (hr : Room k X.A) (hg : Gl X x) (ha : PA X (e :: es) t) (hdb : (x == ("__debug__" : Str)) = false := by decide)
    (he : starEach (e :: es) X.env = (false, eval e X.env) :: starEach es X.env := by rfl) (hpl : (backTo pos (starEach es X.env)).any (·.1) = false := by rfl) :
    PE X (.Call (.Name x p) (e :: es) [] pos) (tCall sp dvs E0 t) := by
  obtain ⟨f, fd, ds, F, hk, hm, hd, hb⟩ := C.ex
  exact pe_call F hr hg hm hk hb hd pass0 ha hdb he hpl
/-- a def with defaults, its body over CX0 -/
theorem funD_ok {P : Program} {w : World} {K : PySem.W.Frag} {mg : Str → Option Value} {base : Heap} {x qual : Str} {st : Stmt} {dvs : List V} {kws : List (Str × V)} {f : Addr} {fd : FuncData} {N ps : List Str} {k : Nat} {sp : Sp} (F : FunD K x qual (defArgs st) (defBody st) (defScope st) dvs kws f fd) (S : FnScope N ps (defScope st)) (len : ∀ vs H Q E, sp vs H Q E → vs.length = ps.length)
    (hbody : ∀ (cdv : Value) (A : Around) (outer : List Env) (s : Shared) (H : Hp) (vs : List V) (Q : VK) (E : XK), Room k (A.deeper (PyProof.Rows.envOfC qual (defScope st) s.heap.objs.size f cdv)) → sp vs H Q E →
      ∃ t, PSs (cxOf CX0 P w K mg base N qual (defScope st) f cdv A outer s H E).nox (defBody st) t ∧ t { nx := fun _ H' => Q .non H', rt := Q } (L2.start N vs) H) : FnOk P w K mg base CX0 (k + 1) f fd ps sp :=
  F.ok S len fun cdv A outer s H vs Q E hr h => by
    obtain ⟨t, h, q⟩ := hbody cdv A outer s H vs Q E hr h
    exact ⟨t, h.nox, q⟩
end
/-- the built-ins that the text names are the built-ins -/
structure Blt (mg : Str → Option Value) : Prop where
  len : mg "len" = none
  int : mg "int" = none
  isinstance : mg "isinstance" = none
  sum : mg "sum" = none
  max : mg "max" = none
  min : mg "min" = none
  sorted : mg "sorted" = none
  tuple : mg "tuple" = none
  list : mg "list" = none
  range : mg "range" = none
  repr : mg "repr" = none
/-! ### heaps: all but the dicts is as it was -/
structure Nd (H H' : Hp) : Prop where
  k : ∀ b o, H b = some o → (∀ kv, o ≠ .dK kv) → H' b = some o
  f : ∀ b, H' b = none → H b = none
theorem Nd.refl (H : Hp) : Nd H H := ⟨fun _ _ h _ => h, fun _ h => h⟩
theorem Nd.trans {H H1 H2 : Hp} (a : Nd H H1) (b : Nd H1 H2) : Nd H H2 := ⟨fun x o h n => b.k x o (a.k x o h n) n, fun x h => a.f x (b.f x h)⟩
theorem Nd.of {H H' : Hp} (a : Same H H') : Nd H H' := ⟨fun x o h _ => a x o h, fun _ h => a.free h⟩
theorem upd_none {H : Hp} {p b : Addr} {o : HO} (h : upd H p o b = none) : H b = none ∧ b ≠ p := by
  have hn : b ≠ p := by rintro rfl; rw [upd_same] at h; cases h
  rw [upd_ne hn] at h
  exact ⟨h, hn⟩
theorem Nd.tape {t : Addr} {H : Hp} {o : HO} {kv : List (Key × V)} (h : H t = some (.dK kv)) : Nd H (upd H t o) := ⟨fun x u e n => by
  rw [upd_ne (by rintro rfl; rw [h] at e; cases e; exact n _ rfl)]; exact e, fun _ h => (upd_none h).1⟩
theorem Nd.new {p : Addr} {H : Hp} {o : HO} (h : H p = none) : Nd H (upd H p o) := ⟨fun x u e _ => by rw [upd_ne (ne_of_none e h)]; exact e, fun _ h => (upd_none h).1⟩
theorem Nd.sql {K : PySem.W.Frag} {c : Addr} {H H' : Hp} {xs : List V} (e : Nd H H') (h : SqL K H c xs) : SqL K H' c xs := by
  rcases h with (h | ⟨o, h⟩) | h
  · exact .inl (.inl (e.k _ _ h fun _ z => nomatch z))
  · exact .inl (.inr ⟨o, e.k _ _ h fun _ z => nomatch z⟩)
  · exact .inr h
theorem Nd.sqt {K : PySem.W.Frag} {c : Addr} {H H' : Hp} {xs : List V} (e : Nd H H') (h : SqT K H c xs) : SqT K H' c xs := by
  rcases h with (h | ⟨o, h⟩) | h
  · exact .inl (.inl (e.k _ _ h fun _ z => nomatch z))
  · exact .inl (.inr ⟨o, e.k _ _ h fun _ z => nomatch z⟩)
  · exact .inr h
theorem Nd.lst {a : Addr} {H H' : Hp} {xs : List V} (e : Nd H H') (h : H a = some (.lst xs)) : H' a = some (.lst xs) := e.k _ _ h fun _ z => nomatch z
mutual
theorem Nd.dp {K : PySem.W.Frag} {H H' : Hp} (e : Nd H H') : ∀ (d : PyData) (v : V), Dp K H v d → Dp K H' v d
  | .none, _, h => by cases h; exact .non
  | .bool b, _, h => by cases h; exact .bl b
  | .int i, _, h => by cases h; exact .int i
  | .str x, _, h => by cases h; exact .str x
  | .list ds, _, h => by
    cases h with
    | lst hs ha => exact .lst (e.sql hs) (Nd.dps e ds _ ha)
  | .tuple ds, _, h => by
    cases h with
    | tup hs ha => exact .tup (e.sqt hs) (Nd.dps e ds _ ha)
  | .dict _, _, h => by cases h
theorem Nd.dps {K : PySem.W.Frag} {H H' : Hp} (e : Nd H H') : ∀ (ds : List PyData) (vs : List V), DpAll K H vs ds → DpAll K H' vs ds
  | [], _, h => by cases h; exact .nil
  | d :: ds, _, h => by
    cases h with
    | cons h1 h2 => exact .cons (Nd.dp e d _ h1) (Nd.dps e ds _ h2)
end
theorem Nd.d {K : PySem.W.Frag} {H H' : Hp} {d : PyData} {v : V} (e : Nd H H') (h : Dp K H v d) : Dp K H' v d := Nd.dp e d v h
theorem Nd.ds {K : PySem.W.Frag} {H H' : Hp} {ds : List PyData} {vs : List V} (e : Nd H H') (h : DpAll K H vs ds) : DpAll K H' vs ds := Nd.dps e ds vs h
theorem Same.new {p : Addr} {H : Hp} {o : HO} (h : H p = none) : Same H (upd H p o) := fun b u q => by rw [upd_ne (ne_of_none q h)]; exact q
/-- a list that grows, made by this very call -/
theorem Same.mut {H H' : Hp} {p : Addr} {o : HO} (e : Same H H') (h : H p = none) : Same H (upd H' p o) := fun a u ha => by
  rw [upd_ne (ne_of_none ha h)]
  exact e a u ha
theorem Nd.mut {H H' : Hp} {p : Addr} {o : HO} (e : Nd H H') (h : H p = none) : Nd H (upd H' p o) := ⟨fun a u ha n => by
  rw [upd_ne (ne_of_none ha h)]
  exact e.k a u ha n, fun _ h => e.f _ (upd_none h).1⟩
theorem dps_length {K : PySem.W.Frag} {H : Hp} : ∀ {vs : List V} {ds : List PyData}, DpAll K H vs ds → vs.length = ds.length
  | _, _, .nil => rfl
  | _, _, .cons _ h => by rw [List.length_cons, List.length_cons, dps_length h]
theorem dps_get {K : PySem.W.Frag} {H : Hp} : ∀ {vs : List V} {ds : List PyData} {i : Nat} {v : V}, DpAll K H vs ds → vs[i]? = some v → ∃ d, ds[i]? = some d ∧ Dp K H v d
  | [], _, _, _, _, h => by cases h
  | w :: vs, [], _, _, hd, _ => by cases hd
  | w :: vs, d :: ds, 0, _, hd, h => by cases hd with | cons h1 h2 => cases h; exact ⟨_, rfl, h1⟩
  | w :: vs, d :: ds, i + 1, _, hd, h => by cases hd with | cons h1 h2 => exact dps_get (vs := vs) (ds := ds) (i := i) h2 (by simpa using h)
theorem dps_app {K : PySem.W.Frag} {H : Hp} : ∀ {vs ws : List V} {ds es : List PyData}, DpAll K H vs ds → DpAll K H ws es → DpAll K H (vs ++ ws) (ds ++ es)
  | _, _, _, _, .nil, h => h
  | _, _, _, _, .cons h1 h2, h => .cons h1 (dps_app h2 h)
theorem dps_ints {K : PySem.W.Frag} {H : Hp} : ∀ (ns : List Int), DpAll K H (ns.map V.int) (ns.map PyData.int)
  | [] => .nil
  | n :: ns => .cons (.int n) (dps_ints ns)
theorem dps_ints_inv {K : PySem.W.Frag} {H : Hp} : ∀ {ns : List Int} {vs : List V}, DpAll K H vs (ns.map PyData.int) → vs = ns.map V.int
  | [], _, h => by cases h; rfl
  | n :: ns, _, h => by
    cases h with
    | cons h1 h2 =>
      cases h1
      rw [dps_ints_inv h2]
      rfl
/-- the tape: a dict of the cells, the place, the rest; n draws are left -/
def tp (c : Addr) (at_ rest : Int) : List (Key × V) := [(.inr "cells", .ref c), (.inr "at", .int at_), (.inr "rest", .int rest)]
/-- the tape as it stands -/
structure TS (K : PySem.W.Frag) (t c : Addr) (cs : List Int) (a r : Int) (H : Hp) : Prop where
  d : H t = some (.dK (tp c a r))
  s : SqL K H c (cs.map V.int)
theorem TS.new {K : PySem.W.Frag} {t c p : Addr} {cs : List Int} {a r : Int} {H : Hp} {o : HO} (h : TS K t c cs a r H) (np : H p = none) : TS K t c cs a r (upd H p o) :=
  ⟨by rw [upd_ne (ne_of_none h.d np)]; exact h.d, (Nd.new np).sql h.s⟩
theorem TS.put {K : PySem.W.Frag} {t c : Addr} {cs : List Int} {a r b u : Int} {H : Hp} (h : TS K t c cs a r H) : TS K t c cs b u (upd H t (.dK (tp c b u))) :=
  ⟨upd_same, (Nd.tape h.d).sql h.s⟩
theorem TS.cells {K : PySem.W.Frag} {t c : Addr} {cs : List Int} {a r : Int} {H : Hp} (h : TS K t c cs a r H) : DGet H t (.str "cells") (some (.ref c)) := DGet.k (k := Sum.inr "cells") h.d
theorem TS.at_ {K : PySem.W.Frag} {t c : Addr} {cs : List Int} {a r : Int} {H : Hp} (h : TS K t c cs a r H) : DGet H t (.str "at") (some (.int a)) := DGet.k (k := Sum.inr "at") h.d
theorem TS.rest {K : PySem.W.Frag} {t c : Addr} {cs : List Int} {a r : Int} {H : Hp} (h : TS K t c cs a r H) : DGet H t (.str "rest") (some (.int r)) := DGet.k (k := Sum.inr "rest") h.d
theorem TS.pat {K : PySem.W.Frag} {t c : Addr} {cs : List Int} {a r b : Int} {H : Hp} (h : TS K t c cs a r H) : DPut H t (.str "at") (.int b) (upd H t (.dK (tp c b r))) := DPut.k (k := Sum.inr "at") h.d (by show 3 < sizeLine; decide)
theorem TS.prest {K : PySem.W.Frag} {t c : Addr} {cs : List Int} {a r b : Int} {H : Hp} (h : TS K t c cs a r H) : DPut H t (.str "rest") (.int b) (upd H t (.dK (tp c a b))) := DPut.k (k := Sum.inr "rest") h.d (by show 3 < sizeLine; decide)
theorem iteD {c A B : Prop} [Decidable c] (h1 : c → A) (h2 : ¬ c → B) : if decide c = true then A else B := by
  by_cases h : c
  · rw [decide_eq_true h, if_pos rfl]
    exact h1 h
  · rw [decide_eq_false h, if_neg Bool.false_ne_true]
    exact h2 h
theorem iteDN {c A B : Prop} [Decidable c] (h1 : ¬ c → A) (h2 : c → B) : if (!decide c) = true then A else B := by
  by_cases h : c
  · rw [decide_eq_true h]
    exact iteF (h2 h)
  · rw [decide_eq_false h]
    exact iteT (h1 h)
def rIntI : List V → Hp → VK → Prop := fun xs H Q => ∃ i, xs = [.int i] ∧ Q (.int i) H
theorem call_intI {X : Cx} : CallR X (.type "int") rIntI := fun pins s σ H xs us Q I r h =>
  call_int1 pins s σ H xs us Q I r (.inl h)
def rIntB : List V → Hp → VK → Prop := fun xs H Q => ∃ k, xs = [.bl k] ∧ Q (.int (if k then 1 else 0)) H
theorem call_intB {X : Cx} : CallR X (.type "int") rIntB := fun pins s σ H xs us Q I r h =>
  call_int1 pins s σ H xs us Q I r (.inr h)
def rLenL (K : PySem.W.Frag) : List V → Hp → VK → Prop := fun xs H Q => ∃ p ys, xs = [.ref p] ∧ SqL K H p ys ∧ Q (.int ys.length) H
theorem call_lenL {X : Cx} : CallR X (.builtin "len") (rLenL X.K) := fun pins s σ H xs us Q I r ⟨p, ys, e, h, q⟩ =>
  call_len_seq pins s σ H xs us Q I r ⟨p, ys, e, .inl h, q⟩
def rLenT (K : PySem.W.Frag) : List V → Hp → VK → Prop := fun xs H Q => ∃ p ys, xs = [.ref p] ∧ SqT K H p ys ∧ Q (.int ys.length) H
theorem call_lenT {X : Cx} : CallR X (.builtin "len") (rLenT X.K) := fun pins s σ H xs us Q I r ⟨p, ys, e, h, q⟩ =>
  call_len_seq pins s σ H xs us Q I r ⟨p, ys, e, .inr h, q⟩
def rTupL (K : PySem.W.Frag) : List V → Hp → VK → Prop := fun xs H Q => ∃ p ys, xs = [.ref p] ∧ SqL K H p ys ∧ ∀ l, H l = none → Q (.ref l) (upd H l (.tup ys))
theorem call_tupL {X : Cx} : CallR X (.type "tuple") (rTupL X.K) := fun pins s σ H xs us Q I r ⟨p, ys, e, h, q⟩ =>
  call_tuple_of pins s σ H xs us Q I r ⟨p, ys, e, .inl ⟨h, q⟩⟩
def rListL (K : PySem.W.Frag) : List V → Hp → VK → Prop := fun xs H Q => ∃ p ys, xs = [.ref p] ∧ SqL K H p ys ∧ ∀ l, H l = none → Q (.ref l) (upd H l (.lst ys))
theorem call_listL {X : Cx} : CallR X (.type "list") (rListL X.K) := fun pins s σ H xs us Q I r ⟨p, ys, e, h, q⟩ =>
  call_list_of pins s σ H xs us Q I r ⟨p, ys, e, .inl h, q⟩
def rListT (K : PySem.W.Frag) : List V → Hp → VK → Prop := fun xs H Q => ∃ p ys, xs = [.ref p] ∧ SqT K H p ys ∧ ∀ l, H l = none → Q (.ref l) (upd H l (.lst ys))
theorem call_listT {X : Cx} : CallR X (.type "list") (rListT X.K) := fun pins s σ H xs us Q I r ⟨p, ys, e, h, q⟩ =>
  call_list_of pins s σ H xs us Q I r ⟨p, ys, e, .inr h, q⟩
/-- a tape: its dict, its cells -/
structure Tp where
  t : Addr
  c : Addr
  cs : List Int
/-- the tape stands, n draws are left -/
def Tape (K : PySem.W.Frag) (τ : Tp) (n : Nat) (H : Hp) : Prop := ∃ at_ rest : Int, TS K τ.t τ.c τ.cs at_ rest H ∧ τ.cs ≠ [] ∧ τ.cs.length ≤ 63 ∧ 0 ≤ at_ ∧ at_ + n ≤ 2 ^ 40 ∧ 0 ≤ rest
theorem Tape.mono {K : PySem.W.Frag} {τ : Tp} {n m : Nat} {H : Hp} (h : Tape K τ n H) (e : m ≤ n) : Tape K τ m H := by
  obtain ⟨a, r, h1, h3, h4, h5, h6, h7⟩ := h
  exact ⟨a, r, h1, h3, h4, h5, by omega, h7⟩
theorem Tape.same {K : PySem.W.Frag} {τ : Tp} {n : Nat} {H H' : Hp} (h : Tape K τ n H) (e : Same H H') : Tape K τ n H' := by
  obtain ⟨a, r, h1, h3⟩ := h
  exact ⟨a, r, ⟨e _ _ h1.d, e.seq h1.s⟩, h3⟩
theorem Tape.new {K : PySem.W.Frag} {τ : Tp} {n : Nat} {H : Hp} {p : Addr} {o : HO} (h : Tape K τ n H) (np : H p = none) : Tape K τ n (upd H p o) := h.same fun b u q => by rw [upd_ne (ne_of_none q np)]; exact q
/-- an object made behind H0 may change -/
theorem Tape.mut {K : PySem.W.Frag} {τ : Tp} {n m : Nat} {H H0 : Hp} {p : Addr} {o : HO} (h0 : Tape K τ m H0) (np : H0 p = none) (h : Tape K τ n H) : Tape K τ n (upd H p o) := by
  obtain ⟨a0, r0, k1, _⟩ := h0
  obtain ⟨a, r, h1, h3⟩ := h
  refine ⟨a, r, ⟨by rw [upd_ne (by rintro rfl; rw [k1.d] at np; cases np)]; exact h1.d, ?_⟩, h3⟩
  have key : ∀ u, H0 τ.c = some u → SqL K (upd H p o) τ.c (τ.cs.map V.int) := fun u hu => by
    have hn : τ.c ≠ p := by intro z; rw [z, np] at hu; cases hu
    rcases h1.s with (h | ⟨w, h⟩) | h
    · exact .inl (.inl (by rw [upd_ne hn]; exact h))
    · exact .inl (.inr ⟨w, by rw [upd_ne hn]; exact h⟩)
    · exact .inr h
  rcases k1.s with (h | ⟨w, h⟩) | h
  · exact key _ h
  · exact key _ h
  · exact .inr h
/-- what a drawn bound may be -/
def BigL : Int := 2 ^ 8000
theorem lt_BigL {z : Int} (h : z ≤ 2 ^ 200) : z < BigL := Int.lt_of_le_of_lt h (by unfold BigL; decide +kernel)
theorem div_BigL {z i : Int} (h0 : 0 < z) (h : z < BigL) : CDivW i z := by
  refine wide_div (b := 8000) h0 ?_ (by decide) (by decide)
  have e : BigL = ((2 ^ 8000 : Nat) : Int) := by unfold BigL; exact (Int.natCast_pow 2 8000).symm
  rw [e] at h
  generalize 2 ^ 8000 = N at h
  omega
def spDraw (K : PySem.W.Frag) : Sp := fun vs H Q _ => ∃ (τ : Tp) (lim : Int) (n : Nat), vs = [.ref τ.t, .int lim] ∧ Tape K τ (n + 1) H ∧ 0 < lim ∧ lim < BigL ∧
  ∀ (d : Int) (H' : Hp), Nd H H' → Tape K τ n H' → 0 ≤ d → d < lim → Q (.int d) H'
theorem atI_mod {α : Type} {xs : List α} {k : Int} (h : xs ≠ []) : ∃ v, atI xs (k.fmod (xs.length : Int)) = some v ∧ v ∈ xs := by
  have hl : 0 < xs.length := List.length_pos_iff.mpr h
  have h0 : 0 ≤ k.fmod (xs.length : Int) := Int.fmod_nonneg_of_pos _ (by omega)
  have h1 : k.fmod (xs.length : Int) < xs.length := Int.fmod_lt_of_pos _ (by omega)
  obtain ⟨j, hj⟩ := Int.eq_ofNat_of_zero_le h0
  rw [hj]
  have hj' : j < xs.length := by omega
  exact ⟨xs[j], atI_nat (List.getElem?_eq_getElem hj'), List.getElem_mem hj'⟩
theorem tp_cells {c : Addr} {a r : Int} : valV (tp c a r) (.inr "cells") = some (.ref c) := by rfl
theorem tp_at {c : Addr} {a r : Int} : valV (tp c a r) (.inr "at") = some (.int a) := by rfl
theorem tp_rest {c : Addr} {a r : Int} : valV (tp c a r) (.inr "rest") = some (.int r) := by rfl
theorem tp_pat {c : Addr} {a r b : Int} : putK (tp c a r) (.inr "at") (.int b) = tp c b r := by rfl
theorem tp_prest {c : Addr} {a r b : Int} : putK (tp c a r) (.inr "rest") (.int b) = tp c a b := by rfl
end Fb
namespace Fb
open PySem
/-! ### the ones of a number, the turns of an int -/
def ones (m : Nat) : List Nat := if h : m = 0 then [] else (if m % 2 = 1 then [0] else []) ++ (ones (m / 2)).map (· + 1)
termination_by m
decreasing_by omega
theorem ones_zero : ones 0 = [] := by rw [ones]; rfl
theorem ones_pos {m : Nat} (h : m ≠ 0) : ones m = (if m % 2 = 1 then [0] else []) ++ (ones (m / 2)).map (· + 1) := by rw [ones, dif_neg h]
theorem ones_even (m : Nat) : ones (2 * m) = (ones m).map (· + 1) := by
  by_cases h : m = 0
  · subst h; rw [ones_zero]; rfl
  · rw [ones_pos (by omega), if_neg (by omega), show 2 * m / 2 = m by omega]; rfl
theorem ones_odd (m : Nat) : ones (2 * m + 1) = 0 :: (ones m).map (· + 1) := by
  rw [ones_pos (by omega), if_pos (by omega), show (2 * m + 1) / 2 = m by omega]; rfl
theorem ones_shift (k m : Nat) : ones (2 ^ k * m) = (ones m).map (· + k) := by
  induction k with
  | zero => simp
  | succ k ih =>
    rw [show 2 ^ (k + 1) * m = 2 * (2 ^ k * m) by rw [Nat.pow_succ]; simp [Nat.mul_comm, Nat.mul_left_comm, Nat.mul_assoc], ones_even, ih, List.map_map]
    exact List.map_congr_left fun x _ => by show x + k + 1 = x + (k + 1); omega
/-- the lowest one -/
theorem low_of {m : Nat} (h : m ≠ 0) : ∃ k a, m = 2 ^ k * (2 * a + 1) := by
  induction m using Nat.strongRecOn with
  | _ m ih =>
    by_cases e : m % 2 = 1
    · exact ⟨0, m / 2, by omega⟩
    · obtain ⟨k, a, q⟩ := ih (m / 2) (by omega) (by omega)
      exact ⟨k + 1, a, by rw [Nat.pow_succ, Nat.mul_right_comm, ← q]; omega⟩
theorem ones_low (k a : Nat) : ones (2 ^ k * (2 * a + 1)) = k :: ones (2 ^ k * (2 * a)) := by
  rw [ones_shift, ones_odd, show 2 ^ k * (2 * a) = 2 ^ k * (2 * a) from rfl, ones_shift, ones_even]
  simp
theorem ones_lt {m n : Nat} (h : m < 2 ^ n) : ∀ p ∈ ones m, p < n := by
  induction n generalizing m with
  | zero => rw [show m = 0 by omega, ones_zero]; simp
  | succ n ih =>
    intro p hp
    by_cases e : m = 0
    · rw [e, ones_zero] at hp; cases hp
    · rw [ones_pos e] at hp
      rcases List.mem_append.mp hp with hp | hp
      · split at hp <;> simp at hp; omega
      · obtain ⟨q, hq, rfl⟩ := List.mem_map.mp hp
        have := ih (m := m / 2) (by rw [Nat.pow_succ] at h; omega) q hq
        omega
theorem ones_asc (m : Nat) : (ones m).Pairwise (· < ·) := by
  induction m using Nat.strongRecOn with
  | _ m ih =>
    by_cases e : m = 0
    · rw [e, ones_zero]; exact .nil
    · have q := ih (m / 2) (by omega)
      have q1 : ((ones (m / 2)).map (· + 1)).Pairwise (· < ·) := List.pairwise_map.mpr (q.imp fun h => by omega)
      rw [ones_pos e]
      split
      · refine List.pairwise_cons.mpr ⟨fun x hx => ?_, q1⟩
        obtain ⟨y, _, rfl⟩ := List.mem_map.mp (show x ∈ (ones (m / 2)).map (· + 1) from hx)
        omega
      · exact q1
theorem ones_eq_nil {m : Nat} : ones m = [] ↔ m = 0 := by
  constructor
  · intro h
    by_cases e : m = 0
    · exact e
    · obtain ⟨k, a, rfl⟩ := low_of e
      rw [ones_low] at h; cases h
  · rintro rfl; exact ones_zero
theorem ones_len {m n : Nat} (h : m < 2 ^ n) : (ones m).length ≤ n := by
  induction n generalizing m with
  | zero => rw [show m = 0 by omega, ones_zero]; simp
  | succ n ih =>
    by_cases e : m = 0
    · rw [e, ones_zero]; simp
    · have := ih (m := m / 2) (by rw [Nat.pow_succ] at h; omega)
      rw [ones_pos e]
      split <;> simp <;> omega
/-! ### the marks of an int: its turns -/
open PyProof.Rows PySem.W in
theorem xor_halves (x y : Int) : Builtin.bitXor x y = 2 * Builtin.bitXor (x / 2) (y / 2) + (x + y) % 2 := by
  rw [bitXor_and, bitXor_and, kbt_halves x y]
  split <;> omega
def mk (b x : Int) : Int := Builtin.bitXor x (2 * x + b)
theorem mk_step {b x : Int} (h0 : 0 ≤ b) (h1 : b < 2) : mk b x = 2 * mk (x % 2) (x / 2) + (x + b) % 2 := by
  unfold mk
  rw [xor_halves, show (2 * x + b) / 2 = x by omega, show 2 * (x / 2) + x % 2 = x by omega]
  omega
/-- alternating powers of two -/
def alt (s : Int) : List Nat → Int
  | [] => 0
  | p :: ps => s * 2 ^ p + alt (-s) ps
theorem alt_up (s : Int) (ps : List Nat) : alt s (ps.map (· + 1)) = 2 * alt s ps := by
  induction ps generalizing s with
  | nil => rfl
  | cons p ps ih =>
    show s * 2 ^ (p + 1) + alt (-s) (ps.map (· + 1)) = 2 * (s * 2 ^ p + alt (-s) ps)
    rw [ih, Int.pow_succ, Int.mul_add, ← Int.mul_assoc, Int.mul_comm _ 2]
theorem mk_all (n : Nat) : ∀ b x : Int, 0 ≤ b → b < 2 → -(2 ^ n) ≤ x → x < 2 ^ n → 0 ≤ mk b x ∧ mk b x < 2 ^ (n + 1) ∧ alt (2 * b - 1) (ones (mk b x).toNat) = x + b := by
  induction n with
  | zero =>
    intro b x h0 h1 h2 h3
    have hx : x = 0 ∨ x = -1 := by simp at h2 h3; omega
    have hb : b = 0 ∨ b = 1 := by omega
    have c00 : mk 0 0 = 0 := by decide +kernel
    have c10 : mk 1 0 = 1 := by decide +kernel
    have c01 : mk 0 (-1) = 1 := by decide +kernel
    have c11 : mk 1 (-1) = 0 := by decide +kernel
    have o1 : ones 1 = [0] := by rw [show (1 : Nat) = 2 * 0 + 1 from rfl, ones_odd, ones_zero]; rfl
    rcases hx with rfl | rfl <;> rcases hb with rfl | rfl
    · rw [c00]; refine ⟨by decide, by decide, ?_⟩; rw [show (0 : Int).toNat = 0 from rfl, ones_zero]; rfl
    · rw [c10]; refine ⟨by decide, by decide, ?_⟩; rw [show (1 : Int).toNat = 1 from rfl, o1]; rfl
    · rw [c01]; refine ⟨by decide, by decide, ?_⟩; rw [show (1 : Int).toNat = 1 from rfl, o1]; rfl
    · rw [c11]; refine ⟨by decide, by decide, ?_⟩; rw [show (0 : Int).toNat = 0 from rfl, ones_zero]; rfl
  | succ n ih =>
    intro b x h0 h1 h2 h3
    rw [Int.pow_succ] at h2 h3
    obtain ⟨k0, k1, k2⟩ := ih (x % 2) (x / 2) (by omega) (by omega) (by omega) (by omega)
    rw [mk_step h0 h1]
    refine ⟨by omega, by rw [Int.pow_succ]; omega, ?_⟩
    generalize hm : mk (x % 2) (x / 2) = m at k0 k1 k2
    by_cases e : (x + b) % 2 = 0
    · rw [e, show (2 * m + 0).toNat = 2 * m.toNat by omega, ones_even, alt_up, show 2 * b - 1 = 2 * (x % 2) - 1 by omega, k2]
      omega
    · rw [show (x + b) % 2 = 1 by omega, show (2 * m + 1).toNat = 2 * m.toNat + 1 by omega, ones_odd]
      show (2 * b - 1) * 2 ^ 0 + alt (-(2 * b - 1)) _ = _
      rw [alt_up, show -(2 * b - 1) = 2 * (x % 2) - 1 by omega, k2]
      simp
      omega
def marks (x : Int) : Nat := (Builtin.bitXor x (x * 2)).toNat
theorem marks_eq (x : Int) : Builtin.bitXor x (x * 2) = mk 0 x := by unfold mk; rw [show x * 2 = 2 * x + 0 by omega]
def turnsN (x : Int) : List Nat := ones (marks x)
def turnsZ (x : Int) : List Int := (turnsN x).map Int.ofNat
theorem marks_cast {x : Int} : ∃ n : Nat, -(2 ^ n) ≤ x ∧ x < 2 ^ n := by
  refine ⟨x.natAbs, ?_, ?_⟩ <;>
  · have h : x.natAbs < 2 ^ x.natAbs := Nat.lt_two_pow_self
    have h2 : ((2 ^ x.natAbs : Nat) : Int) = (2 : Int) ^ x.natAbs := by simp
    omega
theorem marks_nonneg (x : Int) : 0 ≤ Builtin.bitXor x (x * 2) := by
  obtain ⟨n, h0, h1⟩ := marks_cast (x := x)
  rw [marks_eq]; exact (mk_all n 0 x (by decide) (by decide) h0 h1).1
theorem marks_val (x : Int) : Builtin.bitXor x (x * 2) = (marks x : Int) := by
  have := marks_nonneg x
  unfold marks; omega
theorem marks_lt {x : Int} {n : Nat} (h0 : -(2 ^ n) ≤ x) (h1 : x < 2 ^ n) : marks x < 2 ^ (n + 1) := by
  have h := (mk_all n 0 x (by decide) (by decide) h0 h1).2.1
  rw [← marks_eq, marks_val] at h
  have h2 : ((2 ^ (n + 1) : Nat) : Int) = (2 : Int) ^ (n + 1) := by simp
  omega
/-- the turns tell the int -/
theorem turns_alt (x : Int) : alt (-1) (turnsN x) = x := by
  obtain ⟨n, h0, h1⟩ := marks_cast (x := x)
  have h : alt (-1) (ones (mk 0 x).toNat) = x + 0 := (mk_all n 0 x (by decide) (by decide) h0 h1).2.2
  rw [← marks_eq] at h
  unfold turnsN marks
  omega
theorem turns_lt {x : Int} {n : Nat} (h0 : -(2 ^ n) ≤ x) (h1 : x < 2 ^ n) : ∀ p ∈ turnsN x, p ≤ n := fun p hp => Nat.le_of_lt_succ (ones_lt (marks_lt h0 h1) p hp)
theorem turns_len {x : Int} {n : Nat} (h0 : -(2 ^ n) ≤ x) (h1 : x < 2 ^ n) : (turnsN x).length ≤ n + 1 := ones_len (marks_lt h0 h1)
theorem turns_asc (x : Int) : (turnsN x).Pairwise (· < ·) := ones_asc _
/-- a step of the loop over the marks -/
theorem marks_low {m : Nat} (h : m ≠ 0) : ∃ k : Nat, Builtin.bitAnd (m : Int) (-(m : Int)) = 2 ^ k ∧ 2 ^ k ≤ m ∧ ones m = k :: ones (m - 2 ^ k) := by
  obtain ⟨k, a, rfl⟩ := low_of h
  refine ⟨k, ?_, ?_, ?_⟩
  · have := PySem.W.kbt_low k (a : Int)
    rw [← this]
    simp
  · exact Nat.le_mul_of_pos_right _ (by omega)
  · rw [ones_low, Nat.mul_add, Nat.mul_one, Nat.add_sub_cancel]
end Fb
namespace Fb
open PySem
/-! ### the size of an alternating sum, by its last place -/
def flip (s : Int) : Nat → Int
  | 0 => s
  | n + 1 => flip (-s) n
theorem flip_pm {s : Int} (h : s = 1 ∨ s = -1) : ∀ n, flip s n = 1 ∨ flip s n = -1 := by
  intro n
  induction n generalizing s with
  | zero => exact h
  | succ n ih => exact ih (by omega)
theorem flip_succ (s : Int) (n : Nat) : flip s (n + 1) = -flip s n := by
  induction n generalizing s with
  | zero => rfl
  | succ n ih => exact ih (-s)
theorem alt_snoc (s : Int) (l : List Nat) (p : Nat) : alt s (l ++ [p]) = alt s l + flip s l.length * 2 ^ p := by
  induction l generalizing s with
  | nil => show s * 2 ^ p + 0 = 0 + s * 2 ^ p; omega
  | cons q l ih =>
    show s * 2 ^ q + alt (-s) (l ++ [p]) = s * 2 ^ q + alt (-s) l + flip (-s) l.length * 2 ^ p
    rw [ih]; omega
theorem alt_sum {s : Int} (h : s = 1 ∨ s = -1) : ∀ (l : List Nat) (a n : Nat), l.Pairwise (· < ·) → (∀ p ∈ l, a ≤ p ∧ p < n) → a ≤ n → -(2 ^ n - 2 ^ a) ≤ alt s l ∧ alt s l ≤ 2 ^ n - 2 ^ a := by
  intro l
  induction l generalizing s with
  | nil =>
    intro a n _ _ hn
    have := Nat.pow_le_pow_right (n := 2) (by decide) hn
    have h1 : ((2 ^ a : Nat) : Int) = 2 ^ a := Int.natCast_pow 2 a
    have h2 : ((2 ^ n : Nat) : Int) = 2 ^ n := Int.natCast_pow 2 n
    show -(2 ^ n - 2 ^ a) ≤ (0 : Int) ∧ (0 : Int) ≤ _
    omega
  | cons p l ih =>
    intro a n hp hb hn
    obtain ⟨h1, h2⟩ := List.pairwise_cons.mp hp
    obtain ⟨b1, b2⟩ := hb p List.mem_cons_self
    obtain ⟨c1, c2⟩ := ih (s := -s) (by omega) (p + 1) n h2 (fun q hq => ⟨h1 q hq, (hb q (List.mem_cons_of_mem _ hq)).2⟩) (by omega)
    have e := Nat.pow_le_pow_right (n := 2) (by decide) b1
    have h1 : ((2 ^ a : Nat) : Int) = 2 ^ a := Int.natCast_pow 2 a
    have h2 : ((2 ^ p : Nat) : Int) = 2 ^ p := Int.natCast_pow 2 p
    have h3 : (2 : Int) ^ (p + 1) = 2 ^ p * 2 := Int.pow_succ 2 p
    have h4 : (0 : Int) < 2 ^ p := Int.pow_pos (by decide)
    show -(2 ^ n - 2 ^ a) ≤ s * 2 ^ p + alt (-s) l ∧ s * 2 ^ p + alt (-s) l ≤ _
    rcases h with rfl | rfl <;> omega
theorem alt_lt {s : Int} (h : s = 1 ∨ s = -1) {l : List Nat} {n : Nat} (hp : l.Pairwise (· < ·)) (hb : ∀ p ∈ l, p < n) : -(2 ^ n) < alt s l ∧ alt s l < 2 ^ n := by
  have := alt_sum h l 0 n hp (fun p q => ⟨Nat.zero_le _, hb p q⟩) (Nat.zero_le _)
  have h0 : (2 : Int) ^ 0 = 1 := rfl
  omega
/-- the last place tells the sign -/
theorem alt_sign {s : Int} (h : s = 1 ∨ s = -1) {l : List Nat} {p : Nat} (hp : (l ++ [p]).Pairwise (· < ·)) : (flip s l.length = 1 → 0 < alt s (l ++ [p])) ∧ (flip s l.length = -1 → alt s (l ++ [p]) < 0) := by
  obtain ⟨h1, _, h3⟩ := List.pairwise_append.mp hp
  have := alt_lt h (n := p) h1 fun q hq => h3 q hq p List.mem_cons_self
  rw [alt_snoc]
  constructor <;> intro e <;> rw [e] <;> omega
/-- an int from 0 on is below 2 to its last turn -/
theorem last_lt {c : Int} (h0 : 0 ≤ c) {l : List Nat} {p : Nat} (h : turnsN c = l ++ [p]) : c < 2 ^ p ∧ (2 : Int) ^ p ≤ 2 * c := by
  have asc := turns_asc c
  have e := turns_alt c
  rw [h] at asc e
  obtain ⟨h1, _, h3⟩ := List.pairwise_append.mp asc
  have b := alt_lt (s := -1) (.inr rfl) (n := p) h1 fun q hq => h3 q hq p List.mem_cons_self
  have sg := alt_sign (s := -1) (.inr rfl) asc
  have pm := flip_pm (s := -1) (.inr rfl) l.length
  have f1 : flip (-1) l.length = 1 := by
    rcases pm with h | h
    · exact h
    · have := sg.2 h; omega
  constructor
  · rcases List.eq_nil_or_concat l with rfl | ⟨l', q, rfl⟩
    · cases f1
    · rw [List.concat_eq_append] at *
      have sg2 := alt_sign (s := -1) (.inr rfl) h1
      have f2 : flip (-1) l'.length = -1 := by
        rw [List.length_append, List.length_singleton, flip_succ] at f1
        omega
      have := sg2.2 f2
      rw [alt_snoc, f1] at e
      omega
  · by_cases c0 : 2 * c < 2 ^ p
    · cases p with
      | zero => 
        have : c = 0 := by have : (2 : Int) ^ 0 = 1 := rfl; omega
        subst this
        have z : turnsN 0 = [] := by decide +kernel
        rw [z] at h
        simp at h
      | succ p =>
        rw [Int.pow_succ] at c0
        have := turns_lt (x := c) (n := p) (by have := Int.pow_pos (n := 2) (m := p) (by decide); omega) (by omega) (p + 1) (by rw [h]; simp)
        omega
    · omega
theorem last_mono {c c' : Int} (h0 : 0 ≤ c) (hc : c ≤ c') {l l' : List Nat} {p p' : Nat} (h : turnsN c = l ++ [p]) (h' : turnsN c' = l' ++ [p']) : p ≤ p' := by
  have a := (last_lt h0 h).2
  have b := (last_lt (by omega) h').1
  by_cases e : p ≤ p'
  · exact e
  · have := Nat.pow_le_pow_right (n := 2) (by decide) (show p' + 1 ≤ p by omega)
    have h1 : ((2 ^ (p' + 1) : Nat) : Int) = 2 ^ (p' + 1) := Int.natCast_pow 2 _
    have h2 : ((2 ^ p : Nat) : Int) = 2 ^ p := Int.natCast_pow 2 p
    rw [Int.pow_succ] at h1
    omega
theorem alt_dvd : ∀ (l : List Nat) (s : Int) (a : Nat), (∀ p ∈ l, a ≤ p) → ∃ k, alt s l = 2 ^ a * k := by
  intro l
  induction l with
  | nil => intro s a _; exact ⟨0, by show (0 : Int) = _; omega⟩
  | cons p l ih =>
    intro s a h
    obtain ⟨k, hk⟩ := ih (-s) a fun q hq => h q (List.mem_cons_of_mem _ hq)
    obtain ⟨e, rfl⟩ : ∃ e, p = a + e := ⟨p - a, by have := h p List.mem_cons_self; omega⟩
    refine ⟨s * 2 ^ e + k, ?_⟩
    show s * 2 ^ (a + e) + alt (-s) l = _
    rw [hk, Int.pow_add, Int.mul_add, ← Int.mul_assoc, ← Int.mul_assoc, Int.mul_comm s]
theorem odd_ne {s : Int} (h : s = 1 ∨ s = -1) (p : Nat) (k m : Int) : s * 2 ^ p + 2 ^ (p + 1) * k ≠ 2 ^ (p + 1) * m := by
  intro e
  have h1 : (0 : Int) < 2 ^ p := Int.pow_pos (by decide)
  have e2 : (2 : Int) ^ p * (s + 2 * k) = 2 ^ p * (2 * m) := by
    rw [Int.mul_add, ← Int.mul_assoc, ← Int.mul_assoc, ← Int.pow_succ, Int.mul_comm _ s]
    exact e
  have := Int.eq_of_mul_eq_mul_left (by omega) e2
  omega
/-- turns are unique: an ascending row is the turns of its sum -/
theorem alt_inj : ∀ (l l' : List Nat) (s : Int), (s = 1 ∨ s = -1) → l.Pairwise (· < ·) → l'.Pairwise (· < ·) → alt s l = alt s l' → l = l' := by
  intro l
  induction l with
  | nil =>
    intro l' s h _ h2 e
    cases l' with
    | nil => rfl
    | cons q l' =>
      obtain ⟨b1, b2⟩ := List.pairwise_cons.mp h2
      obtain ⟨k, hk⟩ := alt_dvd l' (-s) (q + 1) b1
      have e' : (0 : Int) = s * 2 ^ q + alt (-s) l' := e
      rw [hk] at e'
      exact absurd e'.symm (by have := odd_ne h q k 0; rwa [Int.mul_zero] at this)
  | cons p l ih =>
    intro l' s h h1 h2 e
    obtain ⟨a1, a2⟩ := List.pairwise_cons.mp h1
    cases l' with
    | nil =>
      obtain ⟨k, hk⟩ := alt_dvd l (-s) (p + 1) a1
      have e' : s * 2 ^ p + alt (-s) l = 0 := e
      rw [hk] at e'
      exact absurd e' (by have := odd_ne h p k 0; rwa [Int.mul_zero] at this)
    | cons q l' =>
      obtain ⟨b1, b2⟩ := List.pairwise_cons.mp h2
      have e' : s * 2 ^ p + alt (-s) l = s * 2 ^ q + alt (-s) l' := e
      obtain ⟨k, hk⟩ := alt_dvd l (-s) (p + 1) a1
      obtain ⟨m, hm⟩ := alt_dvd l' (-s) (q + 1) b1
      have pq : p = q := by
        rcases Nat.lt_trichotomy p q with c | c | c
        · obtain ⟨z, hz⟩ := alt_dvd (q :: l') s (p + 1) (fun r hr => by
            rcases List.mem_cons.mp hr with rfl | hr
            · exact c
            · have := b1 r hr; omega)
          have ez : s * 2 ^ q + alt (-s) l' = 2 ^ (p + 1) * z := hz
          rw [ez, hk] at e'
          exact absurd e' (odd_ne h p k z)
        · exact c
        · obtain ⟨z, hz⟩ := alt_dvd (p :: l) s (q + 1) (fun r hr => by
            rcases List.mem_cons.mp hr with rfl | hr
            · exact c
            · have := a1 r hr; omega)
          have ez : s * 2 ^ p + alt (-s) l = 2 ^ (q + 1) * z := hz
          rw [ez, hm] at e'
          exact absurd e'.symm (odd_ne h q m z)
      subst pq
      rw [ih l' (-s) (by omega) a2 b2 (by omega)]
/-- the turns of an alternating sum -/
theorem turns_of_alt {l : List Nat} (h : l.Pairwise (· < ·)) : turnsN (alt (-1) l) = l :=
  alt_inj _ _ (-1) (.inr rfl) (turns_asc _) h (turns_alt _)
end Fb
namespace Fb
open PySem L2
/-! ### trees of ints and tuples -/
def dTy : PyData → String
  | .none => "NoneType" | .bool _ => "bool" | .int _ => "int" | .str _ => "str" | .list _ => "list" | .tuple _ => "tuple" | .dict _ => "dict"
theorem tyx_dp {K : PySem.W.Frag} {H : Hp} {v : V} {d : PyData} (h : Dp K H v d) : TyX K H v (.type (dTy d)) := by
  cases h with
  | non => exact .base .non
  | bl b => exact .base (.bl b)
  | int i => exact .base (.int i)
  | str x => exact .base (.str x)
  | lst hs _ =>
    rcases hs with (h | ⟨o, h⟩) | ⟨o, its, n, h1, h2, _⟩
    · exact .base (.lst h)
    · exact .base (.frz h)
    · exact .kList h1 h2
  | tup hs _ =>
    rcases hs with (h | ⟨o, h⟩) | ⟨o, its, n, h1, h2, _⟩
    · exact .base (.tup h)
    · exact .fTuple h
    · exact .kTuple h1 h2
def isI (d : PyData) : Bool := match d with | .int _ => true | .bool _ => true | _ => false
def isT (d : PyData) : Bool := match d with | .tuple _ => true | _ => false
theorem kit_I : ∀ d : PyData, kitB (dTy d) "int" = some (isI d)
  | .none => by show kitB "NoneType" "int" = some false; decide +kernel
  | .bool _ => by show kitB "bool" "int" = some true; decide +kernel
  | .int _ => by show kitB "int" "int" = some true; decide +kernel
  | .str _ => by show kitB "str" "int" = some false; decide +kernel
  | .list _ => by show kitB "list" "int" = some false; decide +kernel
  | .tuple _ => by show kitB "tuple" "int" = some false; decide +kernel
  | .dict _ => by show kitB "dict" "int" = some false; decide +kernel
theorem kit_T : ∀ d : PyData, kitB (dTy d) "tuple" = some (isT d)
  | .none => by show kitB "NoneType" "tuple" = some false; decide +kernel
  | .bool _ => by show kitB "bool" "tuple" = some false; decide +kernel
  | .int _ => by show kitB "int" "tuple" = some false; decide +kernel
  | .str _ => by show kitB "str" "tuple" = some false; decide +kernel
  | .list _ => by show kitB "list" "tuple" = some false; decide +kernel
  | .tuple _ => by show kitB "tuple" "tuple" = some true; decide +kernel
  | .dict _ => by show kitB "dict" "tuple" = some false; decide +kernel
/-- isinstance(x, int) of a datum -/
def rIsD (K : PySem.W.Frag) (T : String) (t : PyData → Bool) : List V → Hp → VK → Prop := fun xs H Q => ∃ x d, xs = [x, .ty T] ∧ Dp K H x d ∧ Q (.bl (t d)) H
theorem call_isiI {X : Cx} (K : PySem.W.Frag) (hK : X.K = K := by rfl) : CallR X (.builtin "isinstance") (rIsD K "int" isI) := fun pins s σ H xs us Q I r ⟨x, d, e, h, q⟩ => by
  subst hK
  refine call_isi pins s σ H xs us Q I r ⟨x, _, _, _, isI d, e, .ty _, tyx_dp h, kit_ty (kit_I d), q⟩
/-- isinstance(x, tuple) of a datum -/
theorem call_isiT_ {X : Cx} (K : PySem.W.Frag) (hK : X.K = K := by rfl) : CallR X (.builtin "isinstance") (rIsD K "tuple" isT) := fun pins s σ H xs us Q I r ⟨x, d, e, h, q⟩ => by
  subst hK
  refine call_isi pins s σ H xs us Q I r ⟨x, _, _, _, isT d, e, .ty _, tyx_dp h, kit_ty (kit_T d), q⟩
theorem lcT {σ : L2.St} {H : Hp} {A B : Hp → Prop} (h : A H) : tYes σ H (fun b H3 => if b = true then A H3 else B H3) := by
  show (if true = true then A H else B H)
  rw [if_pos rfl]
  exact h
theorem ix_listK {X : Cx} (K : PySem.W.Frag) (hK : X.K = K := by rfl) : IxR X (rIxL K) := by subst hK; exact ix_list
theorem ix_tupK {X : Cx} (K : PySem.W.Frag) (hK : X.K = K := by rfl) : IxR X (rIxT K) := by subst hK; exact ix_tup
theorem call_lenLK {X : Cx} (K : PySem.W.Frag) (hK : X.K = K := by rfl) : CallR X (.builtin "len") (rLenL K) := by subst hK; exact call_lenL
/-- a tree of ints and tuples, at most n tuples deep -/
def Fm : Nat → PyData → Prop
  | 0, d => ∃ i, d = .int i
  | n + 1, d => (∃ i, d = .int i) ∨ ∃ ds, d = .tuple ds ∧ ds.length ≤ 2100 ∧ ∀ x ∈ ds, Fm n x
theorem Fm.succ : ∀ {n : Nat} {d : PyData}, Fm n d → Fm (n + 1) d
  | 0, _, h => .inl h
  | n + 1, _, h => by
    rcases h with h | ⟨ds, e, l, h⟩
    · exact .inl h
    · exact .inr ⟨ds, e, l, fun x hx => (h x hx).succ⟩
theorem Fm.mono {n m : Nat} {d : PyData} (h : Fm n d) (e : n ≤ m) : Fm m d := by
  induction e with
  | refl => exact h
  | step _ ih => exact ih.succ
theorem Fm.int {n : Nat} (i : Int) : Fm n (.int i) := by cases n <;> first | exact ⟨i, rfl⟩ | exact .inl ⟨i, rfl⟩
/-- size -/
def sz : Nat → PyData → Int
  | n + 1, .tuple ds => 1 + (ds.map (sz n)).sum
  | _, _ => 1
theorem sz_int (n : Nat) (i : Int) : sz n (.int i) = 1 := by cases n <;> rfl
/-- the greatest of some ints, 0 if there is none -/
def maxI : List Int → Int
  | [] => 0
  | x :: xs => max x (maxI xs)
def ht : Nat → PyData → Int
  | n + 1, .tuple ds => 1 + maxI (ds.map (ht n))
  | _, _ => 0
theorem ht_int (n : Nat) (i : Int) : ht n (.int i) = 0 := by cases n <;> rfl
theorem ht_nonneg : ∀ (n : Nat) (d : PyData), 0 ≤ ht n d
  | 0, _ => Int.le_refl _
  | n + 1, .tuple ds => by
    show 0 ≤ 1 + maxI _
    have : ∀ l : List Int, (∀ x ∈ l, 0 ≤ x) → 0 ≤ maxI l := fun l hl => by cases l with | nil => exact Int.le_refl _ | cons x xs => have := hl x List.mem_cons_self; show 0 ≤ max x _; omega
    have := this (ds.map (ht n)) (fun x hx => by obtain ⟨d, _, rfl⟩ := List.mem_map.mp hx; exact ht_nonneg n d)
    omega
  | n + 1, .none => Int.le_refl _
  | n + 1, .bool _ => Int.le_refl _
  | n + 1, .int _ => Int.le_refl _
  | n + 1, .str _ => Int.le_refl _
  | n + 1, .list _ => Int.le_refl _
  | n + 1, .dict _ => Int.le_refl _
theorem maxI_le {l : List Int} {x : Int} (h : x ∈ l) : x ≤ maxI l := by
  induction l with
  | nil => cases h
  | cons y ys ih =>
    show x ≤ max y (maxI ys)
    rcases List.mem_cons.mp h with rfl | h
    · omega
    · have := ih h; omega
theorem maxI_mem {l : List Int} (h : l ≠ []) (h0 : ∀ x ∈ l, 0 ≤ x) : maxI l ∈ l := by
  induction l with
  | nil => exact absurd rfl h
  | cons y ys ih =>
    by_cases e : ys = []
    · subst e
      show max y 0 ∈ [y]
      have := h0 y List.mem_cons_self
      rw [show max y 0 = y by omega]; exact List.mem_cons_self
    · have := ih e fun x hx => h0 x (List.mem_cons_of_mem _ hx)
      show max y (maxI ys) ∈ _
      by_cases c : y ≤ maxI ys
      · rw [show max y (maxI ys) = maxI ys by omega]; exact List.mem_cons_of_mem _ this
      · rw [show max y (maxI ys) = y by omega]; exact List.mem_cons_self
theorem maxI_eq {l : List Int} {m : Int} (hm : m ∈ l) (h0 : ∀ x ∈ l, 0 ≤ x) (h : ∀ y ∈ l, y ≤ m) : maxI l = m := by
  have a := maxI_le hm
  have b := h _ (maxI_mem (List.ne_nil_of_mem hm) h0)
  omega
/-- the row of the last turns -/
def lv : Nat → PyData → Int
  | n + 1, .tuple ds => match ds.getLast? with
    | some d => 1 + lv n d
    | none => 1
  | _, _ => 0
/-- no tuple is empty on the way of the last turns, and there the last one is of the greatest height -/
def Sp_ : Nat → PyData → Prop
  | n + 1, .tuple ds => ∃ d, ds.getLast? = some d ∧ (∀ x ∈ ds, ht n x ≤ ht n d) ∧ Sp_ n d
  | _, _ => True
theorem lv_ht : ∀ (n : Nat) (d : PyData), Sp_ n d → lv n d = ht n d
  | 0, d, _ => by cases d <;> rfl
  | n + 1, .tuple ds, h => by
    obtain ⟨d, e, h1, h2⟩ := h
    show (match ds.getLast? with | some d => 1 + lv n d | none => 1) = 1 + maxI _
    rw [e]
    have m : d ∈ ds := List.mem_of_getLast? e
    rw [maxI_eq (List.mem_map.mpr ⟨d, m, rfl⟩) (fun x hx => by obtain ⟨y, _, rfl⟩ := List.mem_map.mp hx; exact ht_nonneg n y) (fun x hx => by obtain ⟨y, hy, rfl⟩ := List.mem_map.mp hx; exact h1 y hy), ← lv_ht n d h2]
  | n + 1, .none, _ => rfl
  | n + 1, .bool _, _ => rfl
  | n + 1, .int _, _ => rfl
  | n + 1, .str _, _ => rfl
  | n + 1, .list _, _ => rfl
  | n + 1, .dict _, _ => rfl
theorem sz_bd : ∀ (n : Nat) (d : PyData), Fm n d → 1 ≤ sz n d ∧ sz n d ≤ 2101 ^ n
  | 0, d, h => by obtain ⟨i, rfl⟩ := h; exact ⟨Int.le_refl 1, Int.le_refl 1⟩
  | n + 1, d, h => by
    rcases h with ⟨i, rfl⟩ | ⟨ds, rfl, l, h⟩
    · rw [sz_int]
      refine ⟨by omega, ?_⟩
      have := Int.pow_pos (n := 2101) (m := n + 1) (by decide)
      omega
    · have key : ∀ l : List PyData, (∀ x ∈ l, Fm n x) → 0 ≤ (l.map (sz n)).sum ∧ (l.map (sz n)).sum ≤ l.length * 2101 ^ n := by
        intro l
        induction l with
        | nil => intro _; simp
        | cons x xs ih =>
          intro hl
          have a := ih fun y hy => hl y (List.mem_cons_of_mem _ hy)
          have b := sz_bd n x (hl x List.mem_cons_self)
          simp only [List.map_cons, List.sum_cons, List.length_cons]
          push_cast
          rw [Int.add_mul]
          omega
      have a := key ds h
      have c := Int.pow_pos (n := 2101) (m := n) (by decide)
      have e : (ds.length : Int) * 2101 ^ n ≤ 2100 * 2101 ^ n := Int.mul_le_mul_of_nonneg_right (by omega) (by omega)
      show 1 ≤ 1 + _ ∧ 1 + _ ≤ _
      rw [Int.pow_succ]
      omega
end Fb
namespace Fb
open PySem L2
/-! ### tuples stand -/
def Td (H H' : Hp) : Prop := ∀ a xs, Rd H a (.tup xs) → Rd H' a (.tup xs)
theorem Td.of {H H' : Hp} (e : Nd H H') : Td H H' := fun a xs h => by
  rcases h with h | ⟨o, h⟩
  · exact .inl (e.k _ _ h fun _ z => nomatch z)
  · exact .inr ⟨o, e.k _ _ h fun _ z => nomatch z⟩
theorem Td.trans {H H1 H2 : Hp} (a : Td H H1) (b : Td H1 H2) : Td H H2 := fun x xs h => b x xs (a x xs h)
theorem Td.lst {H : Hp} {p : Addr} {ys : List V} {o : HO} (h : H p = some (.lst ys)) : Td H (upd H p o) := fun a xs k => by
  rcases k with k | ⟨u, k⟩
  · exact .inl (by rw [upd_ne (by rintro rfl; rw [h] at k; cases k)]; exact k)
  · exact .inr ⟨u, by rw [upd_ne (by rintro rfl; rw [h] at k; cases k)]; exact k⟩
theorem Td.sqt {K : PySem.W.Frag} {H H' : Hp} {a : Addr} {xs : List V} (e : Td H H') (h : SqT K H a xs) : SqT K H' a xs := by
  rcases h with h | h
  · exact .inl (e _ _ h)
  · exact .inr h
theorem Td.dp {K : PySem.W.Frag} {H H' : Hp} (e : Td H H') : ∀ (n : Nat) (d : PyData) (v : V), Fm n d → Dp K H v d → Dp K H' v d := by
  intro n
  induction n with
  | zero => rintro d v ⟨i, rfl⟩ h; cases h; exact .int i
  | succ n ih =>
    intro d v hf h
    rcases hf with ⟨i, rfl⟩ | ⟨ds, rfl, _, hf⟩
    · cases h; exact .int i
    · cases h with
      | @tup a xs _ hs ha =>
        have key : ∀ (es : List PyData) (xs : List V), (∀ x ∈ es, Fm n x) → DpAll K H xs es → DpAll K H' xs es := by
          intro es
          induction es with
          | nil => intro xs _ h; cases h; exact .nil
          | cons y ys ihy =>
            intro xs hx h
            cases h with
            | cons h1 h2 => exact .cons (ih y _ (hx y List.mem_cons_self) h1) (ihy _ (fun z hz => hx z (List.mem_cons_of_mem _ hz)) h2)
        exact .tup (e.sqt hs) (key ds xs hf ha)
theorem Td.d {K : PySem.W.Frag} {H H' : Hp} {n : Nat} {d : PyData} {v : V} (e : Td H H') (hf : Fm n d) (h : Dp K H v d) : Dp K H' v d := e.dp n d v hf h
theorem Td.ds {K : PySem.W.Frag} {H H' : Hp} {n : Nat} (e : Td H H') : ∀ {es : List PyData} {xs : List V}, (∀ x ∈ es, Fm n x) → DpAll K H xs es → DpAll K H' xs es
  | [], _, _, h => by cases h; exact .nil
  | y :: ys, _, hx, h => by
    cases h with
    | cons h1 h2 => exact .cons (e.d (hx y List.mem_cons_self) h1) (e.ds (fun z hz => hx z (List.mem_cons_of_mem _ hz)) h2)
theorem fm_bool {n : Nat} {b : Bool} (h : Fm n (.bool b)) : False := by
  cases n with
  | zero => obtain ⟨i, h⟩ := h; cases h
  | succ n => rcases h with ⟨i, h⟩ | ⟨ts, h, _⟩ <;> cases h
/-! ### ints of turns, forms as data -/
def InB (x : Int) : Prop := -(2 ^ 5000) ≤ x ∧ x < 2 ^ 5000
theorem InB.of {x : Int} {n : Nat} (h0 : -(2 ^ n) ≤ x) (h1 : x < 2 ^ n) (hn : n ≤ 5000) : InB x := by
  have h : (2 : Int) ^ n ≤ 2 ^ 5000 := by
    have h' : ((2 ^ n : Nat) : Int) ≤ ((2 ^ 5000 : Nat) : Int) := Int.ofNat_le.mpr (Nat.pow_le_pow_right (by decide) hn)
    rw [Int.natCast_pow, Int.natCast_pow] at h'
    exact h'
  unfold InB
  generalize (2 : Int) ^ 5000 = B at h ⊢
  omega
def nI (ns : List Nat) : List V := ns.map fun (n : Nat) => V.int (n : Int)
def nD (ns : List Nat) : List PyData := ns.map fun (n : Nat) => PyData.int (n : Int)
theorem dps_n {K : PySem.W.Frag} {H : Hp} : ∀ (ns : List Nat), DpAll K H (nI ns) (nD ns)
  | [] => .nil
  | n :: ns => .cons (.int n) (dps_n ns)
theorem dps_n_inv {K : PySem.W.Frag} {H : Hp} : ∀ {ns : List Nat} {vs : List V}, DpAll K H vs (nD ns) → vs = nI ns
  | [], _, h => by cases h; rfl
  | n :: ns, _, h => by
    cases h with
    | cons h1 h2 =>
      cases h1
      rw [dps_n_inv h2]
      rfl
def plain (x : Int) : Prop := -(2 ^ 64) ≤ x ∧ x < 2 ^ 64
instance (x : Int) : Decidable (plain x) := by unfold plain; infer_instance
def formD (x : Int) : PyData := if plain x then .int x else .tuple (nD (turnsN x))
def natOf : PyData → Nat
  | .int i => i.toNat
  | _ => 0
theorem natOf_nD (ns : List Nat) : (nD ns).map natOf = ns := by
  unfold nD
  rw [List.map_map]
  conv => rhs; rw [← List.map_id ns]
  exact List.map_congr_left fun n _ => rfl
def isNear : PyData → Bool
  | .int i => decide (i ≤ 64)
  | _ => false
/-- the form of a row of places -/
def rowD (ds : List PyData) : PyData := match ds.getLast? with
  | none => .int 0
  | some d => if isNear d = true then .int (alt (-1) (ds.map natOf)) else .tuple ds
/-- where the last place is near, all are small ints -/
def RowC (ds : List PyData) : Prop := ∀ d, ds.getLast? = some d → isNear d = true → ∃ ns : List Nat, ds = nD ns ∧ ∀ n ∈ ns, n ≤ 64
theorem rowD_near {ns : List Nat} {d : PyData} (h : (nD ns).getLast? = some d) (h2 : isNear d = true) : rowD (nD ns) = .int (alt (-1) ns) := by
  unfold rowD
  rw [h]
  show (if isNear d = true then _ else _) = _
  rw [if_pos h2, natOf_nD]
theorem rowD_far {ds : List PyData} {d : PyData} (h : ds.getLast? = some d) (h2 : isNear d = false) : rowD ds = .tuple ds := by
  unfold rowD
  rw [h]
  show (if isNear d = true then _ else _) = _
  rw [h2, if_neg Bool.false_ne_true]
theorem Fm.lay : ∀ {n : Nat} {d : PyData}, Fm n d → d.canLay0 = true ∧ d.depth ≤ n := by
  intro n
  induction n with
  | zero => rintro d ⟨i, rfl⟩; exact ⟨by rw [PyData.canLay0], by rw [PyData.depth] <;> first | exact Nat.le_refl _ | simp⟩
  | succ n ih =>
    intro d h
    rcases h with ⟨i, rfl⟩ | ⟨ds, rfl, _, h⟩
    · exact ⟨by rw [PyData.canLay0], by rw [PyData.depth] <;> first | exact Nat.zero_le _ | simp⟩
    · have key : ∀ l : List PyData, (∀ x ∈ l, Fm n x) → PyData.canLayAll0 l = true ∧ PyData.depthAll l ≤ n := by
        intro l
        induction l with
        | nil => intro _; exact ⟨by rw [PyData.canLayAll0], by rw [PyData.depthAll]; exact Nat.zero_le _⟩
        | cons x xs ihl =>
          intro hl
          obtain ⟨a1, a2⟩ := ih (hl x List.mem_cons_self)
          obtain ⟨b1, b2⟩ := ihl fun y hy => hl y (List.mem_cons_of_mem _ hy)
          refine ⟨by rw [PyData.canLayAll0, a1, b1]; rfl, ?_⟩
          rw [PyData.depthAll]
          exact Nat.max_le.mpr ⟨a2, b2⟩
      obtain ⟨a, b⟩ := key ds h
      exact ⟨by rw [PyData.canLay0]; exact a, by rw [PyData.depth]; omega⟩
theorem shaped_list {n : Nat} {ds : List PyData} (hn : n ≤ 40) (h : ∀ x ∈ ds, Fm n x) : SeqAt.shaped (.list ds) = true := by
  have key : ∀ l : List PyData, (∀ x ∈ l, Fm n x) → PyData.canLayAll0 l = true ∧ PyData.depthAll l ≤ n := by
    intro l
    induction l with
    | nil => intro _; exact ⟨by rw [PyData.canLayAll0], by rw [PyData.depthAll]; exact Nat.zero_le _⟩
    | cons x xs ihl =>
      intro hl
      obtain ⟨a1, a2⟩ := (hl x List.mem_cons_self).lay
      obtain ⟨b1, b2⟩ := ihl fun y hy => hl y (List.mem_cons_of_mem _ hy)
      refine ⟨by rw [PyData.canLayAll0, a1, b1]; rfl, ?_⟩
      rw [PyData.depthAll]
      exact Nat.max_le.mpr ⟨a2, b2⟩
  obtain ⟨a, b⟩ := key ds h
  unfold SeqAt.shaped
  rw [PyData.canLay0, a, PyData.depth]
  simp
  omega
theorem shaped_nil : SeqAt.shaped (.list []) = true := shaped_list (n := 0) (by decide) (fun x h => by cases h)
theorem eqv_nil (ds : List PyData) : PyData.eqv (.list ds) (.list []) = ds.isEmpty := by
  rw [PyData.eqv]
  cases ds with
  | nil => rw [PyData.eqvAll]; rfl
  | cons _ _ => rw [PyData.eqvAll]; rfl
/-! ### fields: where the groups of bits lie -/
def F2 (low g : Int) (f : PyData) : Prop := (∃ d, 0 ≤ d ∧ d < 90 ∧ f = .tuple [.int low, .int (low + 1 + d)]) ∨
  ∃ d, 0 ≤ d ∧ d < 10 ^ 9 ∧ f = .tuple [.int low, .int (low + 7), .int (low + 9 + g), .int (low + 11 + 2 * g + d)]
def F3 (g : Int) (f2 f3 : PyData) : Prop := f3 = .tuple [.int g, f2] ∨ (∃ e ts, 0 ≤ e ∧ e < 60 ∧ f2 = .tuple ts ∧ f3 = .tuple [f2, .tuple (.int (e + 1) :: .int 64 :: ts)]) ∨
  f3 = .tuple [.int g, .int (g + 1), f2, .tuple [.int g, f2]]
structure Fields (fs : List PyData) : Prop where
  ex : ∃ (a low g : Int) (f2 f3 : PyData), fs = [.int 0, .int a, f2, f3] ∧ 130 ≤ a ∧ a < 2 ^ 64 ∧ 200 ≤ low ∧ low < 260 ∧ 150 ≤ g ∧ g < 190 ∧ F2 low g f2 ∧ F3 g f2 f3
def placeD (fs : List PyData) (p : Nat) : PyData := match fs[p / 200]? with
  | some (.int a) => formD (a + ((p % 200 : Nat) : Int))
  | some (.tuple ts) => .tuple (nD (turnsN ((p % 200 : Nat) : Int)) ++ ts)
  | _ => .none
def movedD (fs : List PyData) (c : Int) : PyData := rowD ((turnsN c).map (placeD fs))
end Fb
namespace Fb
open PySem L2
def Ne : Nat → PyData → Prop
  | n + 1, .tuple ds => ds ≠ [] ∧ ∀ x ∈ ds, Ne n x
  | _, _ => True
theorem Ne.int (n : Nat) (i : Int) : Ne n (.int i) := by cases n <;> exact True.intro
theorem Sp_.int (n : Nat) (i : Int) : Sp_ n (.int i) := by cases n <;> exact True.intro
/-- a tree whose last place is the highest one, everywhere -/
structure Gd (n : Nat) (h : Int) (d : PyData) : Prop where
  fm : Fm n d
  ne : Ne n d
  sp : Sp_ n d
  ht : ht n d = h
theorem gd_int (n : Nat) (i : Int) : Gd n 0 (.int i) := ⟨Fm.int i, Ne.int n i, Sp_.int n i, ht_int n i⟩
theorem gd_tup {n : Nat} {h : Int} {ds : List PyData} {dl : PyData} (hl : ds.length ≤ 2100) (e : ds.getLast? = some dl) (gl : Gd n h dl) (g : ∀ x ∈ ds, ∃ h', h' ≤ h ∧ Gd n h' x) : Gd (n + 1) (h + 1) (.tuple ds) := by
  have m : dl ∈ ds := List.mem_of_getLast? e
  refine ⟨.inr ⟨ds, rfl, hl, fun x hx => ?_⟩, ⟨List.ne_nil_of_mem m, fun x hx => ?_⟩, ⟨dl, e, fun x hx => ?_, gl.sp⟩, ?_⟩
  · obtain ⟨h', _, k⟩ := g x hx; exact k.fm
  · obtain ⟨h', _, k⟩ := g x hx; exact k.ne
  · obtain ⟨h', l, k⟩ := g x hx; rw [k.ht, gl.ht]; exact l
  · show 1 + maxI (ds.map (Fb.ht n)) = h + 1
    rw [maxI_eq (List.mem_map.mpr ⟨dl, m, gl.ht⟩) (fun x hx => by obtain ⟨y, _, rfl⟩ := List.mem_map.mp hx; exact ht_nonneg n y) (fun y hy => by
      obtain ⟨x, hx, rfl⟩ := List.mem_map.mp hy
      obtain ⟨h', l, k⟩ := g x hx
      rw [k.ht]; exact l)]
    omega
theorem mem_nD {ns : List Nat} {x : PyData} (h : x ∈ nD ns) : ∃ n : Nat, x = .int (n : Int) := by
  obtain ⟨n, _, rfl⟩ := List.mem_map.mp (show x ∈ ns.map _ from h); exact ⟨n, rfl⟩
theorem len_nD (ns : List Nat) : (nD ns).length = ns.length := by unfold nD; rw [List.length_map]
theorem gd_ints {n : Nat} {ns : List Nat} (h0 : ns ≠ []) (hl : ns.length ≤ 2100) : Gd (n + 1) 1 (.tuple (nD ns)) := by
  obtain ⟨d, e⟩ : ∃ d, (nD ns).getLast? = some d := by
    rcases List.eq_nil_or_concat ns with rfl | ⟨m, q, rfl⟩
    · exact absurd rfl h0
    · rw [List.concat_eq_append]; unfold nD; rw [List.map_append]; exact ⟨_, List.getLast?_concat ..⟩
  obtain ⟨m, rfl⟩ := mem_nD (List.mem_of_getLast? e)
  exact gd_tup (h := 0) (by rw [len_nD]; exact hl) e (gd_int n _) fun x hx => by
    obtain ⟨k, rfl⟩ := mem_nD hx; exact ⟨0, Int.le_refl 0, gd_int n _⟩
def hI (x : Int) : Int := if plain x then 0 else 1
theorem gd_form {n : Nat} {x : Int} (h0 : -(2 ^ 2000) ≤ x) (h1 : x < 2 ^ 2000) : Gd (n + 1) (hI x) (formD x) := by
  unfold hI formD
  by_cases c : plain x
  · rw [if_pos c, if_pos c]; exact gd_int _ x
  · rw [if_neg c, if_neg c]
    refine gd_ints (fun e => ?_) (Nat.le_trans (turns_len (n := 2000) h0 h1) (by decide))
    have := turns_alt x
    rw [e] at this
    have h : x = 0 := this.symm
    subst h
    exact c (by decide)
theorem gd_app {n : Nat} {h : Int} {ns : List Nat} {ts : List PyData} (hn : ns.length ≤ 2000) (ht : ts.length ≤ 50) (h0 : 0 ≤ h) {dl : PyData} (e : ts.getLast? = some dl) (gl : Gd n h dl) (g : ∀ x ∈ ts, ∃ h', h' ≤ h ∧ Gd n h' x) : Gd (n + 1) (h + 1) (.tuple (nD ns ++ ts)) := by
  refine gd_tup (by rw [List.length_append, len_nD]; omega) (by rw [List.getLast?_append, e]; rfl) gl fun x hx => ?_
  rcases List.mem_append.mp hx with hx | hx
  · obtain ⟨k, rfl⟩ := mem_nD hx; exact ⟨0, h0, gd_int n _⟩
  · exact g x hx
/-- what a field's tuple is made of -/
def TsOk (n : Nat) (h : Int) (ts : List PyData) : Prop := ts.length ≤ 50 ∧ 0 ≤ h ∧ ∃ dl, ts.getLast? = some dl ∧ Gd n h dl ∧ ∀ x ∈ ts, ∃ h', h' ≤ h ∧ Gd n h' x
theorem TsOk.gd {n : Nat} {h : Int} {ts : List PyData} (t : TsOk n h ts) {ns : List Nat} (hn : ns.length ≤ 2000) : Gd (n + 1) (h + 1) (.tuple (nD ns ++ ts)) := by
  obtain ⟨l, h0, dl, e, gl, g⟩ := t
  exact gd_app hn l h0 e gl g
theorem TsOk.gd0 {n : Nat} {h : Int} {ts : List PyData} (t : TsOk n h ts) : Gd (n + 1) (h + 1) (.tuple ts) := t.gd (ns := []) (by decide)
theorem f2_ok {n : Nat} {low g : Int} {f2 : PyData} (h : F2 low g f2) : ∃ ts, f2 = .tuple ts ∧ TsOk n 0 ts := by
  rcases h with ⟨d, _, _, rfl⟩ | ⟨d, _, _, rfl⟩
  · exact ⟨_, rfl, by show 2 ≤ 50; decide, Int.le_refl 0, _, rfl, gd_int n _, fun x hx => by
      simp at hx; rcases hx with rfl | rfl <;> exact ⟨0, Int.le_refl 0, gd_int n _⟩⟩
  · exact ⟨_, rfl, by show 4 ≤ 50; decide, Int.le_refl 0, _, rfl, gd_int n _, fun x hx => by
      simp at hx; rcases hx with rfl | rfl | rfl | rfl <;> exact ⟨0, Int.le_refl 0, gd_int n _⟩⟩
theorem f3_ok {n : Nat} {low g : Int} {f2 f3 : PyData} (h2 : F2 low g f2) (h : F3 g f2 f3) : ∃ ts h, f3 = .tuple ts ∧ 1 ≤ h ∧ TsOk (n + 2) h ts := by
  obtain ⟨t2, rfl, k2⟩ := f2_ok (n := n) h2
  obtain ⟨t2', e2, k2'⟩ := f2_ok (n := n + 1) h2
  cases e2
  have g2 : Gd (n + 1) 1 (.tuple t2) := k2.gd0
  have g2' : Gd (n + 2) 1 (.tuple t2) := k2'.gd0
  rcases h with rfl | ⟨e, ts, _, _, et, rfl⟩ | rfl
  · exact ⟨_, 1, rfl, Int.le_refl 1, by show 2 ≤ 50; decide, by decide, _, rfl, g2', fun x hx => by
      simp at hx
      rcases hx with rfl | rfl
      · exact ⟨0, by decide, gd_int _ _⟩
      · exact ⟨1, Int.le_refl 1, g2'⟩⟩
  · cases et
    have g3 : Gd (n + 2) 1 (.tuple (.int (e + 1) :: .int 64 :: t2)) := by
      obtain ⟨l, h0, dl, e1, gl, g⟩ := k2'
      refine gd_tup (h := 0) (by show t2.length + 2 ≤ 2100; omega) (dl := dl) ?_ gl fun x hx => ?_
      · rw [List.getLast?_cons, List.getLast?_cons, e1]; rfl
      · rcases List.mem_cons.mp hx with rfl | hx
        · exact ⟨0, Int.le_refl 0, gd_int _ _⟩
        · rcases List.mem_cons.mp hx with rfl | hx
          · exact ⟨0, Int.le_refl 0, gd_int _ _⟩
          · exact g x hx
    exact ⟨_, 1, rfl, Int.le_refl 1, by show 2 ≤ 50; decide, by decide, _, rfl, g3, fun x hx => by
      simp at hx
      rcases hx with rfl | rfl
      · exact ⟨1, Int.le_refl 1, g2'⟩
      · exact ⟨1, Int.le_refl 1, g3⟩⟩
  · have g3 : Gd (n + 2) 2 (.tuple [.int g, .tuple t2]) := gd_tup (h := 1) (by show 2 ≤ 2100; decide) rfl g2 fun x hx => by
      simp at hx
      rcases hx with rfl | rfl
      · exact ⟨0, by decide, gd_int _ _⟩
      · exact ⟨1, Int.le_refl 1, g2⟩
    exact ⟨_, 2, rfl, by decide, by show 4 ≤ 50; decide, by decide, _, rfl, g3, fun x hx => by
      simp at hx
      rcases hx with rfl | rfl | rfl | rfl
      · exact ⟨0, by decide, gd_int _ _⟩
      · exact ⟨0, by decide, gd_int _ _⟩
      · exact ⟨1, by decide, g2'⟩
      · exact ⟨2, by decide, g3⟩⟩
/-! ### places -/
theorem step_in (p : Nat) : -(2 ^ 100) ≤ ((p % 200 : Nat) : Int) ∧ ((p % 200 : Nat) : Int) < 2 ^ 100 := by
  have := Nat.mod_lt p (show 0 < 200 by decide); omega
theorem step_len (p : Nat) : (turnsN ((p % 200 : Nat) : Int)).length ≤ 2000 := by
  have h := Nat.mod_lt p (show 0 < 200 by decide)
  have := turns_len (x := ((p % 200 : Nat) : Int)) (n := 10) (by omega) (by omega)
  omega
theorem place0 {fs : List PyData} (F : Fields fs) {p : Nat} (h : p < 200) : placeD fs p = .int (p : Int) := by
  obtain ⟨a, low, g, f2, f3, rfl, _⟩ := F.ex
  unfold placeD
  rw [show p / 200 = 0 by omega]
  show formD (0 + ((p % 200 : Nat) : Int)) = _
  rw [show p % 200 = p by omega]
  unfold formD
  rw [if_pos (by constructor <;> omega)]
  congr 1
  omega
/-- the height of a place, ever greater -/
theorem places {fs : List PyData} (F : Fields fs) (n : Nat) : ∃ hp : Nat → Int, (∀ p q, p ≤ q → q < 800 → hp p ≤ hp q) ∧ ∀ p, p < 800 → 0 ≤ hp p ∧ Gd (n + 3) (hp p) (placeD fs p) ∧ (64 < p → isNear (placeD fs p) = false) := by
  have F' := F
  obtain ⟨a, low, g, f2, f3, rfl, a0, a1, _, _, _, _, k2, k3⟩ := F.ex
  obtain ⟨t2, rfl, o2⟩ := f2_ok (n := n + 2) k2
  obtain ⟨t3, h3, rfl, h1, o3⟩ := f3_ok (n := n) k2 k3
  refine ⟨fun p => if p < 200 then 0 else if p < 400 then hI (a + ((p % 200 : Nat) : Int)) else if p < 600 then 1 else h3 + 1, ?_, ?_⟩
  · intro p q pq q8
    have hi : ∀ x, 0 ≤ hI x ∧ hI x ≤ 1 := fun x => by unfold hI; split <;> decide
    have mono : ∀ x y : Int, 0 ≤ x → x ≤ y → hI x ≤ hI y := fun x y x0 xy => by
      unfold hI
      by_cases c : plain y
      · have c' : plain x := ⟨by omega, by have := c.2; omega⟩
        rw [if_pos c, if_pos c']; decide
      · rw [if_neg c]
        split <;> decide
    dsimp only
    have b1 := hi (a + ((p % 200 : Nat) : Int))
    have b2 := hi (a + ((q % 200 : Nat) : Int))
    by_cases c1 : p < 200
    · rw [if_pos c1]
      split
      · exact Int.le_refl 0
      · split
        · omega
        · split <;> omega
    · rw [if_neg c1, if_neg (show ¬ q < 200 by omega)]
      by_cases c2 : p < 400
      · rw [if_pos c2]
        split
        · exact mono _ _ (by omega) (by omega)
        · split <;> omega
      · rw [if_neg c2, if_neg (show ¬ q < 400 by omega)]
        split
        · split <;> omega
        · rw [if_neg (show ¬ q < 600 by omega)]; omega
  · intro p p8
    dsimp only
    by_cases c1 : p < 200
    · rw [if_pos c1, place0 F' c1]
      exact ⟨Int.le_refl 0, gd_int _ _, fun h => decide_eq_false (by omega)⟩
    · rw [if_neg c1]
      by_cases c2 : p < 400
      · rw [if_pos c2]
        unfold placeD
        rw [show p / 200 = 1 by omega]
        have hs := step_in p
        refine ⟨by unfold hI; split <;> decide, ?_, fun _ => ?_⟩
        · have big : (2 : Int) ^ 101 ≤ 2 ^ 2000 := by
            have h' : ((2 ^ 101 : Nat) : Int) ≤ ((2 ^ 2000 : Nat) : Int) := Int.ofNat_le.mpr (Nat.pow_le_pow_right (by decide) (by decide))
            rw [Int.natCast_pow, Int.natCast_pow] at h'
            exact h'
          refine gd_form ?_ ?_
          · generalize (2 : Int) ^ 2000 = B at big ⊢; omega
          · generalize (2 : Int) ^ 2000 = B at big ⊢; omega
        · show isNear (formD _) = false
          unfold formD
          split
          · exact decide_eq_false (by omega)
          · rfl
      · rw [if_neg c2]
        by_cases c3 : p < 600
        · rw [if_pos c3]
          unfold placeD
          rw [show p / 200 = 2 by omega]
          exact ⟨by decide, o2.gd (step_len p), fun _ => rfl⟩
        · rw [if_neg c3]
          unfold placeD
          rw [show p / 200 = 3 by omega]
          exact ⟨by omega, o3.gd (step_len p), fun _ => rfl⟩
theorem place_fm {fs : List PyData} (F : Fields fs) {p : Nat} (h : p < 800) : Fm 3 (placeD fs p) := by
  obtain ⟨hp, _, k⟩ := places F 0
  exact (k p h).2.1.fm
/-- the row of places of a code keeps the word for row_form -/
theorem places_row {fs : List PyData} (F : Fields fs) {ns : List Nat} (asc : ns.Pairwise (· < ·)) (hb : ∀ p ∈ ns, p < 800) : RowC (ns.map (placeD fs)) := by
  intro d hd hn
  rcases List.eq_nil_or_concat ns with rfl | ⟨m, q, rfl⟩
  · cases hd
  rw [List.concat_eq_append] at *
  rw [List.map_append, List.map_singleton, List.getLast?_concat] at hd
  cases hd
  obtain ⟨hp, _, k⟩ := places F 0
  have q8 : q < 800 := hb q (by simp)
  have q64 : q ≤ 64 := by
    by_cases c : 64 < q
    · have := (k q q8).2.2 c
      rw [hn] at this
      cases this
    · omega
  have all : ∀ p ∈ m ++ [q], p ≤ 64 := fun p hp => by
    rcases List.mem_append.mp hp with hp | hp
    · have := (List.pairwise_append.mp asc).2.2 p hp q List.mem_cons_self; omega
    · simp at hp; omega
  refine ⟨m ++ [q], ?_, all⟩
  unfold nD
  exact List.map_congr_left fun p hp => place0 F (by have := all p hp; omega)
theorem turns_800 {c : Int} (h0 : 0 ≤ c) (h1 : c < 2 ^ 799) : ∀ p ∈ turnsN c, p < 800 := fun p hp => by
  have := turns_lt (n := 799) (by generalize (2 : Int) ^ 799 = B at h1 ⊢; omega) h1 p hp; omega
/-- a moved code: an int if it is small, else a tuple; its height by its last turn -/
theorem moved_cases {fs : List PyData} (F : Fields fs) {c : Int} (h0 : 0 ≤ c) (h1 : c < 2 ^ 799) :
    ((∀ p ∈ turnsN c, p ≤ 64) ∧ movedD fs c = .int c) ∨ ∃ l p, turnsN c = l ++ [p] ∧ 64 < p ∧ movedD fs c = .tuple ((turnsN c).map (placeD fs)) := by
  have hb := turns_800 h0 h1
  have asc := turns_asc c
  have e := turns_alt c
  have near : (∀ p ∈ turnsN c, p ≤ 64) → movedD fs c = .int c := fun all => by
    unfold movedD
    have e1 : (turnsN c).map (placeD fs) = nD (turnsN c) := by
      unfold nD
      exact List.map_congr_left fun p hp => place0 F (by have := all p hp; omega)
    rw [e1]
    cases hl : (nD (turnsN c)).getLast? with
    | none =>
      have : turnsN c = [] := by
        have := List.getLast?_eq_none_iff.mp hl
        unfold nD at this
        exact List.map_eq_nil_iff.mp this
      rw [this] at e ⊢
      show PyData.int 0 = .int c
      congr 1
    | some d =>
      obtain ⟨n, hn, rfl⟩ := List.mem_map.mp (List.mem_of_getLast? hl)
      rw [rowD_near hl (decide_eq_true (by have := all n hn; omega)), e]
  rcases List.eq_nil_or_concat (turnsN c) with h | ⟨m, q, h⟩
  · left
    have all : ∀ p ∈ turnsN c, p ≤ 64 := by rw [h]; intro p hp; cases hp
    exact ⟨all, near all⟩
  · rw [List.concat_eq_append] at h
    by_cases c64 : q ≤ 64
    · left
      have all : ∀ p ∈ turnsN c, p ≤ 64 := by
        rw [h] at asc ⊢
        intro p hp
        rcases List.mem_append.mp hp with hp | hp
        · have := (List.pairwise_append.mp asc).2.2 p hp q List.mem_cons_self; omega
        · simp at hp; omega
      exact ⟨all, near all⟩
    · right
      refine ⟨m, q, h, by omega, ?_⟩
      obtain ⟨hp, _, k⟩ := places F 0
      have q8 : q < 800 := hb q (by rw [h]; simp)
      unfold movedD
      refine rowD_far (d := placeD fs q) ?_ ((k q q8).2.2 (by omega))
      rw [h, List.map_append, List.map_singleton, List.getLast?_concat]
theorem len_turns {c : Int} (h0 : 0 ≤ c) (h1 : c < 2 ^ 799) : (turnsN c).length ≤ 800 :=
  turns_len (n := 799) (by generalize (2 : Int) ^ 799 = B at h1 ⊢; omega) h1
/-- the height of a moved code, ever greater -/
theorem moveds {fs : List PyData} (F : Fields fs) (n : Nat) : ∃ hm : Int → Int, (∀ c c', 0 ≤ c → c ≤ c' → c' < 2 ^ 799 → hm c ≤ hm c') ∧ ∀ c, 0 ≤ c → c < 2 ^ 799 → 0 ≤ hm c ∧ Gd (n + 4) (hm c) (movedD fs c) ∧ (isNear (movedD fs c) = true → c ≤ 64) := by
  obtain ⟨hp, mono, k⟩ := places F n
  refine ⟨fun c => match (turnsN c).getLast? with | none => 0 | some p => if p ≤ 64 then 0 else hp p + 1, ?_, ?_⟩
  · intro c c' c0 cc c8
    dsimp only
    have hb := turns_800 (c := c') (by omega) c8
    have hb0 := turns_800 (c := c) c0 (by generalize (2 : Int) ^ 799 = B at c8 ⊢; omega)
    rcases List.eq_nil_or_concat (turnsN c) with h | ⟨m, q, h⟩
    · rw [h]
      show (0 : Int) ≤ _
      split
      · exact Int.le_refl 0
      · rename_i p hpe
        split
        · exact Int.le_refl 0
        · have := (k p (hb p (List.mem_of_getLast? hpe))).1; omega
    · rw [List.concat_eq_append] at h
      rcases List.eq_nil_or_concat (turnsN c') with h' | ⟨m', q', h'⟩
      · have e' := turns_alt c'
        rw [h'] at e'
        have z : c' = 0 := e'.symm
        have z0 : c = 0 := by omega
        rw [z0] at h
        rw [z] at h'
        rw [h'] at h
        simp at h
      · rw [List.concat_eq_append] at h'
        have pq := last_mono c0 cc h h'
        have q8 : q' < 800 := hb q' (by rw [h']; simp)
        rw [h, h', List.getLast?_concat, List.getLast?_concat]
        show (if q ≤ 64 then (0 : Int) else hp q + 1) ≤ if q' ≤ 64 then 0 else hp q' + 1
        have := mono q q' pq q8
        have := (k q' q8).1
        split <;> split <;> omega
  · intro c c0 c8
    dsimp only
    have hb := turns_800 (c := c) c0 c8
    have asc := turns_asc c
    rcases moved_cases F c0 c8 with ⟨all, e⟩ | ⟨l, p, e1, p64, e⟩
    · rw [e]
      have z : (match (turnsN c).getLast? with | none => (0 : Int) | some p => if p ≤ 64 then 0 else hp p + 1) = 0 := by
        split
        · rfl
        · rename_i p hpe
          rw [if_pos (all p (List.mem_of_getLast? hpe))]
      rw [z]
      exact ⟨Int.le_refl 0, gd_int _ _, fun h => of_decide_eq_true h⟩
    · rw [e, e1, List.getLast?_concat]
      show 0 ≤ (if p ≤ 64 then (0 : Int) else hp p + 1) ∧ Gd (n + 4) (if p ≤ 64 then (0 : Int) else hp p + 1) _ ∧ _
      rw [if_neg (by omega)]
      have p8 : p < 800 := hb p (by rw [e1]; simp)
      have kp := k p p8
      refine ⟨by omega, gd_tup (dl := placeD fs p) ?_ ?_ kp.2.1 fun x hx => ?_, fun h => by cases h⟩
      · have := len_turns c0 c8
        rw [e1] at this
        rw [List.length_map]; omega
      · rw [List.map_append, List.map_singleton, List.getLast?_concat]
      · obtain ⟨q, hq, rfl⟩ := List.mem_map.mp hx
        have q8 : q < 800 := hb q (by rw [e1]; exact hq)
        refine ⟨hp q, mono q p ?_ p8, (k q q8).2.1⟩
        rw [e1] at asc
        rcases List.mem_append.mp hq with hq | hq
        · have := (List.pairwise_append.mp asc).2.2 q hq p List.mem_cons_self; omega
        · simp at hq; omega
/-- codes that ascend -/
def Codes (cs : List Int) : Prop := cs.Pairwise (· < ·) ∧ (∀ c ∈ cs, 0 ≤ c ∧ c < 2 ^ 799) ∧ cs.length ≤ 2000
def codesD (fs : List PyData) (cs : List Int) : PyData := rowD (cs.map (movedD fs))
theorem small_moved {fs : List PyData} (F : Fields fs) {c : Int} (h0 : 0 ≤ c) (h1 : c ≤ 64) : movedD fs c = .int c := by
  have h7 : c < 2 ^ 7 := by omega
  have c8 : c < 2 ^ 799 := by
    have big : (2 : Int) ^ 7 ≤ 2 ^ 799 := by
      have h' : ((2 ^ 7 : Nat) : Int) ≤ ((2 ^ 799 : Nat) : Int) := Int.ofNat_le.mpr (Nat.pow_le_pow_right (by decide) (by decide))
      rw [Int.natCast_pow, Int.natCast_pow] at h'
      exact h'
    generalize (2 : Int) ^ 799 = B at big ⊢; omega
  rcases moved_cases F h0 c8 with ⟨_, e⟩ | ⟨l, p, e1, p64, _⟩
  · exact e
  · have := turns_lt (n := 7) (by omega) h7 p (by rw [e1]; simp)
    omega
theorem codes_row {fs : List PyData} (F : Fields fs) {cs : List Int} (h : Codes cs) : RowC (cs.map (movedD fs)) := by
  obtain ⟨asc, hb, _⟩ := h
  intro d hd hn
  rcases List.eq_nil_or_concat cs with rfl | ⟨m, q, rfl⟩
  · cases hd
  rw [List.concat_eq_append] at *
  rw [List.map_append, List.map_singleton, List.getLast?_concat] at hd
  cases hd
  obtain ⟨hm, _, k⟩ := moveds F 0
  have hq := hb q (by simp)
  have q64 := (k q hq.1 hq.2).2.2 hn
  have all : ∀ c ∈ m ++ [q], c ≤ 64 := fun c hc => by
    rcases List.mem_append.mp hc with hc | hc
    · have := (List.pairwise_append.mp asc).2.2 c hc q List.mem_cons_self; omega
    · simp at hc; omega
  refine ⟨(m ++ [q]).map Int.toNat, ?_, fun n hn => ?_⟩
  · unfold nD
    rw [List.map_map]
    refine List.map_congr_left fun c hc => ?_
    rw [small_moved F (hb c hc).1 (all c hc)]
    show PyData.int c = .int ((c.toNat : Nat) : Int)
    have := (hb c hc).1
    congr 1
    omega
  · obtain ⟨c, hc, rfl⟩ := List.mem_map.mp hn
    have := all c hc
    omega
theorem codes_gd {fs : List PyData} (F : Fields fs) {cs : List Int} (h : Codes cs) (n : Nat) : ∃ hh, Gd (n + 5) hh (codesD fs cs) := by
  obtain ⟨asc, hb, hl⟩ := h
  obtain ⟨hm, mono, k⟩ := moveds F n
  unfold codesD
  rcases List.eq_nil_or_concat cs with rfl | ⟨m, q, rfl⟩
  · exact ⟨0, gd_int _ _⟩
  rw [List.concat_eq_append] at *
  have e : ((m ++ [q]).map (movedD fs)).getLast? = some (movedD fs q) := by rw [List.map_append, List.map_singleton, List.getLast?_concat]
  have hq := hb q (by simp)
  by_cases c : isNear (movedD fs q) = true
  · unfold rowD
    rw [e]
    show ∃ hh, Gd (n + 5) hh (if isNear (movedD fs q) = true then _ else _)
    rw [if_pos c]
    exact ⟨0, gd_int _ _⟩
  · rw [rowD_far e (Bool.eq_false_iff.mpr c)]
    refine ⟨hm q + 1, gd_tup (by rw [List.length_map]; omega) e (k q hq.1 hq.2).2.1 fun x hx => ?_⟩
    obtain ⟨c', hc', rfl⟩ := List.mem_map.mp hx
    have hc := hb c' hc'
    refine ⟨hm c', mono c' q hc.1 ?_ hq.2, (k c' hc.1 hc.2).2.1⟩
    rcases List.mem_append.mp hc' with h | h
    · have := (List.pairwise_append.mp asc).2.2 c' h q List.mem_cons_self; omega
    · simp at h; omega
end Fb
namespace Fb
open PySem L2
/-! ### codes: groups of bits 200 places apart -/
def val4 (d : Nat → Int) : Int := d 0 + d 1 * 2 ^ 200 + d 2 * 2 ^ 400 + d 3 * 2 ^ 600
def CodeB (m : Nat) (b c : Int) : Prop := ∃ d : Nat → Int, c = val4 d ∧ (∀ k, 0 ≤ d k ∧ d k < b) ∧ ∀ k, m ≤ k → d k = 0
def cb (j : Nat) : Int := 2 ^ 57 + 4 * (j : Int)
abbrev Code (m j : Nat) (c : Int) : Prop := CodeB m (cb j) c
theorem CodeB.mono {m : Nat} {b b' c : Int} (h : CodeB m b c) (e : b ≤ b') : CodeB m b' c := by
  obtain ⟨d, h1, h2, h3⟩ := h
  exact ⟨d, h1, fun k => ⟨(h2 k).1, by have := (h2 k).2; omega⟩, h3⟩
theorem code_small {m : Nat} {b e : Int} (hm : 1 ≤ m) (h0 : 0 ≤ e) (h1 : e < b) : CodeB m b e := by
  refine ⟨fun k => if k = 0 then e else 0, ?_, fun k => ?_, fun k hk => ?_⟩
  · unfold val4; simp
  · dsimp only; split <;> omega
  · dsimp only; rw [if_neg (by omega)]
theorem code_add {m : Nat} {b c e : Int} (hm : 1 ≤ m) (h : CodeB m b c) (h0 : 0 ≤ e) : CodeB m (b + e) (c + e) := by
  obtain ⟨d, rfl, h2, h3⟩ := h
  refine ⟨fun k => if k = 0 then d 0 + e else d k, ?_, fun k => ?_, fun k hk => ?_⟩
  · unfold val4; simp; omega
  · dsimp only
    have := h2 0
    have := h2 k
    split <;> omega
  · dsimp only; rw [if_neg (by omega)]; exact h3 k hk
theorem code_piece {m : Nat} {b c pc : Int} {k s : Nat} (h : CodeB m b c) (hk : k < m) (hm : m ≤ 4) (p0 : 0 ≤ pc) (p1 : pc < 2 ^ 40) (hs : s < 15) : CodeB m (b + 2 ^ 55) (c + pc * 2 ^ (200 * k + s)) := by
  obtain ⟨d, rfl, h2, h3⟩ := h
  have hs1 : (0 : Int) < 2 ^ s := Int.pow_pos (by decide)
  have hs2 : (2 : Int) ^ s ≤ 2 ^ 14 := by
    have h' : ((2 ^ s : Nat) : Int) ≤ ((2 ^ 14 : Nat) : Int) := Int.ofNat_le.mpr (Nat.pow_le_pow_right (by decide) (by omega))
    rw [Int.natCast_pow, Int.natCast_pow] at h'
    exact h'
  have q0 : 0 ≤ pc * 2 ^ s := Int.mul_nonneg p0 (by omega)
  have q1 : pc * 2 ^ s < 2 ^ 55 := by
    have a : pc * 2 ^ s ≤ pc * 2 ^ 14 := Int.mul_le_mul_of_nonneg_left hs2 p0
    omega
  have e : pc * 2 ^ (200 * k + s) = (pc * 2 ^ s) * 2 ^ (200 * k) := by rw [Int.pow_add, Int.mul_assoc, Int.mul_comm (2 ^ (200 * k))]
  rw [e]
  generalize pc * 2 ^ s = z at q0 q1 ⊢
  refine ⟨fun i => if i = k then d k + z else d i, ?_, fun i => ?_, fun i hi => ?_⟩
  · match k, (by omega : k < 4) with
    | 0, _ => unfold val4; simp; omega
    | 1, _ => unfold val4; simp; rw [Int.add_mul]; omega
    | 2, _ => unfold val4; simp; rw [Int.add_mul]; omega
    | 3, _ => unfold val4; simp; rw [Int.add_mul]; omega
  · dsimp only
    have := h2 k
    have := h2 i
    split <;> omega
  · dsimp only; rw [if_neg (by omega)]; exact h3 i hi
theorem p_le {a b : Nat} (h : a ≤ b) : (2 : Int) ^ a ≤ 2 ^ b := by
  have h' : ((2 ^ a : Nat) : Int) ≤ ((2 ^ b : Nat) : Int) := Int.ofNat_le.mpr (Nat.pow_le_pow_right (by decide) h)
  rw [Int.natCast_pow, Int.natCast_pow] at h'
  exact h'
/-- a code's size by its groups -/
theorem code_lt {m : Nat} {b c : Int} (h : CodeB m b c) (hm1 : 1 ≤ m) (hm : m ≤ 4) (hb : b ≤ 2 ^ 60) : 0 ≤ c ∧ c < 2 ^ (200 * (m - 1) + 61) := by
  obtain ⟨d, rfl, h2, h3⟩ := h
  have a0 := h2 0; have a1 := h2 1; have a2 := h2 2; have a3 := h2 3
  unfold val4
  match m, hm1, hm with
  | 1, _, _ =>
    have z1 := h3 1 (by decide); have z2 := h3 2 (by decide); have z3 := h3 3 (by decide)
    rw [z1, z2, z3]
    show 0 ≤ _ ∧ _ < (2 : Int) ^ 61
    omega
  | 2, _, _ =>
    have z2 := h3 2 (by decide); have z3 := h3 3 (by decide)
    rw [z2, z3]
    show 0 ≤ _ ∧ _ < (2 : Int) ^ 261
    omega
  | 3, _, _ =>
    have z3 := h3 3 (by decide)
    rw [z3]
    show 0 ≤ _ ∧ _ < (2 : Int) ^ 461
    omega
  | 4, _, _ =>
    show 0 ≤ _ ∧ _ < (2 : Int) ^ 661
    omega
theorem code_799 {m : Nat} {b c : Int} (h : CodeB m b c) (hm1 : 1 ≤ m) (hm : m ≤ 4) (hb : b ≤ 2 ^ 60) : 0 ≤ c ∧ c < 2 ^ 799 := by
  obtain ⟨h0, h1⟩ := code_lt h hm1 hm hb
  refine ⟨h0, Int.lt_of_lt_of_le h1 (p_le (by omega))⟩
theorem code_turns {m : Nat} {b c : Int} (h : CodeB m b c) (hm1 : 1 ≤ m) (hm : m ≤ 4) (hb : b ≤ 2 ^ 60) : ∀ p ∈ turnsN c, p / 200 < m := fun p hp => by
  obtain ⟨h0, h1⟩ := code_lt h hm1 hm hb
  have := turns_lt (n := 200 * (m - 1) + 61) (by have := Int.pow_pos (n := 2) (m := 200 * (m - 1) + 61) (by decide); omega) h1 p hp
  omega
theorem inV_int (c : Int) (l : List Int) : inV (.int c) (l.map V.int) = decide (c ∈ l) := by
  unfold inV
  induction l with
  | nil => rfl
  | cons x xs ih =>
    rw [List.map_cons, List.any_cons, ih]
    show (x == c || decide (c ∈ xs)) = _
    by_cases h : x = c
    · subst h; simp
    · rw [beq_false_of_ne h, Bool.false_or]
      simp [Ne.symm h]
theorem flat_ints (l : List Int) : (l.map V.int).all flatV = true := by
  rw [List.all_eq_true]
  intro x hx
  obtain ⟨c, _, rfl⟩ := List.mem_map.mp hx
  rfl
/-- sorted, without duplicates: strictly ascending -/
theorem strict_of {l l' : List Int} (hp : l'.Perm l) (hn : l.Nodup) (hs : l'.Pairwise (· ≤ ·)) : l'.Pairwise (· < ·) := by
  have hn' : l'.Nodup := hp.nodup_iff.mpr hn
  exact (hs.and hn').imp fun h => by obtain ⟨a, b⟩ := h; omega
theorem eqv_nil' (l : List Int) : PyData.eqv (.list (l.map PyData.int)) (.list []) = decide (l = []) := by
  rw [eqv_nil]
  cases l <;> rfl
theorem dps_map_int {K : PySem.W.Frag} {H : Hp} (l : List Int) : DpAll K H (l.map V.int) (l.map PyData.int) := dps_ints l
theorem shaped_ints (l : List Int) : SeqAt.shaped (.list (l.map PyData.int)) = true := shaped_list (n := 0) (by decide) fun x hx => by
  obtain ⟨i, _, rfl⟩ := List.mem_map.mp hx; exact ⟨i, rfl⟩
end Fb
namespace Fb
open PySem L2
def top (i : Nat) : Stmt := PySem.Challenge.pw_farbits_k03_sizes_and_heights.main.body.getD i (.Pass ⟨0, 0, 0, 0⟩)
section
variable {P : Program} {w : World} {K : PySem.W.Frag} {mg : Str → Option Value} {base : Heap} {f : Addr} {fd : FuncData}
theorem fnok_no {CX : CXT} {k : Nat} {ps : List Str} : FnOk P w K mg base CX k f fd ps (fun _ _ _ _ => False) := ⟨fun _ _ _ _ h => h.elim, fun _ _ _ _ _ _ _ _ _ _ _ _ _ h => h.elim⟩
/-- a count of the tree v by g, all else as it was -/
def spCount (K : PySem.W.Frag) (g : Nat → PyData → Int) : Nat → Sp
  | 0 => fun _ _ _ _ => False
  | n + 1 => fun vs H Q _ => ∃ (v : V) (d : PyData), vs = [v] ∧ Dp K H v d ∧ Fm n d ∧ ∀ H' : Hp, Same H H' → Q (.int (g n d)) H'
def spHeight (K : PySem.W.Frag) : Nat → Sp
  | 0 => fun _ _ _ _ => False
  | n + 1 => fun vs H Q _ => ∃ (v : V) (d : PyData), vs = [v] ∧ Dp K H v d ∧ Fm n d ∧ Ne n d ∧ ∀ H' : Hp, Same H H' → Q (.int (ht n d)) H'
def spLevels (K : PySem.W.Frag) (n : Nat) : Sp := fun vs H Q _ => ∃ (v : V) (d : PyData), vs = [v] ∧ Dp K H v d ∧ Fm n d ∧ Sp_ n d ∧ ∀ H' : Hp, Same H H' → Q (.int (lv n d)) H'
theorem dps_last {H : Hp} {ini : List PyData} {d : PyData} {xs : List V} (h : DpAll K H xs (ini ++ [d])) : ∃ x, atI xs (-1) = some x ∧ Dp K H x d := by
  have hl := dps_length h
  rw [List.length_append, List.length_singleton] at hl
  have hi : ini.length < xs.length := by omega
  have e : xs[ini.length]? = some xs[ini.length] := List.getElem?_eq_getElem hi
  obtain ⟨d', h1, h2⟩ := dps_get h e
  rw [List.getElem?_append_right (Nat.le_refl _), Nat.sub_self] at h1
  cases h1
  refine ⟨_, ?_, h2⟩
  unfold atI ixN
  rw [if_neg (by decide), if_pos (by omega)]
  show xs[((-1 : Int) + xs.length).toNat]? = _
  rw [show ((-1 : Int) + xs.length).toNat = ini.length by omega]
  exact e
abbrev S_parts_in : Stmt := top 1
abbrev N_parts_in : List Str := ["x", "turn"]
abbrev P_parts_in : List Str := ["x"]
theorem sc_parts_in : FnScope N_parts_in P_parts_in (defScope S_parts_in) := ⟨rfl, rfl, rfl, by decide +kernel, rfl, by decide +kernel, by decide +kernel⟩
theorem ok_parts_step {n : Nat} (F : Fun K "parts_in" "parts_in" S_parts_in f fd) (B : Blt mg) (Cparts_in : Has P w K mg base n "parts_in" P_parts_in [] (spCount K sz n)) : FnOk P w K mg base CX0 (n + 1) f fd P_parts_in (spCount K sz (n + 1)) := by
  have nd := sc_parts_in.nd
  refine F.ok sc_parts_in (fun vs H Q E h => ?_) (fun cdv A outer s H vs Q E hr h => ?_)
  · obtain ⟨v, d, rfl, _⟩ := h
    rfl
  obtain ⟨v, d, rfl, hd, hf, q⟩ := h
  refine ⟨_, (pss_cons (ps_if (pt_val (pe_callB (call_isiI K) (by rfl) B.isinstance (by decide +kernel) (pa_cons (pv 0) (pa_cons (pe_bltn (by rfl) B.int (by decide +kernel) (show RelV (.ty "int") (.type "int") from rfl)) pa_nil)))) (pss_one (ps_ret pe_int)) pss_nil)
    (pss_one (ps_ret (pe_op op_add pe_int (pe_callB (cr_sum rfl) (by rfl) B.sum (by decide +kernel) (pa_cons (pe_lc (own := [("turn", 1)]) (g := gName 1) (tt := tYes) rfl nd (pi_tup (pv 0)) (blkOk_by (own := [("turn", 1)]) (N := N_parts_in) (sc := defScope S_parts_in) (by decide +kernel)) (fun _ _ _ _ _ => pg_name (i := 1) nd rfl (Or.inl rfl)) (fun _ _ _ _ _ => pts_nil) (fun _ _ _ _ _ => (pe_ifExp (pt_val (pe_callB (call_isiI K) (by rfl) B.isinstance (by decide +kernel) (pa_cons (pv 1) (pa_cons (pe_bltn (by rfl) B.int (by decide +kernel) (show RelV (.ty "int") (.type "int") from rfl)) pa_nil)))) pe_int (pe_H Cparts_in hr rfl (pa_cons (pv 1) pa_nil))))) pa_nil)))))), ?_⟩
  refine ⟨_, rfl, _, d, rfl, hd, _, rfl, ?_⟩
  refine ite2 (fun c => ?_) (fun c => ?_)
  · have e : sz n d = 1 := by cases d <;> first | exact absurd c Bool.false_ne_true | (cases n <;> rfl)
    rw [e] at q
    exact q H (Same.refl H)
  · cases n with
    | zero =>
      obtain ⟨i, rfl⟩ := hf
      exact absurd rfl c
    | succ k =>
      rcases hf with ⟨i, rfl⟩ | ⟨ds, rfl, hl, hc⟩
      · exact absurd rfl c
      cases hd with
      | @tup a xs _ hs ha =>
        refine ⟨_, rfl, a, rfl, ⟨_, hs⟩, fun D nD => ?_⟩
        have hlen := dps_length ha
        refine lc_tup (xs := xs) (fun i H' => Same H H' ∧ H' D = some (.lst (((ds.take i).map (sz k)).map V.int))) ⟨Same.new nD, upd_same⟩ (fun i H' _ p => (Nd.of p.1).sqt hs) (fun i x H' hx p => ?_) (fun H' p => ?_)
        · obtain ⟨e, hD⟩ := p
          obtain ⟨d1, hd1, hp1⟩ := dps_get ha hx
          have hi : i < ds.length := (List.getElem?_eq_some_iff.mp hd1).1
          have hm : d1 ∈ ds := List.mem_of_getElem? hd1
          have et : ds.take (i + 1) = ds.take i ++ [d1] := by rw [List.take_add_one, hd1]; rfl
          have fin : ∀ H4, Same H' H4 → ∃ acc, H4 D = some (.lst acc) ∧ acc.length < sizeLine ∧ (Same H (upd H4 D (.lst (acc ++ [V.int (sz k d1)]))) ∧ upd H4 D (.lst (acc ++ [V.int (sz k d1)])) D = some (.lst (((ds.take (i + 1)).map (sz k)).map V.int))) := fun H4 e4 => by
            refine ⟨_, e4 _ _ hD, ?_, Same.mut (e.trans e4) nD, ?_⟩
            · rw [List.length_map, List.length_map, List.length_take]
              exact Nat.lt_of_le_of_lt (Nat.min_le_right _ _) (Nat.lt_of_le_of_lt hl (by decide))
            · rw [upd_same, et, List.map_append, List.map_append]
              rfl
          refine ⟨rfl, lcT ?_⟩
          refine ⟨_, rfl, _, d1, rfl, (Nd.of e).d hp1, _, rfl, ?_⟩
          refine ite2 (fun c1 => ?_) (fun c1 => ?_)
          · have e1 : sz k d1 = 1 := by cases d1 <;> first | exact absurd c1 Bool.false_ne_true | (cases k <;> rfl)
            rw [e1] at fin
            exact fin H' (Same.refl H')
          · exact ⟨_, rfl, x, d1, rfl, (Nd.of e).d hp1, hc d1 hm, fun H4 e4 => fin H4 e4⟩
        · obtain ⟨e, hD⟩ := p
          rw [show xs.length = ds.length from hlen, List.take_length] at hD
          refine ⟨_, _, rfl, SqL.of hD, _, _, rfl, rfl, ?_⟩
          exact q H' e
theorem ok_parts (F : Fun K "parts_in" "parts_in" S_parts_in f fd) (B : Blt mg) (b : Binds K fd P_parts_in []) (m : mg "parts_in" = some (.ref f)) : ∀ n : Nat, FnOk P w K mg base CX0 n f fd P_parts_in (spCount K sz n)
  | 0 => fnok_no
  | n + 1 => ok_parts_step F B ⟨f, fd, [], ok_parts F B b m n, F.kp, m, .nil, b⟩
abbrev S__law_size : Stmt := top 14
abbrev N__law_size : List Str := ["_law_form_here", "_law_one"]
abbrev P__law_size : List Str := ["_law_form_here"]
theorem sc__law_size : FnScope N__law_size P__law_size (defScope S__law_size) := ⟨rfl, rfl, rfl, by decide +kernel, rfl, by decide +kernel, by decide +kernel⟩
theorem ok_lsize_step {n : Nat} (F : Fun K "_law_size" "_law_size" S__law_size f fd) (B : Blt mg) (C_law_size : Has P w K mg base n "_law_size" P__law_size [] (spCount K sz n)) : FnOk P w K mg base CX0 (n + 1) f fd P__law_size (spCount K sz (n + 1)) := by
  have nd := sc__law_size.nd
  refine F.ok sc__law_size (fun vs H Q E h => ?_) (fun cdv A outer s H vs Q E hr h => ?_)
  · obtain ⟨v, d, rfl, _⟩ := h
    rfl
  obtain ⟨v, d, rfl, hd, hf, q⟩ := h
  refine ⟨_, (pss_one (ps_ret (pe_ifExp (pt_val (pe_callB (call_isiI K) (by rfl) B.isinstance (by decide +kernel) (pa_cons (pv 0) (pa_cons (pe_bltn (by rfl) B.int (by decide +kernel) (show RelV (.ty "int") (.type "int") from rfl)) pa_nil)))) pe_int (pe_op op_add pe_int (pe_callB (cr_sum rfl) (by rfl) B.sum (by decide +kernel) (pa_cons (pe_lc (own := [("_law_one", 1)]) (g := gName 1) (tt := tYes) rfl nd (pi_tup (pv 0)) (blkOk_by (own := [("_law_one", 1)]) (N := N__law_size) (sc := defScope S__law_size) (by decide +kernel)) (fun _ _ _ _ _ => pg_name (i := 1) nd rfl (Or.inl rfl)) (fun _ _ _ _ _ => pts_nil) (fun _ _ _ _ _ => (pe_H C_law_size hr rfl (pa_cons (pv 1) pa_nil)))) pa_nil)))))), ?_⟩
  refine ⟨_, rfl, _, d, rfl, hd, _, rfl, ?_⟩
  refine ite2 (fun c => ?_) (fun c => ?_)
  · have e : sz n d = 1 := by cases d <;> first | exact absurd c Bool.false_ne_true | (cases n <;> rfl)
    rw [e] at q
    exact q H (Same.refl H)
  · cases n with
    | zero =>
      obtain ⟨i, rfl⟩ := hf
      exact absurd rfl c
    | succ k =>
      rcases hf with ⟨i, rfl⟩ | ⟨ds, rfl, hl, hc⟩
      · exact absurd rfl c
      cases hd with
      | @tup a xs _ hs ha =>
        refine ⟨_, rfl, a, rfl, ⟨_, hs⟩, fun D nD => ?_⟩
        have hlen := dps_length ha
        refine lc_tup (xs := xs) (fun i H' => Same H H' ∧ H' D = some (.lst (((ds.take i).map (sz k)).map V.int))) ⟨Same.new nD, upd_same⟩ (fun i H' _ p => (Nd.of p.1).sqt hs) (fun i x H' hx p => ?_) (fun H' p => ?_)
        · obtain ⟨e, hD⟩ := p
          obtain ⟨d1, hd1, hp1⟩ := dps_get ha hx
          have hi : i < ds.length := (List.getElem?_eq_some_iff.mp hd1).1
          have hm : d1 ∈ ds := List.mem_of_getElem? hd1
          have et : ds.take (i + 1) = ds.take i ++ [d1] := by rw [List.take_add_one, hd1]; rfl
          refine ⟨rfl, lcT ?_⟩
          refine ⟨_, rfl, x, d1, rfl, (Nd.of e).d hp1, hc d1 hm, fun H4 e4 => ?_⟩
          refine ⟨_, e4 _ _ hD, ?_, Same.mut (e.trans e4) nD, ?_⟩
          · rw [List.length_map, List.length_map, List.length_take]
            exact Nat.lt_of_le_of_lt (Nat.min_le_right _ _) (Nat.lt_of_le_of_lt hl (by decide))
          · rw [upd_same, et, List.map_append, List.map_append]
            rfl
        · obtain ⟨e, hD⟩ := p
          rw [show xs.length = ds.length from hlen, List.take_length] at hD
          refine ⟨_, _, rfl, SqL.of hD, _, _, rfl, rfl, ?_⟩
          exact q H' e
theorem ok_lsize (F : Fun K "_law_size" "_law_size" S__law_size f fd) (B : Blt mg) (b : Binds K fd P__law_size []) (m : mg "_law_size" = some (.ref f)) : ∀ n : Nat, FnOk P w K mg base CX0 n f fd P__law_size (spCount K sz n)
  | 0 => fnok_no
  | n + 1 => ok_lsize_step F B ⟨f, fd, [], ok_lsize F B b m n, F.kp, m, .nil, b⟩
abbrev S__law_height : Stmt := top 15
abbrev N__law_height : List Str := ["_law_form_here", "_law_one"]
abbrev P__law_height : List Str := ["_law_form_here"]
theorem sc__law_height : FnScope N__law_height P__law_height (defScope S__law_height) := ⟨rfl, rfl, rfl, by decide +kernel, rfl, by decide +kernel, by decide +kernel⟩
theorem ok_lheight_step {n : Nat} (F : Fun K "_law_height" "_law_height" S__law_height f fd) (B : Blt mg) (C_law_height : Has P w K mg base n "_law_height" P__law_height [] (spHeight K n)) : FnOk P w K mg base CX0 (n + 1) f fd P__law_height (spHeight K (n + 1)) := by
  have nd := sc__law_height.nd
  refine F.ok sc__law_height (fun vs H Q E h => ?_) (fun cdv A outer s H vs Q E hr h => ?_)
  · obtain ⟨v, d, rfl, _⟩ := h
    rfl
  obtain ⟨v, d, rfl, hd, hf, hne, q⟩ := h
  refine ⟨_, (pss_cons (ps_if (pt_val (pe_callB (call_isiI K) (by rfl) B.isinstance (by decide +kernel) (pa_cons (pv 0) (pa_cons (pe_bltn (by rfl) B.int (by decide +kernel) (show RelV (.ty "int") (.type "int") from rfl)) pa_nil)))) (pss_one (ps_ret pe_int)) pss_nil)
    (pss_one (ps_ret (pe_op op_add pe_int (pe_callB (cr_max rfl) (by rfl) B.max (by decide +kernel) (pa_cons (pe_lc (own := [("_law_one", 1)]) (g := gName 1) (tt := tYes) rfl nd (pi_tup (pv 0)) (blkOk_by (own := [("_law_one", 1)]) (N := N__law_height) (sc := defScope S__law_height) (by decide +kernel)) (fun _ _ _ _ _ => pg_name (i := 1) nd rfl (Or.inl rfl)) (fun _ _ _ _ _ => pts_nil) (fun _ _ _ _ _ => (pe_callTy call_intI (by rfl) B.int (by decide +kernel) (pa_cons (pe_H C_law_height hr rfl (pa_cons (pv 1) pa_nil)) pa_nil)))) pa_nil)))))), ?_⟩
  refine ⟨_, rfl, _, d, rfl, hd, _, rfl, ?_⟩
  refine ite2 (fun c => ?_) (fun c => ?_)
  · have e : ht n d = 0 := by cases d <;> first | exact absurd c Bool.false_ne_true | (cases n <;> rfl)
    rw [e] at q
    exact q H (Same.refl H)
  · cases n with
    | zero =>
      obtain ⟨i, rfl⟩ := hf
      exact absurd rfl c
    | succ k =>
      rcases hf with ⟨i, rfl⟩ | ⟨ds, rfl, hl, hc⟩
      · exact absurd rfl c
      obtain ⟨hn0, hne⟩ := hne
      cases hd with
      | @tup a xs _ hs ha =>
        refine ⟨_, rfl, a, rfl, ⟨_, hs⟩, fun D nD => ?_⟩
        have hlen := dps_length ha
        refine lc_tup (xs := xs) (fun i H' => Same H H' ∧ H' D = some (.lst (((ds.take i).map (ht k)).map V.int))) ⟨Same.new nD, upd_same⟩ (fun i H' _ p => (Nd.of p.1).sqt hs) (fun i x H' hx p => ?_) (fun H' p => ?_)
        · obtain ⟨e, hD⟩ := p
          obtain ⟨d1, hd1, hp1⟩ := dps_get ha hx
          have hm : d1 ∈ ds := List.mem_of_getElem? hd1
          have et : ds.take (i + 1) = ds.take i ++ [d1] := by rw [List.take_add_one, hd1]; rfl
          refine ⟨rfl, lcT ?_⟩
          refine ⟨_, rfl, x, d1, rfl, (Nd.of e).d hp1, hc d1 hm, hne d1 hm, fun H4 e4 => ?_⟩
          refine ⟨_, rfl, ?_⟩
          refine ⟨_, e4 _ _ hD, ?_, Same.mut (e.trans e4) nD, ?_⟩
          · rw [List.length_map, List.length_map, List.length_take]
            exact Nat.lt_of_le_of_lt (Nat.min_le_right _ _) (Nat.lt_of_le_of_lt hl (by decide))
          · rw [upd_same, et, List.map_append, List.map_append]
            rfl
        · obtain ⟨e, hD⟩ := p
          rw [show xs.length = ds.length from hlen, List.take_length] at hD
          have hp : 0 < ds.length := List.length_pos_iff.mpr hn0
          refine ⟨_, _, rfl, SqL.of hD, (by rw [List.length_map]; exact hp), fun m hm hle => ?_⟩
          refine ⟨_, _, rfl, rfl, ?_⟩
          have em : maxI (ds.map (ht k)) = m := maxI_eq hm (fun x hx => by obtain ⟨y, _, rfl⟩ := List.mem_map.mp hx; exact ht_nonneg k y) hle
          rw [← em]
          exact q H' e
theorem ok_lheight (F : Fun K "_law_height" "_law_height" S__law_height f fd) (B : Blt mg) (b : Binds K fd P__law_height []) (m : mg "_law_height" = some (.ref f)) : ∀ n : Nat, FnOk P w K mg base CX0 n f fd P__law_height (spHeight K n)
  | 0 => fnok_no
  | n + 1 => ok_lheight_step F B ⟨f, fd, [], ok_lheight F B b m n, F.kp, m, .nil, b⟩
abbrev S_levels_in : Stmt := top 2
abbrev N_levels_in : List Str := ["x", "levels"]
abbrev P_levels_in : List Str := ["x"]
theorem sc_levels_in : FnScope N_levels_in P_levels_in (defScope S_levels_in) := ⟨rfl, rfl, rfl, by decide +kernel, rfl, by decide +kernel, by decide +kernel⟩
theorem ok_levels {n : Nat} (F : Fun K "levels_in" "levels_in" S_levels_in f fd) (B : Blt mg) : FnOk P w K mg base CX0 1 f fd P_levels_in (spLevels K n) := by
  have nd := sc_levels_in.nd
  refine F.ok sc_levels_in (fun vs H Q E h => ?_) (fun cdv A outer s H vs Q E hr h => ?_)
  · obtain ⟨v, d, rfl, _⟩ := h
    rfl
  obtain ⟨v, d, rfl, hd, hf, hs, q⟩ := h
  refine ⟨_, (pss_cons (ps_set (i := 1) nd rfl (Or.inl rfl) pe_int)
    (pss_cons (ps_while PassesOwn.never (pt_not (pt_val (pe_callB (call_isiI K) (by rfl) B.isinstance (by decide +kernel) (pa_cons (pv 0) (pa_cons (pe_bltn (by rfl) B.int (by decide +kernel) (show RelV (.ty "int") (.type "int") from rfl)) pa_nil))))) (pss_cons (ps_set (i := 0) nd rfl (Or.inl rfl) (pe_ix ix_tup (pv 0) (pe_un un_neg pe_int) (fun _ _ => rfl)))
    (pss_one (ps_aug (i := 1) nd rfl (Or.inl rfl) pe_int ip_add))))
    (pss_one (ps_ret (pv 1))))), ?_⟩
  refine ⟨fun m σ H' => ∃ v d' l, σ = [some v, some (.int l)] ∧ Dp K H' v d' ∧ Fm m d' ∧ Sp_ m d' ∧ l + lv m d' = lv n d ∧ Same H H', ⟨n, v, d, 0, rfl, hd, hf, hs, by omega, Same.refl H⟩, ?_⟩
  rintro m σ H' ⟨v, d', l, rfl, hd', hf', hs', ht', e⟩
  refine ⟨_, rfl, _, d', rfl, hd', _, rfl, ?_⟩
  cases m with
  | zero =>
    obtain ⟨i, rfl⟩ := hf'
    have z : lv 0 (.int i) = 0 := rfl
    refine iteF ?_
    refine ⟨_, rfl, ?_⟩
    rw [z, Int.add_zero] at ht'
    rw [ht']
    exact q H' e
  | succ k =>
    rcases hf' with ⟨i, rfl⟩ | ⟨ds, rfl, hl, hc⟩
    · have z : lv (k + 1) (.int i) = 0 := rfl
      refine iteF ?_
      refine ⟨_, rfl, ?_⟩
      rw [z, Int.add_zero] at ht'
      rw [ht']
      exact q H' e
    · refine iteT ?_
      obtain ⟨dl, el, _, hs2⟩ := hs'
      cases hd' with
      | @tup a xs _ hsq ha =>
        obtain ⟨ini, rfl⟩ : ∃ ini, ds = ini ++ [dl] := List.getLast?_eq_some_iff.mp el
        obtain ⟨x, ex, hx⟩ := dps_last ha
        refine ⟨fun σ' H'' => ∃ v d' l, σ' = [some v, some (.int l)] ∧ Dp K H'' v d' ∧ Fm k d' ∧ Sp_ k d' ∧ l + lv k d' = lv n d ∧ Same H H'', fun σ' H'' h => ⟨k, Nat.lt_succ_self k, h⟩, ?_⟩
        refine ⟨_, rfl, _, rfl, a, _, _, _, rfl, rfl, hsq, ex, ?_⟩
        refine ⟨_, rfl, _, _, rfl, rfl, ?_⟩
        refine ⟨x, dl, l + 1, rfl, hx, hc dl (List.mem_append_right _ List.mem_cons_self), hs2, ?_, e⟩
        have z : lv (k + 1) (.tuple (ini ++ [dl])) = 1 + lv k dl := by
          show (match (ini ++ [dl]).getLast? with | some d => 1 + lv k d | none => 1) = _
          rw [el]
        omega
abbrev S_size_of : Stmt := top 4
abbrev N_size_of : List Str := ["x"]
abbrev P_size_of : List Str := ["x"]
theorem sc_size_of : FnScope N_size_of P_size_of (defScope S_size_of) := ⟨rfl, rfl, rfl, by decide +kernel, rfl, by decide +kernel, by decide +kernel⟩
abbrev S_height_of : Stmt := top 5
abbrev N_height_of : List Str := ["x"]
abbrev P_height_of : List Str := ["x"]
theorem sc_height_of : FnScope N_height_of P_height_of (defScope S_height_of) := ⟨rfl, rfl, rfl, by decide +kernel, rfl, by decide +kernel, by decide +kernel⟩
theorem ok_size {n m : Nat} (F : Fun K "size_of" "size_of" S_size_of f fd) (B : Blt mg) (Cparts_in : Has P w K mg base m "parts_in" P_parts_in [] (spCount K sz n)) : FnOk P w K mg base CX0 (m + 1) f fd P_size_of (spCount K sz n) := by
  have nd := sc_size_of.nd
  refine F.ok sc_size_of (fun vs H Q E h => ?_) (fun cdv A outer s H vs Q E hr h => ?_)
  · cases n with
    | zero => exact h.elim
    | succ n => obtain ⟨v, d, rfl, _⟩ := h; rfl
  refine ⟨_, (pss_one (ps_ret (pe_H Cparts_in hr rfl (pa_cons (pv 0) pa_nil)))), ?_⟩
  cases n with
  | zero => exact h.elim
  | succ n =>
    obtain ⟨v, d, rfl, hd, hf, q⟩ := h
    exact ⟨_, rfl, v, d, rfl, hd, hf, q⟩
theorem ok_height {n : Nat} (F : Fun K "height_of" "height_of" S_height_of f fd) (B : Blt mg) (Clevels_in : Has P w K mg base 1 "levels_in" P_levels_in [] (spLevels K n)) : FnOk P w K mg base CX0 2 f fd P_height_of (spLevels K n) := by
  have nd := sc_height_of.nd
  refine F.ok sc_height_of (fun vs H Q E h => ?_) (fun cdv A outer s H vs Q E hr h => ?_)
  · obtain ⟨v, d, rfl, _⟩ := h; rfl
  refine ⟨_, (pss_one (ps_ret (pe_H Clevels_in hr rfl (pa_cons (pv 0) pa_nil)))), ?_⟩
  obtain ⟨v, d, rfl, hd, hf, hs, q⟩ := h
  exact ⟨_, rfl, v, d, rfl, hd, hf, hs, q⟩
end
end Fb
namespace Fb
open PySem L2
section
variable {P : Program} {w : World} {K : PySem.W.Frag} {mg : Str → Option Value} {base : Heap} {f : Addr} {fd : FuncData}
abbrev S__law_draw : Stmt := top 8
abbrev N__law_draw : List Str := ["_law_tape", "_law_limit", "_law_at", "_law_span", "_law_cell", "_law_mixed", "_law_found"]
abbrev P__law_draw : List Str := ["_law_tape", "_law_limit"]
theorem sc__law_draw : FnScope N__law_draw P__law_draw (defScope S__law_draw) := ⟨rfl, rfl, rfl, by decide +kernel, rfl, by decide +kernel, by decide +kernel⟩
theorem ok_draw (F : Fun K "_law_draw" "_law_draw" S__law_draw f fd) (B : Blt mg) : FnOk P w K mg base CX0 1 f fd P__law_draw (spDraw K) := by
  have nd := sc__law_draw.nd
  refine F.ok sc__law_draw (fun vs H Q E h => ?_) (fun cdv A outer s H vs Q E hr h => ?_)
  · obtain ⟨τ, lim, n, rfl, _⟩ := h
    rfl
  obtain ⟨⟨t, c, cs⟩, lim, n, rfl, hT, h0, h9, q⟩ := h
  refine ⟨_, (C8.pss_cut (ps_if (pt_cmpR op_lt (pe_dget (hu_of hr) (pv 0) pe_str (fun _ _ => rfl)) (pv 1) (nomark _)) (pss_cons (ps_par (i := 2) (j := 3) (by rfl) nd rfl rfl (by decide) rfl rfl (pa_cons (pe_dget (hu_of hr) (pv 0) pe_str (fun _ _ => rfl)) (pa_cons (pe_callB call_lenL (by rfl) B.len PySem.boot_len (pa_cons (pe_dget (hu_of hr) (pv 0) pe_str (fun _ _ => rfl)) pa_nil)) pa_nil)) (by rfl))
    (pss_cons (ps_asg (pe_tup (pa_cons (pe_ix ix_list (pe_dget (hu_of hr) (pv 0) pe_str (fun _ _ => rfl)) (pe_op op_modN (pe_callTy call_intI (by rfl) B.int (by decide +kernel) (pa_cons (pv 2) pa_nil)) (pv 3)) (fun _ _ => rfl)) (pa_cons (pe_op op_add (pv 2) pe_int) pa_nil))) (pg_tup rfl (pgs_cons (pg_name (i := 4) nd rfl (Or.inl rfl)) (pgs_cons (pg_sub (pv 0) pe_str (set_dict (hu_of hr))) pgs_nil))))
    (pss_cons (ps_set (i := 5) nd rfl (Or.inl rfl) (pe_op op_add (pe_op op_add (pe_op op_modN (pe_callTy call_intI (by rfl) B.int (by decide +kernel) (pa_cons (pv 4) pa_nil)) pe_int) (pe_op op_mul pe_int (pv 2))) pe_int))
    (pss_cons (ps_dput (hu_of hr) (pv 0) pe_str (pe_op op_modN (pe_callTy call_intI (by rfl) B.int (by decide +kernel) (pa_cons (pe_op op_add (pe_op op_pow (pv 5) pe_int) (pe_op op_mul (pe_op op_mul pe_int (pv 2)) (pv 2))) pa_nil)) (pe_op op_add (pe_op op_pow pe_int pe_int) pe_int)) rfl)
    (pss_one (ps_if (PW.pt (pw_and (pt_cmpR op_ge (pv 4) (pe_op op_pow pe_int pe_int) (nomark _)) (pw_and1 (pt_cmpR op_lt (pv 2) (pv 3) (nomark _))))) (pss_one (ps_dput (hu_of hr) (pv 0) pe_str (pe_op op_sub (pv 4) (pe_op op_pow pe_int pe_int)) rfl)) pss_nil)))))) pss_nil)
    (pss_cons (ps_asg (pe_tup (pa_cons (pe_op op_modN (pe_callTy call_intI (by rfl) B.int (by decide +kernel) (pa_cons (pe_dget (hu_of hr) (pv 0) pe_str (fun _ _ => rfl)) pa_nil)) (pv 1)) (pa_cons (pe_op op_fdivW (pe_dget (hu_of hr) (pv 0) pe_str (fun _ _ => rfl)) (pv 1)) pa_nil))) (pg_tup rfl (pgs_cons (pg_name (i := 6) nd rfl (Or.inl rfl)) (pgs_cons (pg_sub (pv 0) pe_str (set_dict (hu_of hr))) pgs_nil))))
    (pss_one (ps_ret (pv 6))))), ?_⟩
  obtain ⟨a, r, ts, h3, h4, h5, h6, h7⟩ := hT
  replace ts : TS K t c cs a r H := ts
  replace h3 : cs ≠ [] := h3
  have hpos : 0 < cs.length := List.length_pos_iff.mpr h3
  have hlen : ((cs.map V.int).length : Int) = cs.length := by rw [List.length_map]
  refine ⟨fun σ H1 => σ[0]? = some (some (.ref t)) ∧ σ[1]? = some (some (.int lim)) ∧ σ.length = 7 ∧ Nd H H1 ∧ ∃ a' r', TS K t c cs a' r' H1 ∧ 0 ≤ a' ∧ a' ≤ a + 1 ∧ 0 ≤ r', ?_, ?_⟩
  · refine ⟨_, rfl, _, _, rfl, ts.rest, _, rfl, _, _, rfl, rfl, _, rfl, ?_⟩
    refine iteD (fun c1 => ?_) (fun c1 => ?_)
    · refine ⟨_, rfl, _, _, rfl, ts.at_, _, rfl, _, _, rfl, ts.cells, _, _, rfl, ts.s, _, _, rfl, ?_⟩
      obtain ⟨v, hv, hm⟩ := atI_mod (k := a) (by simpa using h3 : cs.map V.int ≠ [])
      obtain ⟨z, hz, rfl⟩ := List.mem_map.mp hm
      refine ⟨_, rfl, _, _, rfl, ts.cells, _, rfl, _, rfl, _, rfl, _, _, rfl, rfl, (by omega), _, _, _, _, rfl, rfl, ts.s, hv, _, rfl, _, _, rfl, rfl, (by show 2 ≤ sizeLine; decide), fun p1 np1 => ?_⟩
      have ts1 := ts.new (o := .tup [.int z, .int (a + 1)]) np1
      refine ⟨_, _, rfl, SqT.of upd_same, rfl, _, _, rfl, _, _, rfl, _, rfl, _, _, rfl, ts1.pat, rfl, ?_⟩
      have ts2 := ts1.put (b := a + 1) (u := r)
      have ex2 : Nd H _ := (Nd.new (o := .tup [.int z, .int (a + 1)]) np1).trans (Nd.tape (o := .dK (tp c (a + 1) r)) ts1.d)
      generalize upd (upd H p1 _) t _ = H2 at ts2 ex2 ⊢
      have m0 : 0 ≤ z.fmod 2305843009213693921 := Int.fmod_nonneg_of_pos _ (by omega)
      have m1 : z.fmod 2305843009213693921 < 2305843009213693921 := Int.fmod_lt_of_pos _ (by omega)
      refine ⟨_, rfl, _, rfl, _, _, rfl, rfl, (by show _ ≠ (0:Int); decide), _, rfl, _, _, rfl, rfl, .inl ⟨by omega, by omega⟩, _, _, rfl, rfl, _, _, rfl, rfl, ?_⟩
      refine ⟨_, rfl, _, _, rfl, rfl, ⟨by omega, by omega, by omega⟩, _, rfl, _, _, rfl, rfl, .inl ⟨by omega, by omega⟩, _, rfl, _, _, rfl, rfl, .inl ⟨by omega, by omega⟩, _, _, rfl, rfl, _, rfl, _, _, rfl, rfl, (by unfold CPow; decide), _, _, rfl, rfl, _, _, rfl, rfl, (by show _ ≠ (0:Int); decide), _, rfl, _, _, rfl, ts2.prest, ?_⟩
      have ts3 := ts2.put (b := a + 1) (u := Int.fmod ((z.fmod 2305843009213693921 + 50119 * a + 23911) ^ (13 : Int).toNat + 91 * a * a) ((10 : Int) ^ (48 : Int).toNat + 193))
      have ex3 := ex2.trans (Nd.tape (o := .dK (tp c (a + 1) (Int.fmod ((z.fmod 2305843009213693921 + 50119 * a + 23911) ^ (13 : Int).toNat + 91 * a * a) ((10 : Int) ^ (48 : Int).toNat + 193)))) ts2.d)
      have nn : 0 ≤ Int.fmod ((z.fmod 2305843009213693921 + 50119 * a + 23911) ^ (13 : Int).toNat + 91 * a * a) ((10 : Int) ^ (48 : Int).toNat + 193) := Int.fmod_nonneg_of_pos _ (by decide +kernel)
      generalize Int.fmod ((z.fmod 2305843009213693921 + 50119 * a + 23911) ^ (13 : Int).toNat + 91 * a * a) ((10 : Int) ^ (48 : Int).toNat + 193) = u3 at ts3 ex3 nn ⊢
      generalize upd H2 t _ = H3 at ts3 ex3 ⊢
      refine ⟨_, rfl, _, _, rfl, rfl, (by unfold CPow; decide), _, _, rfl, rfl, _, rfl, ?_⟩
      refine iteD (fun c2 => ?_) (fun c2 => ?_)
      · refine ⟨_, rfl, _, rfl, _, _, rfl, rfl, _, rfl, ?_⟩
        refine iteD (fun c3 => ?_) (fun c3 => ?_)
        · refine ⟨_, rfl, _, _, rfl, rfl, (by unfold CPow; decide), _, _, rfl, rfl, _, rfl, _, _, rfl, ts3.prest, ?_⟩
          exact ⟨rfl, rfl, rfl, ex3.trans (Nd.tape ts3.d), _, _, ts3.put, by omega, by omega, by omega⟩
        · exact ⟨rfl, rfl, rfl, ex3, _, _, ts3, by omega, by omega, nn⟩
      · refine iteF ?_
        exact ⟨rfl, rfl, rfl, ex3, _, _, ts3, by omega, by omega, nn⟩
    · exact ⟨rfl, rfl, rfl, Nd.refl _, _, _, ts, h5, by omega, h7⟩
  rintro σ H1 ⟨s0, s1, s7, ex, a', r', ts, ha0, ha1, hr0⟩
  refine ⟨_, s0, _, _, rfl, ts.rest, _, rfl, _, s1, _, _, rfl, rfl, (by omega), _, s0, _, _, rfl, ts.rest, _, s1, _, _, rfl, rfl, div_BigL h0 h9, (by show 2 ≤ sizeLine; decide), fun p2 np2 => ?_⟩
  have ts1 := ts.new (o := .tup [.int (r'.fmod lim), .int (r' / lim)]) np2
  have s0' : (σ.set 6 (some (V.int (r'.fmod lim))))[0]? = some (some (.ref t)) := by rw [List.getElem?_set_ne (by decide)]; exact s0
  refine ⟨_, _, rfl, SqT.of upd_same, rfl, _, _, rfl, _, _, rfl, _, s0', _, _, rfl, ts1.prest, rfl, ?_⟩
  have s6 : (σ.set 6 (some (V.int (r'.fmod lim))))[6]? = some (some (V.int (r'.fmod lim))) := by rw [List.getElem?_set_self (by omega)]
  refine ⟨_, s6, ?_⟩
  have ts2 := ts1.put (b := a') (u := r' / lim)
  refine q _ _ (ex.trans ((Nd.new np2).trans (Nd.tape ts1.d))) ⟨a', r' / lim, ts2, h3, h4, ha0, by omega, Int.ediv_nonneg hr0 (by omega)⟩ (Int.fmod_nonneg_of_pos _ h0) (Int.fmod_lt_of_pos _ h0)
abbrev S__law_begin : Stmt := top 7
abbrev N__law_begin : List Str := ["_law_script"]
abbrev P__law_begin : List Str := ["_law_script"]
theorem sc__law_begin : FnScope N__law_begin P__law_begin (defScope S__law_begin) := ⟨rfl, rfl, rfl, by decide +kernel, rfl, by decide +kernel, by decide +kernel⟩
def spBegin (K : PySem.W.Frag) : Sp := fun vs H Q _ => ∃ (a : Addr) (ns : List Int), vs = [.ref a] ∧ SqL K H a (ns.map V.int) ∧ ns.length ≤ 63 ∧ ∀ (τ : Tp) (H' : Hp), Same H H' → Tape K τ (2 ^ 39) H' → Q (.ref τ.t) H'
theorem ok_begin (F : Fun K "_law_begin" "_law_begin" S__law_begin f fd) : FnOk P w K mg base CX0 1 f fd P__law_begin (spBegin K) := by
  have nd := sc__law_begin.nd
  refine F.ok sc__law_begin (fun vs H Q E h => ?_) (fun cdv A outer s H vs Q E hr h => ?_)
  · obtain ⟨a, ns, rfl, _⟩ := h
    rfl
  obtain ⟨a, ns, rfl, hS, h63, q⟩ := h
  refine ⟨_, (pss_one (ps_ret (pe_disp (pps_cons pe_str (pe_orT (pe_slice sl_list (pv 0) po_none (po_some pe_int)) (pe_one (pe_lst (pa_cons pe_int pa_nil)))) (pps_cons pe_str pe_int (pps_cons pe_str pe_int pps_nil))) (by rfl) (by rfl) (fun z => by cases z) (by decide)))), ?_⟩
  refine fun p np => ?_
  have g0 : Same H (upd H p (.dK [])) := Same.new np
  refine ⟨_, rfl, _, rfl, _, _, rfl, g0.seq hS, fun l nl => ?_⟩
  have nlp : p ≠ l := by rintro rfl; rw [upd_same] at nl; cases nl
  have ec : ∃ cs : List Int, cutV (ns.map V.int) none (some 63) = cs.map V.int ∧ cs.length ≤ 63 := by
    unfold cutV
    rw [← List.map_drop, ← List.map_take]
    exact ⟨_, rfl, by rw [List.length_take, List.length_drop]; omega⟩
  obtain ⟨cs, ecs, lcs⟩ := ec
  rw [ecs]
  have fin : ∀ (c : Addr) (zs : List Int) (H2 : Hp), Same H H2 → H2 p = some (.dK []) → H2 c = some (.lst (zs.map V.int)) → zs ≠ [] → zs.length ≤ 63 → Q (.ref p) (upd H2 p (.dK (tp c 0 0))) := fun c zs H2 g e1 e2 n0 n1 => by
    have hn : c ≠ p := by rintro rfl; rw [e1] at e2; cases e2
    refine q ⟨p, c, zs⟩ _ (Same.mut g np) ⟨0, 0, ⟨upd_same, SqL.of (by rw [upd_ne hn]; exact e2)⟩, n0, n1, Int.le_refl _, by decide, Int.le_refl _⟩
  have g1 : Same H (upd (upd H p (.dK [])) l (.lst (cs.map V.int))) := Same.mut g0 (g0.free nl)
  by_cases hz : cs = []
  · subst hz
    refine ⟨false, .inl ⟨_, SqL.of upd_same, rfl⟩, iteF ?_⟩
    refine ⟨(by show 1 ≤ sizeLine; decide), fun l2 nl2 => ?_⟩
    have ep : (upd (upd H p (.dK [])) l (.lst (List.map V.int []))) p = some (.dK []) := by rw [upd_ne nlp, upd_same]
    have nlp2 : p ≠ l2 := by rintro rfl; rw [ep] at nl2; cases nl2
    refine ⟨(by rw [upd_ne nlp2]; exact ep), [(.inr "cells", .ref l2), (.inr "at", .int 0), (.inr "rest", .int 0)], rfl, (by show 3 ≤ 15; decide), ?_⟩
    exact fin l2 [0] _ (Same.mut g1 (g1.free nl2)) (by rw [upd_ne nlp2]; exact ep) upd_same (by decide) (by decide)
  · refine ⟨true, .inl ⟨_, SqL.of upd_same, ?_⟩, iteT ?_⟩
    · cases cs with
      | nil => exact absurd rfl hz
      | cons z zs => rfl
    have ep : (upd (upd H p (.dK [])) l (.lst (cs.map V.int))) p = some (.dK []) := by rw [upd_ne nlp, upd_same]
    refine ⟨ep, [(.inr "cells", .ref l), (.inr "at", .int 0), (.inr "rest", .int 0)], rfl, (by show 3 ≤ 15; decide), ?_⟩
    exact fin l cs _ g1 ep upd_same hz lcs
abbrev S__law_pick : Stmt := top 9
abbrev N__law_pick : List Str := ["_law_tape", "_law_some"]
abbrev P__law_pick : List Str := ["_law_tape", "_law_some"]
theorem sc__law_pick : FnScope N__law_pick P__law_pick (defScope S__law_pick) := ⟨rfl, rfl, rfl, by decide +kernel, rfl, by decide +kernel, by decide +kernel⟩
def spPick (K : PySem.W.Frag) : Sp := fun vs H Q _ => ∃ (τ : Tp) (l : Addr) (xs : List V) (n : Nat), vs = [.ref τ.t, .ref l] ∧ SqL K H l xs ∧ xs ≠ [] ∧ xs.length ≤ 100000 ∧ Tape K τ (n + 1) H ∧ ∀ (x : V) (i : Nat) (H' : Hp), Nd H H' → Tape K τ n H' → xs[i]? = some x → Q x H'
theorem ok_pick (F : Fun K "_law_pick" "_law_pick" S__law_pick f fd) (B : Blt mg) (C_law_draw : Has P w K mg base 1 "_law_draw" P__law_draw [] (spDraw K)) : FnOk P w K mg base CX0 2 f fd P__law_pick (spPick K) := by
  have nd := sc__law_pick.nd
  refine F.ok sc__law_pick (fun vs H Q E h => ?_) (fun cdv A outer s H vs Q E hr h => ?_)
  · obtain ⟨t, l, xs, n, rfl, _⟩ := h
    rfl
  obtain ⟨t, l, xs, n, rfl, hS, h0, h1, hT, q⟩ := h
  refine ⟨_, (pss_one (ps_ret (pe_ix ix_list (pv 1) (pe_H C_law_draw (hr.mono (by decide)) rfl (pa_cons (pv 0) (pa_cons (pe_callB call_lenL (by rfl) B.len PySem.boot_len (pa_cons (pv 1) pa_nil)) pa_nil))) (fun _ _ => rfl)))), ?_⟩
  have hp : 0 < xs.length := List.length_pos_iff.mpr h0
  refine ⟨_, rfl, _, rfl, _, rfl, _, _, rfl, hS, t, _, n, rfl, hT, (by omega), lt_BigL (by omega), fun d H' e hT' d0 d1 => ?_⟩
  obtain ⟨j, rfl⟩ := Int.eq_ofNat_of_zero_le d0
  have hj : j < xs.length := by omega
  refine ⟨_, _, _, _, rfl, rfl, e.sql hS, atI_nat (List.getElem?_eq_getElem hj), ?_⟩
  exact q _ j _ e hT' (List.getElem?_eq_getElem hj)
/-! ### turns, ints, forms -/
abbrev S__law_turns : Stmt := top 10
abbrev N__law_turns : List Str := ["_law_number", "_law_marks", "_law_found", "_law_low"]
abbrev P__law_turns : List Str := ["_law_number"]
theorem sc__law_turns : FnScope N__law_turns P__law_turns (defScope S__law_turns) := ⟨rfl, rfl, rfl, by decide +kernel, rfl, by decide +kernel, by decide +kernel⟩
def spTurns : Sp := fun vs H Q _ => ∃ x : Int, vs = [.int x] ∧ InB x ∧ ∀ (p : Addr) (H' : Hp), Same H H' → H p = none → H' p = some (.lst (nI (turnsN x))) → Q (.ref p) H'
theorem ok_turns (F : Fun K "_law_turns" "_law_turns" S__law_turns f fd) : FnOk P w K mg base CX0 1 f fd P__law_turns spTurns := by
  have nd := sc__law_turns.nd
  refine F.ok sc__law_turns (fun vs H Q E h => ?_) (fun cdv A outer s H vs Q E hr h => ?_)
  · obtain ⟨x, rfl, _⟩ := h
    rfl
  obtain ⟨x, rfl, hx, q⟩ := h
  refine ⟨_, (pss_cons (ps_par (i := 1) (j := 2) (by rfl) nd rfl rfl (by decide) rfl rfl (pa_cons (pe_op op_xor (pv 0) (pe_op op_mul (pv 0) pe_int)) (pa_cons (pe_lst pa_nil) pa_nil)) (by rfl))
    (pss_cons (ps_while PassesOwn.never (pt_cmpR op_ne (pv 1) pe_int (nomark _)) (pss_cons (ps_set (i := 3) nd rfl (Or.inl rfl) (pe_op op_and (pv 1) (pe_un un_neg (pv 1))))
    (pss_cons (ps_expr (pe_bm PySem.F.plainAttrs_list PySem.F.slot_list_append PySem.F.type_list_append mt_append (pv 2) (pa_cons (pe_op op_sub (pe_bits (pv 3)) pe_int) pa_nil)))
    (pss_one (ps_set (i := 1) nd rfl (Or.inl rfl) (pe_op op_sub (pv 1) (pv 3)))))))
    (pss_one (ps_ret (pv 2))))), ?_⟩
  refine ⟨_, rfl, _, rfl, _, _, rfl, rfl, .inr ⟨by decide, by decide⟩, _, _, rfl, rfl, (by show 0 ≤ sizeLine; decide), fun p np => ?_⟩
  refine ⟨_, _, rfl, ?_⟩
  refine ⟨fun m σ H' => ∃ (z : Option V) (done : List Nat), σ = [some (.int x), some (.int (m : Int)), some (.ref p), z] ∧ H' p = some (.lst (nI done)) ∧ done ++ ones m = turnsN x ∧ Same H H', ⟨marks x, _, [], (by rw [← marks_val x]; rfl), upd_same, rfl, Same.new np⟩, ?_⟩
  rintro m σ H' ⟨z, done, rfl, hp, hd, e⟩
  refine ⟨_, rfl, rfl, _, rfl, ?_⟩
  refine iteDN (fun c => ?_) (fun c => ?_)
  · have hm : m ≠ 0 := fun h => c (by rw [h]; rfl)
    obtain ⟨k, k1, k2, k3⟩ := marks_low hm
    refine ⟨fun σ' H'' => ∃ (z : Option V) (done : List Nat), σ' = [some (.int x), some (.int ((m - 2 ^ k : Nat) : Int)), some (.ref p), z] ∧ H'' p = some (.lst (nI done)) ∧ done ++ ones (m - 2 ^ k) = turnsN x ∧ Same H H'', fun σ' H'' h => ⟨m - 2 ^ k, Nat.sub_lt (by omega) (Nat.two_pow_pos k), h⟩, ?_⟩
    refine ⟨_, rfl, _, rfl, _, rfl, _, _, rfl, rfl, ?_⟩
    have hb : (Builtin.Int.intBits (Builtin.bitAnd (m : Int) (-(m : Int))) : Int) - 1 = k := by
      rw [k1]
      unfold Builtin.Int.intBits
      have h0 : ((2 : Int) ^ k == 0) = false := beq_false_of_ne (Int.ne_of_gt (Int.pow_pos (by decide)))
      rw [h0]
      have h1 : ((2 : Int) ^ k).natAbs = 2 ^ k := by rw [Int.natAbs_pow]; rfl
      rw [h1, Nat.log2_two_pow]
      simp
    have hlen : (nI done).length < sizeLine := by
      have h1 := turns_len (n := 5000) hx.1 hx.2
      rw [← hd, List.length_append] at h1
      unfold nI
      rw [List.length_map]
      exact Nat.lt_of_le_of_lt (show done.length ≤ 5001 by omega) (by decide)
    refine ⟨_, rfl, .inl ⟨rfl, _, SqL.of hp⟩, _, rfl, _, rfl, _, _, rfl, rfl, p, _, _, rfl, rfl, hp, hlen, ?_⟩
    refine ⟨_, rfl, _, rfl, _, _, rfl, rfl, ?_⟩
    have hc : (m : Int) - Builtin.bitAnd (m : Int) (-(m : Int)) = ((m - 2 ^ k : Nat) : Int) := by
      rw [k1]
      have h2 : ((2 ^ k : Nat) : Int) = (2 : Int) ^ k := Int.natCast_pow 2 k
      omega
    refine ⟨some (.int (Builtin.bitAnd (m : Int) (-(m : Int)))), done ++ [k], by rw [← hc]; rfl, ?_, ?_, Same.mut e np⟩
    · rw [upd_same]
      show some (HO.lst (nI done ++ [V.int ((Builtin.Int.intBits (Builtin.bitAnd (m : Int) (-(m : Int))) : Int) - 1)])) = _
      rw [hb]
      unfold nI
      rw [List.map_append]
      rfl
    · rw [List.append_assoc, ← hd, k3]
      rfl
  · have hm : m = 0 := by injection c with c; omega
    subst hm
    rw [ones_zero, List.append_nil] at hd
    subst hd
    exact ⟨_, rfl, q p H' e np hp⟩
abbrev S__law_int : Stmt := top 11
abbrev N__law_int : List Str := ["_law_places", "_law_total", "_law_sign", "_law_turn"]
abbrev P__law_int : List Str := ["_law_places"]
theorem sc__law_int : FnScope N__law_int P__law_int (defScope S__law_int) := ⟨rfl, rfl, rfl, by decide +kernel, rfl, by decide +kernel, by decide +kernel⟩
def spInt (K : PySem.W.Frag) : Sp := fun vs H Q _ => ∃ (a : Addr) (ns : List Nat), vs = [.ref a] ∧ SqL K H a (nI ns) ∧ (∀ n ∈ ns, n ≤ 10000) ∧ ∀ H' : Hp, Same H H' → Q (.int (alt (-1) ns)) H'
theorem ok_int (F : Fun K "_law_int" "_law_int" S__law_int f fd) : FnOk P w K mg base CX0 1 f fd P__law_int (spInt K) := by
  have nd := sc__law_int.nd
  refine F.ok sc__law_int (fun vs H Q E h => ?_) (fun cdv A outer s H vs Q E hr h => ?_)
  · obtain ⟨a, ns, rfl, _⟩ := h
    rfl
  obtain ⟨a, ns, rfl, hS, hn, q⟩ := h
  refine ⟨_, (pss_cons (ps_asg (pe_tup (pa_cons pe_int (pa_cons (pe_un un_neg pe_int) pa_nil))) (pg_tup rfl (pgs_cons (pg_name (i := 1) nd rfl (Or.inl rfl)) (pgs_cons (pg_name (i := 2) nd rfl (Or.inl rfl)) pgs_nil))))
    (pss_cons (ps_for PassesOwn.never rfl (pi_list (pv 0)) (pg_name (i := 3) nd rfl (Or.inl rfl)) (pss_one (ps_par (i := 1) (j := 2) (by rfl) nd rfl rfl (by decide) rfl rfl (pa_cons (pe_op op_add (pv 1) (pe_op op_mul (pv 2) (pe_op op_shl pe_int (pv 3)))) (pa_cons (pe_un un_neg (pv 2)) pa_nil)) (by rfl))))
    (pss_one (ps_ret (pv 1))))), ?_⟩
  refine ⟨_, rfl, (by show 2 ≤ sizeLine; decide), fun p np => ?_⟩
  have g0 : Same H (upd H p (.tup [.int 0, .int (-1)])) := Same.new np
  have hS0 := hS
  replace hS := g0.seq hS
  refine ⟨_, _, rfl, SqT.of upd_same, rfl, _, _, rfl, _, _, rfl, rfl, ?_⟩
  generalize upd H p _ = H0 at g0 hS ⊢
  refine ⟨_, rfl, _, rfl, ⟨_, hS⟩, ?_⟩
  refine for_list (xs := nI ns) (fun i σ H' => ∃ (tot sg : Int) (z : Option V), σ = [some (.ref a), some (.int tot), some (.int sg), z] ∧ (sg = 1 ∨ sg = -1) ∧ tot + alt sg (ns.drop i) = alt (-1) ns ∧ H' = H0)
    ⟨0, -1, _, rfl, .inr rfl, by rw [List.drop_zero]; omega, rfl⟩ (fun i σ H' _ p => ?_) (fun i x σ H' hx p => ?_) (fun σ H' p => ?_)
  · obtain ⟨_, _, _, _, _, _, rfl⟩ := p
    exact hS
  · obtain ⟨tot, sg, z, rfl, hsg, ht, rfl⟩ := p
    unfold nI at hx
    rw [List.getElem?_map] at hx
    obtain ⟨n, hn1, rfl⟩ := Option.map_eq_some_iff.mp hx
    have hi : i < ns.length := (List.getElem?_eq_some_iff.mp hn1).1
    have ed : ns.drop i = n :: ns.drop (i + 1) := by
      rw [List.drop_eq_getElem_cons hi]
      rw [List.getElem?_eq_getElem hi] at hn1
      injection hn1 with h; rw [h]
    have hb := hn n (List.mem_of_getElem? hn1)
    refine ⟨_, rfl, _, rfl, _, rfl, _, _, rfl, rfl, ⟨by omega, by omega, by decide⟩, _, _, rfl, rfl, .inl ⟨by omega, by omega⟩, _, _, rfl, rfl, _, rfl, _, rfl, _, _, rfl, ?_⟩
    refine ⟨_, -sg, _, rfl, by omega, ?_, rfl⟩
    rw [ed] at ht
    have ht' : tot + (sg * 2 ^ n + alt (-sg) (ns.drop (i + 1))) = alt (-1) ns := ht
    rw [show ((n : Int)).toNat = n from rfl, Int.one_mul]
    omega
  · obtain ⟨tot, sg, z, rfl, hsg, ht, rfl⟩ := p
    refine ⟨_, rfl, ?_⟩
    have e0 : alt sg (ns.drop (nI ns).length) = 0 := by
      unfold nI
      rw [List.length_map, List.drop_length]
      rfl
    rw [e0, Int.add_zero] at ht
    rw [ht]
    exact q _ g0
abbrev S__law_form : Stmt := top 12
abbrev N__law_form : List Str := ["_law_number"]
abbrev P__law_form : List Str := ["_law_number"]
theorem sc__law_form : FnScope N__law_form P__law_form (defScope S__law_form) := ⟨rfl, rfl, rfl, by decide +kernel, rfl, by decide +kernel, by decide +kernel⟩
def spForm (K : PySem.W.Frag) : Sp := fun vs H Q _ => ∃ x : Int, vs = [.int x] ∧ InB x ∧ ∀ (v : V) (H' : Hp), Same H H' → Dp K H' v (formD x) → Q v H'
theorem ok_form (F : Fun K "_law_form" "_law_form" S__law_form f fd) (B : Blt mg) (C_law_turns : Has P w K mg base 1 "_law_turns" P__law_turns [] spTurns) : FnOk P w K mg base CX0 2 f fd P__law_form (spForm K) := by
  have nd := sc__law_form.nd
  refine F.ok sc__law_form (fun vs H Q E h => ?_) (fun cdv A outer s H vs Q E hr h => ?_)
  · obtain ⟨x, rfl, _⟩ := h
    rfl
  obtain ⟨x, rfl, hx, q⟩ := h
  refine ⟨_, (pss_one (ps_ret (pe_ifExp (pt_chain op_le op_lt (pe_un un_neg (pe_op op_pow pe_int pe_int)) (pv 0) (pe_op op_pow pe_int pe_int)) (pv 0) (pe_callTy call_tupL (by rfl) B.tuple (by decide +kernel) (pa_cons (pe_H C_law_turns (hr.mono (by decide)) rfl (pa_cons (pv 0) pa_nil)) pa_nil))))), ?_⟩
  have far : ¬ plain x → ∀ (p p' : Addr) (H' : Hp), Same H H' → H p = none → H' p = some (.lst (nI (turnsN x))) → H' p' = none → Q (.ref p') (upd H' p' (.tup (nI (turnsN x)))) := fun hn p p' H' e np hp np' => by
    refine q _ _ (e.trans (Same.new np')) ?_
    unfold formD
    rw [if_neg hn]
    exact .tup (SqT.of upd_same) (dps_n _)
  refine ⟨_, _, rfl, rfl, (by unfold CPow; decide), _, rfl, _, rfl, _, _, rfl, rfl, _, rfl, ?_⟩
  refine iteD (fun c => ?_) (fun c => ?_)
  · refine ⟨_, _, rfl, rfl, (by unfold CPow; decide), _, _, rfl, rfl, _, rfl, ?_⟩
    refine iteD (fun c2 => ?_) (fun c2 => ?_)
    · refine ⟨_, rfl, ?_⟩
      have hp : plain x := ⟨c, c2⟩
      refine q _ _ (Same.refl _) ?_
      unfold formD
      rw [if_pos hp]
      exact .int x
    · refine ⟨_, rfl, x, rfl, hx, fun p H' e np hp => ?_⟩
      exact ⟨_, _, rfl, SqL.of hp, fun p' np' => far (fun h => c2 h.2) p p' H' e np hp np'⟩
  · refine ⟨_, rfl, ?_⟩
    refine iteF ?_
    refine ⟨_, rfl, x, rfl, hx, fun p H' e np hp => ?_⟩
    exact ⟨_, _, rfl, SqL.of hp, fun p' np' => far (fun h => c h.1) p p' H' e np hp np'⟩
end
end Fb
namespace Fb
open PySem L2
section
variable {P : Program} {w : World} {K : PySem.W.Frag} {mg : Str → Option Value} {base : Heap} {f : Addr} {fd : FuncData}
abbrev S__law_row_form : Stmt := top 13
abbrev N__law_row_form : List Str := ["_law_places"]
abbrev P__law_row_form : List Str := ["_law_places"]
theorem sc__law_row_form : FnScope N__law_row_form P__law_row_form (defScope S__law_row_form) := ⟨rfl, rfl, rfl, by decide +kernel, rfl, by decide +kernel, by decide +kernel⟩
def spRow (K : PySem.W.Frag) : Sp := fun vs H Q _ => ∃ (a : Addr) (xs : List V) (ds : List PyData) (n : Nat), vs = [.ref a] ∧ SqL K H a xs ∧ DpAll K H xs ds ∧ n ≤ 40 ∧ (∀ d ∈ ds, Fm n d) ∧ RowC ds ∧ ∀ (v : V) (H' : Hp), Same H H' → Dp K H' v (rowD ds) → Q v H'
theorem ok_row (F : Fun K "_law_row_form" "_law_row_form" S__law_row_form f fd) (B : Blt mg) (C_law_int : Has P w K mg base 1 "_law_int" P__law_int [] (spInt K)) : FnOk P w K mg base CX0 2 f fd P__law_row_form (spRow K) := by
  have nd := sc__law_row_form.nd
  refine F.ok sc__law_row_form (fun vs H Q E h => ?_) (fun cdv A outer s H vs Q E hr h => ?_)
  · obtain ⟨a, xs, ds, n, rfl, _⟩ := h
    rfl
  obtain ⟨a, xs, ds, n, rfl, hS, hd, n40, hf, hrow, q⟩ := h
  refine ⟨_, (pss_cons (ps_if (PW.pt (pw_or (pt_cmpR (op_eqD hr.units) (pv 0) (pe_lst pa_nil) (nomark _)) (pw_or1 (PW.pt (pw_and (pt_val (pe_callB (call_isiI K) (by rfl) B.isinstance (by decide +kernel) (pa_cons (pe_ix ix_list (pv 0) (pe_un un_neg pe_int) (fun _ _ => rfl)) (pa_cons (pe_bltn (by rfl) B.int (by decide +kernel) (show RelV (.ty "int") (.type "int") from rfl)) pa_nil)))) (pw_and1 (pt_cmpR op_le (pe_ix ix_list (pv 0) (pe_un un_neg pe_int) (fun _ _ => rfl)) pe_int (nomark _)))))))) (pss_one (ps_ret (pe_H C_law_int (hr.mono (by decide)) rfl (pa_cons (pv 0) pa_nil)))) pss_nil)
    (pss_one (ps_ret (pe_callTy call_tupL (by rfl) B.tuple (by decide +kernel) (pa_cons (pv 0) pa_nil))))), ?_⟩
  refine ⟨_, rfl, (by show 0 ≤ sizeLine; decide), fun p np => ?_⟩
  have g0 : Same H (upd H p (.lst [])) := Same.new np
  have hS' : SqL K (upd H p (.lst [])) a xs := g0.seq hS
  have hd' : DpAll K (upd H p (.lst [])) xs ds := (Nd.of g0).ds hd
  refine ⟨.list ds, .list [], .lst hS' hd', .lst (SqL.of upd_same) .nil, shaped_list n40 hf, shaped_nil, _, rfl, ?_⟩
  generalize upd H p _ = H1 at g0 hS' hd' ⊢
  rw [eqv_nil]
  rcases List.eq_nil_or_concat ds with rfl | ⟨m, dl, rfl⟩
  · cases hd'
    refine iteT ?_
    exact ⟨_, rfl, a, [], rfl, hS', (fun n hn => by cases hn), fun H' e => q _ _ (g0.trans e) (.int _)⟩
  · rw [List.concat_eq_append] at *
    have ee : (m ++ [dl]).isEmpty = false := by cases m <;> rfl
    rw [ee]
    refine iteF ?_
    obtain ⟨x, ex, hx⟩ := dps_last hd'
    have el : (m ++ [dl]).getLast? = some dl := List.getLast?_concat ..
    have far : isNear dl = false → ∀ l, H1 l = none → Q (.ref l) (upd H1 l (.tup xs)) := fun hn l nl => by
      refine q _ _ (g0.trans (Same.new nl)) ?_
      rw [rowD_far el hn]
      exact .tup (SqT.of upd_same) ((Nd.new nl).ds hd')
    refine ⟨_, rfl, _, rfl, a, _, _, _, rfl, rfl, hS', ex, _, dl, rfl, hx, _, rfl, ?_⟩
    cases dl with
    | int i =>
      cases hx
      refine iteT ?_
      refine ⟨_, rfl, _, rfl, a, _, _, _, rfl, rfl, hS', ex, _, _, rfl, rfl, _, rfl, ?_⟩
      refine iteD (fun c => ?_) (fun c => ?_)
      · have hn : isNear (.int i) = true := decide_eq_true c
        obtain ⟨ns, e, hb⟩ := hrow _ el hn
        rw [e] at hd' el q
        have exs := dps_n_inv hd'
        rw [exs] at hS'
        refine ⟨_, rfl, a, ns, rfl, hS', (fun n hn => Nat.le_trans (hb n hn) (by decide)), fun H' e => q _ _ (g0.trans e) ?_⟩
        rw [rowD_near el hn]
        exact .int _
      · exact ⟨_, rfl, a, xs, rfl, hS', far (decide_eq_false c)⟩
    | bool b => exact (fm_bool (hf (.bool b) (by simp))).elim
    | none => exact iteF ⟨_, rfl, a, xs, rfl, hS', far rfl⟩
    | str z => exact iteF ⟨_, rfl, a, xs, rfl, hS', far rfl⟩
    | list z => exact iteF ⟨_, rfl, a, xs, rfl, hS', far rfl⟩
    | tuple z => exact iteF ⟨_, rfl, a, xs, rfl, hS', far rfl⟩
    | dict z => exact iteF ⟨_, rfl, a, xs, rfl, hS', far rfl⟩
abbrev S__law_moved : Stmt := top 17
abbrev N__law_moved : List Str := ["_law_code_here", "_law_fields_here", "_law_places", "_law_turn", "_law_field", "_law_step"]
abbrev P__law_moved : List Str := ["_law_code_here", "_law_fields_here"]
theorem sc__law_moved : FnScope N__law_moved P__law_moved (defScope S__law_moved) := ⟨rfl, rfl, rfl, by decide +kernel, rfl, by decide +kernel, by decide +kernel⟩
def spMoved (K : PySem.W.Frag) : Sp := fun vs H Q _ => ∃ (c : Int) (b : Addr) (ys : List V) (fs : List PyData) (m : Nat), vs = [.int c, .ref b] ∧ SqL K H b ys ∧ DpAll K H ys (fs.take m) ∧ Fields fs ∧ (∀ p ∈ turnsN c, p / 200 < m) ∧ 0 ≤ c ∧ c < 2 ^ 799 ∧ ∀ (v : V) (H' : Hp), Same H H' → Dp K H' v (movedD fs c) → Q v H'
theorem fields_at {fs : List PyData} (F : Fields fs) {i : Nat} {d : PyData} (h : fs[i]? = some d) : (∃ a : Int, d = .int a ∧ 0 ≤ a ∧ a < 2 ^ 64) ∨ ∃ ts, d = .tuple ts ∧ ts ≠ [] ∧ ts.length ≤ 50 := by
  obtain ⟨a, low, g, f2, f3, rfl, a0, a1, _, _, _, _, k2, k3⟩ := F.ex
  obtain ⟨t2, rfl, l2, _, d2, e2, _⟩ := f2_ok (n := 0) k2
  obtain ⟨t3, h3, rfl, h1, l3, _, d3, e3, _⟩ := f3_ok (n := 0) k2 k3
  match i, h with
  | 0, h => cases h; exact .inl ⟨0, rfl, by decide, by decide⟩
  | 1, h => cases h; exact .inl ⟨a, rfl, by omega, a1⟩
  | 2, h => cases h; exact .inr ⟨t2, rfl, fun z => (by rw [z] at e2; cases e2), l2⟩
  | 3, h => cases h; exact .inr ⟨t3, rfl, fun z => (by rw [z] at e3; cases e3), l3⟩
  | n + 4, h => simp at h
theorem ok_moved (F : Fun K "_law_moved" "_law_moved" S__law_moved f fd) (B : Blt mg) (C_law_turns : Has P w K mg base 1 "_law_turns" P__law_turns [] spTurns) (C_law_form : Has P w K mg base 2 "_law_form" P__law_form [] (spForm K))
    (C_law_row_form : Has P w K mg base 2 "_law_row_form" P__law_row_form [] (spRow K)) : FnOk P w K mg base CX0 3 f fd P__law_moved (spMoved K) := by
  have nd := sc__law_moved.nd
  refine F.ok sc__law_moved (fun vs H Q E h => ?_) (fun cdv A outer s H vs Q E hr h => ?_)
  · obtain ⟨c, b, ys, fs, m, rfl, _⟩ := h
    rfl
  obtain ⟨c, b, ys, fs, m, rfl, hS, hd, Fs, hm, c0, c8, q⟩ := h
  refine ⟨_, (pss_cons (ps_set (i := 2) nd rfl (Or.inl rfl) (pe_lst pa_nil))
    (pss_cons (ps_for PassesOwn.never rfl (pi_list (pe_H C_law_turns (hr.mono (by decide)) rfl (pa_cons (pv 0) pa_nil))) (pg_name (i := 3) nd rfl (Or.inl rfl)) (pss_cons (ps_par (i := 4) (j := 5) (by rfl) nd rfl rfl (by decide) rfl rfl (pa_cons (pe_ix ix_list (pv 1) (pe_op op_fdivW (pv 3) pe_int) (fun _ _ => rfl)) (pa_cons (pe_op op_sub (pv 3) (pe_op op_mul (pe_op op_fdivW (pv 3) pe_int) pe_int)) pa_nil)) (by rfl))
    (pss_one (ps_if (pt_val (pe_callB (call_isiI K) (by rfl) B.isinstance (by decide +kernel) (pa_cons (pv 4) (pa_cons (pe_bltn (by rfl) B.int (by decide +kernel) (show RelV (.ty "int") (.type "int") from rfl)) pa_nil)))) (pss_one (ps_expr (pe_bm PySem.F.plainAttrs_list PySem.F.slot_list_append PySem.F.type_list_append mt_append (pv 2) (pa_cons (pe_H C_law_form (hr.mono (by decide)) rfl (pa_cons (pe_op op_add (pv 4) (pv 5)) pa_nil)) pa_nil)))) (pss_one (ps_expr (pe_bm PySem.F.plainAttrs_list PySem.F.slot_list_append PySem.F.type_list_append mt_append (pv 2) (pa_cons (pe_op op_catA (pe_callTy call_tupL (by rfl) B.tuple (by decide +kernel) (pa_cons (pe_H C_law_turns (hr.mono (by decide)) rfl (pa_cons (pv 5) pa_nil)) pa_nil)) (pv 4)) pa_nil))))))))
    (pss_one (ps_ret (pe_H C_law_row_form (hr.mono (by decide)) rfl (pa_cons (pv 2) pa_nil)))))), ?_⟩
  have t8 := turns_800 c0 c8
  have inb : InB c := by
    refine InB.of (n := 799) ?_ c8 (by decide)
    generalize (2 : Int) ^ 799 = B at c8 ⊢
    omega
  refine ⟨(by show 0 ≤ sizeLine; decide), fun p np => ?_⟩
  refine ⟨_, rfl, c, rfl, inb, fun l H1 e1 nl hl => ?_⟩
  have g0 : Same H (upd H p (.lst [])) := Same.new np
  have npl : p ≠ l := by rintro rfl; rw [upd_same] at nl; cases nl
  have hp1 : H1 p = some (.lst []) := e1 _ _ upd_same
  have g1 : Same H H1 := g0.trans e1
  refine ⟨_, rfl, ⟨_, SqL.of hl⟩, ?_⟩
  have hlen : (nI (turnsN c)).length = (turnsN c).length := by unfold nI; rw [List.length_map]
  refine for_list (xs := nI (turnsN c)) (fun i σ H' => ∃ (z1 z2 z3 : Option V) (xs : List V), σ = [some (.int c), some (.ref b), some (.ref p), z1, z2, z3] ∧ Same H H' ∧ H' l = some (.lst (nI (turnsN c))) ∧ H' p = some (.lst xs) ∧ DpAll K H' xs (((turnsN c).take i).map (placeD fs)))
    ⟨_, _, _, [], rfl, g1, hl, hp1, .nil⟩ (fun i σ H' _ h => ?_) (fun i x σ H' hx h => ?_) (fun σ H' h => ?_)
  · obtain ⟨_, _, _, _, _, _, h, _⟩ := h
    exact SqL.of h
  · obtain ⟨z1, z2, z3, xs, rfl, e, hl', hp, hds⟩ := h
    unfold nI at hx
    rw [List.getElem?_map] at hx
    obtain ⟨t, ht, rfl⟩ := Option.map_eq_some_iff.mp hx
    have htm : t ∈ turnsN c := List.mem_of_getElem? ht
    have t2 := t8 t htm
    have tm := hm t htm
    have et : (turnsN c).take (i + 1) = (turnsN c).take i ++ [t] := by rw [List.take_add_one, ht]; rfl
    have hxl : xs.length < sizeLine := by
      rw [dps_length hds, List.length_map, List.length_take]
      exact Nat.lt_of_le_of_lt (Nat.min_le_right _ _) (Nat.lt_of_le_of_lt (len_turns c0 c8) (by decide))
    have q0 : (t : Int) / 200 = ((t / 200 : Nat) : Int) := by omega
    have st : (t : Int) - ((t : Int) / 200) * 200 = ((t % 200 : Nat) : Int) := by omega
    have lf : fs.length = 4 := by obtain ⟨_, _, _, _, _, rfl, _⟩ := Fs.ex; rfl
    have hty : ∃ d, (fs.take m)[t / 200]? = some d ∧ fs[t / 200]? = some d := by
      have h1 : t / 200 < fs.length := by omega
      have h2 : t / 200 < (fs.take m).length := by rw [List.length_take]; omega
      refine ⟨_, List.getElem?_eq_getElem h2, ?_⟩
      rw [List.getElem_take]
      exact List.getElem?_eq_getElem h1
    obtain ⟨d, hd1, hd2⟩ := hty
    have hdy := (Nd.of e).ds hd
    obtain ⟨y, ey⟩ : ∃ y, ys[t / 200]? = some y := by
      have yl : t / 200 < ys.length := by
        rw [dps_length hd]
        exact (List.getElem?_eq_some_iff.mp hd1).1
      exact ⟨_, List.getElem?_eq_getElem yl⟩
    obtain ⟨d', hd', hdp⟩ := dps_get hdy ey
    rw [hd1] at hd'
    cases hd'
    refine ⟨_, rfl, _, rfl, _, _, rfl, rfl, ⟨by decide, by decide +kernel⟩, b, _, _, _, rfl, rfl, e.seq hS, (by rw [q0]; exact atI_nat ey), _, rfl, _, rfl, _, _, rfl, rfl, ⟨by decide, by decide +kernel⟩, _, _, rfl, rfl, .inl ⟨by omega, by omega⟩, _, _, rfl, rfl, _, _, rfl, ?_⟩
    refine ⟨_, rfl, y, d, rfl, hdp, _, rfl, ?_⟩
    have fin : ∀ (v : V) (H2 : Hp), Same H' H2 → Dp K H2 v (placeD fs t) → Same H (upd H2 p (.lst (xs ++ [v]))) ∧ upd H2 p (.lst (xs ++ [v])) l = some (.lst (nI (turnsN c))) ∧ upd H2 p (.lst (xs ++ [v])) p = some (.lst (xs ++ [v])) ∧ DpAll K (upd H2 p (.lst (xs ++ [v]))) (xs ++ [v]) (((turnsN c).take (i + 1)).map (placeD fs)) := fun v H2 e2 dv => by
      have td : Td H2 (upd H2 p (.lst (xs ++ [v]))) := Td.lst (e2 _ _ hp)
      refine ⟨Same.mut (e.trans e2) np, by rw [upd_ne (Ne.symm npl)]; exact e2 _ _ hl', upd_same, ?_⟩
      rw [et, List.map_append]
      refine dps_app (((Td.of (Nd.of e2)).trans td).ds (n := 3) (fun z hz => ?_) hds) (.cons (td.d (place_fm Fs t2) dv) .nil)
      obtain ⟨r, hr, rfl⟩ := List.mem_map.mp hz
      exact place_fm Fs (t8 r (List.mem_of_mem_take hr))
    have hst := step_in t
    have inst : InB ((t % 200 : Nat) : Int) := InB.of (n := 100) hst.1 hst.2 (by decide)
    rcases fields_at Fs hd2 with ⟨a, rfl, a0, a1⟩ | ⟨ts, rfl, ts0, ts5⟩
    · have pl : placeD fs t = formD (a + ((t % 200 : Nat) : Int)) := by unfold placeD; rw [hd2]
      cases hdp
      refine iteT ?_
      refine ⟨_, rfl, .inl ⟨rfl, _, SqL.of hp⟩, _, rfl, _, rfl, _, _, rfl, rfl, ?_⟩
      have inb2 : InB (a + ((t : Int) - ((t : Int) / 200) * 200)) := by
        rw [st]
        exact InB.of (n := 101) (by omega) (by omega) (by decide)
      refine ⟨_, rfl, inb2, fun v H2 e2 dv => ?_⟩
      refine ⟨p, _, _, rfl, rfl, e2 _ _ hp, hxl, ?_⟩
      rw [st] at dv
      exact ⟨_, _, _, _, rfl, fin v H2 e2 (by rw [pl]; exact dv)⟩
    · have inb2 : InB ((t : Int) - ((t : Int) / 200) * 200) := by rw [st]; exact inst
      have pl : placeD fs t = .tuple (nD (turnsN ((t % 200 : Nat) : Int)) ++ ts) := by unfold placeD; rw [hd2]
      cases hdp with
      | @tup ya ysx _ hsq hda =>
      refine iteF ?_
      refine ⟨_, rfl, .inl ⟨rfl, _, SqL.of hp⟩, _, rfl, _, rfl, inb2, fun l2 H2 e2 nl2 hl2 => ?_⟩
      rw [st] at hl2
      refine ⟨_, _, rfl, SqL.of hl2, fun p2 np2 => ?_⟩
      have e3 : Same H' (upd H2 p2 (.tup (nI (turnsN ((t % 200 : Nat) : Int))))) := e2.trans (Same.new np2)
      have sl := step_len t
      have dvt : ∀ H4, Same (upd H2 p2 (.tup (nI (turnsN ((t % 200 : Nat) : Int))))) H4 → DpAll K H4 (nI (turnsN ((t % 200 : Nat) : Int)) ++ ysx) (nD (turnsN ((t % 200 : Nat) : Int)) ++ ts) := fun H4 e4 => dps_app (dps_n _) ((Nd.of (e3.trans e4)).ds hda)
      refine ⟨_, rfl, p2, ya, _, ysx, rfl, rfl, SqT.of upd_same, (Nd.of e3).sqt hsq, ?_, fun h0 => ?_, fun h0 h1 => ?_, fun h0 h1 p3 np3 => ?_⟩
      · have := dps_length hda
        have ln : (nI (turnsN ((t % 200 : Nat) : Int))).length = (turnsN ((t % 200 : Nat) : Int)).length := by unfold nI; rw [List.length_map]
        rw [ln]
        exact Nat.le_trans (show _ ≤ 2050 by omega) (by decide)
      · refine ⟨p, _, _, rfl, rfl, e3 _ _ hp, hxl, ?_⟩
        refine ⟨_, _, _, _, rfl, fin _ _ e3 ?_⟩
        have h0' : turnsN ((t % 200 : Nat) : Int) = [] := by unfold nI at h0; exact List.map_eq_nil_iff.mp h0
        have pl' : placeD fs t = .tuple ts := by rw [pl, h0']; rfl
        rw [pl']
        exact .tup ((Nd.of e3).sqt hsq) ((Nd.of e3).ds hda)
      · exact absurd (List.length_eq_zero_iff.mp (by rw [← dps_length hda, h1]; rfl)) ts0
      · refine ⟨p, _, _, rfl, rfl, (e3.trans (Same.new np3)) _ _ hp, hxl, ?_⟩
        refine ⟨_, _, _, _, rfl, fin _ _ (e3.trans (Same.new np3)) ?_⟩
        rw [pl]
        exact .tup (SqT.of upd_same) (dvt _ (Same.new np3))
  · obtain ⟨z1, z2, z3, xs, rfl, e, hl', hp, hds⟩ := h
    rw [hlen, List.take_length] at hds
    refine ⟨_, rfl, p, xs, _, 3, rfl, SqL.of hp, hds, by decide, fun d hd => ?_, places_row Fs (turns_asc c) t8, fun v H2 e2 dv => q v H2 (e.trans e2) dv⟩
    obtain ⟨t, ht, rfl⟩ := List.mem_map.mp hd
    exact place_fm Fs (t8 t ht)
abbrev S__law_form_of_codes : Stmt := top 18
abbrev N__law_form_of_codes : List Str := ["_law_codes_here", "_law_fields_here", "_law_code_here"]
abbrev P__law_form_of_codes : List Str := ["_law_codes_here", "_law_fields_here"]
theorem sc__law_form_of_codes : FnScope N__law_form_of_codes P__law_form_of_codes (defScope S__law_form_of_codes) := ⟨rfl, rfl, rfl, by decide +kernel, rfl, by decide +kernel, by decide +kernel⟩
def spFoc (K : PySem.W.Frag) : Sp := fun vs H Q _ => ∃ (a b : Addr) (cs : List Int) (ys : List V) (fs : List PyData) (m : Nat), vs = [.ref a, .ref b] ∧ SqL K H a (cs.map V.int) ∧ SqL K H b ys ∧ DpAll K H ys (fs.take m) ∧ Fields fs ∧ Codes cs ∧ (∀ c ∈ cs, ∀ p ∈ turnsN c, p / 200 < m) ∧ ∀ (v : V) (H' : Hp), Same H H' → Dp K H' v (codesD fs cs) → Q v H'
theorem moved_fm {fs : List PyData} (F : Fields fs) {c : Int} (h0 : 0 ≤ c) (h1 : c < 2 ^ 799) : Fm 4 (movedD fs c) := by
  obtain ⟨hm, _, k⟩ := moveds F 0
  exact (k c h0 h1).2.1.fm
theorem ok_foc (F : Fun K "_law_form_of_codes" "_law_form_of_codes" S__law_form_of_codes f fd) (C_law_moved : Has P w K mg base 3 "_law_moved" P__law_moved [] (spMoved K))
    (C_law_row_form : Has P w K mg base 2 "_law_row_form" P__law_row_form [] (spRow K)) : FnOk P w K mg base CX0 4 f fd P__law_form_of_codes (spFoc K) := by
  have nd := sc__law_form_of_codes.nd
  refine F.ok sc__law_form_of_codes (fun vs H Q E h => ?_) (fun cdv A outer s H vs Q E hr h => ?_)
  · obtain ⟨a, b, cs, ys, fs, m, rfl, _⟩ := h
    rfl
  obtain ⟨a, b, cs, ys, fs, m, rfl, hA, hB, hd, Fs, hc, hm, q⟩ := h
  refine ⟨_, (pss_one (ps_ret (pe_H C_law_row_form (hr.mono (by decide)) rfl (pa_cons (pe_lc (own := [("_law_code_here", 2)]) (g := gName 2) (tt := tYes) rfl nd (pi_list (pv 0)) (blkOk_by (own := [("_law_code_here", 2)]) (N := N__law_form_of_codes) (sc := defScope S__law_form_of_codes) (by decide +kernel)) (fun _ _ _ _ _ => pg_name (i := 2) nd rfl (Or.inl rfl)) (fun _ _ _ _ _ => pts_nil) (fun _ _ _ _ _ => (pe_H C_law_moved (hr.mono (by decide)) rfl (pa_cons (pv 2) (pa_cons (pv 1) pa_nil))))) pa_nil)))), ?_⟩
  refine ⟨_, rfl, a, rfl, ⟨_, hA⟩, fun D nD => ?_⟩
  refine lc_list (xs := cs.map V.int) (fun i H' => ∃ xs : List V, Same H H' ∧ H' D = some (.lst xs) ∧ DpAll K H' xs ((cs.take i).map (movedD fs))) ⟨[], Same.new nD, upd_same, .nil⟩ (fun i H' _ h => ?_) (fun i x H' hx h => ?_) (fun H' h => ?_)
  · obtain ⟨xs, e, _⟩ := h
    exact e.seq hA
  · obtain ⟨xs, e, hD, hds⟩ := h
    rw [List.getElem?_map] at hx
    obtain ⟨c, hci, rfl⟩ := Option.map_eq_some_iff.mp hx
    have hcm : c ∈ cs := List.mem_of_getElem? hci
    have et : cs.take (i + 1) = cs.take i ++ [c] := by rw [List.take_add_one, hci]; rfl
    have cb := hc.2.1 c hcm
    refine ⟨rfl, lcT ?_⟩
    refine ⟨_, rfl, _, rfl, c, b, ys, fs, m, rfl, e.seq hB, (Nd.of e).ds hd, Fs, hm c hcm, cb.1, cb.2, fun v H2 e2 dv => ?_⟩
    have hxl : xs.length < sizeLine := by
      rw [dps_length hds, List.length_map, List.length_take]
      exact Nat.lt_of_le_of_lt (Nat.min_le_right _ _) (Nat.lt_of_le_of_lt hc.2.2 (by decide))
    refine ⟨xs, e2 _ _ hD, hxl, xs ++ [v], Same.mut (e.trans e2) nD, upd_same, ?_⟩
    have td : Td H2 (upd H2 D (.lst (xs ++ [v]))) := Td.lst (e2 _ _ hD)
    rw [et, List.map_append]
    refine dps_app (((Td.of (Nd.of e2)).trans td).ds (n := 4) (fun z hz => ?_) hds) (.cons (td.d (moved_fm Fs cb.1 cb.2) dv) .nil)
    obtain ⟨r, hr, rfl⟩ := List.mem_map.mp hz
    have rb := hc.2.1 r (List.mem_of_mem_take hr)
    exact moved_fm Fs rb.1 rb.2
  · obtain ⟨xs, e, hD, hds⟩ := h
    rw [List.length_map, List.take_length] at hds
    refine ⟨D, xs, _, 4, rfl, SqL.of hD, hds, by decide, fun d hd => ?_, codes_row Fs hc, fun v H2 e2 dv => q v H2 (e.trans e2) dv⟩
    obtain ⟨c, hcm, rfl⟩ := List.mem_map.mp hd
    have cb := hc.2.1 c hcm
    exact moved_fm Fs cb.1 cb.2
end
end Fb
namespace Fb
open PySem L2
theorem cpow {i j : Int} (h : 0 ≤ j ∧ j ≤ 1000000 ∧ i.natAbs < 2 ^ 64) : CPow i j := h
section
variable {P : Program} {w : World} {K : PySem.W.Frag} {mg : Str → Option Value} {base : Heap} {f : Addr} {fd : FuncData}
abbrev S__law_code : Stmt := top 19
abbrev N__law_code : List Str := ["_law_tape", "_law_many", "_law_known", "_law_found", "_law_k", "_law_piece"]
abbrev P__law_code : List Str := ["_law_tape", "_law_many", "_law_known"]
theorem sc__law_code : FnScope N__law_code P__law_code (defScope S__law_code) := ⟨rfl, rfl, rfl, by decide +kernel, rfl, by decide +kernel, by decide +kernel⟩
def spCode (K : PySem.W.Frag) : Sp := fun vs H Q _ => ∃ (τ : Tp) (many : Nat) (kl : Addr) (known : List Int) (m j n : Nat), vs = [.ref τ.t, .int (many : Int), .ref kl] ∧ SqL K H kl (known.map V.int) ∧ (∀ c ∈ known, Code m j c) ∧ known.length ≤ 1000 ∧
  1 ≤ many ∧ many ≤ m ∧ m ≤ 4 ∧ Tape K τ (n + 12) H ∧ ∀ (c : Int) (H' : Hp), Nd H H' → Tape K τ n H' → Code m (j + 1) c → Q (.int c) H'
theorem ok_code (F : Fun K "_law_code" "_law_code" S__law_code f fd) (B : Blt mg) (C_law_draw : Has P w K mg base 1 "_law_draw" P__law_draw [] (spDraw K)) (C_law_pick : Has P w K mg base 2 "_law_pick" P__law_pick [] (spPick K)) : FnOk P w K mg base CX0 3 f fd P__law_code (spCode K) := by
  have nd := sc__law_code.nd
  refine F.ok sc__law_code (fun vs H Q E h => ?_) (fun cdv A outer s H vs Q E hr h => ?_)
  · obtain ⟨τ, many, kl, known, m, j, n, rfl, _⟩ := h
    rfl
  obtain ⟨τ, many, kl, known, m, j, n, rfl, hS, hk, kl1, m1, mm, m4, hT, q⟩ := h
  refine ⟨_, (C8.pss_cut (ps_if (PW.pt (pw_and (pt_cmpR (op_neD hr.units) (pv 2) (pe_lst pa_nil) (nomark _)) (pw_and1 (pt_cmpR op_eq (pe_H C_law_draw (hr.mono (by decide)) rfl (pa_cons (pv 0) (pa_cons pe_int pa_nil))) pe_int (nomark _))))) (pss_one (ps_ret (pe_op op_add (pe_H C_law_pick (hr.mono (by decide)) rfl (pa_cons (pv 0) (pa_cons (pv 2) pa_nil))) (pe_H C_law_draw (hr.mono (by decide)) rfl (pa_cons (pv 0) (pa_cons pe_int pa_nil)))))) pss_nil)
    (pss_cons (ps_set (i := 3) nd rfl (Or.inl rfl) (pe_H C_law_draw (hr.mono (by decide)) rfl (pa_cons (pv 0) (pa_cons pe_int pa_nil))))
    (pss_cons (ps_for PassesOwn.never rfl (pi_range1 (by rfl) B.range (pa_cons (pe_H C_law_draw (hr.mono (by decide)) rfl (pa_cons (pv 0) (pa_cons pe_int pa_nil))) pa_nil)) (pg_name (i := 4) nd rfl (Or.inl rfl)) (pss_cons (ps_set (i := 5) nd rfl (Or.inl rfl) (pe_H C_law_pick (hr.mono (by decide)) rfl (pa_cons (pv 0) (pa_cons (pe_lst (pa_cons pe_int (pa_cons pe_int (pa_cons pe_int (pa_cons pe_int (pa_cons (pe_op op_sub (pe_op op_shl pe_int (pe_op op_add pe_int (pe_H C_law_draw (hr.mono (by decide)) rfl (pa_cons (pv 0) (pa_cons pe_int pa_nil))))) pe_int) pa_nil)))))) pa_nil))))
    (pss_one (ps_set (i := 3) nd rfl (Or.inl rfl) (pe_op op_add (pv 3) (pe_op op_mul (pv 5) (pe_op op_shl pe_int (pe_op op_add (pe_op op_mul pe_int (pe_H C_law_draw (hr.mono (by decide)) rfl (pa_cons (pv 0) (pa_cons (pv 1) pa_nil)))) (pe_H C_law_draw (hr.mono (by decide)) rfl (pa_cons (pv 0) (pa_cons pe_int pa_nil)))))))))))
    (pss_one (ps_ret (pv 3)))))), ?_⟩
  refine ⟨fun σ H1 => σ = [some (.ref τ.t), some (.int (many : Int)), some (.ref kl), none, none, none] ∧ Nd H H1 ∧ Tape K τ (n + 11) H1, ?_, ?_⟩
  · refine ⟨_, rfl, (by show 0 ≤ sizeLine; decide), fun p np => ?_⟩
    have g0 : Same H (upd H p (.lst [])) := Same.new np
    refine ⟨.list (known.map .int), .list [], .lst (g0.seq hS) (dps_ints known), .lst (SqL.of upd_same) .nil, shaped_ints known, shaped_nil, _, rfl, ?_⟩
    have T0 : Tape K τ (n + 12) (upd H p (.lst [])) := hT.new np
    have g0' := Nd.of g0
    have hS' := g0.seq hS
    generalize upd H p _ = H0 at g0' T0 hS' ⊢
    rw [eqv_nil']
    refine iteDN (fun c => ?_) (fun c => ?_)
    · refine ⟨_, rfl, τ, _, n + 11, rfl, T0, by decide, lt_BigL (by decide), fun d H1 e1 T1 d0 d1 => ?_⟩
      refine ⟨rfl, _, rfl, ?_⟩
      refine iteD (fun c2 => ?_) (fun c2 => ?_)
      · refine ⟨_, rfl, _, rfl, τ, kl, _, n + 10, rfl, e1.sql hS', (by simpa using c), (by rw [List.length_map]; omega), T1, fun x i H2 e2 T2 hx => ?_⟩
        rw [List.getElem?_map] at hx
        obtain ⟨z, hz, rfl⟩ := Option.map_eq_some_iff.mp hx
        refine ⟨_, rfl, τ, _, n + 9, rfl, T2, by decide, lt_BigL (by decide), fun d' H3 e3 T3 d0' d1' => ?_⟩
        refine ⟨_, _, rfl, rfl, ?_⟩
        refine q _ _ (g0'.trans (e1.trans (e2.trans e3))) (T3.mono (by omega)) ?_
        refine (code_add (by omega) (hk z (List.mem_of_getElem? hz)) d0').mono ?_
        unfold cb
        omega
      · exact ⟨rfl, g0'.trans e1, T1⟩
    · exact iteF ⟨rfl, g0', T0.mono (by omega)⟩
  rintro σ H1 ⟨rfl, g, T1⟩
  refine ⟨_, rfl, τ, _, n + 10, rfl, T1, by decide, lt_BigL (by decide), fun d H2 e2 T2 d0 d1 => ?_⟩
  refine ⟨_, rfl, τ, _, n + 9, rfl, T2, by decide, lt_BigL (by decide), fun r H3 e3 T3 r0 r1 => ?_⟩
  refine ⟨_, rfl, (by omega), (by omega), ?_⟩
  have g3 := g.trans (e2.trans e3)
  refine for_range (lo := 0) (n := r.toNat) (fun i σ H' => ∃ (c : Int) (z1 z2 : Option V), σ = [some (.ref τ.t), some (.int (many : Int)), some (.ref kl), some (.int c), z1, z2] ∧ Nd H H' ∧ Tape K τ (n + 9 - 4 * i) H' ∧ CodeB m (70 + i * 2 ^ 55) c)
    ⟨d, _, _, rfl, g3, T3, code_small (by omega) d0 (by omega)⟩ (fun i σ H' hi h => ?_) (fun σ H' h => ?_)
  · obtain ⟨c, z1, z2, rfl, e, T, hc⟩ := h
    have hi2 : i < 2 := by omega
    obtain ⟨k, hk'⟩ : ∃ k, n + 9 - 4 * i = k + 5 := ⟨n + 4 - 4 * i, by omega⟩
    rw [hk'] at T
    refine ⟨_, rfl, _, rfl, τ, _, k + 4, rfl, T, by decide, lt_BigL (by decide), fun a H4 e4 T4 a0 a1 => ?_⟩
    refine ⟨_, _, rfl, rfl, _, _, rfl, rfl, cpow ⟨by omega, by omega, by decide⟩, _, _, rfl, rfl, (by show 5 ≤ sizeLine; decide), fun p np => ?_⟩
    refine ⟨τ, p, _, k + 3, rfl, SqL.of upd_same, (by simp), (by show 5 ≤ 100000; decide), T4.new np, fun x i' H5 e5 T5 hx => ?_⟩
    obtain ⟨pc, rfl, p0, p1⟩ : ∃ pc, x = .int pc ∧ 0 ≤ pc ∧ pc < 2 ^ 40 := by
      have hm := List.mem_of_getElem? hx
      have b1 : (2 : Int) ^ (1 + a).toNat ≤ 2 ^ 40 := p_le (by omega)
      have b0 : (0 : Int) < 2 ^ (1 + a).toNat := Int.pow_pos (by decide)
      simp only [List.mem_cons, List.not_mem_nil, or_false] at hm
      rcases hm with rfl | rfl | rfl | rfl | rfl
      · exact ⟨1, rfl, by decide, by decide⟩
      · exact ⟨1, rfl, by decide, by decide⟩
      · exact ⟨3, rfl, by decide, by decide⟩
      · exact ⟨5, rfl, by decide, by decide⟩
      · exact ⟨_, rfl, by omega, by omega⟩
    have e45 := e4.trans ((Nd.new (o := .lst [.int 1, .int 1, .int 3, .int 5, .int (1 * 2 ^ (1 + a).toNat - 1)]) np).trans e5)
    refine ⟨_, rfl, _, rfl, _, rfl, _, rfl, τ, _, k + 2, rfl, T5, by omega, lt_BigL (by omega), fun b H6 e6 T6 b0 b1 => ?_⟩
    refine ⟨_, _, rfl, rfl, .inl ⟨by decide, by decide⟩, _, rfl, τ, _, k + 1, rfl, T6, by decide, lt_BigL (by decide), fun t H7 e7 T7 t0 t1 => ?_⟩
    refine ⟨_, _, rfl, rfl, _, _, rfl, rfl, cpow ⟨by omega, by omega, by decide⟩, _, _, rfl, rfl, .inl ⟨by omega, by omega⟩, _, _, rfl, rfl, ?_⟩
    refine ⟨_, _, _, rfl, e.trans (e45.trans (e6.trans e7)), T7.mono (by omega), ?_⟩
    obtain ⟨bn, rfl⟩ := Int.eq_ofNat_of_zero_le b0
    obtain ⟨tn, rfl⟩ := Int.eq_ofNat_of_zero_le t0
    have cp := code_piece (k := bn) (s := tn) hc (by omega) m4 p0 p1 (by omega)
    rw [show ((200 : Int) * (bn : Int) + (tn : Int)).toNat = 200 * bn + tn by omega, Int.one_mul]
    refine cp.mono ?_
    rw [Int.natCast_add, Int.add_mul]
    omega
  · obtain ⟨c, z1, z2, rfl, e, T, hc⟩ := h
    refine ⟨_, rfl, ?_⟩
    refine q _ _ e (T.mono (by omega)) (hc.mono ?_)
    have : ((r.toNat : Nat) : Int) = r := by omega
    rw [this]
    unfold cb
    have h1 : r = 0 ∨ r = 1 ∨ r = 2 := by omega
    rcases h1 with rfl | rfl | rfl <;> omega
abbrev S__law_codes : Stmt := top 20
abbrev N__law_codes : List Str := ["_law_tape", "_law_many", "_law_count", "_law_known", "_law_found", "_law_k", "_law_code_here"]
abbrev P__law_codes : List Str := ["_law_tape", "_law_many", "_law_count", "_law_known"]
theorem sc__law_codes : FnScope N__law_codes P__law_codes (defScope S__law_codes) := ⟨rfl, rfl, rfl, by decide +kernel, rfl, by decide +kernel, by decide +kernel⟩
def spCodes (K : PySem.W.Frag) : Sp := fun vs H Q _ => ∃ (τ : Tp) (many count : Nat) (kv : V) (known : List Int) (m j n : Nat), vs = [.ref τ.t, .int (many : Int), .int (count : Int), kv] ∧ ((kv = .non ∧ known = []) ∨ ∃ kl, kv = .ref kl ∧ H kl = some (.lst (known.map V.int))) ∧
  (∀ c ∈ known, Code m j c) ∧ known.length ≤ 900 ∧ count ≤ 60 ∧ 1 ≤ many ∧ many ≤ m ∧ m ≤ 4 ∧ Tape K τ (n + 12 * count) H ∧
  ∀ (l : Addr) (cs : List Int) (H' : Hp), Nd H H' → Tape K τ n H' → H l = none → H' l = some (.lst (cs.map V.int)) → cs.Pairwise (· < ·) → (∀ c ∈ cs, Code m (j + count) c) → cs.length ≤ count → Q (.ref l) H'
theorem cb_mono {m i j : Nat} {c : Int} (h : Code m i c) (e : i ≤ j) : Code m j c := h.mono (by unfold cb; omega)
/-- int of each item of a list -/
theorem ok_codes {dvs : List V} {kws : List (Str × V)} (F : FunD K "_law_codes" "_law_codes" (defArgs S__law_codes) (defBody S__law_codes) (defScope S__law_codes) dvs kws f fd) (B : Blt mg) (C_law_code : Has P w K mg base 3 "_law_code" P__law_code [] (spCode K)) : FnOk P w K mg base CX0 4 f fd P__law_codes (spCodes K) := by
  have nd := sc__law_codes.nd
  refine funD_ok F sc__law_codes (fun vs H Q E h => ?_) (fun cdv A outer s H vs Q E hr h => ?_)
  · obtain ⟨τ, many, count, kv, known, m, j, n, rfl, _⟩ := h
    rfl
  obtain ⟨τ, many, count, kv, known, m, j, n, rfl, hkv, hk, kl9, c60, m1, mm, m4, hT, q⟩ := h
  refine ⟨_, (pss_cons (ps_set (i := 4) nd rfl (Or.inl rfl) (pe_lst pa_nil))
    (pss_cons (ps_for PassesOwn.never rfl (pi_range1 (by rfl) B.range (pa_cons (pv 2) pa_nil)) (pg_name (i := 5) nd rfl (Or.inl rfl)) (pss_cons (ps_set (i := 6) nd rfl (Or.inl rfl) (pe_H C_law_code (hr.mono (by decide)) rfl (pa_cons (pv 0) (pa_cons (pv 1) (pa_cons (pe_op op_cat (pe_orT (pv 3) (pe_one (pe_lst pa_nil))) (pv 4)) pa_nil)))))
    (pss_one (ps_if (pt_cmpR op_notIn_seq (pv 6) (pv 4) (by rfl)) (pss_one (ps_expr (pe_bm PySem.F.plainAttrs_list PySem.F.slot_list_append PySem.F.type_list_append mt_append (pv 4) (pa_cons (pv 6) pa_nil)))) pss_nil))))
    (pss_one (ps_ret (pe_callB cr_sortedI (by rfl) B.sorted (by decide +kernel) (pa_cons (pe_lc (own := [("_law_code_here", 6)]) (g := gName 6) (tt := tYes) rfl nd (pi_list (pv 4)) (blkOk_by (own := [("_law_code_here", 6)]) (N := N__law_codes) (sc := defScope S__law_codes) (by decide +kernel)) (fun _ _ _ _ _ => pg_name (i := 6) nd rfl (Or.inl rfl)) (fun _ _ _ _ _ => pts_nil) (fun _ _ _ _ _ => (pe_callTy call_intI (by rfl) B.int (by decide +kernel) (pa_cons (pv 6) pa_nil)))) pa_nil)))))), ?_⟩
  refine ⟨(by show 0 ≤ sizeLine; decide), fun p np => ?_⟩
  have g0 : Nd H (upd H p (.lst [])) := Nd.new np
  refine ⟨_, rfl, _, rfl, (by omega), (by omega), ?_⟩
  refine for_range (lo := 0) (n := ((count : Int)).toNat) (fun i σ H' => ∃ (z1 z2 : Option V) (fd : List Int), σ = [some (.ref τ.t), some (.int (many : Int)), some (.int (count : Int)), some kv, some (.ref p), z1, z2] ∧ Nd H H' ∧ Tape K τ (n + 12 * (count - i)) H' ∧ H' p = some (.lst (fd.map V.int)) ∧ fd.Nodup ∧ (∀ c ∈ fd, Code m (j + i) c) ∧ fd.length ≤ i)
    ⟨_, _, [], rfl, g0, (hT.new np).mono (by omega), upd_same, List.nodup_nil, (fun c hc => by cases hc), Nat.le_refl 0⟩ (fun i σ H' hi h => ?_) (fun σ H' h => ?_)
  · obtain ⟨z1, z2, fd, rfl, e, T, hp, hnd, hfd, hl⟩ := h
    have hi2 : i < count := by omega
    obtain ⟨n', hn'⟩ : ∃ n', n + 12 * (count - i) = n' + 12 ∧ n' = n + 12 * (count - (i + 1)) := ⟨_, by omega, rfl⟩
    rw [hn'.1] at T
    -- known or []: a list of the known ones
    have or_ : ∀ Q' : VK, (∀ r H1, Same H' H1 → H1 r = some (.lst (known.map V.int)) → Q' (.ref r) H1) → tOrT K (tVar 3) (tLst tNil) [some (.ref τ.t), some (.int (many : Int)), some (.int (count : Int)), some kv, some (.ref p), some (.int (0 + i)), z2] H' Q' := fun Q' hq => by
      rcases hkv with ⟨rfl, rfl⟩ | ⟨kl, rfl, hkl⟩
      · refine ⟨_, rfl, false, rfl, iteF ?_⟩
        exact ⟨(by show 0 ≤ sizeLine; decide), fun r nr => hq r _ (Same.new nr) upd_same⟩
      · have hkl' := e.lst hkl
        by_cases hz : known = []
        · subst hz
          refine ⟨_, rfl, false, .inl ⟨_, SqL.of hkl', rfl⟩, iteF ?_⟩
          exact ⟨(by show 0 ≤ sizeLine; decide), fun r nr => hq r _ (Same.new nr) upd_same⟩
        · refine ⟨_, rfl, true, .inl ⟨_, SqL.of hkl', ?_⟩, iteT ?_⟩
          · cases known with
            | nil => exact absurd rfl hz
            | cons _ _ => rfl
          · exact hq kl H' (Same.refl _) hkl'
    refine ⟨_, rfl, _, rfl, or_ _ fun r H1 e1 hr1 => ?_⟩
    refine ⟨_, rfl, r, p, _, _, rfl, rfl, hr1, e1 _ _ hp, ?_, fun l nl => ?_⟩
    · rw [List.length_map, List.length_map]
      exact Nat.le_trans (show _ ≤ 1000 by omega) (by decide)
    refine ⟨τ, many, l, known ++ fd, m, j + i, n', rfl, SqL.of (by rw [upd_same, List.map_append]), ?_, (by rw [List.length_append]; omega), m1, mm, m4, (T.same e1).new nl, fun c H2 e2 T2 hc => ?_⟩
    · intro c hc
      rcases List.mem_append.mp hc with hc | hc
      · exact cb_mono (hk c hc) (by omega)
      · exact hfd c hc
    have e' : Nd H' H2 := (Nd.of e1).trans ((Nd.new nl).trans e2)
    have hp2 := e'.lst hp
    refine ⟨_, rfl, _, rfl, p, _, rfl, .inl (SqL.of hp2), rfl, flat_ints fd, _, rfl, ?_⟩
    rw [inV_int]
    refine iteDN (fun c1 => ?_) (fun c1 => ?_)
    · refine ⟨_, rfl, .inl ⟨rfl, _, SqL.of hp2⟩, _, rfl, p, _, _, rfl, rfl, hp2, ?_, ?_⟩
      · rw [List.length_map]
        exact Nat.lt_of_le_of_lt (show _ ≤ 1000 by omega) (by decide)
      · refine ⟨_, _, fd ++ [c], rfl, (e.trans e').mut np, ?_, (by rw [upd_same, List.map_append]; rfl), ?_, ?_, (by rw [List.length_append, List.length_singleton]; omega)⟩
        · rw [← hn'.2]
          exact hT.mut np T2
        · rw [List.nodup_append]
          exact ⟨hnd, by simp, fun a ha b hb => by simp at hb; subst hb; rintro rfl; exact c1 ha⟩
        · intro x hx
          rcases List.mem_append.mp hx with hx | hx
          · exact cb_mono (hfd x hx) (by omega)
          · simp at hx
            subst hx
            exact hc
    · refine ⟨_, _, fd, rfl, e.trans e', ?_, hp2, hnd, fun x hx => cb_mono (hfd x hx) (by omega), by omega⟩
      rw [← hn'.2]
      exact T2
  · obtain ⟨z1, z2, fd, rfl, e, T, hp, hnd, hfd, hl⟩ := h
    have hcount : ((count : Int)).toNat = count := rfl
    rw [hcount] at hfd hl T
    refine ⟨_, rfl, p, rfl, ⟨_, SqL.of hp⟩, fun D nD => ?_⟩
    refine lc_list (xs := fd.map V.int) (fun i H1 => Same H' H1 ∧ H1 D = some (.lst ((fd.take i).map V.int))) ⟨Same.new nD, upd_same⟩ (fun i H1 _ h => h.1.seq (SqL.of hp)) (fun i x H1 hx h => ?_) (fun H1 h => ?_)
    · obtain ⟨e1, hD⟩ := h
      rw [List.getElem?_map] at hx
      obtain ⟨c, hc, rfl⟩ := Option.map_eq_some_iff.mp hx
      have et : fd.take (i + 1) = fd.take i ++ [c] := by rw [List.take_add_one, hc]; rfl
      refine ⟨rfl, lcT ?_⟩
      refine ⟨_, rfl, _, rfl, _, hD, ?_, Same.mut e1 nD, by rw [upd_same, et, List.map_append]; rfl⟩
      rw [List.length_map, List.length_take]
      exact Nat.lt_of_le_of_lt (show _ ≤ 1000 by omega) (by decide)
    · obtain ⟨e1, hD⟩ := h
      rw [List.length_map, List.take_length] at hD
      refine ⟨_, _, rfl, SqL.of hD, fun ns l perm rise nl => ?_⟩
      have e2 : Nd H (upd H1 l (.lst (ns.map V.int))) := e.trans ((Nd.of e1).trans (Nd.new nl))
      refine q l ns _ e2 ((T.same e1).new nl |>.mono (by omega)) ?_ upd_same (strict_of perm hnd rise) (fun c hc => hfd c (perm.mem_iff.mp hc)) (by rw [perm.length_eq]; exact hl)
      exact e.f _ (e1.free nl)
end
end Fb
namespace Fb
open PySem L2
section
variable {P : Program} {w : World} {K : PySem.W.Frag} {mg : Str → Option Value} {base : Heap} {f : Addr} {fd : FuncData}
abbrev S__law_fields : Stmt := top 16
abbrev N__law_fields : List Str := ["_law_tape", "_law_many", "_law_first", "_law_found", "_law_low", "_law_top", "_law_gap"]
abbrev P__law_fields : List Str := ["_law_tape", "_law_many"]
theorem sc__law_fields : FnScope N__law_fields P__law_fields (defScope S__law_fields) := ⟨rfl, rfl, rfl, by decide +kernel, rfl, by decide +kernel, by decide +kernel⟩
def spFields (K : PySem.W.Frag) : Sp := fun vs H Q _ => ∃ (τ : Tp) (m n : Nat), vs = [.ref τ.t, .int (m : Int)] ∧ m ≤ 4 ∧ Tape K τ (n + 10) H ∧
  ∀ (l : Addr) (xs : List V) (fs : List PyData) (H' : Hp), Nd H H' → Tape K τ n H' → Fields fs → H l = none → H' l = some (.lst xs) → DpAll K H' xs (fs.take m) → Q (.ref l) H'
theorem fm_f2 {low g : Int} {f2 : PyData} (h : F2 low g f2) : Fm 1 f2 := by
  obtain ⟨ts, rfl, k⟩ := f2_ok (n := 0) h
  exact k.gd0.fm
theorem fm_f3 {low g : Int} {f2 f3 : PyData} (h2 : F2 low g f2) (h : F3 g f2 f3) : Fm 3 f3 := by
  obtain ⟨ts, hh, rfl, _, k⟩ := f3_ok (n := 0) h2 h
  exact k.gd0.fm
theorem ok_fields (F : Fun K "_law_fields" "_law_fields" S__law_fields f fd) (B : Blt mg) (C_law_draw : Has P w K mg base 1 "_law_draw" P__law_draw [] (spDraw K)) (C_law_pick : Has P w K mg base 2 "_law_pick" P__law_pick [] (spPick K)) : FnOk P w K mg base CX0 3 f fd P__law_fields (spFields K) := by
  have nd := sc__law_fields.nd
  refine F.ok sc__law_fields (fun vs H Q E h => ?_) (fun cdv A outer s H vs Q E hr h => ?_)
  · obtain ⟨τ, m, n, rfl, _⟩ := h
    rfl
  obtain ⟨τ, m, n, rfl, m4, hT, q⟩ := h
  refine ⟨_, (pss_cons (ps_set (i := 2) nd rfl (Or.inl rfl) (pe_H C_law_pick (hr.mono (by decide)) rfl (pa_cons (pv 0) (pa_cons (pe_lst (pa_cons pe_int (pa_cons pe_int (pa_cons (pe_op op_sub (pe_op op_pow pe_int pe_int) pe_int) (pa_cons (pe_op op_sub (pe_op op_pow pe_int pe_int) pe_int) (pa_cons (pe_op op_pow pe_int pe_int) (pa_cons (pe_op op_add (pe_op op_mul (pe_op op_pow pe_int pe_int) pe_int) (pe_H C_law_draw (hr.mono (by decide)) rfl (pa_cons (pv 0) (pa_cons (pe_op op_pow pe_int pe_int) pa_nil)))) pa_nil))))))) pa_nil))))
    (pss_cons (ps_set (i := 3) nd rfl (Or.inl rfl) (pe_lst (pa_cons pe_int (pa_cons (pv 2) pa_nil))))
    (pss_cons (ps_set (i := 4) nd rfl (Or.inl rfl) (pe_op op_add pe_int (pe_H C_law_draw (hr.mono (by decide)) rfl (pa_cons (pv 0) (pa_cons pe_int pa_nil)))))
    (pss_cons (ps_expr (pe_bm PySem.F.plainAttrs_list PySem.F.slot_list_append PySem.F.type_list_append mt_append (pv 3) (pa_cons (pe_tup (pa_cons (pv 4) (pa_cons (pe_op op_add (pe_op op_add (pv 4) pe_int) (pe_H C_law_draw (hr.mono (by decide)) rfl (pa_cons (pv 0) (pa_cons pe_int pa_nil)))) pa_nil))) pa_nil)))
    (pss_cons (ps_par (i := 5) (j := 6) (by rfl) nd rfl rfl (by decide) rfl rfl (pa_cons (pe_ix ix_list (pv 3) pe_int (fun _ _ => rfl)) (pa_cons (pe_op op_add pe_int (pe_H C_law_draw (hr.mono (by decide)) rfl (pa_cons (pv 0) (pa_cons pe_int pa_nil)))) pa_nil)) (by rfl))
    (C8.pss_cut (ps_if (pt_cmpR op_eq (pe_H C_law_draw (hr.mono (by decide)) rfl (pa_cons (pv 0) (pa_cons pe_int pa_nil))) pe_int (nomark _)) (pss_cons (ps_asg (pe_tup (pa_cons (pv 4) (pa_cons (pe_op op_add (pv 4) pe_int) (pa_cons (pe_op op_add (pe_op op_add (pv 4) pe_int) (pv 6)) (pa_cons (pe_op op_add (pe_op op_add (pe_op op_add (pv 4) pe_int) (pe_op op_mul pe_int (pv 6))) (pe_H C_law_draw (hr.mono (by decide)) rfl (pa_cons (pv 0) (pa_cons (pe_op op_pow pe_int pe_int) pa_nil)))) pa_nil))))) (pg_sub (pv 3) pe_int set_list))
    (pss_one (ps_set (i := 5) nd rfl (Or.inl rfl) (pe_ix ix_list (pv 3) pe_int (fun _ _ => rfl))))) pss_nil)
    (pss_cons (ps_expr (pe_bm PySem.F.plainAttrs_list PySem.F.slot_list_append PySem.F.type_list_append mt_append (pv 3) (pa_cons (pe_tup (pa_cons (pv 6) (pa_cons (pv 5) pa_nil))) pa_nil)))
    (C8.pss_cut (ps_if (pt_cmpR op_eq (pe_H C_law_draw (hr.mono (by decide)) rfl (pa_cons (pv 0) (pa_cons pe_int pa_nil))) pe_int (nomark _)) (pss_cons (ps_asg (pe_tup (pa_cons (pv 5) (pa_cons (pe_op op_catA (pe_callTy call_tupL (by rfl) B.tuple (by decide +kernel) (pa_cons (pe_lst (pa_cons (pe_op op_add (pe_H C_law_draw (hr.mono (by decide)) rfl (pa_cons (pv 0) (pa_cons pe_int pa_nil))) pe_int) (pa_cons pe_int pa_nil))) pa_nil)) (pv 5)) pa_nil))) (pg_sub (pv 3) pe_int set_list))
    (pss_one (ps_if (pt_cmpR op_eq (pe_H C_law_draw (hr.mono (by decide)) rfl (pa_cons (pv 0) (pa_cons pe_int pa_nil))) pe_int (nomark _)) (pss_one (ps_asg (pe_tup (pa_cons (pv 6) (pa_cons (pe_op op_add (pv 6) pe_int) (pa_cons (pe_ix ix_list (pv 3) pe_int (fun _ _ => rfl)) (pa_cons (pe_tup (pa_cons (pv 6) (pa_cons (pv 5) pa_nil))) pa_nil))))) (pg_sub (pv 3) pe_int set_list))) pss_nil))) pss_nil)
    (pss_one (ps_ret (pe_slice sl_list (pv 3) po_none (po_some (pv 1))))))))))))), ?_⟩
  -- the first place
  refine ⟨_, rfl, _, _, rfl, rfl, cpow (by decide), _, _, rfl, rfl, _, _, rfl, rfl, cpow (by decide), _, _, rfl, rfl, _, _, rfl, rfl, cpow (by decide), _, _, rfl, rfl, cpow (by decide), _, _, rfl, rfl, .inl ⟨by decide, by decide⟩, _, rfl, _, _, rfl, rfl, cpow (by decide), τ, _, n + 9, rfl, hT, by decide, lt_BigL (by decide), fun d H1 e1 T1 d0 d1 => ?_⟩
  refine ⟨_, _, rfl, rfl, (by show 6 ≤ sizeLine; decide), fun p1 np1 => ?_⟩
  refine ⟨τ, p1, _, n + 8, rfl, SqL.of upd_same, (by simp), (by show 6 ≤ 100000; decide), T1.new np1, fun x i H2 e2 T2 hx => ?_⟩
  obtain ⟨a, rfl, a0, a1⟩ : ∃ a, x = .int a ∧ 130 ≤ a ∧ a < 2 ^ 64 := by
    have hm := List.mem_of_getElem? hx
    have d1' : d < 1000000 := d1
    simp only [List.mem_cons, List.not_mem_nil, or_false] at hm
    rcases hm with rfl | rfl | rfl | rfl | rfl | rfl
    · exact ⟨200, rfl, by decide, by decide⟩
    · exact ⟨130, rfl, by decide, by decide⟩
    · exact ⟨_, rfl, by decide, by decide⟩
    · exact ⟨_, rfl, by decide, by decide⟩
    · exact ⟨_, rfl, by decide, by decide⟩
    · refine ⟨(10 : Int) ^ (9 : Int).toNat * 1000 + d, rfl, ?_, ?_⟩
      · show (130 : Int) ≤ 10 ^ 9 * 1000 + d; omega
      · show (10 : Int) ^ 9 * 1000 + d < 2 ^ 64; omega
  have g2 : Nd H H2 := e1.trans ((Nd.new np1).trans e2)
  clear hx
  -- found = [0, first]; low
  refine ⟨_, rfl, (by show 2 ≤ sizeLine; decide), fun p np => ?_⟩
  refine ⟨_, rfl, τ, _, n + 7, rfl, T2.new np, by decide, lt_BigL (by decide), fun lo H3 e3 T3 lo0 lo1 => ?_⟩
  refine ⟨_, _, rfl, rfl, ?_⟩
  have npH : H p = none := g2.f _ np
  have g3 : Nd H H3 := g2.trans ((Nd.new np).trans e3)
  have hp3 := e3.lst (a := p) upd_same
  -- the second field
  refine ⟨_, rfl, .inl ⟨rfl, _, SqL.of hp3⟩, _, rfl, _, rfl, _, _, rfl, rfl, _, rfl, τ, _, n + 6, rfl, T3, by decide, lt_BigL (by decide), fun d2 H4 e4 T4 d20 d21 => ?_⟩
  refine ⟨_, _, rfl, rfl, (by show 2 ≤ sizeLine; decide), fun p3 np3 => ?_⟩
  have hp4 : upd H4 p3 (.tup [.int (200 + lo), .int (200 + lo + 1 + d2)]) p = some (.lst [.int 0, .int a]) := by
    rw [upd_ne (ne_of_none (e4.lst hp3) np3)]; exact e4.lst hp3
  refine ⟨p, _, _, rfl, rfl, hp4, (by show 2 < sizeLine; decide), ?_⟩
  have hf2 : ∀ g, F2 (200 + lo) g (.tuple [.int (200 + lo), .int (200 + lo + 1 + d2)]) := fun g => .inl ⟨d2, d20, d21, rfl⟩
  have st5 : ∃ (v : V), Nd H (upd (upd H4 p3 (.tup [.int (200 + lo), .int (200 + lo + 1 + d2)])) p (.lst ([.int 0, .int a] ++ [.ref p3]))) ∧ v = .ref p3 ∧ Tape K τ (n + 6) (upd (upd H4 p3 (.tup [.int (200 + lo), .int (200 + lo + 1 + d2)])) p (.lst ([.int 0, .int a] ++ [.ref p3]))) ∧
      upd (upd H4 p3 (.tup [.int (200 + lo), .int (200 + lo + 1 + d2)])) p (.lst ([.int 0, .int a] ++ [.ref p3])) p = some (.lst [.int 0, .int a, v]) ∧ Dp K (upd (upd H4 p3 (.tup [.int (200 + lo), .int (200 + lo + 1 + d2)])) p (.lst ([.int 0, .int a] ++ [.ref p3]))) v (.tuple [.int (200 + lo), .int (200 + lo + 1 + d2)]) := by
    refine ⟨.ref p3, ((g3.trans e4).trans (Nd.new np3)).mut npH, rfl, hT.mut npH (T4.new np3), upd_same, ?_⟩
    refine .tup (SqT.of ?_) (dps_ints [200 + lo, 200 + lo + 1 + d2])
    rw [upd_ne (by rintro rfl; rw [upd_same] at hp4; cases hp4)]
    exact upd_same
  obtain ⟨v2, g5, ev, T5, hp5, hv2⟩ := st5
  generalize hf2e : PyData.tuple [.int (200 + lo), .int (200 + lo + 1 + d2)] = f2 at hf2 hv2
  subst ev
  -- top, gap
  refine ⟨_, rfl, p, _, _, _, rfl, rfl, SqL.of hp5, (atI_nat (j := 2) rfl), _, rfl, τ, _, n + 5, rfl, T5, by decide, lt_BigL (by decide), fun gp H6 e6 T6 gp0 gp1 => ?_⟩
  refine ⟨_, _, rfl, rfl, _, _, rfl, ?_⟩
  -- another second field
  refine ⟨fun σ H' => ∃ (v : V) (f2 : PyData), σ = [some (.ref τ.t), some (.int (m : Int)), some (.int a), some (.ref p), some (.int (200 + lo)), some v, some (.int (150 + gp))] ∧ Nd H H' ∧ Tape K τ (n + 3) H' ∧ H' p = some (.lst [.int 0, .int a, v]) ∧ F2 (200 + lo) (150 + gp) f2 ∧ Dp K H' v f2, ?_, ?_⟩
  · refine ⟨_, rfl, τ, _, n + 4, rfl, T6, by decide, lt_BigL (by decide), fun d3 H7 e7 T7 _ _ => ?_⟩
    have e67 := e6.trans e7
    refine ⟨rfl, _, rfl, ?_⟩
    refine iteD (fun c => ?_) (fun c => ?_)
    · refine ⟨_, rfl, _, rfl, _, _, rfl, rfl, _, rfl, _, _, rfl, rfl, _, rfl, _, _, rfl, rfl, _, rfl, _, _, rfl, rfl, _, rfl, _, _, rfl, rfl, .inl ⟨by decide, by decide⟩, _, _, rfl, rfl, _, rfl, _, _, rfl, rfl, cpow (by decide), τ, _, n + 3, rfl, T7, by decide, lt_BigL (by decide), fun d4 H8 e8 T8 d40 d41 => ?_⟩
      refine ⟨_, _, rfl, rfl, (by show 4 ≤ sizeLine; decide), fun p4 np4 => ?_⟩
      have hp8 : H8 p = some (.lst [.int 0, .int a, .ref p3]) := (e67.trans e8).lst hp5
      have hp8' : upd H8 p4 (.tup [.int (200 + lo), .int (200 + lo + 7), .int (200 + lo + 9 + (150 + gp)), .int (200 + lo + 11 + 2 * (150 + gp) + d4)]) p = some (.lst [.int 0, .int a, .ref p3]) := by
        rw [upd_ne (ne_of_none hp8 np4)]; exact hp8
      refine ⟨_, rfl, p, _, _, 2, rfl, rfl, hp8', rfl, ?_⟩
      refine ⟨_, rfl, p, _, _, _, rfl, rfl, SqL.of upd_same, (atI_nat (j := 2) rfl), ?_⟩
      refine ⟨.ref p4, .tuple [.int (200 + lo), .int (200 + lo + 7), .int (200 + lo + 9 + (150 + gp)), .int (200 + lo + 11 + 2 * (150 + gp) + d4)], rfl, ((g5.trans (e67.trans e8)).trans (Nd.new np4)).mut npH, hT.mut npH (T8.new np4), upd_same, .inr ⟨d4, d40, d41, rfl⟩, ?_⟩
      refine .tup (SqT.of ?_) (dps_ints [200 + lo, 200 + lo + 7, 200 + lo + 9 + (150 + gp), 200 + lo + 11 + 2 * (150 + gp) + d4])
      rw [upd_ne (by rintro rfl; rw [upd_same] at hp8'; cases hp8')]
      exact upd_same
    · exact ⟨.ref p3, f2, rfl, g5.trans e67, T7.mono (by omega), e67.lst hp5, hf2 _, e67.d hv2⟩
  rintro σ H7 ⟨v, f2', rfl, g7, T7, hp7, k2, hv⟩
  -- the third field
  refine ⟨_, rfl, .inl ⟨rfl, _, SqL.of hp7⟩, _, rfl, _, rfl, (by show 2 ≤ sizeLine; decide), fun p5 np5 => ?_⟩
  have hp8 : upd H7 p5 (.tup [.int (150 + gp), v]) p = some (.lst [.int 0, .int a, v]) := by
    rw [upd_ne (ne_of_none hp7 np5)]; exact hp7
  refine ⟨p, _, _, rfl, rfl, hp8, (by show 3 < sizeLine; decide), ?_⟩
  have np5p : p5 ≠ p := by rintro rfl; rw [hp7] at np5; cases np5
  have fm2 := fm_f2 k2
  have st8 : ∃ H8, H8 = upd (upd H7 p5 (.tup [.int (150 + gp), v])) p (.lst ([.int 0, .int a, v] ++ [.ref p5])) ∧ Nd H H8 ∧ Tape K τ (n + 3) H8 ∧ H8 p = some (.lst [.int 0, .int a, v, .ref p5]) ∧ Dp K H8 v f2' ∧ Dp K H8 (.ref p5) (.tuple [.int (150 + gp), f2']) := by
    refine ⟨_, rfl, (g7.trans (Nd.new np5)).mut npH, hT.mut npH (T7.new np5), upd_same, ?_, ?_⟩
    · exact (Td.lst hp8).d fm2 ((Nd.new np5).d hv)
    · refine .tup (SqT.of (by rw [upd_ne np5p]; exact upd_same)) (.cons (.int _) (.cons ?_ .nil))
      exact (Td.lst hp8).d fm2 ((Nd.new np5).d hv)
  obtain ⟨H8, e8, g8, T8, hp8, hv8, hv5⟩ := st8
  rw [← e8]
  clear e8
  refine ⟨fun σ H' => ∃ (v3 : V) (f3 : PyData), σ = [some (.ref τ.t), some (.int (m : Int)), some (.int a), some (.ref p), some (.int (200 + lo)), some v, some (.int (150 + gp))] ∧ Nd H H' ∧ Tape K τ n H' ∧ H' p = some (.lst [.int 0, .int a, v, v3]) ∧ F3 (150 + gp) f2' f3 ∧ Dp K H' v f2' ∧ Dp K H' v3 f3, ?_, ?_⟩
  · refine ⟨_, rfl, τ, _, n + 2, rfl, T8, by decide, lt_BigL (by decide), fun d5 H9 e9 T9 _ _ => ?_⟩
    refine ⟨rfl, _, rfl, ?_⟩
    refine iteD (fun c => ?_) (fun c => ?_)
    · obtain ⟨ts, rfl, tk⟩ := f2_ok (n := 0) k2
      refine ⟨_, rfl, _, rfl, τ, _, n + 1, rfl, T9, by decide, lt_BigL (by decide), fun d6 H10 e10 T10 d60 d61 => ?_⟩
      refine ⟨_, _, rfl, rfl, (by show 2 ≤ sizeLine; decide), fun p6 np6 => ?_⟩
      refine ⟨_, _, rfl, SqL.of upd_same, fun p7 np7 => ?_⟩
      have e8a : Nd H8 (upd (upd H10 p6 (.lst [.int (d6 + 1), .int 64])) p7 (.tup [.int (d6 + 1), .int 64])) := (e9.trans e10).trans ((Nd.new np6).trans (Nd.new np7))
      have Ta : Tape K τ (n + 1) (upd (upd H10 p6 (.lst [.int (d6 + 1), .int 64])) p7 (.tup [.int (d6 + 1), .int 64])) := (T10.new np6).new np7
      have h7 : upd (upd H10 p6 (.lst [.int (d6 + 1), .int 64])) p7 (.tup [.int (d6 + 1), .int 64]) p7 = some (.tup [.int (d6 + 1), .int 64]) := upd_same
      generalize upd (upd H10 p6 _) p7 _ = Ha at e8a Ta h7 ⊢
      have hva := e8a.d hv8
      cases hva with
      | @tup va vxs _ hsq hda =>
      refine ⟨_, rfl, p7, va, _, vxs, rfl, rfl, SqT.of h7, hsq, ?_, fun h0 => (by cases h0), fun h0 h1 => ?_, fun h0 h1 p8 np8 => ?_⟩
      · have := dps_length hda
        have := tk.1
        exact Nat.le_trans (show 2 + vxs.length ≤ 52 by omega) (by decide)
      · obtain ⟨_, _, dl, el, _⟩ := tk
        rw [h1] at hda
        cases hda
        cases el
      refine ⟨(by show 2 ≤ sizeLine; decide), fun p9 np9 => ?_⟩
      have e8b : Nd H8 (upd (upd Ha p8 (.tup ([.int (d6 + 1), .int 64] ++ vxs))) p9 (.tup [.ref va, .ref p8])) := e8a.trans ((Nd.new np8).trans (Nd.new np9))
      have Tb : Tape K τ (n + 1) (upd (upd Ha p8 (.tup ([.int (d6 + 1), .int 64] ++ vxs))) p9 (.tup [.ref va, .ref p8])) := (Ta.new np8).new np9
      have hpb := e8b.lst hp8
      refine ⟨_, rfl, p, _, _, 3, rfl, rfl, hpb, rfl, ?_⟩
      have hvb := e8b.d hv8
      have hv9 : Dp K (upd (upd Ha p8 (.tup ([.int (d6 + 1), .int 64] ++ vxs))) p9 (.tup [.ref va, .ref p8])) (.ref p9) (.tuple [.tuple ts, .tuple (.int (d6 + 1) :: .int 64 :: ts)]) := by
        refine .tup (SqT.of upd_same) (.cons hvb (.cons ?_ .nil))
        refine .tup (SqT.of ((Nd.new np9).k _ _ upd_same fun _ z => nomatch z)) (.cons (.int _) (.cons (.int _) ?_))
        exact ((Nd.new np8).trans (Nd.new np9)).ds hda
      have k3 : F3 (150 + gp) (.tuple ts) (.tuple [.tuple ts, .tuple (.int (d6 + 1) :: .int 64 :: ts)]) := .inr (.inl ⟨d6, ts, d60, d61, rfl, rfl⟩)
      have td := Td.lst (o := .lst ([.int 0, .int a, .ref va, .ref p5].set 3 (.ref p9))) hpb
      have hvc := td.d fm2 hvb
      have hv9c := td.d (fm_f3 k2 k3) hv9
      have gc := (g8.trans e8b).mut (o := .lst ([.int 0, .int a, .ref va, .ref p5].set 3 (.ref p9))) npH
      have Tc := hT.mut (o := .lst ([.int 0, .int a, .ref va, .ref p5].set 3 (.ref p9))) npH Tb
      have hpc : upd (upd (upd Ha p8 (.tup ([.int (d6 + 1), .int 64] ++ vxs))) p9 (.tup [.ref va, .ref p8])) p (.lst ([.int 0, .int a, .ref va, .ref p5].set 3 (.ref p9))) p = some (.lst [.int 0, .int a, .ref va, .ref p9]) := upd_same
      generalize upd (upd (upd Ha p8 _) p9 _) p _ = Hc at hvc hv9c gc Tc hpc ⊢
      -- yet another third field
      refine ⟨_, rfl, τ, _, n, rfl, Tc, by decide, lt_BigL (by decide), fun d7 Hd ed Td' _ _ => ?_⟩
      refine ⟨rfl, _, rfl, ?_⟩
      refine iteD (fun c2 => ?_) (fun c2 => ?_)
      · have hpd := ed.lst hpc
        refine ⟨_, rfl, _, rfl, _, _, rfl, rfl, _, rfl, p, _, _, _, rfl, rfl, SqL.of hpd, (atI_nat (j := 2) rfl), _, rfl, _, rfl, (by show 2 ≤ sizeLine; decide), fun pa npa => ?_⟩
        refine ⟨(by show 4 ≤ sizeLine; decide), fun pb npb => ?_⟩
        have ee : Nd Hc (upd (upd Hd pa (.tup [.int (150 + gp), .ref va])) pb (.tup [.int (150 + gp), .int (150 + gp + 1), .ref va, .ref pa])) := ed.trans ((Nd.new npa).trans (Nd.new npb))
        have Te := (Td'.new (o := .tup [.int (150 + gp), .ref va]) npa).new (o := .tup [.int (150 + gp), .int (150 + gp + 1), .ref va, .ref pa]) npb
        have hpe := ee.lst hpc
        refine ⟨_, rfl, p, _, _, 3, rfl, rfl, hpe, rfl, ?_⟩
        have hve := ee.d hvc
        have k3' : F3 (150 + gp) (.tuple ts) (.tuple [.int (150 + gp), .int (150 + gp + 1), .tuple ts, .tuple [.int (150 + gp), .tuple ts]]) := .inr (.inr rfl)
        have hvp : Dp K (upd (upd Hd pa (.tup [.int (150 + gp), .ref va])) pb (.tup [.int (150 + gp), .int (150 + gp + 1), .ref va, .ref pa])) (.ref pb) (.tuple [.int (150 + gp), .int (150 + gp + 1), .tuple ts, .tuple [.int (150 + gp), .tuple ts]]) := by
          refine .tup (SqT.of upd_same) (.cons (.int _) (.cons (.int _) (.cons hve (.cons ?_ .nil))))
          exact .tup (SqT.of ((Nd.new npb).k _ _ upd_same fun _ z => nomatch z)) (.cons (.int _) (.cons hve .nil))
        have td2 := Td.lst (o := .lst ([.int 0, .int a, .ref va, .ref p9].set 3 (.ref pb))) hpe
        exact ⟨.ref pb, _, rfl, (gc.trans ee).mut npH, hT.mut npH Te, upd_same, k3', td2.d fm2 hve, td2.d (fm_f3 k2 k3') hvp⟩
      · exact ⟨.ref p9, _, rfl, gc.trans ed, Td', ed.lst hpc, k3, ed.d hvc, ed.d hv9c⟩
    · exact ⟨.ref p5, _, rfl, g8.trans e9, T9.mono (by omega), e9.lst hp8, .inl rfl, e9.d hv8, e9.d hv5⟩
  rintro σ H9 ⟨v3, f3, rfl, g9, T9, hp9, k3, hv9, hv39⟩
  refine ⟨_, rfl, _, rfl, _, rfl, _, _, rfl, SqL.of hp9, fun l nl => ?_⟩
  have Fs : Fields [.int 0, .int a, f2', f3] := ⟨a, 200 + lo, 150 + gp, f2', f3, rfl, a0, a1, by omega, by omega, by omega, by omega, k2, k3⟩
  have hall : DpAll K H9 [.int 0, .int a, v, v3] [.int 0, .int a, f2', f3] := .cons (.int 0) (.cons (.int a) (.cons hv9 (.cons hv39 .nil)))
  have ec : cutV [V.int 0, .int a, v, v3] none (some (m : Int)) = [V.int 0, .int a, v, v3].take m := by
    match m, m4 with
    | 0, _ => rfl
    | 1, _ => rfl
    | 2, _ => rfl
    | 3, _ => rfl
    | 4, _ => rfl
  rw [ec]
  have htake : ∀ (k : Nat) (vs : List V) (ds : List PyData) (H : Hp), DpAll K H vs ds → DpAll K H (vs.take k) (ds.take k) := by
    intro k
    induction k with
    | zero => intro vs ds H _; exact .nil
    | succ k ih =>
      intro vs ds H h
      cases h with
      | nil => exact .nil
      | cons h1 h2 => exact .cons h1 (ih _ _ _ h2)
  exact q l _ _ _ (g9.trans (Nd.new nl)) (T9.new nl) Fs (g9.f _ nl) upd_same (htake m _ _ _ ((Nd.new nl).ds hall))
end
end Fb
namespace Fb
open PySem L2
section
variable {P : Program} {w : World} {K : PySem.W.Frag} {mg : Str → Option Value} {base : Heap} {f : Addr} {fd : FuncData}
theorem nI_eq (l : List Nat) : nI l = (l.map Int.ofNat).map V.int := by unfold nI; rw [List.map_map]; rfl
theorem nD_eq (l : List Nat) : nD l = (l.map Int.ofNat).map PyData.int := by unfold nD; rw [List.map_map]; rfl
/-- sorted natural numbers -/
theorem sorted_nat {l : List Nat} {ns : List Int} (hp : ns.Perm (l.map Int.ofNat)) (hn : l.Nodup) (hs : ns.Pairwise (· ≤ ·)) : ∃ ks : List Nat, ns = ks.map Int.ofNat ∧ ks.Pairwise (· < ·) ∧ ks.Perm l := by
  have e : ns = (ns.map Int.toNat).map Int.ofNat := by
    rw [List.map_map]
    conv => lhs; rw [← List.map_id ns]
    refine List.map_congr_left fun x hx => ?_
    obtain ⟨k, _, rfl⟩ := List.mem_map.mp (hp.mem_iff.mp hx)
    rfl
  have hp2 : (ns.map Int.toNat).Perm l := by
    have h := hp.map Int.toNat
    rw [List.map_map] at h
    have e2 : l.map (Int.toNat ∘ Int.ofNat) = l := by
      conv => rhs; rw [← List.map_id l]
      exact List.map_congr_left fun x _ => rfl
    rw [e2] at h
    exact h
  refine ⟨ns.map Int.toNat, e, ?_, hp2⟩
  have hn2 : (ns.map Int.toNat).Nodup := hp2.nodup_iff.mpr hn
  rw [e] at hs
  have hs2 := List.pairwise_map.mp hs
  exact (hs2.and hn2).imp fun h => by
    obtain ⟨a, b⟩ := h
    have : (Int.ofNat _ : Int) ≤ Int.ofNat _ := a
    have := Int.ofNat_le.mp this
    omega
abbrev S__law_few : Stmt := top 21
abbrev N__law_few : List Str := ["_law_tape", "_law_most", "_law_found", "_law_count", "_law_k", "_law_near", "_law_last", "_law_turn"]
abbrev P__law_few : List Str := ["_law_tape", "_law_most"]
theorem sc__law_few : FnScope N__law_few P__law_few (defScope S__law_few) := ⟨rfl, rfl, rfl, by decide +kernel, rfl, by decide +kernel, by decide +kernel⟩
def spFew (K : PySem.W.Frag) : Sp := fun vs H Q _ => ∃ (τ : Tp) (most n : Nat), vs = [.ref τ.t, .int (most : Int)] ∧ most ≤ 4000 ∧ Tape K τ (n + 60) H ∧
  ∀ (ns : List Nat) (H' : Hp), Nd H H' → Tape K τ n H' → ns.Pairwise (· < ·) → (∀ p ∈ ns, p ≤ most) → Q (.int (alt (-1) ns)) H'
theorem ok_few (F : Fun K "_law_few" "_law_few" S__law_few f fd) (B : Blt mg) (C_law_draw : Has P w K mg base 1 "_law_draw" P__law_draw [] (spDraw K)) (C_law_pick : Has P w K mg base 2 "_law_pick" P__law_pick [] (spPick K))
    (C_law_int : Has P w K mg base 1 "_law_int" P__law_int [] (spInt K)) : FnOk P w K mg base CX0 3 f fd P__law_few (spFew K) := by
  have nd := sc__law_few.nd
  refine F.ok sc__law_few (fun vs H Q E h => ?_) (fun cdv A outer s H vs Q E hr h => ?_)
  · obtain ⟨τ, most, n, rfl, _⟩ := h
    rfl
  obtain ⟨τ, most, n, rfl, m4, hT, q⟩ := h
  refine ⟨_, (pss_cons (ps_par (i := 2) (j := 3) (by rfl) nd rfl rfl (by decide) rfl rfl (pa_cons (pe_lst pa_nil) (pa_cons (pe_H C_law_pick (hr.mono (by decide)) rfl (pa_cons (pv 0) (pa_cons (pe_lst (pa_cons pe_int (pa_cons pe_int (pa_cons pe_int (pa_cons pe_int (pa_cons pe_int (pa_cons pe_int (pa_cons pe_int (pa_cons pe_int (pa_cons pe_int pa_nil)))))))))) pa_nil))) pa_nil)) (by rfl))
    (pss_cons (ps_for PassesOwn.never rfl (pi_range1 (by rfl) B.range (pa_cons (pv 3) pa_nil)) (pg_name (i := 4) nd rfl (Or.inl rfl)) (pss_cons (ps_set (i := 5) nd rfl (Or.inl rfl) (pe_op op_sub (pe_H C_law_pick (hr.mono (by decide)) rfl (pa_cons (pv 0) (pa_cons (pe_lst (pa_cons pe_int (pa_cons pe_int (pa_cons pe_int (pa_cons pe_int (pa_cons pe_int (pa_cons (pv 1) pa_nil))))))) pa_nil))) (pe_H C_law_draw (hr.mono (by decide)) rfl (pa_cons (pv 0) (pa_cons pe_int pa_nil)))))
    (pss_cons (ps_set (i := 6) nd rfl (Or.inl rfl) (pe_ifExp (pt_cmpR (op_eqD hr.units) (pv 2) (pe_lst pa_nil) (nomark _)) pe_int (pe_op op_add (pe_ix ix_list (pv 2) (pe_un un_neg pe_int) (fun _ _ => rfl)) pe_int)))
    (pss_cons (ps_set (i := 7) nd rfl (Or.inl rfl) (pe_H C_law_pick (hr.mono (by decide)) rfl (pa_cons (pv 0) (pa_cons (pe_lst (pa_cons (pe_H C_law_draw (hr.mono (by decide)) rfl (pa_cons (pv 0) (pa_cons (pe_op op_add (pv 1) pe_int) pa_nil))) (pa_cons (pe_callB (call_max2 rfl) (by rfl) B.max (by decide +kernel) (pa_cons pe_int (pa_cons (pv 5) pa_nil))) (pa_cons (pe_H C_law_draw (hr.mono (by decide)) rfl (pa_cons (pv 0) (pa_cons pe_int pa_nil))) (pa_cons (pv 6) pa_nil))))) pa_nil))))
    (pss_one (ps_if (PW.pt (pw_and (pt_cmpR op_notIn_seq (pv 7) (pv 2) (by rfl)) (pw_and1 (pt_cmpR op_le (pv 7) (pv 1) (nomark _))))) (pss_one (ps_expr (pe_bm PySem.F.plainAttrs_list PySem.F.slot_list_append PySem.F.type_list_append mt_append (pv 2) (pa_cons (pv 7) pa_nil)))) pss_nil))))))
    (pss_one (ps_ret (pe_H C_law_int (hr.mono (by decide)) rfl (pa_cons (pe_callB cr_sortedI (by rfl) B.sorted (by decide +kernel) (pa_cons (pe_lc (own := [("_law_turn", 7)]) (g := gName 7) (tt := tYes) rfl nd (pi_list (pv 2)) (blkOk_by (own := [("_law_turn", 7)]) (N := N__law_few) (sc := defScope S__law_few) (by decide +kernel)) (fun _ _ _ _ _ => pg_name (i := 7) nd rfl (Or.inl rfl)) (fun _ _ _ _ _ => pts_nil) (fun _ _ _ _ _ => (pe_callTy call_intI (by rfl) B.int (by decide +kernel) (pa_cons (pv 7) pa_nil)))) pa_nil)) pa_nil)))))), ?_⟩
  refine ⟨(by show 0 ≤ sizeLine; decide), fun p np => ?_⟩
  have T0 := hT.new (o := .lst []) np
  refine ⟨_, rfl, (by show 9 ≤ sizeLine; decide), fun p1 np1 => ?_⟩
  refine ⟨τ, p1, _, n + 59, rfl, SqL.of upd_same, (by simp), (by show 9 ≤ 100000; decide), T0.new np1, fun x i H1 e1 T1 hx => ?_⟩
  obtain ⟨cnt, rfl, c9⟩ : ∃ cnt : Nat, x = .int (cnt : Int) ∧ cnt ≤ 9 := by
    have hm := List.mem_of_getElem? hx
    simp only [List.mem_cons, List.not_mem_nil, or_false] at hm
    rcases hm with rfl | rfl | rfl | rfl | rfl | rfl | rfl | rfl | rfl
    · exact ⟨0, rfl, by decide⟩
    · exact ⟨1, rfl, by decide⟩
    · exact ⟨2, rfl, by decide⟩
    · exact ⟨2, rfl, by decide⟩
    · exact ⟨3, rfl, by decide⟩
    · exact ⟨4, rfl, by decide⟩
    · exact ⟨5, rfl, by decide⟩
    · exact ⟨6, rfl, by decide⟩
    · exact ⟨9, rfl, by decide⟩
  have g01 : Nd (upd H p (.lst [])) H1 := (Nd.new np1).trans e1
  have g1 : Nd H H1 := (Nd.new np).trans g01
  have hp1 := g01.lst (a := p) upd_same
  clear hx
  refine ⟨_, _, rfl, ?_⟩
  refine ⟨_, rfl, _, rfl, (by omega), (by omega), ?_⟩
  refine for_range (lo := 0) (n := ((cnt : Int)).toNat) (fun i σ H' => ∃ (z1 z2 z3 z4 : Option V) (fd : List Nat), σ = [some (.ref τ.t), some (.int (most : Int)), some (.ref p), some (.int (cnt : Int)), z1, z2, z3, z4] ∧ Nd H H' ∧ Tape K τ (n + 5 * (9 - i)) H' ∧ H' p = some (.lst (nI fd)) ∧ fd.Nodup ∧ (∀ k ∈ fd, k ≤ most) ∧ fd.length ≤ i)
    ⟨_, _, _, _, [], rfl, g1, T1.mono (by omega), hp1, List.nodup_nil, (fun k hk => by cases hk), Nat.le_refl 0⟩ (fun i σ H' hi h => ?_) (fun σ H' h => ?_)
  · obtain ⟨z1, z2, z3, z4, fd, rfl, e, T, hp, hnd, hfd, hl⟩ := h
    have hi9 : i < 9 := by have : i < cnt := hi; omega
    obtain ⟨n', hn1, hn2⟩ : ∃ n', n + 5 * (9 - i) = n' + 5 ∧ n' = n + 5 * (9 - (i + 1)) := ⟨_, by omega, rfl⟩
    rw [hn1] at T
    -- near
    refine ⟨_, rfl, _, rfl, (by show 6 ≤ sizeLine; decide), fun p3 np3 => ?_⟩
    refine ⟨τ, p3, _, n' + 4, rfl, SqL.of upd_same, (by simp), (by show 6 ≤ 100000; decide), T.new np3, fun x j H3 e3 T3 hx => ?_⟩
    obtain ⟨nr, rfl, nr0, nr1⟩ : ∃ nr : Int, x = .int nr ∧ 0 ≤ nr ∧ nr ≤ 4000 := by
      have hm := List.mem_of_getElem? hx
      simp only [List.mem_cons, List.not_mem_nil, or_false] at hm
      rcases hm with rfl | rfl | rfl | rfl | rfl | rfl <;> exact ⟨_, rfl, by omega, by omega⟩
    clear hx
    refine ⟨_, rfl, τ, _, n' + 3, rfl, T3, by decide, lt_BigL (by decide), fun d3 H4 e4 T4 d30 d31 => ?_⟩
    refine ⟨_, _, rfl, rfl, ?_⟩
    have e34 : Nd H' H4 := (Nd.new np3).trans (e3.trans e4)
    have hp4 := e34.lst hp
    -- last
    have last_ : ∀ (σ4 : Option V) (Q' : VK), (∀ (ls : Nat) (H5 : Hp), Same H4 H5 → Q' (.int (ls : Int)) H5) →
        tIf (tTest (tOp (rEqD K) (tVar 2) (tLst tNil))) (tC (.int 6)) (tOp (rI0 fun i j => .int (i + j)) (tOp (rIxL K) (tVar 2) (tUn (rU fun i => .int (-i)) (tC (.int 1)))) (tC (.int 1)))
          [some (.ref τ.t), some (.int (most : Int)), some (.ref p), some (.int (cnt : Int)), some (.int (0 + (i : Int))), some (.int (nr - d3)), z3, z4] H4 Q' := fun _ Q' hq => by
      refine ⟨_, rfl, (by show 0 ≤ sizeLine; decide), fun p5 np5 => ?_⟩
      have hp5 : upd H4 p5 (.lst []) p = some (.lst (nI fd)) := (Nd.new np5).lst hp4
      refine ⟨.list (nD fd), .list [], .lst (SqL.of hp5) (dps_n fd), .lst (SqL.of upd_same) .nil, (by rw [nD_eq]; exact shaped_ints _), shaped_nil, _, rfl, ?_⟩
      rw [nD_eq, eqv_nil']
      refine iteD (fun c => ?_) (fun c => ?_)
      · exact hq 6 _ (Same.new np5)
      · rcases List.eq_nil_or_concat fd with rfl | ⟨m, k, rfl⟩
        · exact absurd rfl c
        rw [List.concat_eq_append] at *
        have ek : atI (nI (m ++ [k])) (-1) = some (.int (k : Int)) := by unfold nI; rw [List.map_append]; exact atI_last _ _
        refine ⟨_, rfl, _, rfl, p, _, _, _, rfl, rfl, SqL.of hp5, ek, _, _, rfl, rfl, ?_⟩
        exact hq (k + 1) _ (Same.new np5)
    refine last_ none _ fun ls H5 e5 => ?_
    have e35 : Nd H' H5 := e34.trans (Nd.of e5)
    have T5 := T4.same e5
    -- the turn
    refine ⟨_, rfl, _, rfl, _, rfl, _, _, rfl, rfl, τ, _, n' + 2, rfl, T5, by omega, lt_BigL (by omega), fun d6 H6 e6 T6 d60 d61 => ?_⟩
    refine ⟨_, rfl, _, _, rfl, ?_⟩
    refine ⟨_, rfl, τ, _, n' + 1, rfl, T6, by decide, lt_BigL (by decide), fun d7 H7 e7 T7 d70 d71 => ?_⟩
    refine ⟨_, rfl, (by show 4 ≤ sizeLine; decide), fun p8 np8 => ?_⟩
    refine ⟨τ, p8, _, n', rfl, SqL.of upd_same, (by simp), (by show 4 ≤ 100000; decide), T7.new np8, fun x j H8 e8 T8 hx => ?_⟩
    obtain ⟨t, rfl⟩ : ∃ t : Nat, x = .int (t : Int) := by
      have hm := List.mem_of_getElem? hx
      simp only [List.mem_cons, List.not_mem_nil, or_false] at hm
      have key : ∀ z : Int, 0 ≤ z → ∃ t : Nat, V.int z = .int (t : Int) := fun z hz => ⟨z.toNat, by congr 1; omega⟩
      rcases hm with rfl | rfl | rfl | rfl
      · exact key _ d60
      · exact key _ (by split <;> omega)
      · exact key _ d70
      · exact key _ (by omega)
    clear hx
    have e38 : Nd H' H8 := e35.trans (e6.trans (e7.trans ((Nd.new np8).trans e8)))
    have hp8 := e38.lst hp
    refine ⟨_, rfl, _, rfl, p, _, rfl, .inl (SqL.of hp8), rfl, (by rw [nI_eq]; exact flat_ints _), _, rfl, ?_⟩
    rw [nI_eq, inV_int]
    have keep : ∀ z1 z2 z3 z4, ∃ (w1 w2 w3 w4 : Option V) (fd' : List Nat), ([some (.ref τ.t), some (.int (most : Int)), some (.ref p), some (.int (cnt : Int)), z1, z2, z3, z4] : St) = [some (.ref τ.t), some (.int (most : Int)), some (.ref p), some (.int (cnt : Int)), w1, w2, w3, w4] ∧ Nd H H8 ∧ Tape K τ (n + 5 * (9 - (i + 1))) H8 ∧ H8 p = some (.lst (nI fd')) ∧ fd'.Nodup ∧ (∀ k ∈ fd', k ≤ most) ∧ fd'.length ≤ i + 1 := fun z1 z2 z3 z4 =>
      ⟨z1, z2, z3, z4, fd, rfl, e.trans e38, by rw [← hn2]; exact T8, hp8, hnd, hfd, by omega⟩
    refine iteDN (fun c1 => ?_) (fun c1 => ?_)
    · refine ⟨_, rfl, _, rfl, _, _, rfl, rfl, _, rfl, ?_⟩
      refine iteD (fun c2 => ?_) (fun c2 => ?_)
      · refine ⟨_, rfl, .inl ⟨rfl, _, SqL.of hp8⟩, _, rfl, p, _, _, rfl, rfl, hp8, ?_, ?_⟩
        · unfold nI; rw [List.length_map]
          exact Nat.lt_of_le_of_lt (show _ ≤ 1000 by omega) (by decide)
        · refine ⟨_, _, _, _, fd ++ [t], rfl, (e.trans e38).mut np, ?_, (by rw [upd_same]; unfold nI; rw [List.map_append]; rfl), ?_, ?_, (by rw [List.length_append, List.length_singleton]; omega)⟩
          · rw [← hn2]
            exact hT.mut np T8
          · rw [List.nodup_append]
            exact ⟨hnd, by simp, fun a ha b hb => by simp at hb; subst hb; rintro rfl; exact c1 (List.mem_map.mpr ⟨_, ha, rfl⟩)⟩
          · intro k hk
            rcases List.mem_append.mp hk with hk | hk
            · exact hfd k hk
            · simp at hk
              subst hk
              omega
      · exact keep _ _ _ _
    · exact iteF (keep _ _ _ _)
  · obtain ⟨z1, z2, z3, z4, fd, rfl, e, T, hp, hnd, hfd, hl⟩ := h
    refine ⟨_, rfl, p, rfl, ⟨_, SqL.of hp⟩, fun D nD => ?_⟩
    refine lc_list (xs := nI fd) (fun i H1 => Same H' H1 ∧ H1 D = some (.lst (nI (fd.take i)))) ⟨Same.new nD, upd_same⟩ (fun i H1 _ h => h.1.seq (SqL.of hp)) (fun i x H1 hx h => ?_) (fun H1 h => ?_)
    · obtain ⟨e1, hD⟩ := h
      unfold nI at hx
      rw [List.getElem?_map] at hx
      obtain ⟨c, hc, rfl⟩ := Option.map_eq_some_iff.mp hx
      have et : fd.take (i + 1) = fd.take i ++ [c] := by rw [List.take_add_one, hc]; rfl
      refine ⟨rfl, lcT ?_⟩
      refine ⟨_, rfl, _, rfl, _, hD, ?_, Same.mut e1 nD, by rw [upd_same, et]; unfold nI; rw [List.map_append]; rfl⟩
      unfold nI
      rw [List.length_map, List.length_take]
      have : cnt ≤ 9 := c9
      have : fd.length ≤ cnt := hl
      exact Nat.lt_of_le_of_lt (show _ ≤ 1000 by omega) (by decide)
    · obtain ⟨e1, hD⟩ := h
      rw [show (nI fd).length = fd.length by unfold nI; rw [List.length_map], List.take_length, nI_eq] at hD
      refine ⟨_, _, rfl, SqL.of hD, fun ns l perm rise nl => ?_⟩
      obtain ⟨ks, rfl, asc, pk⟩ := sorted_nat perm hnd rise
      have hl2 : upd H1 l (.lst ((ks.map Int.ofNat).map V.int)) l = some (.lst (nI ks)) := by rw [upd_same, nI_eq]
      refine ⟨l, ks, rfl, SqL.of hl2, fun k hk => ?_, fun H2 e2 => ?_⟩
      · have := hfd k (pk.mem_iff.mp hk); omega
      · refine q ks H2 (e.trans ((Nd.of e1).trans ((Nd.new nl).trans (Nd.of e2)))) ?_ asc (fun k hk => hfd k (pk.mem_iff.mp hk))
        exact ((T.same e1).new nl |>.mono (by omega)).same e2
end
end Fb
namespace Fb
open PySem L2
theorem ht_le : ∀ (n : Nat) (d : PyData), ht n d ≤ n
  | 0, d => by cases d <;> exact Int.le_refl 0
  | n + 1, .tuple ds => by
    show 1 + maxI _ ≤ ((n + 1 : Nat) : Int)
    have : ∀ l : List Int, (∀ x ∈ l, x ≤ (n : Int)) → maxI l ≤ n := fun l => by
      induction l with
      | nil => intro _; show (0 : Int) ≤ n; omega
      | cons x xs ih =>
        intro hl
        have a := hl x List.mem_cons_self
        have b := ih fun y hy => hl y (List.mem_cons_of_mem _ hy)
        show max x (maxI xs) ≤ n
        omega
    have := this (ds.map (ht n)) (fun x hx => by obtain ⟨d, _, rfl⟩ := List.mem_map.mp hx; exact ht_le n d)
    omega
  | n + 1, .none => by show (0 : Int) ≤ _; omega
  | n + 1, .bool _ => by show (0 : Int) ≤ _; omega
  | n + 1, .int _ => by show (0 : Int) ≤ _; omega
  | n + 1, .str _ => by show (0 : Int) ≤ _; omega
  | n + 1, .list _ => by show (0 : Int) ≤ _; omega
  | n + 1, .dict _ => by show (0 : Int) ≤ _; omega
theorem log_small {x : Int} (h0 : 0 ≤ x) (h1 : x ≤ 2101 ^ 8) : x.natAbs.log2 < 1920 := by
  refine PySem.Flt.log2_lt_of (by decide) ?_
  have h2 : (2101 : Nat) ^ 8 < 2 ^ 1920 := by decide +kernel
  refine Nat.lt_of_le_of_lt ?_ h2
  have h3 : ((2101 ^ 8 : Nat) : Int) = 2101 ^ 8 := by decide +kernel
  omega
section
variable {P : Program} {w : World} {K : PySem.W.Frag} {mg : Str → Option Value} {base : Heap} {f : Addr} {fd : FuncData}
abbrev S_law : Stmt := top 22
abbrev N_law : List Str := ["_law_script", "_law_tape", "_law_lap", "_law_fields_here", "_law_form_here", "_law_some", "_law_one"]
abbrev P_law : List Str := ["_law_script"]
theorem sc_law : FnScope N_law P_law (defScope S_law) := ⟨rfl, rfl, rfl, by decide +kernel, rfl, by decide +kernel, by decide +kernel⟩
def spLaw (K : PySem.W.Frag) : Sp := fun vs H Q _ => ∃ (a : Addr) (ns : List Int), vs = [.ref a] ∧ SqL K H a (ns.map V.int) ∧ ns.length ≤ 63 ∧ ∀ H', Q (.bl true) H'
theorem ok_law (F : Fun K "law" "law" S_law f fd) (B : Blt mg) (C_law_begin : Has P w K mg base 1 "_law_begin" P__law_begin [] (spBegin K)) (C_law_draw : Has P w K mg base 1 "_law_draw" P__law_draw [] (spDraw K))
    (C_law_fields : Has P w K mg base 3 "_law_fields" P__law_fields [] (spFields K)) (C_law_codes_d : Has P w K mg base 4 "_law_codes" P__law_codes [.non] (spCodes K)) (C_law_form_of_codes : Has P w K mg base 4 "_law_form_of_codes" P__law_form_of_codes [] (spFoc K))
    (C_law_form : Has P w K mg base 2 "_law_form" P__law_form [] (spForm K)) (C_law_few : Has P w K mg base 3 "_law_few" P__law_few [] (spFew K))
    (Csize_of : Has P w K mg base 10 "size_of" P_size_of [] (spCount K sz 9)) (C_law_size : Has P w K mg base 9 "_law_size" P__law_size [] (spCount K sz 9))
    (Cheight_of : Has P w K mg base 2 "height_of" P_height_of [] (spLevels K 8)) (C_law_height : Has P w K mg base 9 "_law_height" P__law_height [] (spHeight K 9)) : FnOk P w K mg base CX0 12 f fd P_law (spLaw K) := by
  have nd := sc_law.nd
  refine F.ok sc_law (fun vs H Q E h => ?_) (fun cdv A outer s H vs Q E hr h => ?_)
  · obtain ⟨a, ns, rfl, _⟩ := h
    rfl
  obtain ⟨a, ns, rfl, hS, h63, q⟩ := h
  refine ⟨_, (pss_cons (ps_set (i := 1) nd rfl (Or.inl rfl) (pe_H C_law_begin (hr.mono (by decide)) rfl (pa_cons (pv 0) pa_nil)))
    (pss_cons (ps_for PassesOwn.never rfl (pi_range1 (by rfl) B.range (pa_cons pe_int pa_nil)) (pg_name (i := 2) nd rfl (Or.inl rfl)) (pss_cons (ps_set (i := 3) nd rfl (Or.inl rfl) (pe_H C_law_fields (hr.mono (by decide)) rfl (pa_cons (pv 1) (pa_cons pe_int pa_nil))))
    (pss_cons (ps_set (i := 4) nd rfl (Or.inl rfl) (pe_H C_law_form_of_codes (hr.mono (by decide)) rfl (pa_cons (pe_H C_law_codes_d (hr.mono (by decide)) rfl (pa_cons (pv 1) (pa_cons pe_int (pa_cons (pe_H C_law_draw (hr.mono (by decide)) rfl (pa_cons (pv 1) (pa_cons pe_int pa_nil))) pa_nil)))) (pa_cons (pv 3) pa_nil))))
    (pss_cons (ps_set (i := 5) nd rfl (Or.inl rfl) (pe_lst (pa_cons (pv 4) (pa_cons (pe_H C_law_form (hr.mono (by decide)) rfl (pa_cons (pe_H C_law_few (hr.mono (by decide)) rfl (pa_cons (pv 1) (pa_cons pe_int pa_nil))) pa_nil)) (pa_cons (pe_op op_sub (pe_H C_law_draw (hr.mono (by decide)) rfl (pa_cons (pv 1) (pa_cons (pe_op op_shl pe_int pe_int) pa_nil))) (pe_op op_pow pe_int pe_int)) (pa_cons (pe_H C_law_form (hr.mono (by decide)) rfl (pa_cons (pe_op op_sub (pe_op op_add (pe_op op_pow pe_int pe_int) (pe_H C_law_draw (hr.mono (by decide)) rfl (pa_cons (pv 1) (pa_cons pe_int pa_nil)))) pe_int) pa_nil)) pa_nil))))))
    (pss_one (ps_for PassesOwn.never rfl (pi_list (pv 5)) (pg_name (i := 6) nd rfl (Or.inl rfl)) (pss_one (ps_if (PW.pt (pw_or (pt_cmpR op_ne (pe_callB SkE.call_repr_int (by rfl) B.repr (by decide +kernel) (pa_cons (pe_H Csize_of (hr.mono (by decide)) rfl (pa_cons (pv 6) pa_nil)) pa_nil)) (pe_callB SkE.call_repr_int (by rfl) B.repr (by decide +kernel) (pa_cons (pe_H C_law_size (hr.mono (by decide)) rfl (pa_cons (pv 6) pa_nil)) pa_nil)) (nomark _)) (pw_or1 (pt_cmpR op_ne (pe_callB SkE.call_repr_int (by rfl) B.repr (by decide +kernel) (pa_cons (pe_H Cheight_of (hr.mono (by decide)) rfl (pa_cons (pv 6) pa_nil)) pa_nil)) (pe_callB SkE.call_repr_int (by rfl) B.repr (by decide +kernel) (pa_cons (pe_H C_law_height (hr.mono (by decide)) rfl (pa_cons (pv 6) pa_nil)) pa_nil)) (nomark _))))) (pss_one (ps_ret pe_bl)) pss_nil))))))))
    (pss_one (ps_ret (pe_and (pe_cmpR op_eq (pe_H Csize_of (hr.mono (by decide)) rfl (pa_cons (pe_tup (pa_cons (pe_tup (pa_cons pe_int (pa_cons pe_int pa_nil))) (pa_cons (pe_tup (pa_cons pe_int (pa_cons pe_int (pa_cons pe_int (pa_cons pe_int pa_nil))))) pa_nil))) pa_nil)) pe_int (nomark _)) (pe_one (pe_cmpR op_eq (pe_H Cheight_of (hr.mono (by decide)) rfl (pa_cons (pe_tup (pa_cons (pe_tup (pa_cons pe_int (pa_cons pe_int pa_nil))) (pa_cons (pe_tup (pa_cons pe_int (pa_cons pe_int (pa_cons pe_int (pa_cons pe_int pa_nil))))) pa_nil))) pa_nil)) pe_int (nomark _)))))))), ?_⟩
  refine ⟨_, rfl, a, ns, rfl, hS, h63, fun τ H0 e0 T0 => ?_⟩
  refine ⟨_, rfl, (by decide), (by decide), ?_⟩
  refine for_range (lo := 0) (n := 8) (fun i σ H' => ∃ (z2 z3 z4 z5 z6 : Option V), σ = [some (.ref a), some (.ref τ.t), z2, z3, z4, z5, z6] ∧ Tape K τ (1000 * (8 - i)) H')
    ⟨_, _, _, _, _, rfl, T0.mono (by omega)⟩ (fun i σ H' hi h => ?_) (fun σ H' h => ?_)
  · obtain ⟨z2, z3, z4, z5, z6, rfl, T⟩ := h
    obtain ⟨k, hk1, hk2⟩ : ∃ k, 1000 * (8 - i) = k + 1000 ∧ k = 1000 * (8 - (i + 1)) := ⟨_, by omega, rfl⟩
    rw [hk1] at T
    refine ⟨_, rfl, τ, 4, k + 990, rfl, by decide, T, fun l xs fs H1 e1 T1 Fs _ hl hd => ?_⟩
    refine ⟨_, rfl, _, rfl, τ, _, k + 989, rfl, T1, by decide, lt_BigL (by decide), fun d H2 e2 T2 d0 d1 => ?_⟩
    obtain ⟨cnt, rfl⟩ := Int.eq_ofNat_of_zero_le d0
    refine ⟨τ, 4, cnt, .non, [], 4, 0, k + 800, rfl, .inl ⟨rfl, rfl⟩, (fun c hc => by cases hc), by decide, by omega, by decide, by decide, by decide, T2.mono (by omega), fun lc cs H3 e3 T3 _ hlc asc hc hcl => ?_⟩
    have hcb : ∀ c ∈ cs, CodeB 4 (2 ^ 60) c := fun c h => (hc c h).mono (by unfold cb; omega)
    have hcodes : Codes cs := ⟨asc, fun c h => code_799 (hcb c h) (by decide) (by decide) (Int.le_refl _), by omega⟩
    have e13 := e2.trans e3
    refine ⟨_, rfl, lc, l, cs, xs, fs, 4, rfl, SqL.of hlc, e13.sql (SqL.of hl), e13.ds hd, Fs, hcodes, (fun c h => code_turns (hcb c h) (by decide) (by decide) (Int.le_refl _)), fun v0 H4 e4 dv0 => ?_⟩
    obtain ⟨h0, g0⟩ := codes_gd Fs hcodes 3
    have T4 := T3.same e4
    refine ⟨_, rfl, _, rfl, τ, 500, k + 740, rfl, by decide, T4, fun fw H5 e5 T5 fasc fle => ?_⟩
    have fb := alt_lt (s := -1) (.inr rfl) (n := 501) fasc fun p hp => by have := fle p hp; omega
    have p5 : (2 : Int) ^ 501 ≤ 2 ^ 2000 := p_le (by decide)
    refine ⟨_, rfl, InB.of (n := 501) (Int.le_of_lt fb.1) fb.2 (by decide), fun v1 H6 e6 dv1 => ?_⟩
    have g1 : Gd 8 _ (formD (alt (-1) fw)) := gd_form (n := 7) (by generalize (2 : Int) ^ 2000 = B at p5 ⊢; generalize (2 : Int) ^ 501 = C at p5 fb; omega) (by generalize (2 : Int) ^ 2000 = B at p5 ⊢; generalize (2 : Int) ^ 501 = C at p5 fb; omega)
    have T6 := T5.same e6
    refine ⟨_, rfl, _, _, rfl, rfl, cpow (by decide), τ, _, k + 739, rfl, T6, by decide, lt_BigL (by decide), fun d2 H7 e7 T7 d20 d21 => ?_⟩
    refine ⟨_, _, rfl, rfl, cpow (by decide), _, _, rfl, rfl, _, _, rfl, rfl, cpow (by decide), _, rfl, τ, _, k + 738, rfl, T7, by decide, lt_BigL (by decide), fun d3 H8 e8 T8 d30 d31 => ?_⟩
    have p66 : (2 : Int) ^ 66 ≤ 2 ^ 2000 := p_le (by decide)
    have q64 : (2 : Int) ^ (64 : Int).toNat = 18446744073709551616 := by decide
    refine ⟨_, _, rfl, rfl, _, _, rfl, rfl, _, rfl, InB.of (n := 66) (by omega) (by omega) (by decide), fun v3 H9 e9 dv3 => ?_⟩
    have g3 : Gd 8 _ (formD (2 ^ (64 : Int).toNat + d3 - 1)) := gd_form (n := 7) (by generalize (2 : Int) ^ 2000 = B at p66 ⊢; omega) (by generalize (2 : Int) ^ 2000 = B at p66 ⊢; omega)
    refine ⟨(by show 4 ≤ sizeLine; decide), fun p np => ?_⟩
    have T9 := (T8.same e9).new (o := .lst [v0, v1, .int (d2 - 2 ^ (64 : Int).toNat), v3]) np
    have n69 : Nd H6 _ := (e7.trans e8).trans ((Nd.of e9).trans (Nd.new (o := .lst [v0, v1, .int (d2 - 2 ^ (64 : Int).toNat), v3]) np))
    have dall : DpAll K (upd H9 p (.lst [v0, v1, .int (d2 - 2 ^ (64 : Int).toNat), v3])) [v0, v1, .int (d2 - 2 ^ (64 : Int).toNat), v3] [codesD fs cs, formD (alt (-1) fw), .int (d2 - 2 ^ (64 : Int).toNat), formD (2 ^ (64 : Int).toNat + d3 - 1)] :=
      .cons (n69.d ((e5.trans (Nd.of e6)).d dv0)) (.cons (n69.d dv1) (.cons (.int _) (.cons ((Nd.new np).d dv3) .nil)))
    have gall : ∀ x ∈ [codesD fs cs, formD (alt (-1) fw), PyData.int (d2 - 2 ^ (64 : Int).toNat), formD (2 ^ (64 : Int).toNat + d3 - 1)], ∃ h, Gd 8 h x := fun x hx => by
      simp only [List.mem_cons, List.not_mem_nil, or_false] at hx
      rcases hx with rfl | rfl | rfl | rfl
      · exact ⟨_, g0⟩
      · exact ⟨_, g1⟩
      · exact ⟨_, gd_int 8 _⟩
      · exact ⟨_, g3⟩
    generalize [codesD fs cs, formD (alt (-1) fw), PyData.int (d2 - 2 ^ (64 : Int).toNat), formD (2 ^ (64 : Int).toNat + d3 - 1)] = dd at dall gall
    have hp : upd H9 p (.lst [v0, v1, .int (d2 - 2 ^ (64 : Int).toNat), v3]) p = some (.lst [v0, v1, .int (d2 - 2 ^ (64 : Int).toNat), v3]) := upd_same
    have T9' := T9.mono (m := k) (by omega)
    refine ⟨_, rfl, p, rfl, ⟨_, SqL.of hp⟩, ?_⟩
    refine for_list (xs := [v0, v1, .int (d2 - 2 ^ (64 : Int).toNat), v3]) (fun j σ H' => ∃ (z : Option V), σ = [some (.ref a), some (.ref τ.t), some (.int (0 + i)), some (.ref l), some v0, some (.ref p), z] ∧ Same (upd H9 p (.lst [v0, v1, .int (d2 - 2 ^ (64 : Int).toNat), v3])) H')
      ⟨_, rfl, Same.refl _⟩ (fun j σ H' _ h => ?_) (fun j x σ H' hx h => ?_) (fun σ H' h => ?_)
    · obtain ⟨_, _, e⟩ := h
      exact e.seq (SqL.of hp)
    · obtain ⟨z, rfl, e⟩ := h
      obtain ⟨dx, hdx, dpx⟩ := dps_get ((Nd.of e).ds dall) hx
      obtain ⟨hh, g⟩ := gall dx (List.mem_of_getElem? hdx)
      have bd := sz_bd 8 dx g.fm
      have hb0 := ht_nonneg 8 dx
      have hb1 := ht_le 8 dx
      have ls := log_small (x := sz 8 dx) (by omega) bd.2
      have lh := log_small (x := ht 8 dx) hb0 (by omega)
      refine ⟨_, rfl, x, dx, rfl, dpx, g.fm, fun H1 e1 => ?_⟩
      refine ⟨_, rfl, ls, _, rfl, x, dx, rfl, (Nd.of e1).d dpx, g.fm, fun H2 e2 => ?_⟩
      refine ⟨_, rfl, ls, rfl, _, rfl, ?_⟩
      refine iteDN (fun c => absurd rfl c) (fun _ => ?_)
      have e12 := e1.trans e2
      refine ⟨_, rfl, x, dx, rfl, (Nd.of e12).d dpx, g.fm, g.sp, fun H3 e3 => ?_⟩
      rw [lv_ht 8 dx g.sp]
      refine ⟨_, rfl, lh, _, rfl, x, dx, rfl, (Nd.of (e12.trans e3)).d dpx, g.fm, g.ne, fun H4 e4 => ?_⟩
      refine ⟨_, rfl, lh, rfl, _, rfl, ?_⟩
      refine iteDN (fun c => absurd rfl c) (fun _ => ?_)
      exact ⟨_, rfl, e.trans (e12.trans (e3.trans e4))⟩
    · obtain ⟨z, rfl, e⟩ := h
      exact ⟨_, _, _, _, _, rfl, by rw [← hk2]; exact T9'.same e⟩
  · obtain ⟨z2, z3, z4, z5, z6, rfl, T⟩ := h
    have two : ∀ (H1 : Hp) (q1 q2 q3 : Addr), H1 q1 = none → upd H1 q1 (.tup [.int 64, .int 65]) q2 = none → upd (upd H1 q1 (.tup [.int 64, .int 65])) q2 (.tup [.int 0, .int 1, .int 64, .int 65]) q3 = none →
        Dp K (upd (upd (upd H1 q1 (.tup [.int 64, .int 65])) q2 (.tup [.int 0, .int 1, .int 64, .int 65])) q3 (.tup [.ref q1, .ref q2])) (.ref q3) (.tuple [.tuple [.int 64, .int 65], .tuple [.int 0, .int 1, .int 64, .int 65]]) := fun H1 q1 q2 q3 n1 n2 n3 => by
      refine .tup (SqT.of upd_same) (.cons (.tup (SqT.of ?_) (dps_ints [64, 65])) (.cons (.tup (SqT.of ?_) (dps_ints [0, 1, 64, 65])) .nil))
      · exact (Same.new n3) _ _ ((Same.new n2) _ _ upd_same)
      · exact (Same.new n3) _ _ upd_same
    have fm : Fm 8 (.tuple [.tuple [.int 64, .int 65], .tuple [.int 0, .int 1, .int 64, .int 65]]) := by
      have i7 : ∀ i : Int, Fm 6 (.int i) := fun i => Fm.int i
      refine .inr ⟨_, rfl, by show 2 ≤ 2100; decide, fun x hx => ?_⟩
      simp only [List.mem_cons, List.not_mem_nil, or_false] at hx
      rcases hx with rfl | rfl
      · refine .inr ⟨_, rfl, by show 2 ≤ 2100; decide, fun x hx => ?_⟩
        simp only [List.mem_cons, List.not_mem_nil, or_false] at hx
        rcases hx with rfl | rfl <;> exact i7 _
      · refine .inr ⟨_, rfl, by show 4 ≤ 2100; decide, fun x hx => ?_⟩
        simp only [List.mem_cons, List.not_mem_nil, or_false] at hx
        rcases hx with rfl | rfl | rfl | rfl <;> exact i7 _
    have sp : Sp_ 8 (.tuple [.tuple [.int 64, .int 65], .tuple [.int 0, .int 1, .int 64, .int 65]]) := by
      refine ⟨_, rfl, fun x hx => ?_, ⟨_, rfl, fun x hx => ?_, Sp_.int 6 65⟩⟩
      · simp only [List.mem_cons, List.not_mem_nil, or_false] at hx
        rcases hx with rfl | rfl <;> decide +kernel
      · simp only [List.mem_cons, List.not_mem_nil, or_false] at hx
        rcases hx with rfl | rfl | rfl | rfl <;> decide +kernel
    refine ⟨(by show 2 ≤ sizeLine; decide), fun q1 n1 => ?_⟩
    refine ⟨(by show 4 ≤ sizeLine; decide), fun q2 n2 => ?_⟩
    refine ⟨(by show 2 ≤ sizeLine; decide), fun q3 n3 => ?_⟩
    refine ⟨_, _, rfl, two _ _ _ _ n1 n2 n3, fm, fun H1 e1 => ?_⟩
    refine ⟨rfl, ?_⟩
    refine ⟨_, rfl, ?_⟩
    have s9 : sz 8 (.tuple [.tuple [.int 64, .int 65], .tuple [.int 0, .int 1, .int 64, .int 65]]) = 9 := by decide +kernel
    have l2 : lv 8 (.tuple [.tuple [.int 64, .int 65], .tuple [.int 0, .int 1, .int 64, .int 65]]) = 2 := by decide +kernel
    rw [s9]
    refine iteD (fun _ => ?_) (fun c => absurd rfl c)
    refine ⟨(by show 2 ≤ sizeLine; decide), fun r1 n1 => ?_⟩
    refine ⟨(by show 4 ≤ sizeLine; decide), fun r2 n2 => ?_⟩
    refine ⟨(by show 2 ≤ sizeLine; decide), fun r3 n3 => ?_⟩
    refine ⟨_, _, rfl, two _ _ _ _ n1 n2 n3, fm, sp, fun H2 e2 => ?_⟩
    refine ⟨rfl, ?_⟩
    rw [l2]
    exact q H2
end
end Fb
namespace Fb
open PySem L2
theorem all_mk {l : PySem.W.OpenLaw} {w : World} {K : PySem.W.Frag} {h : Heap} {mg : Str → Option Value} {fa : Addr} {f1 f2 f3 f4 f5 f6 f7 f8 f9 f10 f11 f12 f13 f14 f15 f16 f17 f18 f19 f20 : Addr} (X : K.In h) (G : h.Ns mainGlobals mg) (hfa : mg "law" = some (.ref fa))
    {od1 an1 od2 an2 od3 an3 od4 an4 od5 an5 od6 an6 od7 an7 od8 an8 od9 an9 od10 an10 od11 an11 od12 an12 od13 an13 od14 an14 od15 an15 od16 an16 od17 an17 od18 an18 od19 an19 od20 an20 : Option Addr} {sl1 sl2 sl3 sl4 sl5 sl6 sl7 sl8 sl9 sl10 sl11 sl12 sl13 sl14 sl15 sl16 sl17 sl18 sl19 sl20 : Array (Option Value)} {oc1 kV1 dc1 pm1 cd1 ct1 oc2 kV2 dc2 pm2 cd2 ct2 oc3 kV3 dc3 pm3 cd3 ct3 oc4 kV4 dc4 pm4 cd4 ct4 oc5 kV5 dc5 pm5 cd5 ct5 oc6 kV6 dc6 pm6 cd6 ct6 oc7 kV7 dc7 pm7 cd7 ct7 oc8 kV8 dc8 pm8 cd8 ct8 oc9 kV9 dc9 pm9 cd9 ct9 oc10 kV10 dc10 pm10 cd10 ct10 oc11 kV11 dc11 pm11 cd11 ct11 oc12 kV12 dc12 pm12 cd12 ct12 oc13 kV13 dc13 pm13 cd13 ct13 oc14 kV14 dc14 pm14 cd14 ct14 oc15 kV15 dc15 pm15 cd15 ct15 oc16 kV16 dc16 pm16 cd16 ct16 oc17 kV17 dc17 pm17 cd17 ct17 oc18 kV18 dc18 pm18 cd18 ct18 oc19 kV19 dc19 pm19 cd19 ct19 oc20 kV20 dc20 pm20 cd20 ct20 : Value}
    (a1 : PySem.W.nsIn K mainGlobals "parts_in" = some (some (.ref f1))) (l1 : K.lookup f1 = some ⟨oc1, od1, .func (PySem.W.fnOf "parts_in" "parts_in" (defArgs S_parts_in) (defBody S_parts_in) (defScope S_parts_in) .none kV1 dc1 pm1 an1 cd1 ct1), sl1⟩) (c1 : PySem.W.codeIn K cd1 "parts_in" = true) (k1 : PySem.W.keepIn K (.ref f1) = true)
    (a2 : PySem.W.nsIn K mainGlobals "levels_in" = some (some (.ref f2))) (l2 : K.lookup f2 = some ⟨oc2, od2, .func (PySem.W.fnOf "levels_in" "levels_in" (defArgs S_levels_in) (defBody S_levels_in) (defScope S_levels_in) .none kV2 dc2 pm2 an2 cd2 ct2), sl2⟩) (c2 : PySem.W.codeIn K cd2 "levels_in" = true) (k2 : PySem.W.keepIn K (.ref f2) = true)
    (a3 : PySem.W.nsIn K mainGlobals "size_of" = some (some (.ref f3))) (l3 : K.lookup f3 = some ⟨oc3, od3, .func (PySem.W.fnOf "size_of" "size_of" (defArgs S_size_of) (defBody S_size_of) (defScope S_size_of) .none kV3 dc3 pm3 an3 cd3 ct3), sl3⟩) (c3 : PySem.W.codeIn K cd3 "size_of" = true) (k3 : PySem.W.keepIn K (.ref f3) = true)
    (a4 : PySem.W.nsIn K mainGlobals "height_of" = some (some (.ref f4))) (l4 : K.lookup f4 = some ⟨oc4, od4, .func (PySem.W.fnOf "height_of" "height_of" (defArgs S_height_of) (defBody S_height_of) (defScope S_height_of) .none kV4 dc4 pm4 an4 cd4 ct4), sl4⟩) (c4 : PySem.W.codeIn K cd4 "height_of" = true) (k4 : PySem.W.keepIn K (.ref f4) = true)
    (a5 : PySem.W.nsIn K mainGlobals "_law_begin" = some (some (.ref f5))) (l5 : K.lookup f5 = some ⟨oc5, od5, .func (PySem.W.fnOf "_law_begin" "_law_begin" (defArgs S__law_begin) (defBody S__law_begin) (defScope S__law_begin) .none kV5 dc5 pm5 an5 cd5 ct5), sl5⟩) (c5 : PySem.W.codeIn K cd5 "_law_begin" = true) (k5 : PySem.W.keepIn K (.ref f5) = true)
    (a6 : PySem.W.nsIn K mainGlobals "_law_draw" = some (some (.ref f6))) (l6 : K.lookup f6 = some ⟨oc6, od6, .func (PySem.W.fnOf "_law_draw" "_law_draw" (defArgs S__law_draw) (defBody S__law_draw) (defScope S__law_draw) .none kV6 dc6 pm6 an6 cd6 ct6), sl6⟩) (c6 : PySem.W.codeIn K cd6 "_law_draw" = true) (k6 : PySem.W.keepIn K (.ref f6) = true)
    (a7 : PySem.W.nsIn K mainGlobals "_law_pick" = some (some (.ref f7))) (l7 : K.lookup f7 = some ⟨oc7, od7, .func (PySem.W.fnOf "_law_pick" "_law_pick" (defArgs S__law_pick) (defBody S__law_pick) (defScope S__law_pick) .none kV7 dc7 pm7 an7 cd7 ct7), sl7⟩) (c7 : PySem.W.codeIn K cd7 "_law_pick" = true) (k7 : PySem.W.keepIn K (.ref f7) = true)
    (a8 : PySem.W.nsIn K mainGlobals "_law_turns" = some (some (.ref f8))) (l8 : K.lookup f8 = some ⟨oc8, od8, .func (PySem.W.fnOf "_law_turns" "_law_turns" (defArgs S__law_turns) (defBody S__law_turns) (defScope S__law_turns) .none kV8 dc8 pm8 an8 cd8 ct8), sl8⟩) (c8 : PySem.W.codeIn K cd8 "_law_turns" = true) (k8 : PySem.W.keepIn K (.ref f8) = true)
    (a9 : PySem.W.nsIn K mainGlobals "_law_int" = some (some (.ref f9))) (l9 : K.lookup f9 = some ⟨oc9, od9, .func (PySem.W.fnOf "_law_int" "_law_int" (defArgs S__law_int) (defBody S__law_int) (defScope S__law_int) .none kV9 dc9 pm9 an9 cd9 ct9), sl9⟩) (c9 : PySem.W.codeIn K cd9 "_law_int" = true) (k9 : PySem.W.keepIn K (.ref f9) = true)
    (a10 : PySem.W.nsIn K mainGlobals "_law_form" = some (some (.ref f10))) (l10 : K.lookup f10 = some ⟨oc10, od10, .func (PySem.W.fnOf "_law_form" "_law_form" (defArgs S__law_form) (defBody S__law_form) (defScope S__law_form) .none kV10 dc10 pm10 an10 cd10 ct10), sl10⟩) (c10 : PySem.W.codeIn K cd10 "_law_form" = true) (k10 : PySem.W.keepIn K (.ref f10) = true)
    (a11 : PySem.W.nsIn K mainGlobals "_law_row_form" = some (some (.ref f11))) (l11 : K.lookup f11 = some ⟨oc11, od11, .func (PySem.W.fnOf "_law_row_form" "_law_row_form" (defArgs S__law_row_form) (defBody S__law_row_form) (defScope S__law_row_form) .none kV11 dc11 pm11 an11 cd11 ct11), sl11⟩) (c11 : PySem.W.codeIn K cd11 "_law_row_form" = true) (k11 : PySem.W.keepIn K (.ref f11) = true)
    (a12 : PySem.W.nsIn K mainGlobals "_law_size" = some (some (.ref f12))) (l12 : K.lookup f12 = some ⟨oc12, od12, .func (PySem.W.fnOf "_law_size" "_law_size" (defArgs S__law_size) (defBody S__law_size) (defScope S__law_size) .none kV12 dc12 pm12 an12 cd12 ct12), sl12⟩) (c12 : PySem.W.codeIn K cd12 "_law_size" = true) (k12 : PySem.W.keepIn K (.ref f12) = true)
    (a13 : PySem.W.nsIn K mainGlobals "_law_height" = some (some (.ref f13))) (l13 : K.lookup f13 = some ⟨oc13, od13, .func (PySem.W.fnOf "_law_height" "_law_height" (defArgs S__law_height) (defBody S__law_height) (defScope S__law_height) .none kV13 dc13 pm13 an13 cd13 ct13), sl13⟩) (c13 : PySem.W.codeIn K cd13 "_law_height" = true) (k13 : PySem.W.keepIn K (.ref f13) = true)
    (a14 : PySem.W.nsIn K mainGlobals "_law_fields" = some (some (.ref f14))) (l14 : K.lookup f14 = some ⟨oc14, od14, .func (PySem.W.fnOf "_law_fields" "_law_fields" (defArgs S__law_fields) (defBody S__law_fields) (defScope S__law_fields) .none kV14 dc14 pm14 an14 cd14 ct14), sl14⟩) (c14 : PySem.W.codeIn K cd14 "_law_fields" = true) (k14 : PySem.W.keepIn K (.ref f14) = true)
    (a15 : PySem.W.nsIn K mainGlobals "_law_moved" = some (some (.ref f15))) (l15 : K.lookup f15 = some ⟨oc15, od15, .func (PySem.W.fnOf "_law_moved" "_law_moved" (defArgs S__law_moved) (defBody S__law_moved) (defScope S__law_moved) .none kV15 dc15 pm15 an15 cd15 ct15), sl15⟩) (c15 : PySem.W.codeIn K cd15 "_law_moved" = true) (k15 : PySem.W.keepIn K (.ref f15) = true)
    (a16 : PySem.W.nsIn K mainGlobals "_law_form_of_codes" = some (some (.ref f16))) (l16 : K.lookup f16 = some ⟨oc16, od16, .func (PySem.W.fnOf "_law_form_of_codes" "_law_form_of_codes" (defArgs S__law_form_of_codes) (defBody S__law_form_of_codes) (defScope S__law_form_of_codes) .none kV16 dc16 pm16 an16 cd16 ct16), sl16⟩) (c16 : PySem.W.codeIn K cd16 "_law_form_of_codes" = true) (k16 : PySem.W.keepIn K (.ref f16) = true)
    (a17 : PySem.W.nsIn K mainGlobals "_law_code" = some (some (.ref f17))) (l17 : K.lookup f17 = some ⟨oc17, od17, .func (PySem.W.fnOf "_law_code" "_law_code" (defArgs S__law_code) (defBody S__law_code) (defScope S__law_code) .none kV17 dc17 pm17 an17 cd17 ct17), sl17⟩) (c17 : PySem.W.codeIn K cd17 "_law_code" = true) (k17 : PySem.W.keepIn K (.ref f17) = true)
    {T18 : Addr} {oT18 : Obj} {nT18 : Nat}
    (a18 : PySem.W.nsIn K mainGlobals "_law_codes" = some (some (.ref f18))) (l18 : K.lookup f18 = some ⟨oc18, od18, .func (PySem.W.fnOf "_law_codes" "_law_codes" (defArgs S__law_codes) (defBody S__law_codes) (defScope S__law_codes) (.ref T18) kV18 dc18 pm18 an18 cd18 ct18), sl18⟩) (c18 : PySem.W.codeIn K cd18 "_law_codes" = true) (k18 : PySem.W.keepIn K (.ref f18) = true)
    (t18 : K.lookup T18 = some oT18) (u18 : oT18.data = .seq #[.none] nT18)
    (a19 : PySem.W.nsIn K mainGlobals "_law_few" = some (some (.ref f19))) (l19 : K.lookup f19 = some ⟨oc19, od19, .func (PySem.W.fnOf "_law_few" "_law_few" (defArgs S__law_few) (defBody S__law_few) (defScope S__law_few) .none kV19 dc19 pm19 an19 cd19 ct19), sl19⟩) (c19 : PySem.W.codeIn K cd19 "_law_few" = true) (k19 : PySem.W.keepIn K (.ref f19) = true)
    (a20 : PySem.W.nsIn K mainGlobals "law" = some (some (.ref f20))) (l20 : K.lookup f20 = some ⟨oc20, od20, .func (PySem.W.fnOf "law" "law" (defArgs S_law) (defBody S_law) (defScope S_law) .none kV20 dc20 pm20 an20 cd20 ct20), sl20⟩) (c20 : PySem.W.codeIn K cd20 "law" = true) (k20 : PySem.W.keepIn K (.ref f20) = true)
    (z_len : PySem.W.nsIn K mainGlobals "len" = some none)
    (z_int : PySem.W.nsIn K mainGlobals "int" = some none)
    (z_isinstance : PySem.W.nsIn K mainGlobals "isinstance" = some none)
    (z_sum : PySem.W.nsIn K mainGlobals "sum" = some none)
    (z_max : PySem.W.nsIn K mainGlobals "max" = some none)
    (z_min : PySem.W.nsIn K mainGlobals "min" = some none)
    (z_sorted : PySem.W.nsIn K mainGlobals "sorted" = some none)
    (z_tuple : PySem.W.nsIn K mainGlobals "tuple" = some none)
    (z_list : PySem.W.nsIn K mainGlobals "list" = some none)
    (z_range : PySem.W.nsIn K mainGlobals "range" = some none)
    (z_repr : PySem.W.nsIn K mainGlobals "repr" = some none) :
    ∃ fd : FuncData, (∀ (s : Shared) (v : Value), BindsTo s fd ⟨[v], []⟩ [("_law_script", v)]) ∧ ∀ base : Heap, K.In base → base.Ns mainGlobals mg → FnOk l.prog w K mg base CX0 12 fa fd ["_law_script"] (spLaw K) := by
  have e := hfa.symm.trans (PySem.W.mg_of X G a20)
  cases e
  have F_parts_in := fun_mk (st := S_parts_in) l1 c1 k1
  have b_parts_in := F_parts_in.binds (ps := P_parts_in) fun _ _ _ _ _ _ us hl => match us, hl with | [_], _ => rfl
  have m_parts_in := PySem.W.mg_of X G a1
  have F_levels_in := fun_mk (st := S_levels_in) l2 c2 k2
  have b_levels_in := F_levels_in.binds (ps := P_levels_in) fun _ _ _ _ _ _ us hl => match us, hl with | [_], _ => rfl
  have m_levels_in := PySem.W.mg_of X G a2
  have F_size_of := fun_mk (st := S_size_of) l3 c3 k3
  have b_size_of := F_size_of.binds (ps := P_size_of) fun _ _ _ _ _ _ us hl => match us, hl with | [_], _ => rfl
  have m_size_of := PySem.W.mg_of X G a3
  have F_height_of := fun_mk (st := S_height_of) l4 c4 k4
  have b_height_of := F_height_of.binds (ps := P_height_of) fun _ _ _ _ _ _ us hl => match us, hl with | [_], _ => rfl
  have m_height_of := PySem.W.mg_of X G a4
  have F__law_begin := fun_mk (st := S__law_begin) l5 c5 k5
  have b__law_begin := F__law_begin.binds (ps := P__law_begin) fun _ _ _ _ _ _ us hl => match us, hl with | [_], _ => rfl
  have m__law_begin := PySem.W.mg_of X G a5
  have F__law_draw := fun_mk (st := S__law_draw) l6 c6 k6
  have b__law_draw := F__law_draw.binds (ps := P__law_draw) fun _ _ _ _ _ _ us hl => match us, hl with | [_, _], _ => rfl
  have m__law_draw := PySem.W.mg_of X G a6
  have F__law_pick := fun_mk (st := S__law_pick) l7 c7 k7
  have b__law_pick := F__law_pick.binds (ps := P__law_pick) fun _ _ _ _ _ _ us hl => match us, hl with | [_, _], _ => rfl
  have m__law_pick := PySem.W.mg_of X G a7
  have F__law_turns := fun_mk (st := S__law_turns) l8 c8 k8
  have b__law_turns := F__law_turns.binds (ps := P__law_turns) fun _ _ _ _ _ _ us hl => match us, hl with | [_], _ => rfl
  have m__law_turns := PySem.W.mg_of X G a8
  have F__law_int := fun_mk (st := S__law_int) l9 c9 k9
  have b__law_int := F__law_int.binds (ps := P__law_int) fun _ _ _ _ _ _ us hl => match us, hl with | [_], _ => rfl
  have m__law_int := PySem.W.mg_of X G a9
  have F__law_form := fun_mk (st := S__law_form) l10 c10 k10
  have b__law_form := F__law_form.binds (ps := P__law_form) fun _ _ _ _ _ _ us hl => match us, hl with | [_], _ => rfl
  have m__law_form := PySem.W.mg_of X G a10
  have F__law_row_form := fun_mk (st := S__law_row_form) l11 c11 k11
  have b__law_row_form := F__law_row_form.binds (ps := P__law_row_form) fun _ _ _ _ _ _ us hl => match us, hl with | [_], _ => rfl
  have m__law_row_form := PySem.W.mg_of X G a11
  have F__law_size := fun_mk (st := S__law_size) l12 c12 k12
  have b__law_size := F__law_size.binds (ps := P__law_size) fun _ _ _ _ _ _ us hl => match us, hl with | [_], _ => rfl
  have m__law_size := PySem.W.mg_of X G a12
  have F__law_height := fun_mk (st := S__law_height) l13 c13 k13
  have b__law_height := F__law_height.binds (ps := P__law_height) fun _ _ _ _ _ _ us hl => match us, hl with | [_], _ => rfl
  have m__law_height := PySem.W.mg_of X G a13
  have F__law_fields := fun_mk (st := S__law_fields) l14 c14 k14
  have b__law_fields := F__law_fields.binds (ps := P__law_fields) fun _ _ _ _ _ _ us hl => match us, hl with | [_, _], _ => rfl
  have m__law_fields := PySem.W.mg_of X G a14
  have F__law_moved := fun_mk (st := S__law_moved) l15 c15 k15
  have b__law_moved := F__law_moved.binds (ps := P__law_moved) fun _ _ _ _ _ _ us hl => match us, hl with | [_, _], _ => rfl
  have m__law_moved := PySem.W.mg_of X G a15
  have F__law_form_of_codes := fun_mk (st := S__law_form_of_codes) l16 c16 k16
  have b__law_form_of_codes := F__law_form_of_codes.binds (ps := P__law_form_of_codes) fun _ _ _ _ _ _ us hl => match us, hl with | [_, _], _ => rfl
  have m__law_form_of_codes := PySem.W.mg_of X G a16
  have F__law_code := fun_mk (st := S__law_code) l17 c17 k17
  have b__law_code := F__law_code.binds (ps := P__law_code) fun _ _ _ _ _ _ us hl => match us, hl with | [_, _, _], _ => rfl
  have m__law_code := PySem.W.mg_of X G a17
  have F__law_codes : FunD K "_law_codes" "_law_codes" (defArgs S__law_codes) (defBody S__law_codes) (defScope S__law_codes) [.non] [] f18 _ := ⟨⟨oc18, od18, .ref T18, kV18, dc18, pm18, an18, cd18, ct18, sl18, rfl, l18, c18, .inr ⟨List.cons_ne_nil _ _, T18, oT18, [.none], nT18, rfl, t18, u18, .cons rfl .nil⟩, .inl rfl⟩, k18⟩
  obtain ⟨ds__law_codes, v__law_codes, b__law_codes⟩ := F__law_codes.binds1 (ps := P__law_codes) 3 0 (List.cons_ne_nil _ _) rfl (fun _ _ _ _ _ _ _ us its hl hi => match us, hl, its, hi with | [_, _, _], _, [_], _ => ⟨_, rfl, rfl⟩)
  have m__law_codes := PySem.W.mg_of X G a18
  have F__law_few := fun_mk (st := S__law_few) l19 c19 k19
  have b__law_few := F__law_few.binds (ps := P__law_few) fun _ _ _ _ _ _ us hl => match us, hl with | [_, _], _ => rfl
  have m__law_few := PySem.W.mg_of X G a19
  have F_law := fun_mk (st := S_law) l20 c20 k20
  have B : Blt mg := ⟨PySem.W.mg_none_of X G z_len, PySem.W.mg_none_of X G z_int, PySem.W.mg_none_of X G z_isinstance, PySem.W.mg_none_of X G z_sum, PySem.W.mg_none_of X G z_max, PySem.W.mg_none_of X G z_min, PySem.W.mg_none_of X G z_sorted, PySem.W.mg_none_of X G z_tuple, PySem.W.mg_none_of X G z_list, PySem.W.mg_none_of X G z_range, PySem.W.mg_none_of X G z_repr⟩
  refine ⟨PySem.W.fnOf "law" "law" (defArgs S_law) (defBody S_law) (defScope S_law) .none kV20 dc20 pm20 an20 cd20 ct20, fun s v => .of_eq rfl, fun base _ _ => ?_⟩
  have C_law_begin : Has l.prog w K mg base 1 "_law_begin" P__law_begin [] _ := ⟨_, _, [], ok_begin F__law_begin, F__law_begin.kp, m__law_begin, .nil, b__law_begin⟩
  have C_law_draw : Has l.prog w K mg base 1 "_law_draw" P__law_draw [] _ := ⟨_, _, [], ok_draw F__law_draw B, F__law_draw.kp, m__law_draw, .nil, b__law_draw⟩
  have C_law_pick : Has l.prog w K mg base 2 "_law_pick" P__law_pick [] _ := ⟨_, _, [], ok_pick F__law_pick B C_law_draw, F__law_pick.kp, m__law_pick, .nil, b__law_pick⟩
  have C_law_turns : Has l.prog w K mg base 1 "_law_turns" P__law_turns [] _ := ⟨_, _, [], ok_turns F__law_turns, F__law_turns.kp, m__law_turns, .nil, b__law_turns⟩
  have C_law_int : Has l.prog w K mg base 1 "_law_int" P__law_int [] _ := ⟨_, _, [], ok_int F__law_int, F__law_int.kp, m__law_int, .nil, b__law_int⟩
  have C_law_form : Has l.prog w K mg base 2 "_law_form" P__law_form [] _ := ⟨_, _, [], ok_form F__law_form B C_law_turns, F__law_form.kp, m__law_form, .nil, b__law_form⟩
  have C_law_row_form : Has l.prog w K mg base 2 "_law_row_form" P__law_row_form [] _ := ⟨_, _, [], ok_row F__law_row_form B C_law_int, F__law_row_form.kp, m__law_row_form, .nil, b__law_row_form⟩
  have C_law_moved : Has l.prog w K mg base 3 "_law_moved" P__law_moved [] _ := ⟨_, _, [], ok_moved F__law_moved B C_law_turns C_law_form C_law_row_form, F__law_moved.kp, m__law_moved, .nil, b__law_moved⟩
  have C_law_form_of_codes : Has l.prog w K mg base 4 "_law_form_of_codes" P__law_form_of_codes [] _ := ⟨_, _, [], ok_foc F__law_form_of_codes C_law_moved C_law_row_form, F__law_form_of_codes.kp, m__law_form_of_codes, .nil, b__law_form_of_codes⟩
  have C_law_code : Has l.prog w K mg base 3 "_law_code" P__law_code [] _ := ⟨_, _, [], ok_code F__law_code B C_law_draw C_law_pick, F__law_code.kp, m__law_code, .nil, b__law_code⟩
  have C_law_codes_d : Has l.prog w K mg base 4 "_law_codes" P__law_codes [.non] _ := ⟨_, _, ds__law_codes, ok_codes F__law_codes B C_law_code, F__law_codes.kp, m__law_codes, v__law_codes, b__law_codes⟩
  have C_law_fields : Has l.prog w K mg base 3 "_law_fields" P__law_fields [] _ := ⟨_, _, [], ok_fields F__law_fields B C_law_draw C_law_pick, F__law_fields.kp, m__law_fields, .nil, b__law_fields⟩
  have C_law_few : Has l.prog w K mg base 3 "_law_few" P__law_few [] _ := ⟨_, _, [], ok_few F__law_few B C_law_draw C_law_pick C_law_int, F__law_few.kp, m__law_few, .nil, b__law_few⟩
  have Cparts_in : Has l.prog w K mg base 9 "parts_in" P_parts_in [] _ := ⟨_, _, [], ok_parts F_parts_in B b_parts_in m_parts_in 9, F_parts_in.kp, m_parts_in, .nil, b_parts_in⟩
  have Clevels_in : Has l.prog w K mg base 1 "levels_in" P_levels_in [] _ := ⟨_, _, [], ok_levels (n := 8) F_levels_in B, F_levels_in.kp, m_levels_in, .nil, b_levels_in⟩
  have Csize_of : Has l.prog w K mg base 10 "size_of" P_size_of [] _ := ⟨_, _, [], ok_size F_size_of B Cparts_in, F_size_of.kp, m_size_of, .nil, b_size_of⟩
  have Cheight_of : Has l.prog w K mg base 2 "height_of" P_height_of [] _ := ⟨_, _, [], ok_height F_height_of B Clevels_in, F_height_of.kp, m_height_of, .nil, b_height_of⟩
  have C_law_size : Has l.prog w K mg base 9 "_law_size" P__law_size [] _ := ⟨_, _, [], ok_lsize F__law_size B b__law_size m__law_size 9, F__law_size.kp, m__law_size, .nil, b__law_size⟩
  have C_law_height : Has l.prog w K mg base 9 "_law_height" P__law_height [] _ := ⟨_, _, [], ok_lheight F__law_height B b__law_height m__law_height 9, F__law_height.kp, m__law_height, .nil, b__law_height⟩
  exact ok_law F_law B C_law_begin C_law_draw C_law_fields C_law_codes_d C_law_form_of_codes C_law_form C_law_few Csize_of C_law_size Cheight_of C_law_height
theorem walk {l : PySem.W.OpenLaw} {q : Program} {loose : List Str} {XP : (Str → Option Value) → Heap → Prop} {YP : World → Heap → Prop} {d : DefRec} {K : Params → PySem.W.Frag} (hn : l.most = some 63) (hdf : d.params.defaults = [])
    (hY : ∀ (w : World) (h : Heap), YP w h → (K w.params).In h)
    (F : ∀ (w : World) (mg : Str → Option Value) (fa : Addr) (h : Heap), (K w.params).In h → h.Ns mainGlobals mg → mg d.name = some (.ref fa) →
      ∃ fd : FuncData, (∀ (s : Shared) (u : Value), BindsTo s fd ⟨[u], []⟩ [("_law_script", u)]) ∧ ∀ base : Heap, (K w.params).In base → base.Ns mainGlobals mg → FnOk l.prog w (K w.params) mg base CX0 12 fa fd ["_law_script"] (spLaw (K w.params))) :
    PySem.W.WalkO q loose XP YP l.row.toRowW d [] (fun f vs => PySem.call f vs) :=
  L2.walk_of (n := 63) (k := 12) (x := "_law_script") (CX := fun _ => CX0) (sp := fun w => spLaw (K w.params)) hn (by decide) hdf ⟨rfl, by decide, by decide⟩ hY F (fun _ _ a ns hl _ hS => ⟨a, ns, rfl, hS, hl, fun _ => rfl⟩) fun _ _ _ _ _ z => z
end Fb
open PySem PySem.W PyProof.Rows
set_option maxRecDepth 100000 in
set_option maxHeartbeats 0 in
theorem PySem.Challenge.cw_farbits_k03_sizes_and_heights_holds : PySem.Challenge.rw_farbits_k03_sizes_and_heights.Holds := by
  w_on; o_law; k_head; (case hw => w_witness2)
  k_fill
  refine Fb.walk (l := PySem.Challenge.rw_farbits_k03_sizes_and_heights) rfl rfl (fun w h Y => PySem.W.kIn_of Y) ?F
  case F =>
    intro w mg fa h KX G hmg
    refine' Fb.all_mk KX G hmg ?a1 ?l1 ?c1 ?k1 ?a2 ?l2 ?c2 ?k2 ?a3 ?l3 ?c3 ?k3 ?a4 ?l4 ?c4 ?k4 ?a5 ?l5 ?c5 ?k5 ?a6 ?l6 ?c6 ?k6 ?a7 ?l7 ?c7 ?k7 ?a8 ?l8 ?c8 ?k8 ?a9 ?l9 ?c9 ?k9 ?a10 ?l10 ?c10 ?k10 ?a11 ?l11 ?c11 ?k11 ?a12 ?l12 ?c12 ?k12 ?a13 ?l13 ?c13 ?k13 ?a14 ?l14 ?c14 ?k14 ?a15 ?l15 ?c15 ?k15 ?a16 ?l16 ?c16 ?k16 ?a17 ?l17 ?c17 ?k17 ?a18 ?l18 ?c18 ?k18 ?t18 ?u18 ?a19 ?l19 ?c19 ?k19 ?a20 ?l20 ?c20 ?k20 ?z_len ?z_int ?z_isinstance ?z_sum ?z_max ?z_min ?z_sorted ?z_tuple ?z_list ?z_range ?z_repr
    (case a1 => k_is)
    (case l1 => k_is)
    (case c1 => k_is)
    (case k1 => k_is)
    (case a2 => k_is)
    (case l2 => k_is)
    (case c2 => k_is)
    (case k2 => k_is)
    (case a3 => k_is)
    (case l3 => k_is)
    (case c3 => k_is)
    (case k3 => k_is)
    (case a4 => k_is)
    (case l4 => k_is)
    (case c4 => k_is)
    (case k4 => k_is)
    (case a5 => k_is)
    (case l5 => k_is)
    (case c5 => k_is)
    (case k5 => k_is)
    (case a6 => k_is)
    (case l6 => k_is)
    (case c6 => k_is)
    (case k6 => k_is)
    (case a7 => k_is)
    (case l7 => k_is)
    (case c7 => k_is)
    (case k7 => k_is)
    (case a8 => k_is)
    (case l8 => k_is)
    (case c8 => k_is)
    (case k8 => k_is)
    (case a9 => k_is)
    (case l9 => k_is)
    (case c9 => k_is)
    (case k9 => k_is)
    (case a10 => k_is)
    (case l10 => k_is)
    (case c10 => k_is)
    (case k10 => k_is)
    (case a11 => k_is)
    (case l11 => k_is)
    (case c11 => k_is)
    (case k11 => k_is)
    (case a12 => k_is)
    (case l12 => k_is)
    (case c12 => k_is)
    (case k12 => k_is)
    (case a13 => k_is)
    (case l13 => k_is)
    (case c13 => k_is)
    (case k13 => k_is)
    (case a14 => k_is)
    (case l14 => k_is)
    (case c14 => k_is)
    (case k14 => k_is)
    (case a15 => k_is)
    (case l15 => k_is)
    (case c15 => k_is)
    (case k15 => k_is)
    (case a16 => k_is)
    (case l16 => k_is)
    (case c16 => k_is)
    (case k16 => k_is)
    (case a17 => k_is)
    (case l17 => k_is)
    (case c17 => k_is)
    (case k17 => k_is)
    (case a18 => k_is)
    (case l18 => k_is)
    (case c18 => k_is)
    (case k18 => k_is)
    (case t18 => k_is)
    (case u18 => first | k_is | rfl)
    (case a19 => k_is)
    (case l19 => k_is)
    (case c19 => k_is)
    (case k19 => k_is)
    (case a20 => k_is)
    (case l20 => k_is)
    (case c20 => k_is)
    (case k20 => k_is)
    (case z_len => k_is)
    (case z_int => k_is)
    (case z_isinstance => k_is)
    (case z_sum => k_is)
    (case z_max => k_is)
    (case z_min => k_is)
    (case z_sorted => k_is)
    (case z_tuple => k_is)
    (case z_list => k_is)
    (case z_range => k_is)
    (case z_repr => k_is)
