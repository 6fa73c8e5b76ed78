import PyProof.Rows.All
import Wide.All
import OpenK.AllK
import Wide.FinOn
import HandS.ForMost
import HandS.Wide
import HandS.WideBits
import HandS.Flow
import HandS.Style
import HandS.Small
import HandS.SortInts
import HandS.IsInst
import HandS.TupAny
import HandS.RaiseMore
import HandS.Defaults
import HandS.Codes
import KE.KBits
import KE.KExcSuper
import KE.KSuper
import HandS.Nested
import HandS.ExcInit
import HandS.ExcField
import HandS.WordsExc
import HandS.ForExc
import KE.KExcIs
import HandS.ExcIs
import KE.KIsAll
import HandS.Ends
import PyProof.ReprRoads
import HandS.FStrTup
import HandS.FStr
import KE.KxField
import KE.OsArith
import KE.BitLaws
import HandS.IntHex
import HandS.Iter
import HandS.Comp
import OpenK.Peek
import HandS.Star
import PyProof.AutoSeq1
import HandS.EndOwn
import HandS.Lambda
import PySem.Challenge.RW_farbits_k16_whole_rests_of_results
set_option Elab.async false
set_option linter.all false
set_option maxRecDepth 100000
set_option maxHeartbeats 4000000
namespace Fb
open PySem L2
/-- a def that stands in the module and keeps a promise -/
structure Has (P : Program) (w : World) (K : PySem.W.Frag) (mg : Str → Option Value) (base : Heap) (k : Nat) (x : Str) (ps : List Str) (dvs : List V) (sp : Sp) : Prop where
  ex : ∃ f fd ds, FnOk P w K mg base CX0 k f fd ps sp ∧ PySem.W.keepIn K (.ref f) = true ∧ mg x = some (.ref f) ∧ Vals dvs ds ∧ Binds K fd ps ds
section
variable {X : Cx} {k : Nat} {x : Str} {ps : List Str} {dvs : List V} {sp : Sp} {e : Expr} {es : List Expr} {t : TA} {p pos : Pos}
theorem pe_H (C : Has X.prog X.w X.K X.mg X.base k x ps dvs sp) (hr : Room k X.A) (hg : Gl X x) (ha : PA X (e :: es) t) (hdb : (x == ("__debug__" : Str)) = false := by decide)
    (he : starEach (e :: es) X.env = (false, eval e X.env) :: starEach es X.env := by rfl) (hpl : (backTo pos (starEach es X.env)).any (·.1) = false := by rfl) :
    PE X (.Call (.Name x p) (e :: es) [] pos) (tCall sp dvs E0 t) := by
  obtain ⟨f, fd, ds, F, hk, hm, hd, hb⟩ := C.ex
  exact pe_call F hr hg hm hk hb hd pass0 ha hdb he hpl
/-- a def with defaults, its body over CX0 -/
theorem funD_ok {P : Program} {w : World} {K : PySem.W.Frag} {mg : Str → Option Value} {base : Heap} {x qual : Str} {st : Stmt} {dvs : List V} {kws : List (Str × V)} {f : Addr} {fd : FuncData} {N ps : List Str} {k : Nat} {sp : Sp} (F : FunD K x qual (defArgs st) (defBody st) (defScope st) dvs kws f fd) (S : FnScope N ps (defScope st)) (len : ∀ vs H Q E, sp vs H Q E → vs.length = ps.length)
    (hbody : ∀ (cdv : Value) (A : Around) (outer : List Env) (s : Shared) (H : Hp) (vs : List V) (Q : VK) (E : XK), Room k (A.deeper (PyProof.Rows.envOfC qual (defScope st) s.heap.objs.size f cdv)) → sp vs H Q E →
      ∃ t, PSs (cxOf CX0 P w K mg base N qual (defScope st) f cdv A outer s H E).nox (defBody st) t ∧ t { nx := fun _ H' => Q .non H', rt := Q } (L2.start N vs) H) : FnOk P w K mg base CX0 (k + 1) f fd ps sp :=
  F.ok S len fun cdv A outer s H vs Q E hr h => by
    obtain ⟨t, h, q⟩ := hbody cdv A outer s H vs Q E hr h
    exact ⟨t, h.nox, q⟩
end
/-- the built-ins that the text names are the built-ins -/
structure Blt (mg : Str → Option Value) : Prop where
  len : mg "len" = none
  int : mg "int" = none
  isinstance : mg "isinstance" = none
  sum : mg "sum" = none
  max : mg "max" = none
  min : mg "min" = none
  sorted : mg "sorted" = none
  tuple : mg "tuple" = none
  list : mg "list" = none
  range : mg "range" = none
  repr : mg "repr" = none
  bool : mg "bool" = none
  abs : mg "abs" = none
  enumerate : mg "enumerate" = none
  zip : mg "zip" = none
  str : mg "str" = none
  dict : mg "dict" = none
/-! ### heaps: all but the dicts is as it was -/
structure Nd (H H' : Hp) : Prop where
  k : ∀ b o, H b = some o → (∀ kv, o ≠ .dK kv) → H' b = some o
  f : ∀ b, H' b = none → H b = none
theorem Nd.refl (H : Hp) : Nd H H := ⟨fun _ _ h _ => h, fun _ h => h⟩
theorem Nd.trans {H H1 H2 : Hp} (a : Nd H H1) (b : Nd H1 H2) : Nd H H2 := ⟨fun x o h n => b.k x o (a.k x o h n) n, fun x h => a.f x (b.f x h)⟩
theorem Nd.of {H H' : Hp} (a : Same H H') : Nd H H' := ⟨fun x o h _ => a x o h, fun _ h => a.free h⟩
theorem upd_none {H : Hp} {p b : Addr} {o : HO} (h : upd H p o b = none) : H b = none ∧ b ≠ p := by
  have hn : b ≠ p := by rintro rfl; rw [upd_same] at h; cases h
  rw [upd_ne hn] at h
  exact ⟨h, hn⟩
theorem Nd.tape {t : Addr} {H : Hp} {o : HO} {kv : List (Key × V)} (h : H t = some (.dK kv)) : Nd H (upd H t o) := ⟨fun x u e n => by
  rw [upd_ne (by rintro rfl; rw [h] at e; cases e; exact n _ rfl)]; exact e, fun _ h => (upd_none h).1⟩
theorem Nd.new {p : Addr} {H : Hp} {o : HO} (h : H p = none) : Nd H (upd H p o) := ⟨fun x u e _ => by rw [upd_ne (ne_of_none e h)]; exact e, fun _ h => (upd_none h).1⟩
theorem Nd.sql {K : PySem.W.Frag} {c : Addr} {H H' : Hp} {xs : List V} (e : Nd H H') (h : SqL K H c xs) : SqL K H' c xs := by
  rcases h with (h | ⟨o, h⟩) | h
  · exact .inl (.inl (e.k _ _ h fun _ z => nomatch z))
  · exact .inl (.inr ⟨o, e.k _ _ h fun _ z => nomatch z⟩)
  · exact .inr h
theorem Nd.sqt {K : PySem.W.Frag} {c : Addr} {H H' : Hp} {xs : List V} (e : Nd H H') (h : SqT K H c xs) : SqT K H' c xs := by
  rcases h with (h | ⟨o, h⟩) | h
  · exact .inl (.inl (e.k _ _ h fun _ z => nomatch z))
  · exact .inl (.inr ⟨o, e.k _ _ h fun _ z => nomatch z⟩)
  · exact .inr h
theorem Nd.lst {a : Addr} {H H' : Hp} {xs : List V} (e : Nd H H') (h : H a = some (.lst xs)) : H' a = some (.lst xs) := e.k _ _ h fun _ z => nomatch z
mutual
theorem Nd.dp {K : PySem.W.Frag} {H H' : Hp} (e : Nd H H') : ∀ (d : PyData) (v : V), Dp K H v d → Dp K H' v d
  | .none, _, h => by cases h; exact .non
  | .bool b, _, h => by cases h; exact .bl b
  | .int i, _, h => by cases h; exact .int i
  | .str x, _, h => by cases h; exact .str x
  | .list ds, _, h => by
    cases h with
    | lst hs ha => exact .lst (e.sql hs) (Nd.dps e ds _ ha)
  | .tuple ds, _, h => by
    cases h with
    | tup hs ha => exact .tup (e.sqt hs) (Nd.dps e ds _ ha)
  | .dict _, _, h => by cases h
theorem Nd.dps {K : PySem.W.Frag} {H H' : Hp} (e : Nd H H') : ∀ (ds : List PyData) (vs : List V), DpAll K H vs ds → DpAll K H' vs ds
  | [], _, h => by cases h; exact .nil
  | d :: ds, _, h => by
    cases h with
    | cons h1 h2 => exact .cons (Nd.dp e d _ h1) (Nd.dps e ds _ h2)
end
theorem Nd.d {K : PySem.W.Frag} {H H' : Hp} {d : PyData} {v : V} (e : Nd H H') (h : Dp K H v d) : Dp K H' v d := Nd.dp e d v h
theorem Nd.ds {K : PySem.W.Frag} {H H' : Hp} {ds : List PyData} {vs : List V} (e : Nd H H') (h : DpAll K H vs ds) : DpAll K H' vs ds := Nd.dps e ds vs h
theorem Same.new {p : Addr} {H : Hp} {o : HO} (h : H p = none) : Same H (upd H p o) := fun b u q => by rw [upd_ne (ne_of_none q h)]; exact q
/-- a list that grows, made by this very call -/
theorem Same.mut {H H' : Hp} {p : Addr} {o : HO} (e : Same H H') (h : H p = none) : Same H (upd H' p o) := fun a u ha => by
  rw [upd_ne (ne_of_none ha h)]
  exact e a u ha
theorem Nd.mut {H H' : Hp} {p : Addr} {o : HO} (e : Nd H H') (h : H p = none) : Nd H (upd H' p o) := ⟨fun a u ha n => by
  rw [upd_ne (ne_of_none ha h)]
  exact e.k a u ha n, fun _ h => e.f _ (upd_none h).1⟩
theorem dps_length {K : PySem.W.Frag} {H : Hp} : ∀ {vs : List V} {ds : List PyData}, DpAll K H vs ds → vs.length = ds.length
  | _, _, .nil => rfl
  | _, _, .cons _ h => by rw [List.length_cons, List.length_cons, dps_length h]
theorem dps_get {K : PySem.W.Frag} {H : Hp} : ∀ {vs : List V} {ds : List PyData} {i : Nat} {v : V}, DpAll K H vs ds → vs[i]? = some v → ∃ d, ds[i]? = some d ∧ Dp K H v d
  | [], _, _, _, _, h => by cases h
  | w :: vs, [], _, _, hd, _ => by cases hd
  | w :: vs, d :: ds, 0, _, hd, h => by cases hd with | cons h1 h2 => cases h; exact ⟨_, rfl, h1⟩
  | w :: vs, d :: ds, i + 1, _, hd, h => by cases hd with | cons h1 h2 => exact dps_get (vs := vs) (ds := ds) (i := i) h2 (by simpa using h)
theorem dps_app {K : PySem.W.Frag} {H : Hp} : ∀ {vs ws : List V} {ds es : List PyData}, DpAll K H vs ds → DpAll K H ws es → DpAll K H (vs ++ ws) (ds ++ es)
  | _, _, _, _, .nil, h => h
  | _, _, _, _, .cons h1 h2, h => .cons h1 (dps_app h2 h)
theorem dps_ints {K : PySem.W.Frag} {H : Hp} : ∀ (ns : List Int), DpAll K H (ns.map V.int) (ns.map PyData.int)
  | [] => .nil
  | n :: ns => .cons (.int n) (dps_ints ns)
theorem dps_ints_inv {K : PySem.W.Frag} {H : Hp} : ∀ {ns : List Int} {vs : List V}, DpAll K H vs (ns.map PyData.int) → vs = ns.map V.int
  | [], _, h => by cases h; rfl
  | n :: ns, _, h => by
    cases h with
    | cons h1 h2 =>
      cases h1
      rw [dps_ints_inv h2]
      rfl
/-- the tape: a dict of the cells, the place, the rest; n draws are left -/
def tp (c : Addr) (at_ rest : Int) : List (Key × V) := [(.inr "cells", .ref c), (.inr "at", .int at_), (.inr "rest", .int rest)]
/-- the tape as it stands -/
structure TS (K : PySem.W.Frag) (t c : Addr) (cs : List Int) (a r : Int) (H : Hp) : Prop where
  d : H t = some (.dK (tp c a r))
  s : SqL K H c (cs.map V.int)
theorem TS.new {K : PySem.W.Frag} {t c p : Addr} {cs : List Int} {a r : Int} {H : Hp} {o : HO} (h : TS K t c cs a r H) (np : H p = none) : TS K t c cs a r (upd H p o) :=
  ⟨by rw [upd_ne (ne_of_none h.d np)]; exact h.d, (Nd.new np).sql h.s⟩
theorem TS.put {K : PySem.W.Frag} {t c : Addr} {cs : List Int} {a r b u : Int} {H : Hp} (h : TS K t c cs a r H) : TS K t c cs b u (upd H t (.dK (tp c b u))) :=
  ⟨upd_same, (Nd.tape h.d).sql h.s⟩
theorem TS.cells {K : PySem.W.Frag} {t c : Addr} {cs : List Int} {a r : Int} {H : Hp} (h : TS K t c cs a r H) : DGet H t (.str "cells") (some (.ref c)) := DGet.k (k := Sum.inr "cells") h.d
theorem TS.at_ {K : PySem.W.Frag} {t c : Addr} {cs : List Int} {a r : Int} {H : Hp} (h : TS K t c cs a r H) : DGet H t (.str "at") (some (.int a)) := DGet.k (k := Sum.inr "at") h.d
theorem TS.rest {K : PySem.W.Frag} {t c : Addr} {cs : List Int} {a r : Int} {H : Hp} (h : TS K t c cs a r H) : DGet H t (.str "rest") (some (.int r)) := DGet.k (k := Sum.inr "rest") h.d
theorem TS.pat {K : PySem.W.Frag} {t c : Addr} {cs : List Int} {a r b : Int} {H : Hp} (h : TS K t c cs a r H) : DPut H t (.str "at") (.int b) (upd H t (.dK (tp c b r))) := DPut.k (k := Sum.inr "at") h.d (by show 3 < sizeLine; decide)
theorem TS.prest {K : PySem.W.Frag} {t c : Addr} {cs : List Int} {a r b : Int} {H : Hp} (h : TS K t c cs a r H) : DPut H t (.str "rest") (.int b) (upd H t (.dK (tp c a b))) := DPut.k (k := Sum.inr "rest") h.d (by show 3 < sizeLine; decide)
theorem iteD {c A B : Prop} [Decidable c] (h1 : c → A) (h2 : ¬ c → B) : if decide c = true then A else B := by
  by_cases h : c
  · rw [decide_eq_true h, if_pos rfl]
    exact h1 h
  · rw [decide_eq_false h, if_neg Bool.false_ne_true]
    exact h2 h
theorem iteDN {c A B : Prop} [Decidable c] (h1 : ¬ c → A) (h2 : c → B) : if (!decide c) = true then A else B := by
  by_cases h : c
  · rw [decide_eq_true h]
    exact iteF (h2 h)
  · rw [decide_eq_false h]
    exact iteT (h1 h)
def rIntI : List V → Hp → VK → Prop := fun xs H Q => ∃ i, xs = [.int i] ∧ Q (.int i) H
theorem call_intI {X : Cx} : CallR X (.type "int") rIntI := fun pins s σ H xs us Q I r h =>
  call_int1 pins s σ H xs us Q I r (.inl h)
def rIntB : List V → Hp → VK → Prop := fun xs H Q => ∃ k, xs = [.bl k] ∧ Q (.int (if k then 1 else 0)) H
theorem call_intB {X : Cx} : CallR X (.type "int") rIntB := fun pins s σ H xs us Q I r h =>
  call_int1 pins s σ H xs us Q I r (.inr h)
def rLenL (K : PySem.W.Frag) : List V → Hp → VK → Prop := fun xs H Q => ∃ p ys, xs = [.ref p] ∧ SqL K H p ys ∧ Q (.int ys.length) H
theorem call_lenL {X : Cx} : CallR X (.builtin "len") (rLenL X.K) := fun pins s σ H xs us Q I r ⟨p, ys, e, h, q⟩ =>
  call_len_seq pins s σ H xs us Q I r ⟨p, ys, e, .inl h, q⟩
def rLenT (K : PySem.W.Frag) : List V → Hp → VK → Prop := fun xs H Q => ∃ p ys, xs = [.ref p] ∧ SqT K H p ys ∧ Q (.int ys.length) H
theorem call_lenT {X : Cx} : CallR X (.builtin "len") (rLenT X.K) := fun pins s σ H xs us Q I r ⟨p, ys, e, h, q⟩ =>
  call_len_seq pins s σ H xs us Q I r ⟨p, ys, e, .inr h, q⟩
def rTupL (K : PySem.W.Frag) : List V → Hp → VK → Prop := fun xs H Q => ∃ p ys, xs = [.ref p] ∧ SqL K H p ys ∧ ∀ l, H l = none → Q (.ref l) (upd H l (.tup ys))
theorem call_tupL {X : Cx} : CallR X (.type "tuple") (rTupL X.K) := fun pins s σ H xs us Q I r ⟨p, ys, e, h, q⟩ =>
  call_tuple_of pins s σ H xs us Q I r ⟨p, ys, e, .inl ⟨h, q⟩⟩
def rListL (K : PySem.W.Frag) : List V → Hp → VK → Prop := fun xs H Q => ∃ p ys, xs = [.ref p] ∧ SqL K H p ys ∧ ∀ l, H l = none → Q (.ref l) (upd H l (.lst ys))
theorem call_listL {X : Cx} : CallR X (.type "list") (rListL X.K) := fun pins s σ H xs us Q I r ⟨p, ys, e, h, q⟩ =>
  call_list_of pins s σ H xs us Q I r ⟨p, ys, e, .inl h, q⟩
def rListT (K : PySem.W.Frag) : List V → Hp → VK → Prop := fun xs H Q => ∃ p ys, xs = [.ref p] ∧ SqT K H p ys ∧ ∀ l, H l = none → Q (.ref l) (upd H l (.lst ys))
theorem call_listT {X : Cx} : CallR X (.type "list") (rListT X.K) := fun pins s σ H xs us Q I r ⟨p, ys, e, h, q⟩ =>
  call_list_of pins s σ H xs us Q I r ⟨p, ys, e, .inr h, q⟩
/-- a tape: its dict, its cells -/
structure Tp where
  t : Addr
  c : Addr
  cs : List Int
/-- the tape stands, n draws are left -/
def Tape (K : PySem.W.Frag) (τ : Tp) (n : Nat) (H : Hp) : Prop := ∃ at_ rest : Int, TS K τ.t τ.c τ.cs at_ rest H ∧ τ.cs ≠ [] ∧ τ.cs.length ≤ 63 ∧ 0 ≤ at_ ∧ at_ + n ≤ 2 ^ 40 ∧ 0 ≤ rest
theorem Tape.mono {K : PySem.W.Frag} {τ : Tp} {n m : Nat} {H : Hp} (h : Tape K τ n H) (e : m ≤ n) : Tape K τ m H := by
  obtain ⟨a, r, h1, h3, h4, h5, h6, h7⟩ := h
  exact ⟨a, r, h1, h3, h4, h5, by omega, h7⟩
theorem Tape.same {K : PySem.W.Frag} {τ : Tp} {n : Nat} {H H' : Hp} (h : Tape K τ n H) (e : Same H H') : Tape K τ n H' := by
  obtain ⟨a, r, h1, h3⟩ := h
  exact ⟨a, r, ⟨e _ _ h1.d, e.seq h1.s⟩, h3⟩
theorem Tape.new {K : PySem.W.Frag} {τ : Tp} {n : Nat} {H : Hp} {p : Addr} {o : HO} (h : Tape K τ n H) (np : H p = none) : Tape K τ n (upd H p o) := h.same fun b u q => by rw [upd_ne (ne_of_none q np)]; exact q
/-- an object made behind H0 may change -/
theorem Tape.mut {K : PySem.W.Frag} {τ : Tp} {n m : Nat} {H H0 : Hp} {p : Addr} {o : HO} (h0 : Tape K τ m H0) (np : H0 p = none) (h : Tape K τ n H) : Tape K τ n (upd H p o) := by
  obtain ⟨a0, r0, k1, _⟩ := h0
  obtain ⟨a, r, h1, h3⟩ := h
  refine ⟨a, r, ⟨by rw [upd_ne (by rintro rfl; rw [k1.d] at np; cases np)]; exact h1.d, ?_⟩, h3⟩
  have key : ∀ u, H0 τ.c = some u → SqL K (upd H p o) τ.c (τ.cs.map V.int) := fun u hu => by
    have hn : τ.c ≠ p := by intro z; rw [z, np] at hu; cases hu
    rcases h1.s with (h | ⟨w, h⟩) | h
    · exact .inl (.inl (by rw [upd_ne hn]; exact h))
    · exact .inl (.inr ⟨w, by rw [upd_ne hn]; exact h⟩)
    · exact .inr h
  rcases k1.s with (h | ⟨w, h⟩) | h
  · exact key _ h
  · exact key _ h
  · exact .inr h
/-- what a drawn bound may be -/
def BigL : Int := 2 ^ 8000
theorem lt_BigL {z : Int} (h : z ≤ 2 ^ 200) : z < BigL := Int.lt_of_le_of_lt h (by unfold BigL; decide +kernel)
theorem div_BigL {z i : Int} (h0 : 0 < z) (h : z < BigL) : CDivW i z := by
  refine wide_div (b := 8000) h0 ?_ (by decide) (by decide)
  have e : BigL = ((2 ^ 8000 : Nat) : Int) := by unfold BigL; exact (Int.natCast_pow 2 8000).symm
  rw [e] at h
  generalize 2 ^ 8000 = N at h
  omega
def spDraw (K : PySem.W.Frag) : Sp := fun vs H Q _ => ∃ (τ : Tp) (lim : Int) (n : Nat), vs = [.ref τ.t, .int lim] ∧ Tape K τ (n + 1) H ∧ 0 < lim ∧ lim < BigL ∧
  ∀ (d : Int) (H' : Hp), Nd H H' → Tape K τ n H' → 0 ≤ d → d < lim → Q (.int d) H'
theorem atI_mod {α : Type} {xs : List α} {k : Int} (h : xs ≠ []) : ∃ v, atI xs (k.fmod (xs.length : Int)) = some v ∧ v ∈ xs := by
  have hl : 0 < xs.length := List.length_pos_iff.mpr h
  have h0 : 0 ≤ k.fmod (xs.length : Int) := Int.fmod_nonneg_of_pos _ (by omega)
  have h1 : k.fmod (xs.length : Int) < xs.length := Int.fmod_lt_of_pos _ (by omega)
  obtain ⟨j, hj⟩ := Int.eq_ofNat_of_zero_le h0
  rw [hj]
  have hj' : j < xs.length := by omega
  exact ⟨xs[j], atI_nat (List.getElem?_eq_getElem hj'), List.getElem_mem hj'⟩
theorem tp_cells {c : Addr} {a r : Int} : valV (tp c a r) (.inr "cells") = some (.ref c) := by rfl
theorem tp_at {c : Addr} {a r : Int} : valV (tp c a r) (.inr "at") = some (.int a) := by rfl
theorem tp_rest {c : Addr} {a r : Int} : valV (tp c a r) (.inr "rest") = some (.int r) := by rfl
theorem tp_pat {c : Addr} {a r b : Int} : putK (tp c a r) (.inr "at") (.int b) = tp c b r := by rfl
theorem tp_prest {c : Addr} {a r b : Int} : putK (tp c a r) (.inr "rest") (.int b) = tp c a b := by rfl
end Fb
namespace Fb
open PySem
/-! ### the ones of a number, the turns of an int -/
def ones (m : Nat) : List Nat := if h : m = 0 then [] else (if m % 2 = 1 then [0] else []) ++ (ones (m / 2)).map (· + 1)
termination_by m
decreasing_by omega
theorem ones_zero : ones 0 = [] := by rw [ones]; rfl
theorem ones_pos {m : Nat} (h : m ≠ 0) : ones m = (if m % 2 = 1 then [0] else []) ++ (ones (m / 2)).map (· + 1) := by rw [ones, dif_neg h]
theorem ones_even (m : Nat) : ones (2 * m) = (ones m).map (· + 1) := by
  by_cases h : m = 0
  · subst h; rw [ones_zero]; rfl
  · rw [ones_pos (by omega), if_neg (by omega), show 2 * m / 2 = m by omega]; rfl
theorem ones_odd (m : Nat) : ones (2 * m + 1) = 0 :: (ones m).map (· + 1) := by
  rw [ones_pos (by omega), if_pos (by omega), show (2 * m + 1) / 2 = m by omega]; rfl
theorem ones_shift (k m : Nat) : ones (2 ^ k * m) = (ones m).map (· + k) := by
  induction k with
  | zero => simp
  | succ k ih =>
    rw [show 2 ^ (k + 1) * m = 2 * (2 ^ k * m) by rw [Nat.pow_succ]; simp [Nat.mul_comm, Nat.mul_left_comm, Nat.mul_assoc], ones_even, ih, List.map_map]
    exact List.map_congr_left fun x _ => by show x + k + 1 = x + (k + 1); omega
/-- the lowest one -/
theorem low_of {m : Nat} (h : m ≠ 0) : ∃ k a, m = 2 ^ k * (2 * a + 1) := by
  induction m using Nat.strongRecOn with
  | _ m ih =>
    by_cases e : m % 2 = 1
    · exact ⟨0, m / 2, by omega⟩
    · obtain ⟨k, a, q⟩ := ih (m / 2) (by omega) (by omega)
      exact ⟨k + 1, a, by rw [Nat.pow_succ, Nat.mul_right_comm, ← q]; omega⟩
theorem ones_low (k a : Nat) : ones (2 ^ k * (2 * a + 1)) = k :: ones (2 ^ k * (2 * a)) := by
  rw [ones_shift, ones_odd, show 2 ^ k * (2 * a) = 2 ^ k * (2 * a) from rfl, ones_shift, ones_even]
  simp
theorem ones_lt {m n : Nat} (h : m < 2 ^ n) : ∀ p ∈ ones m, p < n := by
  induction n generalizing m with
  | zero => rw [show m = 0 by omega, ones_zero]; simp
  | succ n ih =>
    intro p hp
    by_cases e : m = 0
    · rw [e, ones_zero] at hp; cases hp
    · rw [ones_pos e] at hp
      rcases List.mem_append.mp hp with hp | hp
      · split at hp <;> simp at hp; omega
      · obtain ⟨q, hq, rfl⟩ := List.mem_map.mp hp
        have := ih (m := m / 2) (by rw [Nat.pow_succ] at h; omega) q hq
        omega
theorem ones_asc (m : Nat) : (ones m).Pairwise (· < ·) := by
  induction m using Nat.strongRecOn with
  | _ m ih =>
    by_cases e : m = 0
    · rw [e, ones_zero]; exact .nil
    · have q := ih (m / 2) (by omega)
      have q1 : ((ones (m / 2)).map (· + 1)).Pairwise (· < ·) := List.pairwise_map.mpr (q.imp fun h => by omega)
      rw [ones_pos e]
      split
      · refine List.pairwise_cons.mpr ⟨fun x hx => ?_, q1⟩
        obtain ⟨y, _, rfl⟩ := List.mem_map.mp (show x ∈ (ones (m / 2)).map (· + 1) from hx)
        omega
      · exact q1
theorem ones_eq_nil {m : Nat} : ones m = [] ↔ m = 0 := by
  constructor
  · intro h
    by_cases e : m = 0
    · exact e
    · obtain ⟨k, a, rfl⟩ := low_of e
      rw [ones_low] at h; cases h
  · rintro rfl; exact ones_zero
theorem ones_len {m n : Nat} (h : m < 2 ^ n) : (ones m).length ≤ n := by
  induction n generalizing m with
  | zero => rw [show m = 0 by omega, ones_zero]; simp
  | succ n ih =>
    by_cases e : m = 0
    · rw [e, ones_zero]; simp
    · have := ih (m := m / 2) (by rw [Nat.pow_succ] at h; omega)
      rw [ones_pos e]
      split <;> simp <;> omega
/-! ### the marks of an int: its turns -/
open PyProof.Rows PySem.W in
theorem xor_halves (x y : Int) : Builtin.bitXor x y = 2 * Builtin.bitXor (x / 2) (y / 2) + (x + y) % 2 := by
  rw [bitXor_and, bitXor_and, kbt_halves x y]
  split <;> omega
def mk (b x : Int) : Int := Builtin.bitXor x (2 * x + b)
theorem mk_step {b x : Int} (h0 : 0 ≤ b) (h1 : b < 2) : mk b x = 2 * mk (x % 2) (x / 2) + (x + b) % 2 := by
  unfold mk
  rw [xor_halves, show (2 * x + b) / 2 = x by omega, show 2 * (x / 2) + x % 2 = x by omega]
  omega
/-- alternating powers of two -/
def alt (s : Int) : List Nat → Int
  | [] => 0
  | p :: ps => s * 2 ^ p + alt (-s) ps
theorem alt_up (s : Int) (ps : List Nat) : alt s (ps.map (· + 1)) = 2 * alt s ps := by
  induction ps generalizing s with
  | nil => rfl
  | cons p ps ih =>
    show s * 2 ^ (p + 1) + alt (-s) (ps.map (· + 1)) = 2 * (s * 2 ^ p + alt (-s) ps)
    rw [ih, Int.pow_succ, Int.mul_add, ← Int.mul_assoc, Int.mul_comm _ 2]
theorem mk_all (n : Nat) : ∀ b x : Int, 0 ≤ b → b < 2 → -(2 ^ n) ≤ x → x < 2 ^ n → 0 ≤ mk b x ∧ mk b x < 2 ^ (n + 1) ∧ alt (2 * b - 1) (ones (mk b x).toNat) = x + b := by
  induction n with
  | zero =>
    intro b x h0 h1 h2 h3
    have hx : x = 0 ∨ x = -1 := by simp at h2 h3; omega
    have hb : b = 0 ∨ b = 1 := by omega
    have c00 : mk 0 0 = 0 := by decide +kernel
    have c10 : mk 1 0 = 1 := by decide +kernel
    have c01 : mk 0 (-1) = 1 := by decide +kernel
    have c11 : mk 1 (-1) = 0 := by decide +kernel
    have o1 : ones 1 = [0] := by rw [show (1 : Nat) = 2 * 0 + 1 from rfl, ones_odd, ones_zero]; rfl
    rcases hx with rfl | rfl <;> rcases hb with rfl | rfl
    · rw [c00]; refine ⟨by decide, by decide, ?_⟩; rw [show (0 : Int).toNat = 0 from rfl, ones_zero]; rfl
    · rw [c10]; refine ⟨by decide, by decide, ?_⟩; rw [show (1 : Int).toNat = 1 from rfl, o1]; rfl
    · rw [c01]; refine ⟨by decide, by decide, ?_⟩; rw [show (1 : Int).toNat = 1 from rfl, o1]; rfl
    · rw [c11]; refine ⟨by decide, by decide, ?_⟩; rw [show (0 : Int).toNat = 0 from rfl, ones_zero]; rfl
  | succ n ih =>
    intro b x h0 h1 h2 h3
    rw [Int.pow_succ] at h2 h3
    obtain ⟨k0, k1, k2⟩ := ih (x % 2) (x / 2) (by omega) (by omega) (by omega) (by omega)
    rw [mk_step h0 h1]
    refine ⟨by omega, by rw [Int.pow_succ]; omega, ?_⟩
    generalize hm : mk (x % 2) (x / 2) = m at k0 k1 k2
    by_cases e : (x + b) % 2 = 0
    · rw [e, show (2 * m + 0).toNat = 2 * m.toNat by omega, ones_even, alt_up, show 2 * b - 1 = 2 * (x % 2) - 1 by omega, k2]
      omega
    · rw [show (x + b) % 2 = 1 by omega, show (2 * m + 1).toNat = 2 * m.toNat + 1 by omega, ones_odd]
      show (2 * b - 1) * 2 ^ 0 + alt (-(2 * b - 1)) _ = _
      rw [alt_up, show -(2 * b - 1) = 2 * (x % 2) - 1 by omega, k2]
      simp
      omega
def marks (x : Int) : Nat := (Builtin.bitXor x (x * 2)).toNat
theorem marks_eq (x : Int) : Builtin.bitXor x (x * 2) = mk 0 x := by unfold mk; rw [show x * 2 = 2 * x + 0 by omega]
def turnsN (x : Int) : List Nat := ones (marks x)
def turnsZ (x : Int) : List Int := (turnsN x).map Int.ofNat
theorem marks_cast {x : Int} : ∃ n : Nat, -(2 ^ n) ≤ x ∧ x < 2 ^ n := by
  refine ⟨x.natAbs, ?_, ?_⟩ <;>
  · have h : x.natAbs < 2 ^ x.natAbs := Nat.lt_two_pow_self
    have h2 : ((2 ^ x.natAbs : Nat) : Int) = (2 : Int) ^ x.natAbs := by simp
    omega
theorem marks_nonneg (x : Int) : 0 ≤ Builtin.bitXor x (x * 2) := by
  obtain ⟨n, h0, h1⟩ := marks_cast (x := x)
  rw [marks_eq]; exact (mk_all n 0 x (by decide) (by decide) h0 h1).1
theorem marks_val (x : Int) : Builtin.bitXor x (x * 2) = (marks x : Int) := by
  have := marks_nonneg x
  unfold marks; omega
theorem marks_lt {x : Int} {n : Nat} (h0 : -(2 ^ n) ≤ x) (h1 : x < 2 ^ n) : marks x < 2 ^ (n + 1) := by
  have h := (mk_all n 0 x (by decide) (by decide) h0 h1).2.1
  rw [← marks_eq, marks_val] at h
  have h2 : ((2 ^ (n + 1) : Nat) : Int) = (2 : Int) ^ (n + 1) := by simp
  omega
/-- the turns tell the int -/
theorem turns_alt (x : Int) : alt (-1) (turnsN x) = x := by
  obtain ⟨n, h0, h1⟩ := marks_cast (x := x)
  have h : alt (-1) (ones (mk 0 x).toNat) = x + 0 := (mk_all n 0 x (by decide) (by decide) h0 h1).2.2
  rw [← marks_eq] at h
  unfold turnsN marks
  omega
theorem turns_lt {x : Int} {n : Nat} (h0 : -(2 ^ n) ≤ x) (h1 : x < 2 ^ n) : ∀ p ∈ turnsN x, p ≤ n := fun p hp => Nat.le_of_lt_succ (ones_lt (marks_lt h0 h1) p hp)
theorem turns_len {x : Int} {n : Nat} (h0 : -(2 ^ n) ≤ x) (h1 : x < 2 ^ n) : (turnsN x).length ≤ n + 1 := ones_len (marks_lt h0 h1)
theorem turns_asc (x : Int) : (turnsN x).Pairwise (· < ·) := ones_asc _
/-- a step of the loop over the marks -/
theorem marks_low {m : Nat} (h : m ≠ 0) : ∃ k : Nat, Builtin.bitAnd (m : Int) (-(m : Int)) = 2 ^ k ∧ 2 ^ k ≤ m ∧ ones m = k :: ones (m - 2 ^ k) := by
  obtain ⟨k, a, rfl⟩ := low_of h
  refine ⟨k, ?_, ?_, ?_⟩
  · have := PySem.W.kbt_low k (a : Int)
    rw [← this]
    simp
  · exact Nat.le_mul_of_pos_right _ (by omega)
  · rw [ones_low, Nat.mul_add, Nat.mul_one, Nat.add_sub_cancel]
end Fb
namespace Fb
open PySem L2
/-! ### trees of ints and tuples -/
def dTy : PyData → String
  | .none => "NoneType" | .bool _ => "bool" | .int _ => "int" | .str _ => "str" | .list _ => "list" | .tuple _ => "tuple" | .dict _ => "dict"
theorem tyx_dp {K : PySem.W.Frag} {H : Hp} {v : V} {d : PyData} (h : Dp K H v d) : TyX K H v (.type (dTy d)) := by
  cases h with
  | non => exact .base .non
  | bl b => exact .base (.bl b)
  | int i => exact .base (.int i)
  | str x => exact .base (.str x)
  | lst hs _ =>
    rcases hs with (h | ⟨o, h⟩) | ⟨o, its, n, h1, h2, _⟩
    · exact .base (.lst h)
    · exact .base (.frz h)
    · exact .kList h1 h2
  | tup hs _ =>
    rcases hs with (h | ⟨o, h⟩) | ⟨o, its, n, h1, h2, _⟩
    · exact .base (.tup h)
    · exact .fTuple h
    · exact .kTuple h1 h2
def isI (d : PyData) : Bool := match d with | .int _ => true | .bool _ => true | _ => false
def isT (d : PyData) : Bool := match d with | .tuple _ => true | _ => false
theorem kit_I : ∀ d : PyData, kitB (dTy d) "int" = some (isI d)
  | .none => by show kitB "NoneType" "int" = some false; decide +kernel
  | .bool _ => by show kitB "bool" "int" = some true; decide +kernel
  | .int _ => by show kitB "int" "int" = some true; decide +kernel
  | .str _ => by show kitB "str" "int" = some false; decide +kernel
  | .list _ => by show kitB "list" "int" = some false; decide +kernel
  | .tuple _ => by show kitB "tuple" "int" = some false; decide +kernel
  | .dict _ => by show kitB "dict" "int" = some false; decide +kernel
theorem kit_T : ∀ d : PyData, kitB (dTy d) "tuple" = some (isT d)
  | .none => by show kitB "NoneType" "tuple" = some false; decide +kernel
  | .bool _ => by show kitB "bool" "tuple" = some false; decide +kernel
  | .int _ => by show kitB "int" "tuple" = some false; decide +kernel
  | .str _ => by show kitB "str" "tuple" = some false; decide +kernel
  | .list _ => by show kitB "list" "tuple" = some false; decide +kernel
  | .tuple _ => by show kitB "tuple" "tuple" = some true; decide +kernel
  | .dict _ => by show kitB "dict" "tuple" = some false; decide +kernel
/-- isinstance(x, int) of a datum -/
def rIsD (K : PySem.W.Frag) (T : String) (t : PyData → Bool) : List V → Hp → VK → Prop := fun xs H Q => ∃ x d, xs = [x, .ty T] ∧ Dp K H x d ∧ Q (.bl (t d)) H
theorem call_isiI {X : Cx} (K : PySem.W.Frag) (hK : X.K = K := by rfl) : CallR X (.builtin "isinstance") (rIsD K "int" isI) := fun pins s σ H xs us Q I r ⟨x, d, e, h, q⟩ => by
  subst hK
  refine call_isi pins s σ H xs us Q I r ⟨x, _, _, _, isI d, e, .ty _, tyx_dp h, kit_ty (kit_I d), q⟩
/-- isinstance(x, tuple) of a datum -/
theorem call_isiT_ {X : Cx} (K : PySem.W.Frag) (hK : X.K = K := by rfl) : CallR X (.builtin "isinstance") (rIsD K "tuple" isT) := fun pins s σ H xs us Q I r ⟨x, d, e, h, q⟩ => by
  subst hK
  refine call_isi pins s σ H xs us Q I r ⟨x, _, _, _, isT d, e, .ty _, tyx_dp h, kit_ty (kit_T d), q⟩
theorem lcT {σ : L2.St} {H : Hp} {A B : Hp → Prop} (h : A H) : tYes σ H (fun b H3 => if b = true then A H3 else B H3) := by
  show (if true = true then A H else B H)
  rw [if_pos rfl]
  exact h
theorem ix_listK {X : Cx} (K : PySem.W.Frag) (hK : X.K = K := by rfl) : IxR X (rIxL K) := by subst hK; exact ix_list
theorem ix_tupK {X : Cx} (K : PySem.W.Frag) (hK : X.K = K := by rfl) : IxR X (rIxT K) := by subst hK; exact ix_tup
theorem call_lenLK {X : Cx} (K : PySem.W.Frag) (hK : X.K = K := by rfl) : CallR X (.builtin "len") (rLenL K) := by subst hK; exact call_lenL
/-- a tree of ints and tuples, at most n tuples deep -/
def Fm : Nat → PyData → Prop
  | 0, d => ∃ i, d = .int i
  | n + 1, d => (∃ i, d = .int i) ∨ ∃ ds, d = .tuple ds ∧ ds.length ≤ 9000 ∧ ∀ x ∈ ds, Fm n x
theorem Fm.succ : ∀ {n : Nat} {d : PyData}, Fm n d → Fm (n + 1) d
  | 0, _, h => .inl h
  | n + 1, _, h => by
    rcases h with h | ⟨ds, e, l, h⟩
    · exact .inl h
    · exact .inr ⟨ds, e, l, fun x hx => (h x hx).succ⟩
theorem Fm.mono {n m : Nat} {d : PyData} (h : Fm n d) (e : n ≤ m) : Fm m d := by
  induction e with
  | refl => exact h
  | step _ ih => exact ih.succ
theorem Fm.int {n : Nat} (i : Int) : Fm n (.int i) := by cases n <;> first | exact ⟨i, rfl⟩ | exact .inl ⟨i, rfl⟩
/-- size -/
def sz : Nat → PyData → Int
  | n + 1, .tuple ds => 1 + (ds.map (sz n)).sum
  | _, _ => 1
theorem sz_int (n : Nat) (i : Int) : sz n (.int i) = 1 := by cases n <;> rfl
/-- the greatest of some ints, 0 if there is none -/
def maxI : List Int → Int
  | [] => 0
  | x :: xs => max x (maxI xs)
def ht : Nat → PyData → Int
  | n + 1, .tuple ds => 1 + maxI (ds.map (ht n))
  | _, _ => 0
theorem ht_int (n : Nat) (i : Int) : ht n (.int i) = 0 := by cases n <;> rfl
theorem ht_nonneg : ∀ (n : Nat) (d : PyData), 0 ≤ ht n d
  | 0, _ => Int.le_refl _
  | n + 1, .tuple ds => by
    show 0 ≤ 1 + maxI _
    have : ∀ l : List Int, (∀ x ∈ l, 0 ≤ x) → 0 ≤ maxI l := fun l hl => by cases l with | nil => exact Int.le_refl _ | cons x xs => have := hl x List.mem_cons_self; show 0 ≤ max x _; omega
    have := this (ds.map (ht n)) (fun x hx => by obtain ⟨d, _, rfl⟩ := List.mem_map.mp hx; exact ht_nonneg n d)
    omega
  | n + 1, .none => Int.le_refl _
  | n + 1, .bool _ => Int.le_refl _
  | n + 1, .int _ => Int.le_refl _
  | n + 1, .str _ => Int.le_refl _
  | n + 1, .list _ => Int.le_refl _
  | n + 1, .dict _ => Int.le_refl _
theorem maxI_le {l : List Int} {x : Int} (h : x ∈ l) : x ≤ maxI l := by
  induction l with
  | nil => cases h
  | cons y ys ih =>
    show x ≤ max y (maxI ys)
    rcases List.mem_cons.mp h with rfl | h
    · omega
    · have := ih h; omega
theorem maxI_mem {l : List Int} (h : l ≠ []) (h0 : ∀ x ∈ l, 0 ≤ x) : maxI l ∈ l := by
  induction l with
  | nil => exact absurd rfl h
  | cons y ys ih =>
    by_cases e : ys = []
    · subst e
      show max y 0 ∈ [y]
      have := h0 y List.mem_cons_self
      rw [show max y 0 = y by omega]; exact List.mem_cons_self
    · have := ih e fun x hx => h0 x (List.mem_cons_of_mem _ hx)
      show max y (maxI ys) ∈ _
      by_cases c : y ≤ maxI ys
      · rw [show max y (maxI ys) = maxI ys by omega]; exact List.mem_cons_of_mem _ this
      · rw [show max y (maxI ys) = y by omega]; exact List.mem_cons_self
theorem maxI_eq {l : List Int} {m : Int} (hm : m ∈ l) (h0 : ∀ x ∈ l, 0 ≤ x) (h : ∀ y ∈ l, y ≤ m) : maxI l = m := by
  have a := maxI_le hm
  have b := h _ (maxI_mem (List.ne_nil_of_mem hm) h0)
  omega
/-- the row of the last turns -/
def lv : Nat → PyData → Int
  | n + 1, .tuple ds => match ds.getLast? with
    | some d => 1 + lv n d
    | none => 1
  | _, _ => 0
/-- no tuple is empty on the way of the last turns, and there the last one is of the greatest height -/
def Sp_ : Nat → PyData → Prop
  | n + 1, .tuple ds => ∃ d, ds.getLast? = some d ∧ (∀ x ∈ ds, ht n x ≤ ht n d) ∧ Sp_ n d
  | _, _ => True
theorem lv_ht : ∀ (n : Nat) (d : PyData), Sp_ n d → lv n d = ht n d
  | 0, d, _ => by cases d <;> rfl
  | n + 1, .tuple ds, h => by
    obtain ⟨d, e, h1, h2⟩ := h
    show (match ds.getLast? with | some d => 1 + lv n d | none => 1) = 1 + maxI _
    rw [e]
    have m : d ∈ ds := List.mem_of_getLast? e
    rw [maxI_eq (List.mem_map.mpr ⟨d, m, rfl⟩) (fun x hx => by obtain ⟨y, _, rfl⟩ := List.mem_map.mp hx; exact ht_nonneg n y) (fun x hx => by obtain ⟨y, hy, rfl⟩ := List.mem_map.mp hx; exact h1 y hy), ← lv_ht n d h2]
  | n + 1, .none, _ => rfl
  | n + 1, .bool _, _ => rfl
  | n + 1, .int _, _ => rfl
  | n + 1, .str _, _ => rfl
  | n + 1, .list _, _ => rfl
  | n + 1, .dict _, _ => rfl
theorem sz_bd : ∀ (n : Nat) (d : PyData), Fm n d → 1 ≤ sz n d ∧ sz n d ≤ 9001 ^ n
  | 0, d, h => by obtain ⟨i, rfl⟩ := h; exact ⟨Int.le_refl 1, Int.le_refl 1⟩
  | n + 1, d, h => by
    rcases h with ⟨i, rfl⟩ | ⟨ds, rfl, l, h⟩
    · rw [sz_int]
      refine ⟨by omega, ?_⟩
      have := Int.pow_pos (n := 9001) (m := n + 1) (by decide)
      omega
    · have key : ∀ l : List PyData, (∀ x ∈ l, Fm n x) → 0 ≤ (l.map (sz n)).sum ∧ (l.map (sz n)).sum ≤ l.length * 9001 ^ n := by
        intro l
        induction l with
        | nil => intro _; simp
        | cons x xs ih =>
          intro hl
          have a := ih fun y hy => hl y (List.mem_cons_of_mem _ hy)
          have b := sz_bd n x (hl x List.mem_cons_self)
          simp only [List.map_cons, List.sum_cons, List.length_cons]
          push_cast
          rw [Int.add_mul]
          omega
      have a := key ds h
      have c := Int.pow_pos (n := 9001) (m := n) (by decide)
      have e : (ds.length : Int) * 9001 ^ n ≤ 9000 * 9001 ^ n := Int.mul_le_mul_of_nonneg_right (by omega) (by omega)
      show 1 ≤ 1 + _ ∧ 1 + _ ≤ _
      rw [Int.pow_succ]
      omega
end Fb
namespace Fb
open PySem L2
/-! ### tuples stand -/
def Td (H H' : Hp) : Prop := ∀ a xs, Rd H a (.tup xs) → Rd H' a (.tup xs)
theorem Td.of {H H' : Hp} (e : Nd H H') : Td H H' := fun a xs h => by
  rcases h with h | ⟨o, h⟩
  · exact .inl (e.k _ _ h fun _ z => nomatch z)
  · exact .inr ⟨o, e.k _ _ h fun _ z => nomatch z⟩
theorem Td.trans {H H1 H2 : Hp} (a : Td H H1) (b : Td H1 H2) : Td H H2 := fun x xs h => b x xs (a x xs h)
theorem Td.lst {H : Hp} {p : Addr} {ys : List V} {o : HO} (h : H p = some (.lst ys)) : Td H (upd H p o) := fun a xs k => by
  rcases k with k | ⟨u, k⟩
  · exact .inl (by rw [upd_ne (by rintro rfl; rw [h] at k; cases k)]; exact k)
  · exact .inr ⟨u, by rw [upd_ne (by rintro rfl; rw [h] at k; cases k)]; exact k⟩
theorem Td.sqt {K : PySem.W.Frag} {H H' : Hp} {a : Addr} {xs : List V} (e : Td H H') (h : SqT K H a xs) : SqT K H' a xs := by
  rcases h with h | h
  · exact .inl (e _ _ h)
  · exact .inr h
theorem Td.dp {K : PySem.W.Frag} {H H' : Hp} (e : Td H H') : ∀ (n : Nat) (d : PyData) (v : V), Fm n d → Dp K H v d → Dp K H' v d := by
  intro n
  induction n with
  | zero => rintro d v ⟨i, rfl⟩ h; cases h; exact .int i
  | succ n ih =>
    intro d v hf h
    rcases hf with ⟨i, rfl⟩ | ⟨ds, rfl, _, hf⟩
    · cases h; exact .int i
    · cases h with
      | @tup a xs _ hs ha =>
        have key : ∀ (es : List PyData) (xs : List V), (∀ x ∈ es, Fm n x) → DpAll K H xs es → DpAll K H' xs es := by
          intro es
          induction es with
          | nil => intro xs _ h; cases h; exact .nil
          | cons y ys ihy =>
            intro xs hx h
            cases h with
            | cons h1 h2 => exact .cons (ih y _ (hx y List.mem_cons_self) h1) (ihy _ (fun z hz => hx z (List.mem_cons_of_mem _ hz)) h2)
        exact .tup (e.sqt hs) (key ds xs hf ha)
theorem Td.d {K : PySem.W.Frag} {H H' : Hp} {n : Nat} {d : PyData} {v : V} (e : Td H H') (hf : Fm n d) (h : Dp K H v d) : Dp K H' v d := e.dp n d v hf h
theorem Td.ds {K : PySem.W.Frag} {H H' : Hp} {n : Nat} (e : Td H H') : ∀ {es : List PyData} {xs : List V}, (∀ x ∈ es, Fm n x) → DpAll K H xs es → DpAll K H' xs es
  | [], _, _, h => by cases h; exact .nil
  | y :: ys, _, hx, h => by
    cases h with
    | cons h1 h2 => exact .cons (e.d (hx y List.mem_cons_self) h1) (e.ds (fun z hz => hx z (List.mem_cons_of_mem _ hz)) h2)
theorem fm_bool {n : Nat} {b : Bool} (h : Fm n (.bool b)) : False := by
  cases n with
  | zero => obtain ⟨i, h⟩ := h; cases h
  | succ n => rcases h with ⟨i, h⟩ | ⟨ts, h, _⟩ <;> cases h
/-! ### ints of turns, forms as data -/
def InB (x : Int) : Prop := -(2 ^ 600000) ≤ x ∧ x < 2 ^ 600000
theorem InB.of {x : Int} {n : Nat} (h0 : -(2 ^ n) ≤ x) (h1 : x < 2 ^ n) (hn : n ≤ 600000) : InB x := by
  have h : (2 : Int) ^ n ≤ 2 ^ 600000 := by
    have h' : ((2 ^ n : Nat) : Int) ≤ ((2 ^ 600000 : Nat) : Int) := Int.ofNat_le.mpr (Nat.pow_le_pow_right (by decide) hn)
    rw [Int.natCast_pow, Int.natCast_pow] at h'
    exact h'
  unfold InB
  generalize (2 : Int) ^ 600000 = B at h ⊢
  omega
def nI (ns : List Nat) : List V := ns.map fun (n : Nat) => V.int (n : Int)
def nD (ns : List Nat) : List PyData := ns.map fun (n : Nat) => PyData.int (n : Int)
theorem dps_n {K : PySem.W.Frag} {H : Hp} : ∀ (ns : List Nat), DpAll K H (nI ns) (nD ns)
  | [] => .nil
  | n :: ns => .cons (.int n) (dps_n ns)
theorem dps_n_inv {K : PySem.W.Frag} {H : Hp} : ∀ {ns : List Nat} {vs : List V}, DpAll K H vs (nD ns) → vs = nI ns
  | [], _, h => by cases h; rfl
  | n :: ns, _, h => by
    cases h with
    | cons h1 h2 =>
      cases h1
      rw [dps_n_inv h2]
      rfl
def plain (x : Int) : Prop := -(2 ^ 64) ≤ x ∧ x < 2 ^ 64
instance (x : Int) : Decidable (plain x) := by unfold plain; infer_instance
def formD (x : Int) : PyData := if plain x then .int x else .tuple (nD (turnsN x))
def natOf : PyData → Nat
  | .int i => i.toNat
  | _ => 0
theorem natOf_nD (ns : List Nat) : (nD ns).map natOf = ns := by
  unfold nD
  rw [List.map_map]
  conv => rhs; rw [← List.map_id ns]
  exact List.map_congr_left fun n _ => rfl
def isNear : PyData → Bool
  | .int i => decide (i ≤ 64)
  | _ => false
/-- the form of a row of places -/
def rowD (ds : List PyData) : PyData := match ds.getLast? with
  | none => .int 0
  | some d => if isNear d = true then .int (alt (-1) (ds.map natOf)) else .tuple ds
/-- where the last place is near, all are small ints -/
def RowC (ds : List PyData) : Prop := ∀ d, ds.getLast? = some d → isNear d = true → ∃ ns : List Nat, ds = nD ns ∧ ∀ n ∈ ns, n ≤ 64
theorem rowD_near {ns : List Nat} {d : PyData} (h : (nD ns).getLast? = some d) (h2 : isNear d = true) : rowD (nD ns) = .int (alt (-1) ns) := by
  unfold rowD
  rw [h]
  show (if isNear d = true then _ else _) = _
  rw [if_pos h2, natOf_nD]
theorem rowD_far {ds : List PyData} {d : PyData} (h : ds.getLast? = some d) (h2 : isNear d = false) : rowD ds = .tuple ds := by
  unfold rowD
  rw [h]
  show (if isNear d = true then _ else _) = _
  rw [h2, if_neg Bool.false_ne_true]
theorem Fm.lay : ∀ {n : Nat} {d : PyData}, Fm n d → d.canLay0 = true ∧ d.depth ≤ n := by
  intro n
  induction n with
  | zero => rintro d ⟨i, rfl⟩; exact ⟨by rw [PyData.canLay0], by rw [PyData.depth] <;> first | exact Nat.le_refl _ | simp⟩
  | succ n ih =>
    intro d h
    rcases h with ⟨i, rfl⟩ | ⟨ds, rfl, _, h⟩
    · exact ⟨by rw [PyData.canLay0], by rw [PyData.depth] <;> first | exact Nat.zero_le _ | simp⟩
    · have key : ∀ l : List PyData, (∀ x ∈ l, Fm n x) → PyData.canLayAll0 l = true ∧ PyData.depthAll l ≤ n := by
        intro l
        induction l with
        | nil => intro _; exact ⟨by rw [PyData.canLayAll0], by rw [PyData.depthAll]; exact Nat.zero_le _⟩
        | cons x xs ihl =>
          intro hl
          obtain ⟨a1, a2⟩ := ih (hl x List.mem_cons_self)
          obtain ⟨b1, b2⟩ := ihl fun y hy => hl y (List.mem_cons_of_mem _ hy)
          refine ⟨by rw [PyData.canLayAll0, a1, b1]; rfl, ?_⟩
          rw [PyData.depthAll]
          exact Nat.max_le.mpr ⟨a2, b2⟩
      obtain ⟨a, b⟩ := key ds h
      exact ⟨by rw [PyData.canLay0]; exact a, by rw [PyData.depth]; omega⟩
theorem shaped_list {n : Nat} {ds : List PyData} (hn : n ≤ 40) (h : ∀ x ∈ ds, Fm n x) : SeqAt.shaped (.list ds) = true := by
  have key : ∀ l : List PyData, (∀ x ∈ l, Fm n x) → PyData.canLayAll0 l = true ∧ PyData.depthAll l ≤ n := by
    intro l
    induction l with
    | nil => intro _; exact ⟨by rw [PyData.canLayAll0], by rw [PyData.depthAll]; exact Nat.zero_le _⟩
    | cons x xs ihl =>
      intro hl
      obtain ⟨a1, a2⟩ := (hl x List.mem_cons_self).lay
      obtain ⟨b1, b2⟩ := ihl fun y hy => hl y (List.mem_cons_of_mem _ hy)
      refine ⟨by rw [PyData.canLayAll0, a1, b1]; rfl, ?_⟩
      rw [PyData.depthAll]
      exact Nat.max_le.mpr ⟨a2, b2⟩
  obtain ⟨a, b⟩ := key ds h
  unfold SeqAt.shaped
  rw [PyData.canLay0, a, PyData.depth]
  simp
  omega
theorem shaped_nil : SeqAt.shaped (.list []) = true := shaped_list (n := 0) (by decide) (fun x h => by cases h)
theorem eqv_nil (ds : List PyData) : PyData.eqv (.list ds) (.list []) = ds.isEmpty := by
  rw [PyData.eqv]
  cases ds with
  | nil => rw [PyData.eqvAll]; rfl
  | cons _ _ => rw [PyData.eqvAll]; rfl
/-! ### fields: where the groups of bits lie -/
def F2 (low g : Int) (f : PyData) : Prop := (∃ d, 0 ≤ d ∧ d < 90 ∧ f = .tuple [.int low, .int (low + 1 + d)]) ∨
  ∃ d, 0 ≤ d ∧ d < 10 ^ 9 ∧ f = .tuple [.int low, .int (low + 7), .int (low + 9 + g), .int (low + 11 + 2 * g + d)]
def F3 (g : Int) (f2 f3 : PyData) : Prop := f3 = .tuple [.int g, f2] ∨ (∃ e ts, 0 ≤ e ∧ e < 60 ∧ f2 = .tuple ts ∧ f3 = .tuple [f2, .tuple (.int (e + 1) :: .int 64 :: ts)]) ∨
  f3 = .tuple [.int g, .int (g + 1), f2, .tuple [.int g, f2]]
structure Fields (fs : List PyData) : Prop where
  ex : ∃ (a low g : Int) (f2 f3 : PyData), fs = [.int 0, .int a, f2, f3] ∧ 130 ≤ a ∧ a < 2 ^ 64 ∧ 200 ≤ low ∧ low < 260 ∧ 150 ≤ g ∧ g < 190 ∧ F2 low g f2 ∧ F3 g f2 f3
def placeD (fs : List PyData) (p : Nat) : PyData := match fs[p / 200]? with
  | some (.int a) => formD (a + ((p % 200 : Nat) : Int))
  | some (.tuple ts) => .tuple (nD (turnsN ((p % 200 : Nat) : Int)) ++ ts)
  | _ => .none
def movedD (fs : List PyData) (c : Int) : PyData := rowD ((turnsN c).map (placeD fs))
end Fb
namespace Fb
open PySem
/-! ### the size of an alternating sum, by its last place -/
def flip (s : Int) : Nat → Int
  | 0 => s
  | n + 1 => flip (-s) n
theorem flip_pm {s : Int} (h : s = 1 ∨ s = -1) : ∀ n, flip s n = 1 ∨ flip s n = -1 := by
  intro n
  induction n generalizing s with
  | zero => exact h
  | succ n ih => exact ih (by omega)
theorem flip_succ (s : Int) (n : Nat) : flip s (n + 1) = -flip s n := by
  induction n generalizing s with
  | zero => rfl
  | succ n ih => exact ih (-s)
theorem alt_snoc (s : Int) (l : List Nat) (p : Nat) : alt s (l ++ [p]) = alt s l + flip s l.length * 2 ^ p := by
  induction l generalizing s with
  | nil => show s * 2 ^ p + 0 = 0 + s * 2 ^ p; omega
  | cons q l ih =>
    show s * 2 ^ q + alt (-s) (l ++ [p]) = s * 2 ^ q + alt (-s) l + flip (-s) l.length * 2 ^ p
    rw [ih]; omega
theorem alt_sum {s : Int} (h : s = 1 ∨ s = -1) : ∀ (l : List Nat) (a n : Nat), l.Pairwise (· < ·) → (∀ p ∈ l, a ≤ p ∧ p < n) → a ≤ n → -(2 ^ n - 2 ^ a) ≤ alt s l ∧ alt s l ≤ 2 ^ n - 2 ^ a := by
  intro l
  induction l generalizing s with
  | nil =>
    intro a n _ _ hn
    have := Nat.pow_le_pow_right (n := 2) (by decide) hn
    have h1 : ((2 ^ a : Nat) : Int) = 2 ^ a := Int.natCast_pow 2 a
    have h2 : ((2 ^ n : Nat) : Int) = 2 ^ n := Int.natCast_pow 2 n
    show -(2 ^ n - 2 ^ a) ≤ (0 : Int) ∧ (0 : Int) ≤ _
    omega
  | cons p l ih =>
    intro a n hp hb hn
    obtain ⟨h1, h2⟩ := List.pairwise_cons.mp hp
    obtain ⟨b1, b2⟩ := hb p List.mem_cons_self
    obtain ⟨c1, c2⟩ := ih (s := -s) (by omega) (p + 1) n h2 (fun q hq => ⟨h1 q hq, (hb q (List.mem_cons_of_mem _ hq)).2⟩) (by omega)
    have e := Nat.pow_le_pow_right (n := 2) (by decide) b1
    have h1 : ((2 ^ a : Nat) : Int) = 2 ^ a := Int.natCast_pow 2 a
    have h2 : ((2 ^ p : Nat) : Int) = 2 ^ p := Int.natCast_pow 2 p
    have h3 : (2 : Int) ^ (p + 1) = 2 ^ p * 2 := Int.pow_succ 2 p
    have h4 : (0 : Int) < 2 ^ p := Int.pow_pos (by decide)
    show -(2 ^ n - 2 ^ a) ≤ s * 2 ^ p + alt (-s) l ∧ s * 2 ^ p + alt (-s) l ≤ _
    rcases h with rfl | rfl <;> omega
theorem alt_lt {s : Int} (h : s = 1 ∨ s = -1) {l : List Nat} {n : Nat} (hp : l.Pairwise (· < ·)) (hb : ∀ p ∈ l, p < n) : -(2 ^ n) < alt s l ∧ alt s l < 2 ^ n := by
  have := alt_sum h l 0 n hp (fun p q => ⟨Nat.zero_le _, hb p q⟩) (Nat.zero_le _)
  have h0 : (2 : Int) ^ 0 = 1 := rfl
  omega
/-- the last place tells the sign -/
theorem alt_sign {s : Int} (h : s = 1 ∨ s = -1) {l : List Nat} {p : Nat} (hp : (l ++ [p]).Pairwise (· < ·)) : (flip s l.length = 1 → 0 < alt s (l ++ [p])) ∧ (flip s l.length = -1 → alt s (l ++ [p]) < 0) := by
  obtain ⟨h1, _, h3⟩ := List.pairwise_append.mp hp
  have := alt_lt h (n := p) h1 fun q hq => h3 q hq p List.mem_cons_self
  rw [alt_snoc]
  constructor <;> intro e <;> rw [e] <;> omega
/-- an int from 0 on is below 2 to its last turn -/
theorem last_lt {c : Int} (h0 : 0 ≤ c) {l : List Nat} {p : Nat} (h : turnsN c = l ++ [p]) : c < 2 ^ p ∧ (2 : Int) ^ p ≤ 2 * c := by
  have asc := turns_asc c
  have e := turns_alt c
  rw [h] at asc e
  obtain ⟨h1, _, h3⟩ := List.pairwise_append.mp asc
  have b := alt_lt (s := -1) (.inr rfl) (n := p) h1 fun q hq => h3 q hq p List.mem_cons_self
  have sg := alt_sign (s := -1) (.inr rfl) asc
  have pm := flip_pm (s := -1) (.inr rfl) l.length
  have f1 : flip (-1) l.length = 1 := by
    rcases pm with h | h
    · exact h
    · have := sg.2 h; omega
  constructor
  · rcases List.eq_nil_or_concat l with rfl | ⟨l', q, rfl⟩
    · cases f1
    · rw [List.concat_eq_append] at *
      have sg2 := alt_sign (s := -1) (.inr rfl) h1
      have f2 : flip (-1) l'.length = -1 := by
        rw [List.length_append, List.length_singleton, flip_succ] at f1
        omega
      have := sg2.2 f2
      rw [alt_snoc, f1] at e
      omega
  · by_cases c0 : 2 * c < 2 ^ p
    · cases p with
      | zero => 
        have : c = 0 := by have : (2 : Int) ^ 0 = 1 := rfl; omega
        subst this
        have z : turnsN 0 = [] := by decide +kernel
        rw [z] at h
        simp at h
      | succ p =>
        rw [Int.pow_succ] at c0
        have := turns_lt (x := c) (n := p) (by have := Int.pow_pos (n := 2) (m := p) (by decide); omega) (by omega) (p + 1) (by rw [h]; simp)
        omega
    · omega
theorem last_mono {c c' : Int} (h0 : 0 ≤ c) (hc : c ≤ c') {l l' : List Nat} {p p' : Nat} (h : turnsN c = l ++ [p]) (h' : turnsN c' = l' ++ [p']) : p ≤ p' := by
  have a := (last_lt h0 h).2
  have b := (last_lt (by omega) h').1
  by_cases e : p ≤ p'
  · exact e
  · have := Nat.pow_le_pow_right (n := 2) (by decide) (show p' + 1 ≤ p by omega)
    have h1 : ((2 ^ (p' + 1) : Nat) : Int) = 2 ^ (p' + 1) := Int.natCast_pow 2 _
    have h2 : ((2 ^ p : Nat) : Int) = 2 ^ p := Int.natCast_pow 2 p
    rw [Int.pow_succ] at h1
    omega
theorem alt_dvd : ∀ (l : List Nat) (s : Int) (a : Nat), (∀ p ∈ l, a ≤ p) → ∃ k, alt s l = 2 ^ a * k := by
  intro l
  induction l with
  | nil => intro s a _; exact ⟨0, by show (0 : Int) = _; omega⟩
  | cons p l ih =>
    intro s a h
    obtain ⟨k, hk⟩ := ih (-s) a fun q hq => h q (List.mem_cons_of_mem _ hq)
    obtain ⟨e, rfl⟩ : ∃ e, p = a + e := ⟨p - a, by have := h p List.mem_cons_self; omega⟩
    refine ⟨s * 2 ^ e + k, ?_⟩
    show s * 2 ^ (a + e) + alt (-s) l = _
    rw [hk, Int.pow_add, Int.mul_add, ← Int.mul_assoc, ← Int.mul_assoc, Int.mul_comm s]
theorem odd_ne {s : Int} (h : s = 1 ∨ s = -1) (p : Nat) (k m : Int) : s * 2 ^ p + 2 ^ (p + 1) * k ≠ 2 ^ (p + 1) * m := by
  intro e
  have h1 : (0 : Int) < 2 ^ p := Int.pow_pos (by decide)
  have e2 : (2 : Int) ^ p * (s + 2 * k) = 2 ^ p * (2 * m) := by
    rw [Int.mul_add, ← Int.mul_assoc, ← Int.mul_assoc, ← Int.pow_succ, Int.mul_comm _ s]
    exact e
  have := Int.eq_of_mul_eq_mul_left (by omega) e2
  omega
/-- turns are unique: an ascending row is the turns of its sum -/
theorem alt_inj : ∀ (l l' : List Nat) (s : Int), (s = 1 ∨ s = -1) → l.Pairwise (· < ·) → l'.Pairwise (· < ·) → alt s l = alt s l' → l = l' := by
  intro l
  induction l with
  | nil =>
    intro l' s h _ h2 e
    cases l' with
    | nil => rfl
    | cons q l' =>
      obtain ⟨b1, b2⟩ := List.pairwise_cons.mp h2
      obtain ⟨k, hk⟩ := alt_dvd l' (-s) (q + 1) b1
      have e' : (0 : Int) = s * 2 ^ q + alt (-s) l' := e
      rw [hk] at e'
      exact absurd e'.symm (by have := odd_ne h q k 0; rwa [Int.mul_zero] at this)
  | cons p l ih =>
    intro l' s h h1 h2 e
    obtain ⟨a1, a2⟩ := List.pairwise_cons.mp h1
    cases l' with
    | nil =>
      obtain ⟨k, hk⟩ := alt_dvd l (-s) (p + 1) a1
      have e' : s * 2 ^ p + alt (-s) l = 0 := e
      rw [hk] at e'
      exact absurd e' (by have := odd_ne h p k 0; rwa [Int.mul_zero] at this)
    | cons q l' =>
      obtain ⟨b1, b2⟩ := List.pairwise_cons.mp h2
      have e' : s * 2 ^ p + alt (-s) l = s * 2 ^ q + alt (-s) l' := e
      obtain ⟨k, hk⟩ := alt_dvd l (-s) (p + 1) a1
      obtain ⟨m, hm⟩ := alt_dvd l' (-s) (q + 1) b1
      have pq : p = q := by
        rcases Nat.lt_trichotomy p q with c | c | c
        · obtain ⟨z, hz⟩ := alt_dvd (q :: l') s (p + 1) (fun r hr => by
            rcases List.mem_cons.mp hr with rfl | hr
            · exact c
            · have := b1 r hr; omega)
          have ez : s * 2 ^ q + alt (-s) l' = 2 ^ (p + 1) * z := hz
          rw [ez, hk] at e'
          exact absurd e' (odd_ne h p k z)
        · exact c
        · obtain ⟨z, hz⟩ := alt_dvd (p :: l) s (q + 1) (fun r hr => by
            rcases List.mem_cons.mp hr with rfl | hr
            · exact c
            · have := a1 r hr; omega)
          have ez : s * 2 ^ p + alt (-s) l = 2 ^ (q + 1) * z := hz
          rw [ez, hm] at e'
          exact absurd e'.symm (odd_ne h q m z)
      subst pq
      rw [ih l' (-s) (by omega) a2 b2 (by omega)]
/-- the turns of an alternating sum -/
theorem turns_of_alt {l : List Nat} (h : l.Pairwise (· < ·)) : turnsN (alt (-1) l) = l :=
  alt_inj _ _ (-1) (.inr rfl) (turns_asc _) h (turns_alt _)
end Fb
namespace Fb
open PySem L2
def Ne : Nat → PyData → Prop
  | n + 1, .tuple ds => ds ≠ [] ∧ ∀ x ∈ ds, Ne n x
  | _, _ => True
theorem Ne.int (n : Nat) (i : Int) : Ne n (.int i) := by cases n <;> exact True.intro
theorem Sp_.int (n : Nat) (i : Int) : Sp_ n (.int i) := by cases n <;> exact True.intro
/-- a tree whose last place is the highest one, everywhere -/
structure Gd (n : Nat) (h : Int) (d : PyData) : Prop where
  fm : Fm n d
  ne : Ne n d
  sp : Sp_ n d
  ht : ht n d = h
theorem gd_int (n : Nat) (i : Int) : Gd n 0 (.int i) := ⟨Fm.int i, Ne.int n i, Sp_.int n i, ht_int n i⟩
theorem gd_tup {n : Nat} {h : Int} {ds : List PyData} {dl : PyData} (hl : ds.length ≤ 9000) (e : ds.getLast? = some dl) (gl : Gd n h dl) (g : ∀ x ∈ ds, ∃ h', h' ≤ h ∧ Gd n h' x) : Gd (n + 1) (h + 1) (.tuple ds) := by
  have m : dl ∈ ds := List.mem_of_getLast? e
  refine ⟨.inr ⟨ds, rfl, hl, fun x hx => ?_⟩, ⟨List.ne_nil_of_mem m, fun x hx => ?_⟩, ⟨dl, e, fun x hx => ?_, gl.sp⟩, ?_⟩
  · obtain ⟨h', _, k⟩ := g x hx; exact k.fm
  · obtain ⟨h', _, k⟩ := g x hx; exact k.ne
  · obtain ⟨h', l, k⟩ := g x hx; rw [k.ht, gl.ht]; exact l
  · show 1 + maxI (ds.map (Fb.ht n)) = h + 1
    rw [maxI_eq (List.mem_map.mpr ⟨dl, m, gl.ht⟩) (fun x hx => by obtain ⟨y, _, rfl⟩ := List.mem_map.mp hx; exact ht_nonneg n y) (fun y hy => by
      obtain ⟨x, hx, rfl⟩ := List.mem_map.mp hy
      obtain ⟨h', l, k⟩ := g x hx
      rw [k.ht]; exact l)]
    omega
theorem mem_nD {ns : List Nat} {x : PyData} (h : x ∈ nD ns) : ∃ n : Nat, x = .int (n : Int) := by
  obtain ⟨n, _, rfl⟩ := List.mem_map.mp (show x ∈ ns.map _ from h); exact ⟨n, rfl⟩
theorem len_nD (ns : List Nat) : (nD ns).length = ns.length := by unfold nD; rw [List.length_map]
theorem gd_ints {n : Nat} {ns : List Nat} (h0 : ns ≠ []) (hl : ns.length ≤ 9000) : Gd (n + 1) 1 (.tuple (nD ns)) := by
  obtain ⟨d, e⟩ : ∃ d, (nD ns).getLast? = some d := by
    rcases List.eq_nil_or_concat ns with rfl | ⟨m, q, rfl⟩
    · exact absurd rfl h0
    · rw [List.concat_eq_append]; unfold nD; rw [List.map_append]; exact ⟨_, List.getLast?_concat ..⟩
  obtain ⟨m, rfl⟩ := mem_nD (List.mem_of_getLast? e)
  exact gd_tup (h := 0) (by rw [len_nD]; exact hl) e (gd_int n _) fun x hx => by
    obtain ⟨k, rfl⟩ := mem_nD hx; exact ⟨0, Int.le_refl 0, gd_int n _⟩
def hI (x : Int) : Int := if plain x then 0 else 1
theorem gd_form {n : Nat} {x : Int} (h0 : -(2 ^ 2000) ≤ x) (h1 : x < 2 ^ 2000) : Gd (n + 1) (hI x) (formD x) := by
  unfold hI formD
  by_cases c : plain x
  · rw [if_pos c, if_pos c]; exact gd_int _ x
  · rw [if_neg c, if_neg c]
    refine gd_ints (fun e => ?_) (Nat.le_trans (turns_len (n := 2000) h0 h1) (by decide))
    have := turns_alt x
    rw [e] at this
    have h : x = 0 := this.symm
    subst h
    exact c (by decide)
theorem gd_app {n : Nat} {h : Int} {ns : List Nat} {ts : List PyData} (hn : ns.length ≤ 2000) (ht : ts.length ≤ 50) (h0 : 0 ≤ h) {dl : PyData} (e : ts.getLast? = some dl) (gl : Gd n h dl) (g : ∀ x ∈ ts, ∃ h', h' ≤ h ∧ Gd n h' x) : Gd (n + 1) (h + 1) (.tuple (nD ns ++ ts)) := by
  refine gd_tup (by rw [List.length_append, len_nD]; omega) (by rw [List.getLast?_append, e]; rfl) gl fun x hx => ?_
  rcases List.mem_append.mp hx with hx | hx
  · obtain ⟨k, rfl⟩ := mem_nD hx; exact ⟨0, h0, gd_int n _⟩
  · exact g x hx
/-- what a field's tuple is made of -/
def TsOk (n : Nat) (h : Int) (ts : List PyData) : Prop := ts.length ≤ 50 ∧ 0 ≤ h ∧ ∃ dl, ts.getLast? = some dl ∧ Gd n h dl ∧ ∀ x ∈ ts, ∃ h', h' ≤ h ∧ Gd n h' x
theorem TsOk.gd {n : Nat} {h : Int} {ts : List PyData} (t : TsOk n h ts) {ns : List Nat} (hn : ns.length ≤ 2000) : Gd (n + 1) (h + 1) (.tuple (nD ns ++ ts)) := by
  obtain ⟨l, h0, dl, e, gl, g⟩ := t
  exact gd_app hn l h0 e gl g
theorem TsOk.gd0 {n : Nat} {h : Int} {ts : List PyData} (t : TsOk n h ts) : Gd (n + 1) (h + 1) (.tuple ts) := t.gd (ns := []) (by decide)
theorem f2_ok {n : Nat} {low g : Int} {f2 : PyData} (h : F2 low g f2) : ∃ ts, f2 = .tuple ts ∧ TsOk n 0 ts := by
  rcases h with ⟨d, _, _, rfl⟩ | ⟨d, _, _, rfl⟩
  · exact ⟨_, rfl, by show 2 ≤ 50; decide, Int.le_refl 0, _, rfl, gd_int n _, fun x hx => by
      simp at hx; rcases hx with rfl | rfl <;> exact ⟨0, Int.le_refl 0, gd_int n _⟩⟩
  · exact ⟨_, rfl, by show 4 ≤ 50; decide, Int.le_refl 0, _, rfl, gd_int n _, fun x hx => by
      simp at hx; rcases hx with rfl | rfl | rfl | rfl <;> exact ⟨0, Int.le_refl 0, gd_int n _⟩⟩
theorem f3_ok {n : Nat} {low g : Int} {f2 f3 : PyData} (h2 : F2 low g f2) (h : F3 g f2 f3) : ∃ ts h, f3 = .tuple ts ∧ 1 ≤ h ∧ TsOk (n + 2) h ts := by
  obtain ⟨t2, rfl, k2⟩ := f2_ok (n := n) h2
  obtain ⟨t2', e2, k2'⟩ := f2_ok (n := n + 1) h2
  cases e2
  have g2 : Gd (n + 1) 1 (.tuple t2) := k2.gd0
  have g2' : Gd (n + 2) 1 (.tuple t2) := k2'.gd0
  rcases h with rfl | ⟨e, ts, _, _, et, rfl⟩ | rfl
  · exact ⟨_, 1, rfl, Int.le_refl 1, by show 2 ≤ 50; decide, by decide, _, rfl, g2', fun x hx => by
      simp at hx
      rcases hx with rfl | rfl
      · exact ⟨0, by decide, gd_int _ _⟩
      · exact ⟨1, Int.le_refl 1, g2'⟩⟩
  · cases et
    have g3 : Gd (n + 2) 1 (.tuple (.int (e + 1) :: .int 64 :: t2)) := by
      obtain ⟨l, h0, dl, e1, gl, g⟩ := k2'
      refine gd_tup (h := 0) (by show t2.length + 2 ≤ 9000; omega) (dl := dl) ?_ gl fun x hx => ?_
      · rw [List.getLast?_cons, List.getLast?_cons, e1]; rfl
      · rcases List.mem_cons.mp hx with rfl | hx
        · exact ⟨0, Int.le_refl 0, gd_int _ _⟩
        · rcases List.mem_cons.mp hx with rfl | hx
          · exact ⟨0, Int.le_refl 0, gd_int _ _⟩
          · exact g x hx
    exact ⟨_, 1, rfl, Int.le_refl 1, by show 2 ≤ 50; decide, by decide, _, rfl, g3, fun x hx => by
      simp at hx
      rcases hx with rfl | rfl
      · exact ⟨1, Int.le_refl 1, g2'⟩
      · exact ⟨1, Int.le_refl 1, g3⟩⟩
  · have g3 : Gd (n + 2) 2 (.tuple [.int g, .tuple t2]) := gd_tup (h := 1) (by show 2 ≤ 9000; decide) rfl g2 fun x hx => by
      simp at hx
      rcases hx with rfl | rfl
      · exact ⟨0, by decide, gd_int _ _⟩
      · exact ⟨1, Int.le_refl 1, g2⟩
    exact ⟨_, 2, rfl, by decide, by show 4 ≤ 50; decide, by decide, _, rfl, g3, fun x hx => by
      simp at hx
      rcases hx with rfl | rfl | rfl | rfl
      · exact ⟨0, by decide, gd_int _ _⟩
      · exact ⟨0, by decide, gd_int _ _⟩
      · exact ⟨1, by decide, g2'⟩
      · exact ⟨2, by decide, g3⟩⟩
/-! ### places -/
theorem step_in (p : Nat) : -(2 ^ 100) ≤ ((p % 200 : Nat) : Int) ∧ ((p % 200 : Nat) : Int) < 2 ^ 100 := by
  have := Nat.mod_lt p (show 0 < 200 by decide); omega
theorem step_len (p : Nat) : (turnsN ((p % 200 : Nat) : Int)).length ≤ 2000 := by
  have h := Nat.mod_lt p (show 0 < 200 by decide)
  have := turns_len (x := ((p % 200 : Nat) : Int)) (n := 10) (by omega) (by omega)
  omega
theorem place0 {fs : List PyData} (F : Fields fs) {p : Nat} (h : p < 200) : placeD fs p = .int (p : Int) := by
  obtain ⟨a, low, g, f2, f3, rfl, _⟩ := F.ex
  unfold placeD
  rw [show p / 200 = 0 by omega]
  show formD (0 + ((p % 200 : Nat) : Int)) = _
  rw [show p % 200 = p by omega]
  unfold formD
  rw [if_pos (by constructor <;> omega)]
  congr 1
  omega
/-- the height of a place, ever greater -/
theorem places {fs : List PyData} (F : Fields fs) (n : Nat) : ∃ hp : Nat → Int, (∀ p q, p ≤ q → q < 800 → hp p ≤ hp q) ∧ ∀ p, p < 800 → 0 ≤ hp p ∧ Gd (n + 3) (hp p) (placeD fs p) ∧ (64 < p → isNear (placeD fs p) = false) := by
  have F' := F
  obtain ⟨a, low, g, f2, f3, rfl, a0, a1, _, _, _, _, k2, k3⟩ := F.ex
  obtain ⟨t2, rfl, o2⟩ := f2_ok (n := n + 2) k2
  obtain ⟨t3, h3, rfl, h1, o3⟩ := f3_ok (n := n) k2 k3
  refine ⟨fun p => if p < 200 then 0 else if p < 400 then hI (a + ((p % 200 : Nat) : Int)) else if p < 600 then 1 else h3 + 1, ?_, ?_⟩
  · intro p q pq q8
    have hi : ∀ x, 0 ≤ hI x ∧ hI x ≤ 1 := fun x => by unfold hI; split <;> decide
    have mono : ∀ x y : Int, 0 ≤ x → x ≤ y → hI x ≤ hI y := fun x y x0 xy => by
      unfold hI
      by_cases c : plain y
      · have c' : plain x := ⟨by omega, by have := c.2; omega⟩
        rw [if_pos c, if_pos c']; decide
      · rw [if_neg c]
        split <;> decide
    dsimp only
    have b1 := hi (a + ((p % 200 : Nat) : Int))
    have b2 := hi (a + ((q % 200 : Nat) : Int))
    by_cases c1 : p < 200
    · rw [if_pos c1]
      split
      · exact Int.le_refl 0
      · split
        · omega
        · split <;> omega
    · rw [if_neg c1, if_neg (show ¬ q < 200 by omega)]
      by_cases c2 : p < 400
      · rw [if_pos c2]
        split
        · exact mono _ _ (by omega) (by omega)
        · split <;> omega
      · rw [if_neg c2, if_neg (show ¬ q < 400 by omega)]
        split
        · split <;> omega
        · rw [if_neg (show ¬ q < 600 by omega)]; omega
  · intro p p8
    dsimp only
    by_cases c1 : p < 200
    · rw [if_pos c1, place0 F' c1]
      exact ⟨Int.le_refl 0, gd_int _ _, fun h => decide_eq_false (by omega)⟩
    · rw [if_neg c1]
      by_cases c2 : p < 400
      · rw [if_pos c2]
        unfold placeD
        rw [show p / 200 = 1 by omega]
        have hs := step_in p
        refine ⟨by unfold hI; split <;> decide, ?_, fun _ => ?_⟩
        · have big : (2 : Int) ^ 101 ≤ 2 ^ 2000 := by
            have h' : ((2 ^ 101 : Nat) : Int) ≤ ((2 ^ 2000 : Nat) : Int) := Int.ofNat_le.mpr (Nat.pow_le_pow_right (by decide) (by decide))
            rw [Int.natCast_pow, Int.natCast_pow] at h'
            exact h'
          refine gd_form ?_ ?_
          · generalize (2 : Int) ^ 2000 = B at big ⊢; omega
          · generalize (2 : Int) ^ 2000 = B at big ⊢; omega
        · show isNear (formD _) = false
          unfold formD
          split
          · exact decide_eq_false (by omega)
          · rfl
      · rw [if_neg c2]
        by_cases c3 : p < 600
        · rw [if_pos c3]
          unfold placeD
          rw [show p / 200 = 2 by omega]
          exact ⟨by decide, o2.gd (step_len p), fun _ => rfl⟩
        · rw [if_neg c3]
          unfold placeD
          rw [show p / 200 = 3 by omega]
          exact ⟨by omega, o3.gd (step_len p), fun _ => rfl⟩
theorem place_fm {fs : List PyData} (F : Fields fs) {p : Nat} (h : p < 800) : Fm 3 (placeD fs p) := by
  obtain ⟨hp, _, k⟩ := places F 0
  exact (k p h).2.1.fm
/-- the row of places of a code keeps the word for row_form -/
theorem places_row {fs : List PyData} (F : Fields fs) {ns : List Nat} (asc : ns.Pairwise (· < ·)) (hb : ∀ p ∈ ns, p < 800) : RowC (ns.map (placeD fs)) := by
  intro d hd hn
  rcases List.eq_nil_or_concat ns with rfl | ⟨m, q, rfl⟩
  · cases hd
  rw [List.concat_eq_append] at *
  rw [List.map_append, List.map_singleton, List.getLast?_concat] at hd
  cases hd
  obtain ⟨hp, _, k⟩ := places F 0
  have q8 : q < 800 := hb q (by simp)
  have q64 : q ≤ 64 := by
    by_cases c : 64 < q
    · have := (k q q8).2.2 c
      rw [hn] at this
      cases this
    · omega
  have all : ∀ p ∈ m ++ [q], p ≤ 64 := fun p hp => by
    rcases List.mem_append.mp hp with hp | hp
    · have := (List.pairwise_append.mp asc).2.2 p hp q List.mem_cons_self; omega
    · simp at hp; omega
  refine ⟨m ++ [q], ?_, all⟩
  unfold nD
  exact List.map_congr_left fun p hp => place0 F (by have := all p hp; omega)
theorem turns_800 {c : Int} (h0 : 0 ≤ c) (h1 : c < 2 ^ 799) : ∀ p ∈ turnsN c, p < 800 := fun p hp => by
  have := turns_lt (n := 799) (by generalize (2 : Int) ^ 799 = B at h1 ⊢; omega) h1 p hp; omega
/-- a moved code: an int if it is small, else a tuple; its height by its last turn -/
theorem moved_cases {fs : List PyData} (F : Fields fs) {c : Int} (h0 : 0 ≤ c) (h1 : c < 2 ^ 799) :
    ((∀ p ∈ turnsN c, p ≤ 64) ∧ movedD fs c = .int c) ∨ ∃ l p, turnsN c = l ++ [p] ∧ 64 < p ∧ movedD fs c = .tuple ((turnsN c).map (placeD fs)) := by
  have hb := turns_800 h0 h1
  have asc := turns_asc c
  have e := turns_alt c
  have near : (∀ p ∈ turnsN c, p ≤ 64) → movedD fs c = .int c := fun all => by
    unfold movedD
    have e1 : (turnsN c).map (placeD fs) = nD (turnsN c) := by
      unfold nD
      exact List.map_congr_left fun p hp => place0 F (by have := all p hp; omega)
    rw [e1]
    cases hl : (nD (turnsN c)).getLast? with
    | none =>
      have : turnsN c = [] := by
        have := List.getLast?_eq_none_iff.mp hl
        unfold nD at this
        exact List.map_eq_nil_iff.mp this
      rw [this] at e ⊢
      show PyData.int 0 = .int c
      congr 1
    | some d =>
      obtain ⟨n, hn, rfl⟩ := List.mem_map.mp (List.mem_of_getLast? hl)
      rw [rowD_near hl (decide_eq_true (by have := all n hn; omega)), e]
  rcases List.eq_nil_or_concat (turnsN c) with h | ⟨m, q, h⟩
  · left
    have all : ∀ p ∈ turnsN c, p ≤ 64 := by rw [h]; intro p hp; cases hp
    exact ⟨all, near all⟩
  · rw [List.concat_eq_append] at h
    by_cases c64 : q ≤ 64
    · left
      have all : ∀ p ∈ turnsN c, p ≤ 64 := by
        rw [h] at asc ⊢
        intro p hp
        rcases List.mem_append.mp hp with hp | hp
        · have := (List.pairwise_append.mp asc).2.2 p hp q List.mem_cons_self; omega
        · simp at hp; omega
      exact ⟨all, near all⟩
    · right
      refine ⟨m, q, h, by omega, ?_⟩
      obtain ⟨hp, _, k⟩ := places F 0
      have q8 : q < 800 := hb q (by rw [h]; simp)
      unfold movedD
      refine rowD_far (d := placeD fs q) ?_ ((k q q8).2.2 (by omega))
      rw [h, List.map_append, List.map_singleton, List.getLast?_concat]
theorem len_turns {c : Int} (h0 : 0 ≤ c) (h1 : c < 2 ^ 799) : (turnsN c).length ≤ 800 :=
  turns_len (n := 799) (by generalize (2 : Int) ^ 799 = B at h1 ⊢; omega) h1
/-- the height of a moved code, ever greater -/
theorem moveds {fs : List PyData} (F : Fields fs) (n : Nat) : ∃ hm : Int → Int, (∀ c c', 0 ≤ c → c ≤ c' → c' < 2 ^ 799 → hm c ≤ hm c') ∧ ∀ c, 0 ≤ c → c < 2 ^ 799 → 0 ≤ hm c ∧ Gd (n + 4) (hm c) (movedD fs c) ∧ (isNear (movedD fs c) = true → c ≤ 64) := by
  obtain ⟨hp, mono, k⟩ := places F n
  refine ⟨fun c => match (turnsN c).getLast? with | none => 0 | some p => if p ≤ 64 then 0 else hp p + 1, ?_, ?_⟩
  · intro c c' c0 cc c8
    dsimp only
    have hb := turns_800 (c := c') (by omega) c8
    have hb0 := turns_800 (c := c) c0 (by generalize (2 : Int) ^ 799 = B at c8 ⊢; omega)
    rcases List.eq_nil_or_concat (turnsN c) with h | ⟨m, q, h⟩
    · rw [h]
      show (0 : Int) ≤ _
      split
      · exact Int.le_refl 0
      · rename_i p hpe
        split
        · exact Int.le_refl 0
        · have := (k p (hb p (List.mem_of_getLast? hpe))).1; omega
    · rw [List.concat_eq_append] at h
      rcases List.eq_nil_or_concat (turnsN c') with h' | ⟨m', q', h'⟩
      · have e' := turns_alt c'
        rw [h'] at e'
        have z : c' = 0 := e'.symm
        have z0 : c = 0 := by omega
        rw [z0] at h
        rw [z] at h'
        rw [h'] at h
        simp at h
      · rw [List.concat_eq_append] at h'
        have pq := last_mono c0 cc h h'
        have q8 : q' < 800 := hb q' (by rw [h']; simp)
        rw [h, h', List.getLast?_concat, List.getLast?_concat]
        show (if q ≤ 64 then (0 : Int) else hp q + 1) ≤ if q' ≤ 64 then 0 else hp q' + 1
        have := mono q q' pq q8
        have := (k q' q8).1
        split <;> split <;> omega
  · intro c c0 c8
    dsimp only
    have hb := turns_800 (c := c) c0 c8
    have asc := turns_asc c
    rcases moved_cases F c0 c8 with ⟨all, e⟩ | ⟨l, p, e1, p64, e⟩
    · rw [e]
      have z : (match (turnsN c).getLast? with | none => (0 : Int) | some p => if p ≤ 64 then 0 else hp p + 1) = 0 := by
        split
        · rfl
        · rename_i p hpe
          rw [if_pos (all p (List.mem_of_getLast? hpe))]
      rw [z]
      exact ⟨Int.le_refl 0, gd_int _ _, fun h => of_decide_eq_true h⟩
    · rw [e, e1, List.getLast?_concat]
      show 0 ≤ (if p ≤ 64 then (0 : Int) else hp p + 1) ∧ Gd (n + 4) (if p ≤ 64 then (0 : Int) else hp p + 1) _ ∧ _
      rw [if_neg (by omega)]
      have p8 : p < 800 := hb p (by rw [e1]; simp)
      have kp := k p p8
      refine ⟨by omega, gd_tup (dl := placeD fs p) ?_ ?_ kp.2.1 fun x hx => ?_, fun h => by cases h⟩
      · have := len_turns c0 c8
        rw [e1] at this
        rw [List.length_map]; omega
      · rw [List.map_append, List.map_singleton, List.getLast?_concat]
      · obtain ⟨q, hq, rfl⟩ := List.mem_map.mp hx
        have q8 : q < 800 := hb q (by rw [e1]; exact hq)
        refine ⟨hp q, mono q p ?_ p8, (k q q8).2.1⟩
        rw [e1] at asc
        rcases List.mem_append.mp hq with hq | hq
        · have := (List.pairwise_append.mp asc).2.2 q hq p List.mem_cons_self; omega
        · simp at hq; omega
/-- codes that ascend -/
def Codes (cs : List Int) : Prop := cs.Pairwise (· < ·) ∧ (∀ c ∈ cs, 0 ≤ c ∧ c < 2 ^ 799) ∧ cs.length ≤ 2000
def codesD (fs : List PyData) (cs : List Int) : PyData := rowD (cs.map (movedD fs))
theorem small_moved {fs : List PyData} (F : Fields fs) {c : Int} (h0 : 0 ≤ c) (h1 : c ≤ 64) : movedD fs c = .int c := by
  have h7 : c < 2 ^ 7 := by omega
  have c8 : c < 2 ^ 799 := by
    have big : (2 : Int) ^ 7 ≤ 2 ^ 799 := by
      have h' : ((2 ^ 7 : Nat) : Int) ≤ ((2 ^ 799 : Nat) : Int) := Int.ofNat_le.mpr (Nat.pow_le_pow_right (by decide) (by decide))
      rw [Int.natCast_pow, Int.natCast_pow] at h'
      exact h'
    generalize (2 : Int) ^ 799 = B at big ⊢; omega
  rcases moved_cases F h0 c8 with ⟨_, e⟩ | ⟨l, p, e1, p64, _⟩
  · exact e
  · have := turns_lt (n := 7) (by omega) h7 p (by rw [e1]; simp)
    omega
theorem codes_row {fs : List PyData} (F : Fields fs) {cs : List Int} (h : Codes cs) : RowC (cs.map (movedD fs)) := by
  obtain ⟨asc, hb, _⟩ := h
  intro d hd hn
  rcases List.eq_nil_or_concat cs with rfl | ⟨m, q, rfl⟩
  · cases hd
  rw [List.concat_eq_append] at *
  rw [List.map_append, List.map_singleton, List.getLast?_concat] at hd
  cases hd
  obtain ⟨hm, _, k⟩ := moveds F 0
  have hq := hb q (by simp)
  have q64 := (k q hq.1 hq.2).2.2 hn
  have all : ∀ c ∈ m ++ [q], c ≤ 64 := fun c hc => by
    rcases List.mem_append.mp hc with hc | hc
    · have := (List.pairwise_append.mp asc).2.2 c hc q List.mem_cons_self; omega
    · simp at hc; omega
  refine ⟨(m ++ [q]).map Int.toNat, ?_, fun n hn => ?_⟩
  · unfold nD
    rw [List.map_map]
    refine List.map_congr_left fun c hc => ?_
    rw [small_moved F (hb c hc).1 (all c hc)]
    show PyData.int c = .int ((c.toNat : Nat) : Int)
    have := (hb c hc).1
    congr 1
    omega
  · obtain ⟨c, hc, rfl⟩ := List.mem_map.mp hn
    have := all c hc
    omega
theorem codes_gd {fs : List PyData} (F : Fields fs) {cs : List Int} (h : Codes cs) (n : Nat) : ∃ hh, Gd (n + 5) hh (codesD fs cs) := by
  obtain ⟨asc, hb, hl⟩ := h
  obtain ⟨hm, mono, k⟩ := moveds F n
  unfold codesD
  rcases List.eq_nil_or_concat cs with rfl | ⟨m, q, rfl⟩
  · exact ⟨0, gd_int _ _⟩
  rw [List.concat_eq_append] at *
  have e : ((m ++ [q]).map (movedD fs)).getLast? = some (movedD fs q) := by rw [List.map_append, List.map_singleton, List.getLast?_concat]
  have hq := hb q (by simp)
  by_cases c : isNear (movedD fs q) = true
  · unfold rowD
    rw [e]
    show ∃ hh, Gd (n + 5) hh (if isNear (movedD fs q) = true then _ else _)
    rw [if_pos c]
    exact ⟨0, gd_int _ _⟩
  · rw [rowD_far e (Bool.eq_false_iff.mpr c)]
    refine ⟨hm q + 1, gd_tup (by rw [List.length_map]; omega) e (k q hq.1 hq.2).2.1 fun x hx => ?_⟩
    obtain ⟨c', hc', rfl⟩ := List.mem_map.mp hx
    have hc := hb c' hc'
    refine ⟨hm c', mono c' q hc.1 ?_ hq.2, (k c' hc.1 hc.2).2.1⟩
    rcases List.mem_append.mp hc' with h | h
    · have := (List.pairwise_append.mp asc).2.2 c' h q List.mem_cons_self; omega
    · simp at h; omega
end Fb
namespace Fb
open PySem L2
theorem cpow {i j : Int} (h : 0 ≤ j ∧ j ≤ 1000000 ∧ i.natAbs < 2 ^ 64) : CPow i j := h
theorem dps_last {K : PySem.W.Frag} {H : Hp} {ini : List PyData} {d : PyData} {xs : List V} (h : DpAll K H xs (ini ++ [d])) : ∃ x, atI xs (-1) = some x ∧ Dp K H x d := by
  have hl := dps_length h
  rw [List.length_append, List.length_singleton] at hl
  have hi : ini.length < xs.length := by omega
  have e : xs[ini.length]? = some xs[ini.length] := List.getElem?_eq_getElem hi
  obtain ⟨d', h1, h2⟩ := dps_get h e
  rw [List.getElem?_append_right (Nat.le_refl _), Nat.sub_self] at h1
  cases h1
  refine ⟨_, ?_, h2⟩
  unfold atI ixN
  rw [if_neg (by decide), if_pos (by omega)]
  show xs[((-1 : Int) + xs.length).toNat]? = _
  rw [show ((-1 : Int) + xs.length).toNat = ini.length by omega]
  exact e
/-! ### codes: groups of bits 200 places apart -/
def val4 (d : Nat → Int) : Int := d 0 + d 1 * 2 ^ 200 + d 2 * 2 ^ 400 + d 3 * 2 ^ 600
def CodeB (m : Nat) (b c : Int) : Prop := ∃ d : Nat → Int, c = val4 d ∧ (∀ k, 0 ≤ d k ∧ d k < b) ∧ ∀ k, m ≤ k → d k = 0
def cb (j : Nat) : Int := 2 ^ 57 + 4 * (j : Int)
abbrev Code (m j : Nat) (c : Int) : Prop := CodeB m (cb j) c
theorem CodeB.mono {m : Nat} {b b' c : Int} (h : CodeB m b c) (e : b ≤ b') : CodeB m b' c := by
  obtain ⟨d, h1, h2, h3⟩ := h
  exact ⟨d, h1, fun k => ⟨(h2 k).1, by have := (h2 k).2; omega⟩, h3⟩
theorem code_small {m : Nat} {b e : Int} (hm : 1 ≤ m) (h0 : 0 ≤ e) (h1 : e < b) : CodeB m b e := by
  refine ⟨fun k => if k = 0 then e else 0, ?_, fun k => ?_, fun k hk => ?_⟩
  · unfold val4; simp
  · dsimp only; split <;> omega
  · dsimp only; rw [if_neg (by omega)]
theorem code_add {m : Nat} {b c e : Int} (hm : 1 ≤ m) (h : CodeB m b c) (h0 : 0 ≤ e) : CodeB m (b + e) (c + e) := by
  obtain ⟨d, rfl, h2, h3⟩ := h
  refine ⟨fun k => if k = 0 then d 0 + e else d k, ?_, fun k => ?_, fun k hk => ?_⟩
  · unfold val4; simp; omega
  · dsimp only
    have := h2 0
    have := h2 k
    split <;> omega
  · dsimp only; rw [if_neg (by omega)]; exact h3 k hk
theorem code_piece {m : Nat} {b c pc : Int} {k s : Nat} (h : CodeB m b c) (hk : k < m) (hm : m ≤ 4) (p0 : 0 ≤ pc) (p1 : pc < 2 ^ 40) (hs : s < 15) : CodeB m (b + 2 ^ 55) (c + pc * 2 ^ (200 * k + s)) := by
  obtain ⟨d, rfl, h2, h3⟩ := h
  have hs1 : (0 : Int) < 2 ^ s := Int.pow_pos (by decide)
  have hs2 : (2 : Int) ^ s ≤ 2 ^ 14 := by
    have h' : ((2 ^ s : Nat) : Int) ≤ ((2 ^ 14 : Nat) : Int) := Int.ofNat_le.mpr (Nat.pow_le_pow_right (by decide) (by omega))
    rw [Int.natCast_pow, Int.natCast_pow] at h'
    exact h'
  have q0 : 0 ≤ pc * 2 ^ s := Int.mul_nonneg p0 (by omega)
  have q1 : pc * 2 ^ s < 2 ^ 55 := by
    have a : pc * 2 ^ s ≤ pc * 2 ^ 14 := Int.mul_le_mul_of_nonneg_left hs2 p0
    omega
  have e : pc * 2 ^ (200 * k + s) = (pc * 2 ^ s) * 2 ^ (200 * k) := by rw [Int.pow_add, Int.mul_assoc, Int.mul_comm (2 ^ (200 * k))]
  rw [e]
  generalize pc * 2 ^ s = z at q0 q1 ⊢
  refine ⟨fun i => if i = k then d k + z else d i, ?_, fun i => ?_, fun i hi => ?_⟩
  · match k, (by omega : k < 4) with
    | 0, _ => unfold val4; simp; omega
    | 1, _ => unfold val4; simp; rw [Int.add_mul]; omega
    | 2, _ => unfold val4; simp; rw [Int.add_mul]; omega
    | 3, _ => unfold val4; simp; rw [Int.add_mul]; omega
  · dsimp only
    have := h2 k
    have := h2 i
    split <;> omega
  · dsimp only; rw [if_neg (by omega)]; exact h3 i hi
theorem p_le {a b : Nat} (h : a ≤ b) : (2 : Int) ^ a ≤ 2 ^ b := by
  have h' : ((2 ^ a : Nat) : Int) ≤ ((2 ^ b : Nat) : Int) := Int.ofNat_le.mpr (Nat.pow_le_pow_right (by decide) h)
  rw [Int.natCast_pow, Int.natCast_pow] at h'
  exact h'
/-- a code's size by its groups -/
theorem code_lt {m : Nat} {b c : Int} (h : CodeB m b c) (hm1 : 1 ≤ m) (hm : m ≤ 4) (hb : b ≤ 2 ^ 60) : 0 ≤ c ∧ c < 2 ^ (200 * (m - 1) + 61) := by
  obtain ⟨d, rfl, h2, h3⟩ := h
  have a0 := h2 0; have a1 := h2 1; have a2 := h2 2; have a3 := h2 3
  unfold val4
  match m, hm1, hm with
  | 1, _, _ =>
    have z1 := h3 1 (by decide); have z2 := h3 2 (by decide); have z3 := h3 3 (by decide)
    rw [z1, z2, z3]
    show 0 ≤ _ ∧ _ < (2 : Int) ^ 61
    omega
  | 2, _, _ =>
    have z2 := h3 2 (by decide); have z3 := h3 3 (by decide)
    rw [z2, z3]
    show 0 ≤ _ ∧ _ < (2 : Int) ^ 261
    omega
  | 3, _, _ =>
    have z3 := h3 3 (by decide)
    rw [z3]
    show 0 ≤ _ ∧ _ < (2 : Int) ^ 461
    omega
  | 4, _, _ =>
    show 0 ≤ _ ∧ _ < (2 : Int) ^ 661
    omega
theorem code_799 {m : Nat} {b c : Int} (h : CodeB m b c) (hm1 : 1 ≤ m) (hm : m ≤ 4) (hb : b ≤ 2 ^ 60) : 0 ≤ c ∧ c < 2 ^ 799 := by
  obtain ⟨h0, h1⟩ := code_lt h hm1 hm hb
  refine ⟨h0, Int.lt_of_lt_of_le h1 (p_le (by omega))⟩
theorem code_turns {m : Nat} {b c : Int} (h : CodeB m b c) (hm1 : 1 ≤ m) (hm : m ≤ 4) (hb : b ≤ 2 ^ 60) : ∀ p ∈ turnsN c, p / 200 < m := fun p hp => by
  obtain ⟨h0, h1⟩ := code_lt h hm1 hm hb
  have := turns_lt (n := 200 * (m - 1) + 61) (by have := Int.pow_pos (n := 2) (m := 200 * (m - 1) + 61) (by decide); omega) h1 p hp
  omega
theorem inV_int (c : Int) (l : List Int) : inV (.int c) (l.map V.int) = decide (c ∈ l) := by
  unfold inV
  induction l with
  | nil => rfl
  | cons x xs ih =>
    rw [List.map_cons, List.any_cons, ih]
    show (x == c || decide (c ∈ xs)) = _
    by_cases h : x = c
    · subst h; simp
    · rw [beq_false_of_ne h, Bool.false_or]
      simp [Ne.symm h]
theorem flat_ints (l : List Int) : (l.map V.int).all flatV = true := by
  rw [List.all_eq_true]
  intro x hx
  obtain ⟨c, _, rfl⟩ := List.mem_map.mp hx
  rfl
/-- sorted, without duplicates: strictly ascending -/
theorem strict_of {l l' : List Int} (hp : l'.Perm l) (hn : l.Nodup) (hs : l'.Pairwise (· ≤ ·)) : l'.Pairwise (· < ·) := by
  have hn' : l'.Nodup := hp.nodup_iff.mpr hn
  exact (hs.and hn').imp fun h => by obtain ⟨a, b⟩ := h; omega
theorem eqv_nil' (l : List Int) : PyData.eqv (.list (l.map PyData.int)) (.list []) = decide (l = []) := by
  rw [eqv_nil]
  cases l <;> rfl
theorem dps_map_int {K : PySem.W.Frag} {H : Hp} (l : List Int) : DpAll K H (l.map V.int) (l.map PyData.int) := dps_ints l
theorem shaped_ints (l : List Int) : SeqAt.shaped (.list (l.map PyData.int)) = true := shaped_list (n := 0) (by decide) fun x hx => by
  obtain ⟨i, _, rfl⟩ := List.mem_map.mp hx; exact ⟨i, rfl⟩
end Fb
namespace Fb
open PySem L2
/-! ### order: of ints, of rows by their last places, of forms -/
def sgnI (a b : Int) : Int := if a = b then 0 else if a < b then -1 else 1
theorem sgnI_self (a : Int) : sgnI a a = 0 := if_pos rfl
theorem sgnI_lt {a b : Int} (h : a < b) : sgnI a b = -1 := by unfold sgnI; rw [if_neg (by omega), if_pos h]
theorem sgnI_gt {a b : Int} (h : b < a) : sgnI a b = 1 := by unfold sgnI; rw [if_neg (by omega), if_neg (by omega)]
theorem sgnI_swap (a b : Int) : sgnI b a = -sgnI a b := by
  unfold sgnI
  by_cases h : a = b
  · rw [if_pos h, if_pos h.symm]; rfl
  · rw [if_neg h, if_neg (Ne.symm h)]
    by_cases c : a < b
    · rw [if_pos c, if_neg (by omega)]; rfl
    · rw [if_neg c, if_pos (by omega)]
theorem sgnI_pm {a b : Int} (h : a ≠ b) : sgnI a b = 1 ∨ sgnI a b = -1 := by
  unfold sgnI; rw [if_neg h]; split
  · exact .inr rfl
  · exact .inl rfl
theorem sgnI_add (a b z : Int) : sgnI (a + z) (b + z) = sgnI a b := by
  by_cases e : a = b
  · subst e; rw [sgnI_self, sgnI_self]
  · by_cases c : a < b
    · rw [sgnI_lt c, sgnI_lt (by omega)]
    · rw [sgnI_gt (show b < a by omega), sgnI_gt (by omega)]
def par (k : Nat) (s : Int) : Int := if k % 2 = 1 then -s else s
/-- from the top: rows that are turned round -/
def lexR : List Int → List Int → Int
  | [], [] => 0
  | [], _ :: _ => -1
  | x :: xs, [] => par (xs.length + 1) 1
  | x :: xs, y :: ys => if x = y then lexR xs ys else par (xs.length + 1) (sgnI x y)
/-- the order of rows of turns -/
def cmpS (l l' : List Int) : Int :=
  if l.length % 2 ≠ l'.length % 2 then (if l.length % 2 = 1 then -1 else 1) else lexR l.reverse l'.reverse
def altZ (s : Int) (l : List Nat) : Int := alt s l
theorem flip_eq (s : Int) (n : Nat) : flip s n = par n s := by
  induction n generalizing s with
  | zero => rfl
  | succ n ih =>
    show flip (-s) n = _
    rw [ih]
    unfold par
    by_cases h : n % 2 = 1
    · rw [if_pos h, if_neg (by omega)]; omega
    · rw [if_neg h, if_pos (by omega)]
/-- the size of a row's sum by its last place -/
theorem alt_size {m : List Nat} {p : Nat} (hp : (m ++ [p]).Pairwise (· < ·)) : ∃ v : Int, alt (-1) (m ++ [p]) = flip (-1) m.length * v ∧ (m.length = 0 → v = 2 ^ p) ∧ (1 ≤ m.length → v < 2 ^ p) ∧ (m.length = 1 → 2 ^ p ≤ 2 * v) ∧ (2 ≤ m.length → 2 ^ p < 2 * v) ∧ 0 < v := by
  obtain ⟨h1, _, h3⟩ := List.pairwise_append.mp hp
  have pp : (0 : Int) < 2 ^ p := Int.pow_pos (by decide)
  have fpm := flip_pm (s := -1) (.inr rfl) m.length
  refine ⟨flip (-1) m.length * alt (-1) (m ++ [p]), ?_, ?_⟩
  · rw [← Int.mul_assoc]
    rcases fpm with f | f <;> rw [f] <;> omega
  rw [alt_snoc]
  rcases List.eq_nil_or_concat m with rfl | ⟨m', q, rfl⟩
  · have e : flip (-1) (([] : List Nat).length) * (alt (-1) [] + flip (-1) (([] : List Nat).length) * 2 ^ p) = 2 ^ p := by
      show (-1 : Int) * (0 + -1 * 2 ^ p) = 2 ^ p
      omega
    rw [e]
    exact ⟨fun _ => rfl, fun h => by simp at h, fun h => by simp at h, fun h => by simp at h, pp⟩
  · rw [List.concat_eq_append] at *
    have qp : q < p := h3 q (by simp) p List.mem_cons_self
    have q2 : (2 : Int) * 2 ^ q ≤ 2 ^ p := by
      have := p_le (a := q + 1) (b := p) (by omega)
      rw [Int.pow_succ] at this; omega
    have pq : (0 : Int) < 2 ^ q := Int.pow_pos (by decide)
    obtain ⟨k1, _, k3⟩ := List.pairwise_append.mp h1
    have sm := alt_lt (s := -1) (.inr rfl) (n := q) k1 fun r hr => k3 r hr q List.mem_cons_self
    have sg := alt_sign (s := -1) (.inr rfl) h1
    rw [alt_snoc] at sg
    rw [alt_snoc]
    have fl : flip (-1) (m' ++ [q]).length = -flip (-1) m'.length := by rw [List.length_append, List.length_singleton, flip_succ]
    rw [fl]
    have f' := flip_pm (s := -1) (.inr rfl) m'.length
    -- for two places and more the sum of the others is less than 2 to q
    have strict : 1 ≤ m'.length → (flip (-1) m'.length = 1 → alt (-1) m' < 0) ∧ (flip (-1) m'.length = -1 → 0 < alt (-1) m') := fun hl => by
      rcases List.eq_nil_or_concat m' with rfl | ⟨m2, r, rfl⟩
      · simp at hl
      · rw [List.concat_eq_append] at *
        have sg2 := alt_sign (s := -1) (.inr rfl) k1
        have fl2 : flip (-1) (m2 ++ [r]).length = -flip (-1) m2.length := by rw [List.length_append, List.length_singleton, flip_succ]
        constructor
        · intro h; exact sg2.2 (by omega)
        · intro h; exact sg2.1 (by omega)
    have len : (m' ++ [q]).length = m'.length + 1 := by rw [List.length_append, List.length_singleton]
    rw [len]
    have zero : m'.length = 0 → alt (-1) m' = 0 := fun h => by
      have : m' = [] := List.length_eq_zero_iff.mp h
      subst this; rfl
    rcases f' with f | f <;> rw [f] at sg strict ⊢ <;> refine ⟨fun h => by omega, fun _ => ?_, fun h => ?_, fun h => ?_, ?_⟩
    · have := sg.1 rfl; omega
    · have := zero (by omega); omega
    · have := (strict (by omega)).1 rfl; omega
    · omega
    · have := sg.2 rfl; omega
    · have := zero (by omega); omega
    · have := (strict (by omega)).2 rfl; omega
    · omega
theorem lexR_tail : ∀ (t a b : List Int), lexR (t ++ a) (t ++ b) = lexR a b
  | [], _, _ => rfl
  | x :: t, a, b => by
    show (if x = x then lexR (t ++ a) (t ++ b) else _) = _
    rw [if_pos rfl, lexR_tail t a b]
def zs (l : List Nat) : List Int := l.map Int.ofNat
/-- the order of rows is that of their sums -/
theorem lex_alt : ∀ (l l' : List Nat), l.Pairwise (· < ·) → l'.Pairwise (· < ·) → l.length % 2 = l'.length % 2 → lexR (zs l).reverse (zs l').reverse = sgnI (alt (-1) l) (alt (-1) l') := by
  intro l
  generalize hn : l.length = n
  induction n generalizing l with
  | zero =>
    intro l' _ h2 hp
    have : l = [] := List.length_eq_zero_iff.mp hn
    subst this
    rcases List.eq_nil_or_concat l' with rfl | ⟨m, q, rfl⟩
    · rfl
    · rw [List.concat_eq_append] at *
      have e : (zs (m ++ [q])).reverse = (q : Int) :: (zs m).reverse := by unfold zs; rw [List.map_append, List.reverse_append]; rfl
      rw [e]
      show (-1 : Int) = sgnI 0 _
      have sg := alt_sign (s := -1) (.inr rfl) h2
      rw [flip_eq] at sg
      rw [List.length_append, List.length_singleton] at hp
      have f1 : par m.length (-1) = 1 := by unfold par; rw [if_pos (by omega)]; rfl
      rw [sgnI_lt (sg.1 f1)]
  | succ n ih =>
    intro l' h1 h2 hp
    rcases List.eq_nil_or_concat l with rfl | ⟨k, p, rfl⟩
    · cases hn
    rw [List.concat_eq_append] at *
    have hk : k.length = n := by rw [List.length_append, List.length_singleton] at hn; omega
    have ek : (zs (k ++ [p])).reverse = (p : Int) :: (zs k).reverse := by unfold zs; rw [List.map_append, List.reverse_append]; rfl
    have lk : (zs k).reverse.length = k.length := by unfold zs; rw [List.length_reverse, List.length_map]
    obtain ⟨v, v1, v2, v3, v4, v5, v6⟩ := alt_size h1
    rcases List.eq_nil_or_concat l' with rfl | ⟨m, q, rfl⟩
    · rw [ek]
      show par ((zs k).reverse.length + 1) 1 = sgnI _ 0
      rw [lk, v1, flip_eq]
      simp at hp
      have f1 : par k.length (-1) = 1 := by unfold par; rw [if_pos (by omega)]; rfl
      have f2 : par (k.length + 1) 1 = 1 := by unfold par; rw [if_neg (by omega)]
      rw [f1, f2, sgnI_gt (by omega)]
    rw [List.concat_eq_append] at *
    have em : (zs (m ++ [q])).reverse = (q : Int) :: (zs m).reverse := by unfold zs; rw [List.map_append, List.reverse_append]; rfl
    rw [List.length_append, List.length_singleton] at hp
    have hpm : k.length % 2 = m.length % 2 := by omega
    rw [ek, em]
    show (if (p : Int) = q then lexR (zs k).reverse (zs m).reverse else par ((zs k).reverse.length + 1) (sgnI p q)) = _
    have fe : flip (-1) k.length = flip (-1) m.length := by rw [flip_eq, flip_eq]; unfold par; rw [hpm]
    by_cases c : p = q
    · subst c
      rw [if_pos rfl, ih k hk m (List.pairwise_append.mp h1).1 (List.pairwise_append.mp h2).1 (by omega), alt_snoc, alt_snoc, fe]
      exact (sgnI_add _ _ _).symm
    · rw [if_neg (by omega), lk]
      obtain ⟨u, u1, u2, u3, u4, u5, u6⟩ := alt_size h2
      have key : ∀ (k m : List Nat) (p q : Nat) (v u : Int), p < q → k.length % 2 = m.length % 2 → (k.length = 0 → v = 2 ^ p) → (1 ≤ k.length → v < 2 ^ p) → (m.length = 0 → u = 2 ^ q) → (m.length = 1 → 2 ^ q ≤ 2 * u) → (2 ≤ m.length → 2 ^ q < 2 * u) → v < u := by
        intro k m p q v u pq hp a1 a2 b1 b2 b3
        have h : (2 : Int) * 2 ^ p ≤ 2 ^ q := by
          have := p_le (a := p + 1) (b := q) (by omega)
          rw [Int.pow_succ] at this; omega
        have pp : (0 : Int) < 2 ^ p := Int.pow_pos (by decide)
        by_cases z : m.length = 0
        · have := b1 z
          by_cases z2 : k.length = 0
          · have := a1 z2; omega
          · have := a2 (by omega); omega
        · by_cases z1 : m.length = 1
          · have := b2 z1
            have := a2 (by omega)
            omega
          · have := b3 (by omega)
            by_cases z2 : k.length = 0
            · have := a1 z2; omega
            · have := a2 (by omega); omega
      rw [v1, u1, fe, flip_eq]
      rcases Nat.lt_or_gt_of_ne c with pq | pq
      · have vu := key k m p q v u pq hpm v2 v3 u2 u4 u5
        rw [sgnI_lt (show (p : Int) < q by omega)]
        unfold par
        by_cases o : m.length % 2 = 1
        · rw [if_pos o, if_neg (by omega), sgnI_lt (by omega)]
        · rw [if_neg o, if_pos (by omega), sgnI_gt (by omega)]; rfl
      · have vu := key m k q p u v pq hpm.symm u2 u3 v2 v4 v5
        rw [sgnI_gt (show (q : Int) < p by omega)]
        unfold par
        by_cases o : m.length % 2 = 1
        · rw [if_pos o, if_neg (by omega), sgnI_gt (by omega)]
        · rw [if_neg o, if_pos (by omega), sgnI_lt (by omega)]
theorem alt_par {l : List Nat} (h : l.Pairwise (· < ·)) : (l.length % 2 = 1 → alt (-1) l < 0) ∧ (l.length % 2 = 0 → 0 ≤ alt (-1) l) := by
  rcases List.eq_nil_or_concat l with rfl | ⟨m, q, rfl⟩
  · exact ⟨fun h => (by simp at h), fun _ => Int.le_refl 0⟩
  · rw [List.concat_eq_append] at *
    have sg := alt_sign (s := -1) (.inr rfl) h
    rw [flip_eq] at sg
    rw [List.length_append, List.length_singleton]
    constructor
    · intro o
      exact sg.2 (by unfold par; rw [if_neg (by omega)])
    · intro o
      exact Int.le_of_lt (sg.1 (by unfold par; rw [if_pos (by omega)]; rfl))
theorem len_zs (l : List Nat) : (zs l).length = l.length := by unfold zs; rw [List.length_map]
theorem cmpS_alt {l l' : List Nat} (h1 : l.Pairwise (· < ·)) (h2 : l'.Pairwise (· < ·)) : cmpS (zs l) (zs l') = sgnI (alt (-1) l) (alt (-1) l') := by
  unfold cmpS
  rw [len_zs, len_zs]
  have a := alt_par h1
  have b := alt_par h2
  by_cases c : l.length % 2 = l'.length % 2
  · rw [if_neg (by omega), lex_alt l l' h1 h2 c]
  · rw [if_pos c]
    by_cases o : l.length % 2 = 1
    · rw [if_pos o, sgnI_lt (by have := a.1 o; have := b.2 (by omega); omega)]
    · rw [if_neg o, sgnI_gt (by have := a.2 (by omega); have := b.1 (by omega); omega)]
theorem cmpS_turns (x y : Int) : cmpS (zs (turnsN x)) (zs (turnsN y)) = sgnI x y := by
  rw [cmpS_alt (turns_asc x) (turns_asc y), turns_alt, turns_alt]
/-- rows led by an ascending map -/
theorem lexR_map (r : Int → Int) : ∀ (l l' : List Int), (∀ a ∈ l, ∀ b ∈ l', (a = b ↔ r a = r b) ∧ (a < b ↔ r a < r b)) → lexR (l.map r) (l'.map r) = lexR l l'
  | [], [], _ => rfl
  | [], _ :: _, _ => rfl
  | x :: xs, [], _ => by show par ((xs.map r).length + 1) 1 = par (xs.length + 1) 1; rw [List.length_map]
  | x :: xs, y :: ys, h => by
    have hx := h x List.mem_cons_self y List.mem_cons_self
    show (if r x = r y then lexR (xs.map r) (ys.map r) else par ((xs.map r).length + 1) (sgnI (r x) (r y))) = if x = y then lexR xs ys else par (xs.length + 1) (sgnI x y)
    rw [List.length_map]
    by_cases e : x = y
    · rw [if_pos e, if_pos (hx.1.mp e), lexR_map r xs ys fun a ha b hb => h a (List.mem_cons_of_mem _ ha) b (List.mem_cons_of_mem _ hb)]
    · rw [if_neg e, if_neg (fun h => e (hx.1.mpr h))]
      unfold sgnI
      rw [if_neg e, if_neg (fun h => e (hx.1.mpr h))]
      by_cases c : x < y
      · rw [if_pos c, if_pos (hx.2.mp c)]
      · rw [if_neg c, if_neg (fun h => c (hx.2.mpr h))]
theorem cmpS_map (r : Int → Int) {l l' : List Int} (h : ∀ a ∈ l, ∀ b ∈ l', (a = b ↔ r a = r b) ∧ (a < b ↔ r a < r b)) : cmpS (l.map r) (l'.map r) = cmpS l l' := by
  unfold cmpS
  rw [List.length_map, List.length_map, ← List.map_reverse, ← List.map_reverse, lexR_map r _ _ fun a ha b hb => h a (List.mem_reverse.mp ha) b (List.mem_reverse.mp hb)]
end Fb
namespace Fb
open PySem L2
/-! ### the program's order of forms -/
def negD : PyData → Bool
  | .int i => decide (i < 0)
  | .tuple ds => decide (ds.length % 2 = 1)
  | _ => false
def lexD (c : PyData → PyData → Int) : List PyData → List PyData → Int
  | [], [] => 0
  | [], _ :: _ => -1
  | x :: xs, [] => par (xs.length + 1) 1
  | x :: xs, y :: ys => if PyData.eqv x y = true then lexD c xs ys else par (xs.length + 1) (c x y)
def cmpD : Nat → PyData → PyData → Int
  | 0, x, y => match x, y with
    | .int a, .int b => sgnI a b
    | _, _ => 0
  | n + 1, x, y => match x, y with
    | .int a, .int b => sgnI a b
    | .int a, .tuple ys => if negD (.int a) = negD (.tuple ys) then (if negD (.int a) = true then 1 else -1) else (if negD (.int a) = true then -1 else 1)
    | .tuple xs, .int b => if negD (.tuple xs) = true then -1 else 1
    | .tuple xs, .tuple ys => if negD (.tuple xs) = negD (.tuple ys) then lexD (cmpD n) xs.reverse ys.reverse else (if negD (.tuple xs) = true then -1 else 1)
    | _, _ => 0
def ctail : List PyData → List PyData → Nat
  | x :: xs, y :: ys => if PyData.eqv x y = true then ctail xs ys + 1 else 0
  | _, _ => 0
theorem ctail_le : ∀ xs ys : List PyData, ctail xs ys ≤ xs.length ∧ ctail xs ys ≤ ys.length
  | [], _ => ⟨Nat.le_refl 0, Nat.zero_le _⟩
  | _ :: _, [] => ⟨Nat.zero_le _, Nat.le_refl 0⟩
  | x :: xs, y :: ys => by
    have := ctail_le xs ys
    show (if _ then _ else _) ≤ _ ∧ (if _ then _ else _) ≤ _
    split
    · exact ⟨Nat.succ_le_succ this.1, Nat.succ_le_succ this.2⟩
    · exact ⟨Nat.zero_le _, Nat.zero_le _⟩
/-- the places from the top on are alike -/
def AlikeTo (k : Nat) (xs ys : List PyData) : Prop := ∀ i, i < k → ∀ a b, xs[i]? = some a → ys[i]? = some b → PyData.eqv a b = true
theorem le_ctail : ∀ (k : Nat) (xs ys : List PyData), k ≤ ctail xs ys ↔ k ≤ xs.length ∧ k ≤ ys.length ∧ AlikeTo k xs ys
  | 0, xs, ys => ⟨fun _ => ⟨Nat.zero_le _, Nat.zero_le _, fun i h => absurd h (Nat.not_lt_zero _)⟩, fun _ => Nat.zero_le _⟩
  | k + 1, [], ys => ⟨fun h => absurd h (Nat.not_succ_le_zero k), fun h => absurd h.1 (Nat.not_succ_le_zero k)⟩
  | k + 1, x :: xs, [] => ⟨fun h => absurd h (Nat.not_succ_le_zero k), fun h => absurd h.2.1 (Nat.not_succ_le_zero k)⟩
  | k + 1, x :: xs, y :: ys => by
    show k + 1 ≤ (if PyData.eqv x y = true then ctail xs ys + 1 else 0) ↔ _
    have ih := le_ctail k xs ys
    by_cases e : PyData.eqv x y = true
    · rw [if_pos e]
      constructor
      · intro h
        obtain ⟨a, b, c⟩ := ih.mp (Nat.le_of_succ_le_succ h)
        refine ⟨Nat.succ_le_succ a, Nat.succ_le_succ b, fun i hi p q hp hq => ?_⟩
        cases i with
        | zero => cases hp; cases hq; exact e
        | succ i => exact c i (Nat.lt_of_succ_lt_succ hi) p q (by simpa using hp) (by simpa using hq)
      · rintro ⟨a, b, c⟩
        exact Nat.succ_le_succ (ih.mpr ⟨Nat.le_of_succ_le_succ a, Nat.le_of_succ_le_succ b, fun i hi p q hp hq => c (i + 1) (Nat.succ_lt_succ hi) p q (by simpa using hp) (by simpa using hq)⟩)
    · rw [if_neg e]
      constructor
      · intro h; exact absurd h (Nat.not_succ_le_zero k)
      · rintro ⟨_, _, c⟩
        exact absurd (c 0 (Nat.zero_lt_succ k) x y rfl rfl) e
theorem ctail_next : ∀ {s : Nat} {xs ys : List PyData} {a b : PyData}, s ≤ ctail xs ys → xs[s]? = some a → ys[s]? = some b → (PyData.eqv a b = true → s + 1 ≤ ctail xs ys) ∧ (¬ PyData.eqv a b = true → ctail xs ys = s)
  | 0, x :: xs, y :: ys, a, b, _, ha, hb => by
    cases ha; cases hb
    show (_ → 0 + 1 ≤ (if PyData.eqv x y = true then ctail xs ys + 1 else 0)) ∧ (_ → (if PyData.eqv x y = true then ctail xs ys + 1 else 0) = 0)
    constructor
    · intro e; rw [if_pos e]; omega
    · intro e; rw [if_neg e]
  | s + 1, x :: xs, y :: ys, a, b, h, ha, hb => by
    have h' : s + 1 ≤ (if PyData.eqv x y = true then ctail xs ys + 1 else 0) := h
    by_cases e : PyData.eqv x y = true
    · rw [if_pos e] at h'
      obtain ⟨p, q⟩ := ctail_next (s := s) (xs := xs) (ys := ys) (by omega) (by simpa using ha) (by simpa using hb)
      have ec : ctail (x :: xs) (y :: ys) = ctail xs ys + 1 := by show (if PyData.eqv x y = true then _ else _) = _; rw [if_pos e]
      rw [ec]
      exact ⟨fun k => by have := p k; omega, fun k => by have := q k; omega⟩
    · rw [if_neg e] at h'; omega
  | s, [], _, _, _, _, ha, _ => by simp at ha
  | s, _ :: _, [], _, _, _, _, hb => by simp at hb
def atD (c : PyData → PyData → Int) (xs ys : List PyData) (s : Nat) : Int := match xs[s]?, ys[s]? with
  | some a, some b => c a b
  | _, _ => 0
theorem atD_eq {c : PyData → PyData → Int} {xs ys : List PyData} {s : Nat} {a b : PyData} (h1 : xs[s]? = some a) (h2 : ys[s]? = some b) : atD c xs ys s = c a b := by
  unfold atD; rw [h1, h2]
/-- what compare_far reckons, by the common tail -/
theorem lexD_tail (c : PyData → PyData → Int) : ∀ xs ys : List PyData,
    lexD c xs ys = (if ctail xs ys = xs.length ∧ ctail xs ys = ys.length then 0 else par (xs.length - ctail xs ys)
      (if ctail xs ys = xs.length then -1 else if ctail xs ys = ys.length then 1 else atD c xs ys (ctail xs ys)))
  | [], [] => rfl
  | [], _ :: _ => rfl
  | x :: xs, [] => rfl
  | x :: xs, y :: ys => by
    show (if PyData.eqv x y = true then lexD c xs ys else par (xs.length + 1) (c x y)) = _
    by_cases e : PyData.eqv x y = true
    · have ec : ctail (x :: xs) (y :: ys) = ctail xs ys + 1 := by show (if PyData.eqv x y = true then _ else _) = _; rw [if_pos e]
      rw [if_pos e, lexD_tail c xs ys, ec]
      simp only [atD, List.length_cons, Nat.add_right_cancel_iff, List.getElem?_cons_succ, Nat.add_sub_add_right]
    · have ec : ctail (x :: xs) (y :: ys) = 0 := by show (if PyData.eqv x y = true then _ else _) = _; rw [if_neg e]
      rw [if_neg e, ec]
      simp [atD]
theorem eqvAll_iff : ∀ xs ys : List PyData, PyData.eqvAll xs ys = true ↔ xs.length = ys.length ∧ AlikeTo xs.length xs ys
  | [], [] => by rw [PyData.eqvAll]; exact ⟨fun _ => ⟨rfl, fun i h => absurd h (Nat.not_lt_zero _)⟩, fun _ => rfl⟩
  | [], _ :: _ => by rw [PyData.eqvAll]; exact ⟨fun h => absurd h Bool.false_ne_true, fun h => absurd h.1 (by simp)⟩
  | _ :: _, [] => by rw [PyData.eqvAll]; exact ⟨fun h => absurd h Bool.false_ne_true, fun h => absurd h.1 (by simp)⟩
  | x :: xs, y :: ys => by
    rw [PyData.eqvAll, Bool.and_eq_true, eqvAll_iff xs ys]
    constructor
    · rintro ⟨e, l, c⟩
      refine ⟨congrArg Nat.succ l, fun i hi p q hp hq => ?_⟩
      cases i with
      | zero => cases hp; cases hq; exact e
      | succ i => exact c i (Nat.lt_of_succ_lt_succ hi) p q (by simpa using hp) (by simpa using hq)
    · rintro ⟨l, c⟩
      exact ⟨c 0 (Nat.zero_lt_succ _) x y rfl rfl, Nat.succ.inj l, fun i hi p q hp hq => c (i + 1) (Nat.succ_lt_succ hi) p q (by simpa using hp) (by simpa using hq)⟩
/-- the part of a row from place a on, b places -/
def seg {α : Type} (ds : List α) (same more : Nat) : List α := (ds.drop (ds.length - more)).take (more - same)
theorem seg_get {ds : List PyData} {same more j : Nat} (h : more ≤ ds.length) (hj : j < more - same) : (seg ds same more)[j]? = ds.reverse[more - 1 - j]? := by
  unfold seg
  rw [List.getElem?_take, if_pos hj, List.getElem?_drop, List.getElem?_reverse (by omega)]
  congr 1
  omega
theorem seg_len {ds : List PyData} {same more : Nat} (h : more ≤ ds.length) : (seg ds same more).length = more - same := by
  unfold seg
  rw [List.length_take, List.length_drop]
  omega
/-- a further part is alike exactly if the tail goes on -/
theorem seg_alike {ds es : List PyData} {same more : Nat} (hs : same ≤ ctail ds.reverse es.reverse) (hm : same ≤ more) (h1 : more ≤ ds.length) (h2 : more ≤ es.length) :
    PyData.eqv (.tuple (seg ds same more)) (.tuple (seg es same more)) = true ↔ more ≤ ctail ds.reverse es.reverse := by
  rw [PyData.eqv, eqvAll_iff, seg_len h1, seg_len h2, le_ctail, List.length_reverse, List.length_reverse]
  obtain ⟨_, _, c⟩ := (le_ctail same _ _).mp hs
  constructor
  · rintro ⟨_, d⟩
    refine ⟨h1, h2, fun i hi p q hp hq => ?_⟩
    by_cases hi2 : i < same
    · exact c i hi2 p q hp hq
    · refine d (more - 1 - i) (by omega) p q ?_ ?_
      · rw [seg_get h1 (by omega), show more - 1 - (more - 1 - i) = i by omega]; exact hp
      · rw [seg_get h2 (by omega), show more - 1 - (more - 1 - i) = i by omega]; exact hq
  · rintro ⟨_, _, d⟩
    refine ⟨rfl, fun j hj p q hp hq => ?_⟩
    rw [seg_get h1 hj] at hp
    rw [seg_get h2 hj] at hq
    exact d (more - 1 - j) (by omega) p q hp hq
/-- the n-th place from the end -/
theorem atI_end {α : Type} {xs : List α} {s : Nat} {v : α} (h : xs.reverse[s]? = some v) : atI xs (-1 - (s : Int)) = some v := by
  have hs : s < xs.length := by
    have := (List.getElem?_eq_some_iff.mp h).1
    rwa [List.length_reverse] at this
  unfold atI ixN
  rw [if_neg (by omega), if_pos (by omega)]
  show xs[((-1 - (s : Int)) + xs.length).toNat]? = _
  rw [List.getElem?_reverse hs] at h
  rw [show ((-1 - (s : Int)) + xs.length).toNat = xs.length - 1 - s by omega]
  exact h
theorem dps_rev {K : PySem.W.Frag} {H : Hp} : ∀ {vs : List V} {ds : List PyData}, DpAll K H vs ds → DpAll K H vs.reverse ds.reverse
  | [], _, h => by cases h; exact .nil
  | v :: vs, _, h => by
    cases h with
    | cons h1 h2 => rw [List.reverse_cons, List.reverse_cons]; exact dps_app (dps_rev h2) (.cons h1 .nil)
theorem dps_take {K : PySem.W.Frag} {H : Hp} : ∀ (k : Nat) {vs : List V} {ds : List PyData}, DpAll K H vs ds → DpAll K H (vs.take k) (ds.take k)
  | 0, _, _, _ => .nil
  | k + 1, _, _, .nil => .nil
  | k + 1, _, _, .cons h1 h2 => .cons h1 (dps_take k h2)
theorem dps_drop {K : PySem.W.Frag} {H : Hp} : ∀ (k : Nat) {vs : List V} {ds : List PyData}, DpAll K H vs ds → DpAll K H (vs.drop k) (ds.drop k)
  | 0, _, _, h => h
  | k + 1, _, _, .nil => .nil
  | k + 1, _, _, .cons _ h2 => dps_drop k h2
theorem fm_kind {n : Nat} {d : PyData} (h : Fm n d) : (isI d = true ∨ isT d = true) ∧ ∀ b, d ≠ .bool b := by
  cases n with
  | zero => obtain ⟨i, rfl⟩ := h; exact ⟨.inl rfl, fun b e => by cases e⟩
  | succ n =>
    rcases h with ⟨i, rfl⟩ | ⟨ds, rfl, _⟩
    · exact ⟨.inl rfl, fun b e => by cases e⟩
    · exact ⟨.inr rfl, fun b e => by cases e⟩
theorem fm_int {n : Nat} {d : PyData} (h : Fm n d) (c : isI d = true) : ∃ i, d = .int i := by
  cases n with
  | zero => exact h
  | succ n =>
    rcases h with h | ⟨ds, rfl, _⟩
    · exact h
    · cases c
theorem fm_tup {n : Nat} {d : PyData} (h : Fm (n + 1) d) (c : ¬ isI d = true) : ∃ ds, d = .tuple ds ∧ ds.length ≤ 9000 ∧ ∀ x ∈ ds, Fm n x := by
  rcases h with ⟨i, rfl⟩ | h
  · exact absurd rfl c
  · exact h
theorem cmp_ne {n : Nat} {x y : PyData} (fx : Fm (n + 1) x) (fy : Fm (n + 1) y) (h : ¬ (isI x = true ∧ isI y = true)) (c : negD x ≠ negD y) : cmpD (n + 1) x y = if negD x = true then -1 else 1 := by
  rcases fx with ⟨i, rfl⟩ | ⟨xs, rfl, _⟩ <;> rcases fy with ⟨j, rfl⟩ | ⟨ys, rfl, _⟩
  · exact absurd ⟨rfl, rfl⟩ h
  · exact if_neg c
  · rfl
  · exact if_neg c
theorem cmp_ix {n : Nat} {x y : PyData} (fx : Fm (n + 1) x) (fy : Fm (n + 1) y) (h : ¬ (isI x = true ∧ isI y = true)) (c : negD x = negD y) (k : isI x = true) : cmpD (n + 1) x y = if negD x = true then 1 else -1 := by
  rcases fx with ⟨i, rfl⟩ | ⟨xs, rfl, _⟩ <;> rcases fy with ⟨j, rfl⟩ | ⟨ys, rfl, _⟩
  · exact absurd ⟨rfl, rfl⟩ h
  · exact if_pos c
  · cases k
  · cases k
theorem cmp_iy {n : Nat} {x y : PyData} (fx : Fm (n + 1) x) (fy : Fm (n + 1) y) (h : ¬ (isI x = true ∧ isI y = true)) (c : negD x = negD y) (k : ¬ isI x = true) (k2 : isI y = true) : cmpD (n + 1) x y = if negD x = true then -1 else 1 := by
  rcases fx with ⟨i, rfl⟩ | ⟨xs, rfl, _⟩ <;> rcases fy with ⟨j, rfl⟩ | ⟨ys, rfl, _⟩
  · exact absurd rfl k
  · exact absurd rfl k
  · rfl
  · cases k2
/-- a slice of a tuple, new or the tuple itself -/
def rSlD (K : PySem.W.Frag) : V → Option Int → Option Int → Hp → VK → Prop := fun x lo hi H Q => ∃ a xs, x = .ref a ∧ SqT K H a xs ∧ ∀ b H', Same H H' → SqT K H' b (cutV xs lo hi) → Q (.ref b) H'
theorem sl_tupD {X : Cx} : SlR X (rSlD X.K) := by
  intro pins s σ H x v vl vu lo hi sl Q I rx hs pl pu h
  obtain ⟨a, xs, rfl, hx, q⟩ := h
  refine sl_tupA pins s σ H _ v vl vu lo hi sl Q I rx hs pl pu ⟨a, xs, rfl, hx, fun hw => ?_, fun _ p np => q p _ (Same.new np) (SqT.of upd_same)⟩
  refine q a H (Same.refl H) ?_
  unfold cutV
  rw [hw.1, hw.2, List.drop_zero, Nat.sub_zero, List.take_length]
  exact hx
theorem cut_seg {xs : List V} {same more : Nat} (h : more ≤ xs.length) (h2 : same ≤ more) : cutV xs (some ((xs.length : Int) - (more : Int))) (some ((xs.length : Int) - (same : Int))) = seg xs same more := by
  unfold cutV seg
  rw [show (xs.length : Int) - (more : Int) = ((xs.length - more : Nat) : Int) by omega, show (xs.length : Int) - (same : Int) = ((xs.length - same : Nat) : Int) by omega, HT.sIx_nat, HT.sIx_nat]
  congr 1
  · omega
  · congr 1
    omega
theorem dps_seg {K : PySem.W.Frag} {H : Hp} {vs : List V} {ds : List PyData} (h : DpAll K H vs ds) (same more : Nat) : DpAll K H (seg vs same more) (seg ds same more) := by
  unfold seg
  rw [dps_length h]
  exact dps_take _ (dps_drop _ h)
end Fb
namespace Fb
open PySem L2
theorem eqv_fm : ∀ {n : Nat} {x y : PyData}, Fm n x → Fm n y → (PyData.eqv x y = true ↔ x = y) := by
  intro n
  induction n with
  | zero =>
    rintro x y ⟨i, rfl⟩ ⟨j, rfl⟩
    rw [PyData.eqv]
    simp
  | succ n ih =>
    intro x y hx hy
    rcases hx with ⟨i, rfl⟩ | ⟨xs, rfl, _, hx⟩ <;> rcases hy with ⟨j, rfl⟩ | ⟨ys, rfl, _, hy⟩
    · rw [PyData.eqv]; simp
    · rw [PyData.eqv]; simp
    · rw [PyData.eqv]; simp
    · rw [PyData.eqv, eqvAll_iff]
      constructor
      · rintro ⟨l, c⟩
        congr 1
        refine List.ext_getElem? fun i => ?_
        by_cases hi : i < xs.length
        · have h1 : xs[i]? = some xs[i] := List.getElem?_eq_getElem hi
          have h2 : ys[i]? = some (ys[i]'(l ▸ hi)) := List.getElem?_eq_getElem (l ▸ hi)
          have := c i hi _ _ h1 h2
          rw [h1, h2, (ih (hx _ (List.getElem_mem hi)) (hy _ (List.getElem_mem (l ▸ hi)))).mp this]
        · rw [List.getElem?_eq_none (by omega), List.getElem?_eq_none (by omega)]
      · intro e
        injection e with e
        subst e
        refine ⟨rfl, fun i hi a b ha hb => ?_⟩
        rw [ha] at hb
        cases hb
        exact (ih (hx a (List.mem_of_getElem? ha)) (hx a (List.mem_of_getElem? ha))).mpr rfl
theorem lexD_self {n : Nat} (c : PyData → PyData → Int) : ∀ xs : List PyData, (∀ x ∈ xs, Fm n x) → lexD c xs xs = 0
  | [], _ => rfl
  | x :: xs, h => by
    show (if PyData.eqv x x = true then lexD c xs xs else _) = 0
    rw [if_pos ((eqv_fm (h x List.mem_cons_self) (h x List.mem_cons_self)).mpr rfl)]
    exact lexD_self c xs fun y hy => h y (List.mem_cons_of_mem _ hy)
theorem cmpD_self : ∀ {n : Nat} {d : PyData}, Fm n d → cmpD n d d = 0
  | 0, d, h => by obtain ⟨i, rfl⟩ := h; exact sgnI_self i
  | n + 1, d, h => by
    rcases h with ⟨i, rfl⟩ | ⟨ds, rfl, _, h⟩
    · exact sgnI_self i
    · show (if negD (.tuple ds) = negD (.tuple ds) then lexD (cmpD n) ds.reverse ds.reverse else _) = 0
      rw [if_pos rfl]
      exact lexD_self _ _ fun x hx => h x (List.mem_reverse.mp hx)
theorem par_neg (k : Nat) (s : Int) : par k (-s) = -par k s := by unfold par; split <;> omega
theorem lexD_anti {n : Nat} {c : PyData → PyData → Int} (hc : ∀ a b, Fm n a → Fm n b → c b a = -c a b) : ∀ xs ys : List PyData, (∀ x ∈ xs, Fm n x) → (∀ x ∈ ys, Fm n x) → xs.length % 2 = ys.length % 2 → lexD c ys xs = -lexD c xs ys
  | [], [], _, _, _ => rfl
  | [], y :: ys, _, _, h => by
    show par (ys.length + 1) 1 = -(-1)
    unfold par
    rw [if_neg (by simp at h; omega)]
    rfl
  | x :: xs, [], _, _, h => by
    show (-1 : Int) = -par (xs.length + 1) 1
    unfold par
    rw [if_neg (by simp at h; omega)]
  | x :: xs, y :: ys, hx, hy, h => by
    have fx := hx x List.mem_cons_self
    have fy := hy y List.mem_cons_self
    show (if PyData.eqv y x = true then lexD c ys xs else par (ys.length + 1) (c y x)) = -(if PyData.eqv x y = true then lexD c xs ys else par (xs.length + 1) (c x y))
    have hl : xs.length % 2 = ys.length % 2 := by simp at h; omega
    by_cases e : x = y
    · rw [if_pos ((eqv_fm fy fx).mpr e.symm), if_pos ((eqv_fm fx fy).mpr e)]
      exact lexD_anti hc xs ys (fun z hz => hx z (List.mem_cons_of_mem _ hz)) (fun z hz => hy z (List.mem_cons_of_mem _ hz)) hl
    · rw [if_neg (fun h => e ((eqv_fm fy fx).mp h).symm), if_neg (fun h => e ((eqv_fm fx fy).mp h)), hc x y fx fy, par_neg]
      unfold par
      by_cases o : (xs.length + 1) % 2 = 1
      · rw [if_pos o, if_pos (by omega)]
      · rw [if_neg o, if_neg (by omega)]
theorem cmpD_anti : ∀ (n : Nat) (x y : PyData), Fm n x → Fm n y → cmpD n y x = -cmpD n x y := by
  intro n
  induction n with
  | zero => rintro x y ⟨i, rfl⟩ ⟨j, rfl⟩; exact sgnI_swap i j
  | succ n ih =>
    intro x y hx hy
    have fx := hx
    have fy := hy
    rcases hx with ⟨i, rfl⟩ | ⟨xs, rfl, _, hx⟩ <;> rcases hy with ⟨j, rfl⟩ | ⟨ys, rfl, _, hy⟩
    · exact sgnI_swap i j
    · by_cases c : negD (.int i) = negD (.tuple ys)
      · rw [cmp_ix fx fy (fun h => by cases h.2) c rfl, cmp_iy fy fx (fun h => by cases h.1) c.symm (fun h => by cases h) rfl, c]
        split <;> rfl
      · rw [cmp_ne fx fy (fun h => by cases h.2) c, cmp_ne fy fx (fun h => by cases h.1) (Ne.symm c)]
        cases h1 : negD (.int i) <;> cases h2 : negD (.tuple ys) <;> first | exact absurd (h1.trans h2.symm) c | rfl
    · by_cases c : negD (.tuple xs) = negD (.int j)
      · rw [cmp_ix fy fx (fun h => by cases h.2) c.symm rfl, cmp_iy fx fy (fun h => by cases h.1) c (fun h => by cases h) rfl, c]
        split <;> rfl
      · rw [cmp_ne fx fy (fun h => by cases h.1) c, cmp_ne fy fx (fun h => by cases h.2) (Ne.symm c)]
        cases h1 : negD (.tuple xs) <;> cases h2 : negD (.int j) <;> first | exact absurd (h1.trans h2.symm) c | rfl
    · by_cases c : negD (.tuple xs) = negD (.tuple ys)
      · show (if negD (.tuple ys) = negD (.tuple xs) then lexD (cmpD n) ys.reverse xs.reverse else _) = -(if negD (.tuple xs) = negD (.tuple ys) then lexD (cmpD n) xs.reverse ys.reverse else _)
        rw [if_pos c, if_pos c.symm]
        have hl : xs.length % 2 = ys.length % 2 := by
          have := decide_eq_decide.mp (show decide (xs.length % 2 = 1) = decide (ys.length % 2 = 1) from c)
          omega
        exact lexD_anti (n := n) ih _ _ (fun z hz => hx z (List.mem_reverse.mp hz)) (fun z hz => hy z (List.mem_reverse.mp hz)) (by rw [List.length_reverse, List.length_reverse]; exact hl)
      · rw [cmp_ne fx fy (fun h => by cases h.1) c, cmp_ne fy fx (fun h => by cases h.1) (Ne.symm c)]
        cases h1 : negD (.tuple xs) <;> cases h2 : negD (.tuple ys) <;> first | exact absurd (h1.trans h2.symm) c | rfl
/-! ### maps that keep the order -/
structure Ord (n : Nat) (f : Int → PyData) (S : Int → Prop) : Prop where
  fm : ∀ a, S a → Fm n (f a)
  ord : ∀ a b, S a → S b → cmpD n (f a) (f b) = sgnI a b
theorem Ord.eqv {n : Nat} {f : Int → PyData} {S : Int → Prop} (o : Ord n f S) {a b : Int} (ha : S a) (hb : S b) : PyData.eqv (f a) (f b) = true ↔ a = b := by
  rw [eqv_fm (o.fm a ha) (o.fm b hb)]
  constructor
  · intro e
    have h := o.ord a b ha hb
    rw [e, cmpD_self (o.fm b hb)] at h
    by_cases c : a = b
    · exact c
    · rcases sgnI_pm c with k | k <;> omega
  · intro e; rw [e]
theorem Ord.lex {n : Nat} {f : Int → PyData} {S : Int → Prop} (o : Ord n f S) : ∀ l l' : List Int, (∀ a ∈ l, S a) → (∀ a ∈ l', S a) → lexD (cmpD n) (l.map f) (l'.map f) = lexR l l'
  | [], [], _, _ => rfl
  | [], _ :: _, _, _ => rfl
  | x :: xs, [], _, _ => by show par ((xs.map f).length + 1) 1 = par (xs.length + 1) 1; rw [List.length_map]
  | x :: xs, y :: ys, hx, hy => by
    have sx := hx x List.mem_cons_self
    have sy := hy y List.mem_cons_self
    show (if PyData.eqv (f x) (f y) = true then lexD (cmpD n) (xs.map f) (ys.map f) else par ((xs.map f).length + 1) (cmpD n (f x) (f y))) = if x = y then lexR xs ys else par (xs.length + 1) (sgnI x y)
    rw [List.length_map, o.ord x y sx sy]
    by_cases e : x = y
    · rw [if_pos ((o.eqv sx sy).mpr e), if_pos e, o.lex xs ys (fun a h => hx a (List.mem_cons_of_mem _ h)) (fun a h => hy a (List.mem_cons_of_mem _ h))]
    · rw [if_neg (fun h => e ((o.eqv sx sy).mp h)), if_neg e]
/-- .. and where near places are ints -/
structure OrdN (n : Nat) (f : Int → PyData) (S : Int → Prop) : Prop extends Ord n f S where
  pos : ∀ a, S a → 0 ≤ a
  near : ∀ a, S a → a ≤ 64 → f a = .int a
  far : ∀ a, S a → 64 < a → isNear (f a) = false
def rowF (f : Int → PyData) (l : List Int) : PyData := rowD (l.map f)
theorem zs_toNat {l : List Int} (h : ∀ a ∈ l, 0 ≤ a) : zs (l.map Int.toNat) = l := by
  unfold zs
  rw [List.map_map]
  conv => rhs; rw [← List.map_id l]
  refine List.map_congr_left fun a ha => ?_
  have := h a ha
  show ((a.toNat : Nat) : Int) = a
  omega
theorem asc_toNat {l : List Int} (h : ∀ a ∈ l, 0 ≤ a) (hp : l.Pairwise (· < ·)) : (l.map Int.toNat).Pairwise (· < ·) := by
  have e := zs_toNat h
  rw [← e] at hp
  unfold zs at hp
  exact (List.pairwise_map.mp hp).imp fun h => Int.ofNat_lt.mp h
theorem row_cases {n : Nat} {f : Int → PyData} {S : Int → Prop} (o : OrdN n f S) {l : List Int} (hs : ∀ a ∈ l, S a) (hp : l.Pairwise (· < ·)) :
    ((∀ a ∈ l, a ≤ 64) ∧ rowF f l = .int (alt (-1) (l.map Int.toNat))) ∨ ∃ m p, l = m ++ [p] ∧ 64 < p ∧ rowF f l = .tuple (l.map f) := by
  have near : (∀ a ∈ l, a ≤ 64) → rowF f l = .int (alt (-1) (l.map Int.toNat)) := fun all => by
    unfold rowF
    have e1 : l.map f = nD (l.map Int.toNat) := by
      unfold nD
      rw [List.map_map]
      refine List.map_congr_left fun a ha => ?_
      rw [o.near a (hs a ha) (all a ha)]
      have := o.pos a (hs a ha)
      show PyData.int a = .int ((a.toNat : Nat) : Int)
      congr 1
      omega
    rw [e1]
    cases hl : (nD (l.map Int.toNat)).getLast? with
    | none =>
      have : l.map Int.toNat = [] := by
        have := List.getLast?_eq_none_iff.mp hl
        unfold nD at this
        exact List.map_eq_nil_iff.mp this
      rw [this]
      rfl
    | some d =>
      obtain ⟨k, hk, rfl⟩ := List.mem_map.mp (List.mem_of_getLast? hl)
      obtain ⟨a, ha, rfl⟩ := List.mem_map.mp hk
      rw [rowD_near hl (decide_eq_true (by have := all a ha; omega))]
  rcases List.eq_nil_or_concat l with rfl | ⟨m, q, rfl⟩
  · left; exact ⟨fun a h => (by cases h), near fun a h => (by cases h)⟩
  · rw [List.concat_eq_append] at *
    by_cases c64 : q ≤ 64
    · left
      have all : ∀ a ∈ m ++ [q], a ≤ 64 := fun a ha => by
        rcases List.mem_append.mp ha with ha | ha
        · have := (List.pairwise_append.mp hp).2.2 a ha q List.mem_cons_self; omega
        · simp at ha; omega
      exact ⟨all, near all⟩
    · right
      refine ⟨m, q, rfl, by omega, ?_⟩
      unfold rowF
      refine rowD_far (d := f q) ?_ (o.far q (hs q (by simp)) (by omega))
      rw [List.map_append, List.map_singleton, List.getLast?_concat]
theorem row_fm {n : Nat} {f : Int → PyData} {S : Int → Prop} (o : OrdN n f S) {l : List Int} (hs : ∀ a ∈ l, S a) (hp : l.Pairwise (· < ·)) (hl : l.length ≤ 9000) : Fm (n + 1) (rowF f l) := by
  rcases row_cases o hs hp with ⟨_, e⟩ | ⟨m, p, _, _, e⟩
  · rw [e]; exact Fm.int _
  · rw [e]
    refine .inr ⟨_, rfl, by rw [List.length_map]; exact hl, fun x hx => ?_⟩
    obtain ⟨a, ha, rfl⟩ := List.mem_map.mp hx
    exact o.fm a (hs a ha)
theorem row_neg {n : Nat} {f : Int → PyData} {S : Int → Prop} (o : OrdN n f S) {l : List Int} (hs : ∀ a ∈ l, S a) (hp : l.Pairwise (· < ·)) : negD (rowF f l) = decide (l.length % 2 = 1) := by
  rcases row_cases o hs hp with ⟨_, e⟩ | ⟨m, p, _, _, e⟩
  · rw [e]
    have := alt_par (asc_toNat (fun a ha => o.pos a (hs a ha)) hp)
    rw [List.length_map] at this
    show decide (alt (-1) (l.map Int.toNat) < 0) = _
    refine decide_eq_decide.mpr ⟨fun h => ?_, fun h => this.1 h⟩
    by_cases c : l.length % 2 = 1
    · exact c
    · have := this.2 (by omega); omega
  · rw [e]
    show decide ((l.map f).length % 2 = 1) = _
    rw [List.length_map]
theorem row_ord {n : Nat} {f : Int → PyData} {S : Int → Prop} (o : OrdN n f S) {l l' : List Int} (hs : ∀ a ∈ l, S a) (hs' : ∀ a ∈ l', S a) (hp : l.Pairwise (· < ·)) (hp' : l'.Pairwise (· < ·)) (hl : l.length ≤ 9000) (hl' : l'.length ≤ 9000) :
    cmpD (n + 1) (rowF f l) (rowF f l') = cmpS l l' := by
  have fx := row_fm o hs hp hl
  have fy := row_fm o hs' hp' hl'
  have nx := row_neg o hs hp
  have ny := row_neg o hs' hp'
  rcases row_cases o hs hp with ⟨a1, e⟩ | ⟨m, p, el, p64, e⟩ <;> rcases row_cases o hs' hp' with ⟨a2, e'⟩ | ⟨m', p', el', p64', e'⟩
  · rw [e, e']
    show sgnI _ _ = _
    have h := cmpS_alt (asc_toNat (fun a ha => o.pos a (hs a ha)) hp) (asc_toNat (fun a ha => o.pos a (hs' a ha)) hp')
    rw [zs_toNat (fun a ha => o.pos a (hs a ha)), zs_toNat (fun a ha => o.pos a (hs' a ha))] at h
    exact h.symm
  · have hno : ¬ (isI (rowF f l) = true ∧ isI (rowF f l') = true) := by rw [e, e']; exact fun h => by cases h.2
    have ix : isI (rowF f l) = true := by rw [e]; rfl
    unfold cmpS
    by_cases c : l.length % 2 = l'.length % 2
    · rw [if_neg (by omega), cmp_ix fx fy hno (by rw [nx, ny]; exact decide_eq_decide.mpr (by omega)) ix, nx]
      subst el'
      rw [List.reverse_append]
      rcases List.eq_nil_or_concat l with rfl | ⟨k, q, rfl⟩
      · rfl
      · rw [List.concat_eq_append] at *
        rw [List.reverse_append]
        have q64 := a1 q (by simp)
        have hr : lexR ([q].reverse ++ k.reverse) ([p'].reverse ++ m'.reverse) = par (k.length + 1) (-1) := by
          show (if q = p' then lexR k.reverse m'.reverse else par (k.reverse.length + 1) (sgnI q p')) = _
          rw [if_neg (show ¬ q = p' by omega), sgnI_lt (show q < p' by omega), List.length_reverse]
        rw [hr, show (k ++ [q]).length = k.length + 1 by simp]
        unfold par
        by_cases od : (k.length + 1) % 2 = 1
        · rw [if_pos od, decide_eq_true od, if_pos rfl]; rfl
        · rw [if_neg od, decide_eq_false od, if_neg Bool.false_ne_true]
    · rw [if_pos c, cmp_ne fx fy hno (by rw [nx, ny]; exact fun h => c (by have := decide_eq_decide.mp h; omega)), nx]
      by_cases od : l.length % 2 = 1
      · rw [if_pos od, decide_eq_true od, if_pos rfl]
      · rw [if_neg od, decide_eq_false od, if_neg Bool.false_ne_true]
  · have hno : ¬ (isI (rowF f l) = true ∧ isI (rowF f l') = true) := by rw [e, e']; exact fun h => by cases h.1
    have ix : ¬ isI (rowF f l) = true := by rw [e]; exact fun h => by cases h
    have iy : isI (rowF f l') = true := by rw [e']; rfl
    unfold cmpS
    by_cases c : l.length % 2 = l'.length % 2
    · rw [if_neg (by omega), cmp_iy fx fy hno (by rw [nx, ny]; exact decide_eq_decide.mpr (by omega)) ix iy, nx]
      subst el
      rw [List.reverse_append]
      rcases List.eq_nil_or_concat l' with rfl | ⟨k, q, rfl⟩
      · have hr : lexR ([p].reverse ++ m.reverse) ([] : List Int).reverse = par (m.length + 1) 1 := by
          show par (m.reverse.length + 1) 1 = _
          rw [List.length_reverse]
        have c' : ¬ (m.length + 1) % 2 = 1 := by simp at c; omega
        rw [hr, show (m ++ [p]).length = m.length + 1 by simp]
        unfold par
        rw [if_neg c', decide_eq_false c', if_neg Bool.false_ne_true]
      · rw [List.concat_eq_append] at *
        rw [List.reverse_append]
        have q64 := a2 q (by simp)
        have hr : lexR ([p].reverse ++ m.reverse) ([q].reverse ++ k.reverse) = par (m.length + 1) 1 := by
          show (if p = q then lexR m.reverse k.reverse else par (m.reverse.length + 1) (sgnI p q)) = _
          rw [if_neg (show ¬ p = q by omega), sgnI_gt (show q < p by omega), List.length_reverse]
        rw [hr, show (m ++ [p]).length = m.length + 1 by simp]
        unfold par
        by_cases od : (m.length + 1) % 2 = 1
        · rw [if_pos od, decide_eq_true od, if_pos rfl]
        · rw [if_neg od, decide_eq_false od, if_neg Bool.false_ne_true]
    · rw [if_pos c, cmp_ne fx fy hno (by rw [nx, ny]; exact fun h => c (by have := decide_eq_decide.mp h; omega)), nx]
      by_cases od : l.length % 2 = 1
      · rw [if_pos od, decide_eq_true od, if_pos rfl]
      · rw [if_neg od, decide_eq_false od, if_neg Bool.false_ne_true]
  · unfold cmpS
    rw [e] at nx ⊢
    rw [e'] at ny ⊢
    show (if negD (.tuple (l.map f)) = negD (.tuple (l'.map f)) then lexD (cmpD n) (l.map f).reverse (l'.map f).reverse else (if negD (.tuple (l.map f)) = true then -1 else 1)) = _
    rw [nx, ny]
    by_cases c : l.length % 2 = l'.length % 2
    · rw [if_pos (decide_eq_decide.mpr (by omega)), if_neg (by omega), ← List.map_reverse, ← List.map_reverse]
      exact o.toOrd.lex _ _ (fun a h => hs a (List.mem_reverse.mp h)) (fun a h => hs' a (List.mem_reverse.mp h))
    · rw [if_neg (fun h => c (by have := decide_eq_decide.mp h; omega)), if_pos c]
      by_cases od : l.length % 2 = 1
      · rw [if_pos od, decide_eq_true od, if_pos rfl]
      · rw [if_neg od, decide_eq_false od, if_neg Bool.false_ne_true]
end Fb
namespace Fb
open PySem L2
/-! ### forms of ints -/
theorem ordN_int (n : Nat) : OrdN n PyData.int (fun a => 0 ≤ a) :=
  { fm := fun a _ => Fm.int a, ord := fun a b _ _ => by cases n <;> rfl, pos := fun a h => h, near := fun a _ _ => rfl, far := fun a _ h => decide_eq_false (by omega) }
theorem zs_pos {l : List Nat} : ∀ a ∈ zs l, 0 ≤ a := fun a h => by
  obtain ⟨n, _, rfl⟩ := List.mem_map.mp h
  show (0 : Int) ≤ ((n : Nat) : Int)
  omega
theorem zs_asc {l : List Nat} (h : l.Pairwise (· < ·)) : (zs l).Pairwise (· < ·) := List.pairwise_map.mpr (h.imp fun h => Int.ofNat_lt.mpr h)
theorem zs_nat (l : List Nat) : (zs l).map Int.toNat = l := by
  unfold zs
  rw [List.map_map]
  conv => rhs; rw [← List.map_id l]
  exact List.map_congr_left fun a _ => rfl
/-- an int is plain exactly if no turn is above 64 -/
theorem plain_iff (x : Int) : plain x ↔ ∀ p ∈ turnsN x, p ≤ 64 := by
  constructor
  · intro h; exact turns_lt (n := 64) h.1 h.2
  · intro h
    have e := turns_alt x
    have asc := turns_asc x
    rcases List.eq_nil_or_concat (turnsN x) with h0 | ⟨m, p, h0⟩
    · rw [h0] at e
      have : x = 0 := e.symm
      subst this
      decide
    · rw [List.concat_eq_append] at h0
      rw [h0] at e asc h
      obtain ⟨v, v1, v2, v3, _, _, v6⟩ := alt_size asc
      rw [v1] at e
      have hp := p_le (h p (by simp))
      rcases flip_pm (s := -1) (.inr rfl) m.length with f | f
      · have hm : 1 ≤ m.length := by
          by_cases z : m.length = 0
          · rw [z] at f; cases f
          · omega
        have := v3 hm
        rw [f] at e
        constructor <;> omega
      · have : v ≤ 2 ^ p := by
          by_cases z : m.length = 0
          · have := v2 z; omega
          · have := v3 (by omega); omega
        rw [f] at e
        constructor <;> omega
theorem form_row (x : Int) : formD x = rowF PyData.int (zs (turnsN x)) := by
  rcases row_cases (ordN_int 0) (l := zs (turnsN x)) zs_pos (zs_asc (turns_asc x)) with ⟨all, e⟩ | ⟨m, p, el, p64, e⟩
  · have hp : plain x := (plain_iff x).mpr fun p hp => by have := all (p : Int) (List.mem_map.mpr ⟨p, hp, rfl⟩); omega
    rw [e, zs_nat, turns_alt]
    unfold formD
    rw [if_pos hp]
  · have hp : ¬ plain x := fun h => by
      have hpm : p ∈ zs (turnsN x) := by rw [el]; simp
      obtain ⟨q, hq, rfl⟩ := List.mem_map.mp hpm
      have := (plain_iff x).mp h q hq
      have : (64 : Int) < ((q : Nat) : Int) := p64
      omega
    rw [e]
    unfold formD
    rw [if_neg hp]
    congr 1
    unfold nD zs
    rw [List.map_map]
    rfl
theorem form_ord {n : Nat} {x y : Int} (hx : (turnsN x).length ≤ 9000) (hy : (turnsN y).length ≤ 9000) : cmpD (n + 1) (formD x) (formD y) = sgnI x y := by
  rw [form_row, form_row, row_ord (ordN_int n) zs_pos zs_pos (zs_asc (turns_asc x)) (zs_asc (turns_asc y)) (by rw [len_zs]; exact hx) (by rw [len_zs]; exact hy), cmpS_turns]
theorem even_turns {x : Int} (h : 0 ≤ x) : (turnsN x).length % 2 = 0 := by
  have := (alt_par (turns_asc x)).1
  rw [turns_alt] at this
  by_cases c : (turnsN x).length % 2 = 1
  · have := this c; omega
  · omega
/-! ### places -/
theorem lexD_app {n : Nat} (c : PyData → PyData → Int) : ∀ (t xs ys : List PyData), (∀ x ∈ t, Fm n x) → lexD c (t ++ xs) (t ++ ys) = lexD c xs ys
  | [], _, _, _ => rfl
  | x :: t, xs, ys, h => by
    show (if PyData.eqv x x = true then lexD c (t ++ xs) (t ++ ys) else _) = _
    rw [if_pos ((eqv_fm (h x List.mem_cons_self) (h x List.mem_cons_self)).mpr rfl)]
    exact lexD_app c t xs ys fun y hy => h y (List.mem_cons_of_mem _ hy)
/-- two tuples with the same upper places -/
theorem same_field {n : Nat} {s t : Int} {ts : List PyData} (hs : 0 ≤ s) (ht : 0 ≤ t) (hts : ∀ x ∈ ts, Fm n x) (hev : ts.length % 2 = 0) : cmpD (n + 1) (.tuple (nD (turnsN s) ++ ts)) (.tuple (nD (turnsN t) ++ ts)) = sgnI s t := by
  have es := even_turns hs
  have et := even_turns ht
  show (if negD (.tuple (nD (turnsN s) ++ ts)) = negD (.tuple (nD (turnsN t) ++ ts)) then lexD (cmpD n) (nD (turnsN s) ++ ts).reverse (nD (turnsN t) ++ ts).reverse else _) = _
  have n1 : ∀ l : List Nat, l.length % 2 = 0 → negD (.tuple (nD l ++ ts)) = false := fun l hl => decide_eq_false (by rw [List.length_append, len_nD]; omega)
  rw [n1 _ es, n1 _ et, if_pos rfl, List.reverse_append, List.reverse_append, lexD_app (n := n) _ _ _ _ (fun x h => hts x (List.mem_reverse.mp h))]
  have e : ∀ l : List Nat, (nD l).reverse = (zs l).reverse.map PyData.int := fun l => by
    rw [← List.map_reverse.symm]
    congr 1
    unfold nD zs
    rw [List.map_map]
    rfl
  rw [e, e, (ordN_int n).toOrd.lex _ _ (fun a h => zs_pos a (List.mem_reverse.mp h)) (fun a h => zs_pos a (List.mem_reverse.mp h))]
  have := cmpS_turns s t
  unfold cmpS at this
  rw [len_zs, len_zs, if_neg (by omega)] at this
  exact this
/-- a tuple whose last place is greater -/
theorem last_less {n : Nat} {xs ys : List PyData} {a b : PyData} (hx : xs.length % 2 = 0) (hy : ys.length % 2 = 0) (ex : xs.getLast? = some a) (ey : ys.getLast? = some b) (fa : Fm n a) (fb : Fm n b) (hab : cmpD n a b = -1) :
    cmpD (n + 1) (.tuple xs) (.tuple ys) = -1 := by
  show (if negD (.tuple xs) = negD (.tuple ys) then lexD (cmpD n) xs.reverse ys.reverse else _) = -1
  have n1 : ∀ l : List PyData, l.length % 2 = 0 → negD (.tuple l) = false := fun l hl => decide_eq_false (by omega)
  rw [n1 _ hx, n1 _ hy, if_pos rfl]
  obtain ⟨m, rfl⟩ := List.getLast?_eq_some_iff.mp ex
  obtain ⟨k, rfl⟩ := List.getLast?_eq_some_iff.mp ey
  rw [List.reverse_append, List.reverse_append]
  show (if PyData.eqv a b = true then lexD (cmpD n) m.reverse k.reverse else par (m.reverse.length + 1) (cmpD n a b)) = -1
  have ne : ¬ PyData.eqv a b = true := fun h => by
    rw [(eqv_fm fa fb).mp h, cmpD_self fb] at hab
    cases hab
  rw [if_neg ne, hab, List.length_reverse]
  rw [List.length_append, List.length_singleton] at hx
  unfold par
  rw [if_neg (by omega)]
theorem int_less {n : Nat} {i : Int} {ys : List PyData} (h0 : 0 ≤ i) (hy : ys.length % 2 = 0) : cmpD (n + 1) (.int i) (.tuple ys) = -1 := by
  have n1 : negD (.tuple ys) = false := decide_eq_false (by omega)
  have n2 : negD (.int i) = false := decide_eq_false (by omega)
  show (if negD (.int i) = negD (.tuple ys) then (if negD (.int i) = true then 1 else -1) else _) = -1
  rw [n1, n2, if_pos rfl, if_neg Bool.false_ne_true]
/-- what the fields' tuples are, for the order -/
structure Top2 (ts : List PyData) : Prop where
  ev : ts.length % 2 = 0
  fm : ∀ x ∈ ts, Fm 0 x
  la : ∃ i : Int, ts.getLast? = some (.int i) ∧ 200 ≤ i
structure Top3 (ts : List PyData) : Prop where
  ev : ts.length % 2 = 0
  fm : ∀ x ∈ ts, Fm 2 x
  la : ∃ us : List PyData, ts.getLast? = some (.tuple us) ∧ us.length % 2 = 0
theorem f2_top {low g : Int} {f2 : PyData} (hl : 200 ≤ low) (hg : 0 ≤ g) (h : F2 low g f2) : ∃ ts, f2 = .tuple ts ∧ Top2 ts := by
  rcases h with ⟨d, d0, _, rfl⟩ | ⟨d, d0, _, rfl⟩
  · refine ⟨_, rfl, (by simp), fun x hx => ?_, low + 1 + d, rfl, by omega⟩
    simp at hx; rcases hx with rfl | rfl <;> exact ⟨_, rfl⟩
  · refine ⟨_, rfl, (by simp), fun x hx => ?_, low + 11 + 2 * g + d, rfl, by omega⟩
    simp at hx; rcases hx with rfl | rfl | rfl | rfl <;> exact ⟨_, rfl⟩
theorem f3_top {g : Int} {t2 : List PyData} {f3 : PyData} (k2 : Top2 t2) (hl : t2.length ≤ 50) (h : F3 g (.tuple t2) f3) : ∃ ts, f3 = .tuple ts ∧ Top3 ts := by
  have f1 : Fm 1 (.tuple t2) := .inr ⟨_, rfl, by omega, k2.fm⟩
  have f2 : Fm 2 (.tuple t2) := f1.succ
  rcases h with rfl | ⟨e, ts, _, _, et, rfl⟩ | rfl
  · refine ⟨_, rfl, (by simp), fun x hx => ?_, t2, rfl, k2.ev⟩
    simp at hx; rcases hx with rfl | rfl
    · exact Fm.int _
    · exact f2
  · cases et
    refine ⟨_, rfl, (by simp), fun x hx => ?_, _, rfl, by show (t2.length + 1 + 1) % 2 = 0; have := k2.ev; omega⟩
    simp at hx; rcases hx with rfl | rfl
    · exact f2
    · refine .inr ⟨_, rfl, by show t2.length + 1 + 1 ≤ 9000; omega, fun x hx => ?_⟩
      rcases List.mem_cons.mp hx with rfl | hx
      · exact Fm.int _
      · rcases List.mem_cons.mp hx with rfl | hx
        · exact Fm.int _
        · exact (k2.fm x hx).succ
  · refine ⟨_, rfl, (by simp), fun x hx => ?_, _, rfl, (by simp)⟩
    simp at hx; rcases hx with rfl | rfl | rfl | rfl
    · exact Fm.int _
    · exact Fm.int _
    · exact f2
    · refine .inr ⟨_, rfl, by show 2 ≤ 9000; decide, fun x hx => ?_⟩
      simp at hx; rcases hx with rfl | rfl
      · exact Fm.int _
      · exact f1
def Pl (a : Int) : Prop := 0 ≤ a ∧ a < 800 ∧ a % 200 < 64
/-- the last of a form's turns is small -/
theorem form_small {x : Int} (h0 : 0 ≤ x) (h1 : x < 2 ^ 65) : formD x = .int x ∨ ∃ m p, formD x = .tuple (nD (m ++ [p])) ∧ p ≤ 65 ∧ (m ++ [p]).length % 2 = 0 := by
  unfold formD
  by_cases c : plain x
  · left; rw [if_pos c]
  · right
    rw [if_neg c]
    have ev := even_turns h0
    have le := turns_lt (x := x) (n := 65) (by omega) h1
    rcases List.eq_nil_or_concat (turnsN x) with h | ⟨m, p, h⟩
    · have e := turns_alt x
      rw [h] at e
      have : x = 0 := e.symm
      subst this
      exact absurd (by decide) c
    · rw [List.concat_eq_append] at h
      rw [h] at ev le ⊢
      exact ⟨m, p, rfl, le p (by simp), ev⟩
theorem place_le {fs : List PyData} (F : Fields fs) {p q : Nat} (hp : Pl p) (hq : Pl q) (h : p < q) : cmpD 3 (placeD fs p) (placeD fs q) = -1 := by
  obtain ⟨a, low, g, f2, f3, rfl, a0, a1, l0, l1, g0, g1, k2, k3⟩ := F.ex
  obtain ⟨_, p1, p2⟩ := hp
  obtain ⟨_, q1, q2⟩ := hq
  obtain ⟨t2, rfl, o2⟩ := f2_ok (n := 0) k2
  obtain ⟨t2', e2, m2⟩ := f2_top l0 (by omega) k2
  cases e2
  obtain ⟨t3, rfl, m3⟩ := f3_top m2 o2.1 k3
  have len : ∀ s : Nat, s < 200 → (turnsN ((s : Nat) : Int)).length ≤ 9000 := fun s hs => by
    have := turns_len (x := ((s : Nat) : Int)) (n := 10) (by omega) (by omega); omega
  have lenf : ∀ x : Int, 0 ≤ x → x < 2 ^ 65 → (turnsN x).length ≤ 9000 := fun x h0 h1 => by
    have := turns_len (x := x) (n := 65) (by omega) h1; omega
  have pl0 : ∀ r : Nat, r < 200 → placeD [.int 0, .int a, .tuple t2, .tuple t3] r = formD (r : Int) := fun r hr => by
    rw [place0 F hr]; unfold formD; rw [if_pos (by constructor <;> omega)]
  have pl1 : ∀ r : Nat, 200 ≤ r → r < 400 → placeD [.int 0, .int a, .tuple t2, .tuple t3] r = formD (a + ((r % 200 : Nat) : Int)) := fun r h1 h2 => by
    unfold placeD; rw [show r / 200 = 1 by omega]; rfl
  have pl2 : ∀ r : Nat, 400 ≤ r → r < 600 → placeD [.int 0, .int a, .tuple t2, .tuple t3] r = .tuple (nD (turnsN ((r % 200 : Nat) : Int)) ++ t2) := fun r h1 h2 => by
    unfold placeD; rw [show r / 200 = 2 by omega]; rfl
  have pl3 : ∀ r : Nat, 600 ≤ r → r < 800 → placeD [.int 0, .int a, .tuple t2, .tuple t3] r = .tuple (nD (turnsN ((r % 200 : Nat) : Int)) ++ t3) := fun r h1 h2 => by
    unfold placeD; rw [show r / 200 = 3 by omega]; rfl
  have ev : ∀ (r : Nat) (ts : List PyData), ts.length % 2 = 0 → (nD (turnsN ((r % 200 : Nat) : Int)) ++ ts).length % 2 = 0 := fun r ts h => by
    have := even_turns (x := ((r % 200 : Nat) : Int)) (by omega)
    rw [List.length_append, len_nD]; omega
  have la : ∀ (r : Nat) (ts : List PyData) (d : PyData), ts.getLast? = some d → (nD (turnsN ((r % 200 : Nat) : Int)) ++ ts).getLast? = some d := fun r ts d h => by
    rw [List.getLast?_append, h]; rfl
  obtain ⟨i2, e2, i200⟩ := m2.la
  obtain ⟨us, e3, uev⟩ := m3.la
  have fus : Fm 2 (.tuple us) := m3.fm _ (List.mem_of_getLast? e3)
  -- an int's form against a tuple that lies above
  have low23 : ∀ (x : Int) (r : Nat), 0 ≤ x → x < 2 ^ 65 → cmpD 3 (formD x) (.tuple (nD (turnsN ((r % 200 : Nat) : Int)) ++ t2)) = -1 ∧ cmpD 3 (formD x) (.tuple (nD (turnsN ((r % 200 : Nat) : Int)) ++ t3)) = -1 := fun x r h0 h1 => by
    rcases form_small h0 h1 with e | ⟨m, p, e, p65, pev⟩
    · rw [e]
      exact ⟨int_less h0 (ev r t2 m2.ev), int_less h0 (ev r t3 m3.ev)⟩
    · rw [e]
      have el : (nD (m ++ [p])).getLast? = some (.int (p : Int)) := by unfold nD; rw [List.map_append]; exact List.getLast?_concat ..
      have elv : (nD (m ++ [p])).length % 2 = 0 := by rw [len_nD]; exact pev
      refine ⟨last_less elv (ev r t2 m2.ev) el (la r t2 _ e2) (Fm.int _) (Fm.int _) (sgnI_lt (by omega)), last_less elv (ev r t3 m3.ev) el (la r t3 _ e3) (Fm.int _) fus (int_less (by omega) uev)⟩
  by_cases c1 : p < 200
  · by_cases d1 : q < 200
    · rw [pl0 p c1, pl0 q d1, form_ord (len p c1) (len q d1), sgnI_lt (by omega)]
    · by_cases d2 : q < 400
      · rw [pl0 p c1, pl1 q (by omega) d2, form_ord (len p c1) (lenf _ (by omega) (by omega)), sgnI_lt (by omega)]
      · by_cases d3 : q < 600
        · rw [pl0 p c1, pl2 q (by omega) d3]; exact (low23 p q (by omega) (by omega)).1
        · rw [pl0 p c1, pl3 q (by omega) (by omega)]; exact (low23 p q (by omega) (by omega)).2
  · by_cases c2 : p < 400
    · rw [pl1 p (by omega) c2]
      by_cases d2 : q < 400
      · rw [pl1 q (by omega) d2, form_ord (lenf _ (by omega) (by omega)) (lenf _ (by omega) (by omega)), sgnI_lt (by omega)]
      · by_cases d3 : q < 600
        · rw [pl2 q (by omega) d3]; exact (low23 _ q (by omega) (by omega)).1
        · rw [pl3 q (by omega) (by omega)]; exact (low23 _ q (by omega) (by omega)).2
    · by_cases c3 : p < 600
      · rw [pl2 p (by omega) c3]
        by_cases d3 : q < 600
        · rw [pl2 q (by omega) d3, same_field (n := 2) (by omega) (by omega) (fun x h => (m2.fm x h).mono (by decide)) m2.ev, sgnI_lt (by omega)]
        · rw [pl3 q (by omega) (by omega)]
          exact last_less (ev p t2 m2.ev) (ev q t3 m3.ev) (la p t2 _ e2) (la q t3 _ e3) (Fm.int _) fus (int_less (by omega) uev)
      · rw [pl3 p (by omega) (by omega), pl3 q (by omega) (by omega), same_field (n := 2) (by omega) (by omega) m3.fm m3.ev, sgnI_lt (by omega)]
theorem ordN_place {fs : List PyData} (F : Fields fs) : OrdN 3 (fun a => placeD fs a.toNat) Pl := by
  have lift : ∀ a, Pl a → ((a.toNat : Nat) : Int) = a := fun a h => by have := h.1; omega
  refine { fm := fun a h => ?_, ord := fun a b ha hb => ?_, pos := fun a h => h.1, near := fun a h h64 => ?_, far := fun a h h64 => ?_ }
  · have := h.1; have := h.2.1
    exact place_fm F (by omega)
  · have la := lift a ha
    have lb := lift b hb
    have a8 := ha.2.1
    have b8 := hb.2.1
    rcases Int.lt_trichotomy a b with c | c | c
    · rw [sgnI_lt c]
      exact place_le F (by rw [la]; exact ha) (by rw [lb]; exact hb) (by omega)
    · subst c
      rw [sgnI_self]
      exact cmpD_self (place_fm F (by omega))
    · rw [sgnI_gt c, cmpD_anti 3 (placeD fs b.toNat) (placeD fs a.toNat) (place_fm F (by omega)) (place_fm F (by omega)), place_le F (by rw [lb]; exact hb) (by rw [la]; exact ha) (by omega)]
      rfl
  · show placeD fs a.toNat = .int a
    rw [place0 F (by omega), lift a h]
  · obtain ⟨hp, _, k⟩ := places F 0
    have := h.2.1
    exact (k a.toNat (by omega)).2.2 (by omega)
/-! ### moved codes -/
theorem alt_append (s : Int) (l l' : List Nat) : alt s (l ++ l') = alt s l + alt (flip s l.length) l' := by
  induction l generalizing s with
  | nil => show alt s l' = 0 + alt s l'; omega
  | cons p l ih =>
    show s * 2 ^ p + alt (-s) (l ++ l') = s * 2 ^ p + alt (-s) l + alt (flip (-s) l.length) l'
    rw [ih]; omega
theorem alt_shift (k : Nat) (s : Int) (l : List Nat) : alt s (l.map (· + k)) = 2 ^ k * alt s l := by
  induction l generalizing s with
  | nil => show (0 : Int) = 2 ^ k * 0; omega
  | cons p l ih =>
    show s * 2 ^ (p + k) + alt (-s) (l.map (· + k)) = 2 ^ k * (s * 2 ^ p + alt (-s) l)
    rw [ih, Int.pow_add, Int.mul_add, Int.mul_comm (2 ^ k) (s * 2 ^ p), Int.mul_assoc]
theorem flip_even {s : Int} {n : Nat} (h : n % 2 = 0) : flip s n = s := by rw [flip_eq]; unfold par; rw [if_neg (by omega)]
/-- the turns of two groups of bits -/
theorem turns_two {a b : Int} {k : Nat} (ha : 0 ≤ a) (hb : 0 ≤ b) (hk : ∀ p ∈ turnsN a, p < k) : turnsN (a + b * 2 ^ k) = turnsN a ++ (turnsN b).map (· + k) := by
  have asc : (turnsN a ++ (turnsN b).map (· + k)).Pairwise (· < ·) := by
    rw [List.pairwise_append]
    refine ⟨turns_asc a, List.pairwise_map.mpr ((turns_asc b).imp fun h => by omega), fun p hp q hq => ?_⟩
    obtain ⟨r, _, rfl⟩ := List.mem_map.mp hq
    have := hk p hp
    omega
  rw [← turns_of_alt asc, alt_append, turns_alt, flip_even (even_turns ha), alt_shift, turns_alt, Int.mul_comm b]
theorem digit_turns {d : Int} (h0 : 0 ≤ d) (h1 : d < 2 ^ 60) : ∀ p ∈ turnsN d, p < 64 := fun p hp => by
  have := turns_lt (x := d) (n := 60) (by omega) h1 p hp; omega
/-- the turns of a code lie in its groups -/
theorem code_places {m : Nat} {c : Int} (h : CodeB m (2 ^ 60) c) : ∀ p ∈ turnsN c, Pl p := by
  obtain ⟨d, rfl, h2, _⟩ := h
  have t0 := digit_turns (h2 0).1 (h2 0).2
  have t1 := digit_turns (h2 1).1 (h2 1).2
  have t2 := digit_turns (h2 2).1 (h2 2).2
  have t3 := digit_turns (h2 3).1 (h2 3).2
  have n3 : 0 ≤ d 2 + d 3 * 2 ^ 200 := by have := (h2 2).1; have := (h2 3).1; omega
  have n2 : 0 ≤ d 1 + (d 2 + d 3 * 2 ^ 200) * 2 ^ 200 := by have := (h2 1).1; omega
  have e : val4 d = d 0 + (d 1 + (d 2 + d 3 * 2 ^ 200) * 2 ^ 200) * 2 ^ 200 := by unfold val4; omega
  rw [e, turns_two (h2 0).1 n2 (fun p hp => by have := t0 p hp; omega), turns_two (h2 1).1 n3 (fun p hp => by have := t1 p hp; omega), turns_two (h2 2).1 (h2 3).1 (fun p hp => by have := t2 p hp; omega)]
  intro p hp
  simp only [List.mem_append, List.map_append, List.mem_map] at hp
  rcases hp with hp | ⟨q, hq, rfl⟩ | ⟨q, ⟨r, hr, rfl⟩ , rfl⟩ | ⟨q, ⟨r, ⟨u, hu, rfl⟩, rfl⟩, rfl⟩
  · have := t0 p hp; exact ⟨by omega, by omega, by omega⟩
  · have := t1 q hq; exact ⟨by omega, by omega, by omega⟩
  · have := t2 r hr; exact ⟨by omega, by omega, by omega⟩
  · have := t3 u hu; exact ⟨by omega, by omega, by omega⟩
def Cd (c : Int) : Prop := CodeB 4 (2 ^ 60) c
theorem moved_row (fs : List PyData) (c : Int) : movedD fs c = rowF (fun a => placeD fs a.toNat) (zs (turnsN c)) := by
  unfold movedD rowF zs
  rw [List.map_map]
  rfl
theorem Cd.b {c : Int} (h : Cd c) : 0 ≤ c ∧ c < 2 ^ 799 := code_799 h (by decide) (by decide) (Int.le_refl _)
theorem ordN_moved {fs : List PyData} (F : Fields fs) : OrdN 4 (movedD fs) Cd := by
  have o := ordN_place F
  have pl : ∀ c, Cd c → ∀ a ∈ zs (turnsN c), Pl a := fun c h a ha => by
    obtain ⟨p, hp, rfl⟩ := List.mem_map.mp ha
    exact code_places h p hp
  have le : ∀ c, Cd c → (zs (turnsN c)).length ≤ 9000 := fun c h => by
    rw [len_zs]
    have := len_turns h.b.1 h.b.2
    omega
  refine { fm := fun c h => ?_, ord := fun c c' h h' => ?_, pos := fun c h => h.b.1, near := fun c h h64 => small_moved F h.b.1 h64, far := fun c h h64 => ?_ }
  · rw [moved_row]
    exact row_fm o (pl c h) (zs_asc (turns_asc c)) (le c h)
  · show cmpD 4 (movedD fs c) (movedD fs c') = _
    rw [moved_row, moved_row, row_ord o (pl c h) (pl c' h') (zs_asc (turns_asc c)) (zs_asc (turns_asc c')) (le c h) (le c' h'), cmpS_turns]
  · obtain ⟨hm, _, k⟩ := moveds F 0
    have := (k c h.b.1 h.b.2).2.2
    by_cases e : isNear (movedD fs c) = true
    · have := this e; omega
    · exact Bool.eq_false_iff.mpr e
/-- the order of numbers made of codes -/
theorem codes_ord {fs : List PyData} (F : Fields fs) {l l' : List Int} (hs : ∀ c ∈ l, Cd c) (hs' : ∀ c ∈ l', Cd c) (hp : l.Pairwise (· < ·)) (hp' : l'.Pairwise (· < ·)) (hl : l.length ≤ 2000) (hl' : l'.length ≤ 2000) :
    cmpD 5 (codesD fs l) (codesD fs l') = cmpS l l' ∧ Fm 5 (codesD fs l) ∧ Fm 5 (codesD fs l') :=
  ⟨row_ord (ordN_moved F) hs hs' hp hp' (by omega) (by omega), row_fm (ordN_moved F) hs hp (by omega), row_fm (ordN_moved F) hs' hp' (by omega)⟩
theorem lexR_self : ∀ l : List Int, lexR l l = 0
  | [] => rfl
  | x :: xs => by show (if x = x then lexR xs xs else _) = 0; rw [if_pos rfl, lexR_self xs]
theorem cmpS_self (l : List Int) : cmpS l l = 0 := by unfold cmpS; rw [if_neg (fun h => h rfl), lexR_self]
theorem lexR_anti : ∀ l l' : List Int, l.length % 2 = l'.length % 2 → lexR l' l = -lexR l l'
  | [], [], _ => rfl
  | [], y :: ys, h => by
    show par (ys.length + 1) 1 = -(-1)
    unfold par; rw [if_neg (by simp at h; omega)]; rfl
  | x :: xs, [], h => by
    show (-1 : Int) = -par (xs.length + 1) 1
    unfold par; rw [if_neg (by simp at h; omega)]
  | x :: xs, y :: ys, h => by
    have hl : xs.length % 2 = ys.length % 2 := by simp at h; omega
    show (if y = x then lexR ys xs else par (ys.length + 1) (sgnI y x)) = -(if x = y then lexR xs ys else par (xs.length + 1) (sgnI x y))
    by_cases e : x = y
    · rw [if_pos e, if_pos e.symm, lexR_anti xs ys hl]
    · rw [if_neg e, if_neg (Ne.symm e), sgnI_swap, par_neg]
      unfold par
      by_cases o : (xs.length + 1) % 2 = 1
      · rw [if_pos o, if_pos (by omega)]
      · rw [if_neg o, if_neg (by omega)]
theorem cmpS_anti (l l' : List Int) : cmpS l' l = -cmpS l l' := by
  unfold cmpS
  by_cases c : l.length % 2 = l'.length % 2
  · rw [if_neg (by omega), if_neg (by omega), lexR_anti]
    rw [List.length_reverse, List.length_reverse]; exact c
  · rw [if_pos c, if_pos (Ne.symm c)]
    by_cases o : l.length % 2 = 1
    · rw [if_pos o, if_neg (by omega)]; rfl
    · rw [if_neg o, if_pos (by omega)]
end Fb
namespace Fb
open PySem L2
def top (i : Nat) : Stmt := PySem.Challenge.pw_farbits_k16_whole_rests_of_results.main.body.getD i (.Pass ⟨0, 0, 0, 0⟩)
theorem shaped_fm {n : Nat} {d : PyData} (h : Fm n d) (hn : n ≤ 40) : SeqAt.shaped d = true := by
  obtain ⟨a, b⟩ := h.lay
  unfold SeqAt.shaped
  rw [a]
  simp
  omega
theorem shaped_tup {n : Nat} {ds : List PyData} (h : ∀ x ∈ ds, Fm n x) (hn : n ≤ 40) : SeqAt.shaped (.tuple ds) = true := by
  have := shaped_list hn h
  simp only [SeqAt.shaped, PyData.canLay0, PyData.depth] at this ⊢
  exact this
section
variable {P : Program} {w : World} {K : PySem.W.Frag} {mg : Str → Option Value} {base : Heap} {f : Addr} {fd : FuncData}
theorem fnok_no {CX : CXT} {k : Nat} {ps : List Str} : FnOk P w K mg base CX k f fd ps (fun _ _ _ _ => False) := ⟨fun _ _ _ _ h => h.elim, fun _ _ _ _ _ _ _ _ _ _ _ _ _ h => h.elim⟩
abbrev S_is_negative : Stmt := top 25
abbrev N_is_negative : List Str := ["x"]
abbrev P_is_negative : List Str := ["x"]
theorem sc_is_negative : FnScope N_is_negative P_is_negative (defScope S_is_negative) := ⟨rfl, rfl, rfl, by decide +kernel, rfl, by decide +kernel, by decide +kernel⟩
def spNeg (K : PySem.W.Frag) : Sp := fun vs H Q _ => ∃ (v : V) (d : PyData), vs = [v] ∧ Dp K H v d ∧ (isI d = true ∨ isT d = true) ∧ (∀ b, d ≠ .bool b) ∧ ∀ H' : Hp, Same H H' → Q (.bl (negD d)) H'
theorem ok_neg (F : Fun K "is_negative" "is_negative" S_is_negative f fd) (B : Blt mg) : FnOk P w K mg base CX0 1 f fd P_is_negative (spNeg K) := by
  have nd := sc_is_negative.nd
  refine F.ok sc_is_negative (fun vs H Q E h => ?_) (fun cdv A outer s H vs Q E hr h => ?_)
  · obtain ⟨v, d, rfl, _⟩ := h
    rfl
  obtain ⟨v, d, rfl, hd, hk, hb, q⟩ := h
  refine ⟨_, (pss_cons (ps_if (pt_val (pe_callB (call_isiI K) (by rfl) B.isinstance (by decide +kernel) (pa_cons (pv 0) (pa_cons (pe_bltn (by rfl) B.int (by decide +kernel) (show RelV (.ty "int") (.type "int") from rfl)) pa_nil)))) (pss_one (ps_ret (pe_cmpR op_lt (pv 0) pe_int (nomark _)))) pss_nil)
    (pss_one (ps_ret (pe_cmpR op_eq (pe_op op_and (pe_callB call_lenT (by rfl) B.len PySem.boot_len (pa_cons (pv 0) pa_nil)) pe_int) pe_int (nomark _))))), ?_⟩
  refine ⟨_, rfl, _, d, rfl, hd, _, rfl, ?_⟩
  cases d with
  | int i =>
    cases hd
    refine iteT ?_
    exact ⟨_, rfl, _, _, rfl, rfl, q H (Same.refl H)⟩
  | tuple ds =>
    refine iteF ?_
    cases hd with
    | @tup a xs _ hs ha =>
    refine ⟨_, rfl, a, _, rfl, hs, _, _, rfl, rfl, rfl, ?_⟩
    have e : decide (V.int (Builtin.bitAnd (xs.length : Int) 1) = V.int 1) = negD (.tuple ds) := by
      rw [PyProof.Rows.bitAnd_m1]
      show _ = decide (ds.length % 2 = 1)
      rw [dps_length ha]
      refine decide_eq_decide.mpr ⟨fun h => ?_, fun h => ?_⟩
      · injection h with h; omega
      · congr 1; omega
    have q' := q H (Same.refl H)
    rw [← e] at q'
    exact q'
  | bool b => exact absurd rfl (hb b)
  | none => rcases hk with h | h <;> cases h
  | str _ => rcases hk with h | h <;> cases h
  | list _ => rcases hk with h | h <;> cases h
  | dict _ => rcases hk with h | h <;> cases h
abbrev S_common_tail : Stmt := top 28
abbrev N_common_tail : List Str := ["x", "y", "most", "same", "step", "more"]
abbrev P_common_tail : List Str := ["x", "y", "most"]
theorem sc_common_tail : FnScope N_common_tail P_common_tail (defScope S_common_tail) := ⟨rfl, rfl, rfl, by decide +kernel, rfl, by decide +kernel, by decide +kernel⟩
def spTail (K : PySem.W.Frag) (n : Nat) : Sp := fun vs H Q _ => ∃ (a b : Addr) (xs ys : List V) (ds es : List PyData) (mo : Nat), vs = [.ref a, .ref b, .int (mo : Int)] ∧ SqT K H a xs ∧ SqT K H b ys ∧ DpAll K H xs ds ∧ DpAll K H ys es ∧ (∀ d ∈ ds, Fm n d) ∧ (∀ d ∈ es, Fm n d) ∧
  mo ≤ ds.length ∧ mo ≤ es.length ∧ ctail ds.reverse es.reverse ≤ mo ∧ 8 ≤ ctail ds.reverse es.reverse ∧ ∀ H' : Hp, Same H H' → Q (.int (ctail ds.reverse es.reverse : Nat)) H'
theorem ok_tail {n : Nat} {tk : Tok} (hn : n ≤ 40) (F : Fun K "common_tail" "common_tail" S_common_tail f fd) (B : Blt mg) (MF : mg "FEW_TURNS" = some (.int 8 tk)) : FnOk P w K mg base CX0 1 f fd P_common_tail (spTail K n) := by
  have nd := sc_common_tail.nd
  refine F.ok sc_common_tail (fun vs H Q E h => ?_) (fun cdv A outer s H vs Q E hr h => ?_)
  · obtain ⟨a, b, xs, ys, ds, es, mo, rfl, _⟩ := h
    rfl
  obtain ⟨a, b, xs, ys, ds, es, mo, rfl, hA, hB, hd, he, fd1, fe1, mo1, mo2, mo3, c8, q⟩ := h
  refine ⟨_, (pss_cons (ps_set (i := 3) nd rfl (Or.inl rfl) (pe_glob (v := .int 8) rfl MF ⟨_, rfl⟩))
    (C8.pss_cut (ps_set (i := 4) nd rfl (Or.inl rfl) (pv 3))
    (pss_cons (ps_while PassesOwn.never (pt_truth (pv 4) (by intro _; rfl)) (pss_cons (ps_set (i := 5) nd rfl (Or.inl rfl) (pe_op op_add (pv 3) (pv 4)))
    (pss_one (ps_if (PW.pt (pw_and (pt_cmpR op_le (pv 5) (pv 2) (nomark _)) (pw_and1 (pt_cmpR (op_eqD hr.units) (pe_slice sl_tupD (pv 0) (po_some (pe_op op_sub (pe_callB call_lenT (by rfl) B.len PySem.boot_len (pa_cons (pv 0) pa_nil)) (pv 5))) (po_some (pe_op op_sub (pe_callB call_lenT (by rfl) B.len PySem.boot_len (pa_cons (pv 0) pa_nil)) (pv 3)))) (pe_slice sl_tupD (pv 1) (po_some (pe_op op_sub (pe_callB call_lenT (by rfl) B.len PySem.boot_len (pa_cons (pv 1) pa_nil)) (pv 5))) (po_some (pe_op op_sub (pe_callB call_lenT (by rfl) B.len PySem.boot_len (pa_cons (pv 1) pa_nil)) (pv 3)))) (nomark _))))) (pss_cons (ps_set (i := 3) nd rfl (Or.inl rfl) (pv 5))
    (pss_one (ps_set (i := 4) nd rfl (Or.inl rfl) (pe_op op_mul (pv 4) pe_int)))) (pss_one (ps_set (i := 4) nd rfl (Or.inl rfl) (pe_op op_fdivW (pv 4) pe_int)))))))
    (pss_one (ps_ret (pv 3)))))), ?_⟩
  have lx := dps_length hd
  have ly := dps_length he
  generalize hc : ctail ds.reverse es.reverse = ct at q mo3 c8
  refine ⟨fun σ H'' => ∃ sm st : Nat, σ = [some (.ref a), some (.ref b), some (.int (mo : Int)), some (.int (sm : Int)), some (.int (st : Int)), none] ∧ H'' = H ∧ sm = 8 ∧ st = 8, ⟨_, rfl, 8, 8, rfl, rfl, rfl, rfl⟩, ?_⟩
  rintro σ H'' ⟨sm, st, rfl, rfl, s8, t8⟩
  have s2 : sm ≤ ct := by omega
  have t1 : st ≤ sm := by omega
  have t2 : st = 0 → ct = sm := fun h => by omega
  clear s8 t8
  refine ⟨fun m σ H' => ∃ (sm st : Nat) (z : Option V), σ = [some (.ref a), some (.ref b), some (.int (mo : Int)), some (.int (sm : Int)), some (.int (st : Int)), z] ∧ m = (mo - sm) * (mo + 2) + st ∧ sm ≤ ct ∧ st ≤ sm ∧ (st = 0 → ct = sm) ∧ Same H'' H', ⟨_, sm, st, none, rfl, rfl, s2, t1, t2, Same.refl _⟩, ?_⟩
  rintro m σ H' ⟨sm, st, z, rfl, rfl, s2, t1, t2, e⟩
  refine ⟨_, rfl, _, rfl, ?_⟩
  refine ite2 (fun c => ?_) (fun c => ?_)
  · have st0 : st ≠ 0 := fun h => by rw [h] at c; cases c
    have half : ∀ H1, Same H'' H1 → (st = 1 → ct ≤ sm) → ∃ m', m' < (mo - sm) * (mo + 2) + st ∧ ∃ (sm' st' : Nat) (z : Option V), ([some (.ref a), some (.ref b), some (.int (mo : Int)), some (.int (sm : Int)), some (.int ((st : Int) / 2)), some (.int ((sm : Int) + (st : Int)))] : L2.St) = [some (.ref a), some (.ref b), some (.int (mo : Int)), some (.int (sm' : Int)), some (.int (st' : Int)), z] ∧ m' = (mo - sm') * (mo + 2) + st' ∧ sm' ≤ ct ∧ st' ≤ sm' ∧ (st' = 0 → ct = sm') ∧ Same H'' H1 := fun H1 e1 h1 =>
      ⟨(mo - sm) * (mo + 2) + st / 2, by omega, sm, st / 2, _, rfl, rfl, s2, by omega, fun h => by have := h1 (by omega); omega, e1⟩
    refine ⟨fun σ' H1 => ∃ m', m' < (mo - sm) * (mo + 2) + st ∧ ∃ (sm' st' : Nat) (z : Option V), σ' = [some (.ref a), some (.ref b), some (.int (mo : Int)), some (.int (sm' : Int)), some (.int (st' : Int)), z] ∧ m' = (mo - sm') * (mo + 2) + st' ∧ sm' ≤ ct ∧ st' ≤ sm' ∧ (st' = 0 → ct = sm') ∧ Same H'' H1, fun σ' H1 h => h, ?_⟩
    refine ⟨_, rfl, _, rfl, _, _, rfl, rfl, ?_⟩
    refine ⟨_, rfl, _, rfl, _, _, rfl, rfl, _, rfl, ?_⟩
    refine iteD (fun c1 => ?_) (fun c1 => ?_)
    · have hA1 := (Nd.of e).sqt hA
      refine ⟨_, rfl, _, rfl, a, _, rfl, hA1, _, rfl, _, _, rfl, rfl, _, rfl, _, rfl, a, _, rfl, hA1, _, rfl, _, _, rfl, rfl, _, rfl, a, _, rfl, hA1, fun b1 H1 e1 k1 => ?_⟩
      have hB1 := (Nd.of (e.trans e1)).sqt hB
      refine ⟨_, rfl, _, rfl, b, _, rfl, hB1, _, rfl, _, _, rfl, rfl, _, rfl, _, rfl, b, _, rfl, hB1, _, rfl, _, _, rfl, rfl, _, rfl, b, _, rfl, hB1, fun b2 H2 e2 k2 => ?_⟩
      have em : (sm : Int) + (st : Int) = ((sm + st : Nat) : Int) := by omega
      rw [em] at k1 k2
      have k1 : SqT K H1 b1 (cutV xs (some ((xs.length : Int) - ((sm + st : Nat) : Int))) (some ((xs.length : Int) - (sm : Int)))) := k1
      have k2 : SqT K H2 b2 (cutV ys (some ((ys.length : Int) - ((sm + st : Nat) : Int))) (some ((ys.length : Int) - (sm : Int)))) := k2
      rw [cut_seg (by omega) (by omega)] at k1 k2
      have e12 := e.trans (e1.trans e2)
      have k1' := (Nd.of e2).sqt k1
      have w1 : ∀ x ∈ seg ds sm (sm + st), Fm n x := fun x hx => fd1 x (List.mem_of_mem_drop (List.mem_of_mem_take hx))
      have w2 : ∀ x ∈ seg es sm (sm + st), Fm n x := fun x hx => fe1 x (List.mem_of_mem_drop (List.mem_of_mem_take hx))
      refine ⟨.tuple (seg ds sm (sm + st)), .tuple (seg es sm (sm + st)), .tup k1' (dps_seg ((Nd.of e12).ds hd) _ _), .tup k2 (dps_seg ((Nd.of e12).ds he) _ _), shaped_tup w1 hn, shaped_tup w2 hn, _, rfl, ?_⟩
      have al := seg_alike (ds := ds) (es := es) (same := sm) (more := sm + st) (by rw [hc]; exact s2) (by omega) (by omega) (by omega)
      rw [hc] at al
      refine ite2 (fun c2 => ?_) (fun c2 => ?_)
      · have := al.mp c2
        refine ⟨_, rfl, ?_⟩
        refine ⟨_, rfl, _, _, rfl, rfl, .inr ⟨by decide, by decide⟩, ?_⟩
        refine ⟨(mo - (sm + st)) * (mo + 2) + 2 * st, ?_, sm + st, 2 * st, _, (by rw [show ((2 * st : Nat) : Int) = (st : Int) * 2 by omega, ← em]; rfl), rfl, this, by omega, fun h => by omega, e12⟩
        obtain ⟨r, hr⟩ : ∃ r, mo - sm = r + st := ⟨mo - sm - st, by omega⟩
        rw [show mo - (sm + st) = r by omega, hr, Nat.add_mul]
        have : st * 2 ≤ st * (mo + 2) := Nat.mul_le_mul_left _ (by omega)
        omega
      · refine ⟨_, rfl, _, _, rfl, rfl, ⟨by decide, by decide +kernel⟩, ?_⟩
        exact half H2 e12 fun h => by
          by_cases z : ct ≤ sm
          · exact z
          · exact absurd (al.mpr (by omega)) c2
    · refine iteF ?_
      refine ⟨_, rfl, _, _, rfl, rfl, ⟨by decide, by decide +kernel⟩, ?_⟩
      exact half H' e fun h => by omega
  · have st0 : st = 0 := by
      by_cases z : st = 0
      · exact z
      · exact absurd (by show ((st : Int) != 0) = true; simp; omega) c
    have := t2 st0
    refine ⟨_, rfl, ?_⟩
    have q' := q H' e
    rw [this] at q'
    exact q'
abbrev S_compare_far : Stmt := top 27
abbrev N_compare_far : List Str := ["x", "y", "most", "same", "later"]
abbrev P_compare_far : List Str := ["x", "y"]
theorem sc_compare_far : FnScope N_compare_far P_compare_far (defScope S_compare_far) := ⟨rfl, rfl, rfl, by decide +kernel, rfl, by decide +kernel, by decide +kernel⟩
abbrev S_compare : Stmt := top 26
abbrev N_compare : List Str := ["x", "y", "below"]
abbrev P_compare : List Str := ["x", "y"]
theorem sc_compare : FnScope N_compare P_compare (defScope S_compare) := ⟨rfl, rfl, rfl, by decide +kernel, rfl, by decide +kernel, by decide +kernel⟩
def spFar (K : PySem.W.Frag) (n : Nat) : Sp := fun vs H Q _ => ∃ (a b : Addr) (xs ys : List V) (ds es : List PyData), vs = [.ref a, .ref b] ∧ SqT K H a xs ∧ SqT K H b ys ∧ DpAll K H xs ds ∧ DpAll K H ys es ∧ (∀ d ∈ ds, Fm n d) ∧ (∀ d ∈ es, Fm n d) ∧
  ∀ H' : Hp, Same H H' → Q (.int (lexD (cmpD n) ds.reverse es.reverse)) H'
def spCmp (K : PySem.W.Frag) (n : Nat) : Sp := fun vs H Q _ => ∃ (x y : V) (dx dy : PyData), vs = [x, y] ∧ Dp K H x dx ∧ Dp K H y dy ∧ Fm n dx ∧ Fm n dy ∧ ∀ H' : Hp, Same H H' → Q (.int (cmpD n dx dy)) H'
theorem ok_far {n : Nat} {tk : Tok} (hn : n ≤ 40) (F : Fun K "compare_far" "compare_far" S_compare_far f fd) (B : Blt mg) (MF : mg "FEW_TURNS" = some (.int 8 tk)) (Ccommon_tail : Has P w K mg base 1 "common_tail" P_common_tail [] (spTail K n)) (Ccompare : Has P w K mg base (2 * n + 2) "compare" P_compare [] (spCmp K n)) :
    FnOk P w K mg base CX0 (2 * n + 3) f fd P_compare_far (spFar K n) := by
  have nd := sc_compare_far.nd
  refine F.ok sc_compare_far (fun vs H Q E h => ?_) (fun cdv A outer s H vs Q E hr h => ?_)
  · obtain ⟨a, b, xs, ys, ds, es, rfl, _⟩ := h
    rfl
  obtain ⟨a, b, xs, ys, ds, es, rfl, hA, hB, hd, he, fd1, fe1, q⟩ := h
  refine ⟨_, (pss_cons (ps_set (i := 2) nd rfl (Or.inl rfl) (pe_callB (call_min2 rfl) (by rfl) B.min (by decide +kernel) (pa_cons (pe_callB call_lenT (by rfl) B.len PySem.boot_len (pa_cons (pv 0) pa_nil)) (pa_cons (pe_callB call_lenT (by rfl) B.len PySem.boot_len (pa_cons (pv 1) pa_nil)) pa_nil))))
    (pss_cons (ps_set (i := 3) nd rfl (Or.inl rfl) pe_int)
    (C8.pss_cut (ps_while PassesOwn.never (PW.pt (pw_and (pt_cmpR op_lt (pv 3) (pv 2) (nomark _)) (pw_and1 (pt_cmpR (op_eqD hr.units) (pe_ix ix_tup (pv 0) (pe_op op_sub (pe_un un_neg pe_int) (pv 3)) (fun _ _ => rfl)) (pe_ix ix_tup (pv 1) (pe_op op_sub (pe_un un_neg pe_int) (pv 3)) (fun _ _ => rfl)) (nomark _))))) (pss_cons (ps_aug (i := 3) nd rfl (Or.inl rfl) pe_int ip_add)
    (pss_one (ps_if (pt_cmpR op_eq (pv 3) (pe_glob (v := .int 8) rfl MF ⟨_, rfl⟩) (nomark _)) (pss_cons (ps_set (i := 3) nd rfl (Or.inl rfl) (pe_H Ccommon_tail (hr.mono (by omega)) rfl (pa_cons (pv 0) (pa_cons (pv 1) (pa_cons (pv 2) pa_nil)))))
    (pss_one ps_break)) pss_nil))))
    (C8.pss_cut (ps_if (pt_cmpR op_lt (pv 3) (pv 2) (nomark _)) (pss_one (ps_set (i := 4) nd rfl (Or.inl rfl) (pe_H Ccompare (hr.mono (by omega)) rfl (pa_cons (pe_ix ix_tup (pv 0) (pe_op op_sub (pe_un un_neg pe_int) (pv 3)) (fun _ _ => rfl)) (pa_cons (pe_ix ix_tup (pv 1) (pe_op op_sub (pe_un un_neg pe_int) (pv 3)) (fun _ _ => rfl)) pa_nil))))) (pss_one (ps_if (pt_cmpR op_eq (pe_callB call_lenT (by rfl) B.len PySem.boot_len (pa_cons (pv 0) pa_nil)) (pe_callB call_lenT (by rfl) B.len PySem.boot_len (pa_cons (pv 1) pa_nil)) (nomark _)) (pss_one (ps_ret pe_int)) (pss_one (ps_set (i := 4) nd rfl (Or.inl rfl) (pe_ifExp (pt_cmpR op_eq (pv 3) (pe_callB call_lenT (by rfl) B.len PySem.boot_len (pa_cons (pv 0) pa_nil)) (nomark _)) (pe_un un_neg pe_int) pe_int))))))
    (pss_one (ps_ret (pe_ifExp (pt_truth (pe_op op_and (pe_op op_sub (pe_callB call_lenT (by rfl) B.len PySem.boot_len (pa_cons (pv 0) pa_nil)) (pv 3)) pe_int) (by intro _; rfl)) (pe_un un_neg (pv 4)) (pv 4)))))))), ?_⟩
  have lx := dps_length hd
  have ly := dps_length he
  have cl := ctail_le ds.reverse es.reverse
  have lt := lexD_tail (cmpD n) ds.reverse es.reverse
  rw [List.length_reverse, List.length_reverse] at cl lt
  rw [lt] at q
  clear lt
  obtain ⟨mo, hmo⟩ : ∃ mo : Nat, (if ((ys.length : Int) < (xs.length : Int)) then (ys.length : Int) else (xs.length : Int)) = (mo : Int) := ⟨min xs.length ys.length, by split <;> omega⟩
  have mo1 : mo ≤ ds.length ∧ mo ≤ es.length ∧ ctail ds.reverse es.reverse ≤ mo ∧ (mo = ds.length ∨ mo = es.length) := by
    rw [← lx, ← ly] at *
    split at hmo <;> omega
  obtain ⟨m1, m2, m3, m4⟩ := mo1
  refine ⟨_, rfl, a, _, rfl, hA, _, rfl, b, _, rfl, hB, _, _, rfl, ?_⟩
  rw [hmo]
  refine ⟨fun σ H1 => σ = [some (.ref a), some (.ref b), some (.int (mo : Int)), some (.int ((ctail ds.reverse es.reverse : Nat) : Int)), none] ∧ Same H H1, ?_, ?_⟩
  · refine ⟨fun m σ H' => ∃ sm : Nat, σ = [some (.ref a), some (.ref b), some (.int (mo : Int)), some (.int (sm : Int)), none] ∧ m = 8 - sm ∧ sm < 8 ∧ sm ≤ ctail ds.reverse es.reverse ∧ H' = H, ⟨8, 0, rfl, rfl, by decide, Nat.zero_le _, rfl⟩, ?_⟩
    rintro m σ H' ⟨sm, rfl, rfl, s1, s2, rfl⟩
    refine ⟨_, rfl, _, rfl, _, _, rfl, rfl, _, rfl, ?_⟩
    refine iteD (fun c1 => ?_) (fun c1 => ?_)
    · obtain ⟨vx, hvx⟩ : ∃ v, xs.reverse[sm]? = some v := ⟨_, List.getElem?_eq_getElem (by rw [List.length_reverse]; omega)⟩
      obtain ⟨vy, hvy⟩ : ∃ v, ys.reverse[sm]? = some v := ⟨_, List.getElem?_eq_getElem (by rw [List.length_reverse]; omega)⟩
      obtain ⟨dx, hdx, px⟩ := dps_get (dps_rev hd) hvx
      obtain ⟨dy, hdy, py⟩ := dps_get (dps_rev he) hvy
      have fx : Fm n dx := fd1 dx (List.mem_reverse.mp (List.mem_of_getElem? hdx))
      have fy : Fm n dy := fe1 dy (List.mem_reverse.mp (List.mem_of_getElem? hdy))
      have nx := ctail_next s2 hdx hdy
      refine ⟨_, rfl, _, rfl, _, rfl, _, _, rfl, rfl, a, _, _, _, rfl, rfl, hA, atI_end hvx, _, rfl, _, rfl, _, rfl, _, _, rfl, rfl, b, _, _, _, rfl, rfl, hB, atI_end hvy, dx, dy, px, py, shaped_fm fx hn, shaped_fm fy hn, _, rfl, ?_⟩
      refine ite2 (fun c2 => ?_) (fun c2 => ?_)
      · have h9 := nx.1 c2
        refine ⟨fun σ' H'' => ∃ sm' : Nat, σ' = [some (.ref a), some (.ref b), some (.int (mo : Int)), some (.int (sm' : Int)), none] ∧ sm' = sm + 1 ∧ sm' < 8 ∧ H'' = H', fun σ' H'' h => ?_, ?_⟩
        · obtain ⟨sm', rfl, rfl, h8, rfl⟩ := h
          exact ⟨8 - (sm + 1), by omega, sm + 1, rfl, rfl, h8, h9, rfl⟩
        · refine ⟨_, rfl, _, _, rfl, rfl, ?_⟩
          refine ⟨_, rfl, rfl, _, rfl, ?_⟩
          refine iteD (fun c3 => ?_) (fun c3 => ?_)
          · have c5 : V.int ((sm : Int) + 1) = V.int 8 := c3
            have c4 : sm + 1 = 8 := by injection c5 with c5; omega
            refine ⟨_, rfl, _, rfl, _, rfl, a, b, xs, ys, ds, es, mo, rfl, hA, hB, hd, he, fd1, fe1, m1, m2, m3, by omega, fun H1 e1 => ?_⟩
            exact ⟨rfl, e1⟩
          · have c4 : sm + 1 ≠ 8 := fun h => c3 (show V.int ((sm : Int) + 1) = V.int 8 by congr 1; omega)
            exact ⟨sm + 1, rfl, rfl, by omega, rfl⟩
      · have h9 := nx.2 c2
        exact ⟨by rw [h9], Same.refl _⟩
    · refine iteF ?_
      have h9 : ctail ds.reverse es.reverse = sm := by omega
      exact ⟨by rw [h9], Same.refl _⟩
  rintro σ H1 ⟨rfl, e1⟩
  generalize hc : ctail ds.reverse es.reverse = ct at q cl m3 ⊢
  have hA1 := (Nd.of e1).sqt hA
  have hB1 := (Nd.of e1).sqt hB
  refine ⟨fun σ H3 => ∃ v : Int, σ = [some (.ref a), some (.ref b), some (.int (mo : Int)), some (.int (ct : Int)), some (.int v)] ∧ Same H1 H3 ∧ ¬ (ct = ds.length ∧ ct = es.length) ∧ v = (if ct = ds.length then (-1 : Int) else if ct = es.length then 1 else atD (cmpD n) ds.reverse es.reverse ct), ?_, ?_⟩
  · refine ⟨_, rfl, _, rfl, _, _, rfl, rfl, _, rfl, ?_⟩
    refine iteD (fun c => ?_) (fun c => ?_)
    · have c' : ct ≠ ds.length := by omega
      have c2' : ct ≠ es.length := by omega
      obtain ⟨vx, hvx⟩ : ∃ v, xs.reverse[ct]? = some v := ⟨_, List.getElem?_eq_getElem (by rw [List.length_reverse]; omega)⟩
      obtain ⟨vy, hvy⟩ : ∃ v, ys.reverse[ct]? = some v := ⟨_, List.getElem?_eq_getElem (by rw [List.length_reverse]; omega)⟩
      obtain ⟨dx, hdx, px⟩ := dps_get (dps_rev ((Nd.of e1).ds hd)) hvx
      obtain ⟨dy, hdy, py⟩ := dps_get (dps_rev ((Nd.of e1).ds he)) hvy
      have fx : Fm n dx := fd1 dx (List.mem_reverse.mp (List.mem_of_getElem? hdx))
      have fy : Fm n dy := fe1 dy (List.mem_reverse.mp (List.mem_of_getElem? hdy))
      refine ⟨_, rfl, _, rfl, _, rfl, _, _, rfl, rfl, a, _, _, _, rfl, rfl, hA1, atI_end hvx, _, rfl, _, rfl, _, rfl, _, _, rfl, rfl, b, _, _, _, rfl, rfl, hB1, atI_end hvy, vx, vy, dx, dy, rfl, px, py, fx, fy, fun H3 e3 => ?_⟩
      exact ⟨_, rfl, e3, fun h => c' h.1, by rw [if_neg c', if_neg c2', atD_eq hdx hdy]⟩
    · refine ⟨_, rfl, a, _, rfl, hA1, _, rfl, b, _, rfl, hB1, rfl, _, rfl, ?_⟩
      refine iteD (fun c2 => ?_) (fun c2 => ?_)
      · have c2' : ds.length = es.length := by injection c2 with c2; omega
        have q' := q H1 e1
        rw [if_pos ⟨by omega, by omega⟩] at q'
        exact q'
      · have c2' : ds.length ≠ es.length := fun h => c2 (by congr 1; omega)
        refine ⟨_, rfl, _, rfl, a, _, rfl, hA1, rfl, _, rfl, ?_⟩
        refine iteD (fun c3 => ?_) (fun c3 => ?_)
        · have c3' : ct = ds.length := by injection c3 with c3; omega
          exact ⟨_, rfl, -1, rfl, Same.refl _, fun h => c2' (by omega), by rw [if_pos c3']⟩
        · have c3' : ct ≠ ds.length := fun h => c3 (by congr 1; omega)
          exact ⟨1, rfl, Same.refl _, fun h => c3' h.1, by rw [if_neg c3', if_pos (by omega)]⟩
  rintro σ H3 ⟨v, rfl, e3, hno, hv⟩
  have q' := q H3 (e1.trans e3)
  rw [if_neg hno, ← hv] at q'
  refine ⟨_, rfl, a, _, rfl, (Nd.of e3).sqt hA1, _, rfl, _, _, rfl, rfl, _, _, rfl, rfl, _, rfl, ?_⟩
  have eb : Builtin.bitAnd ((xs.length : Int) - (ct : Int)) 1 = (((ds.length - ct) % 2 : Nat) : Int) := by
    rw [PyProof.Rows.bitAnd_m1]; omega
  refine ite2 (fun c => ?_) (fun c => ?_)
  · have c' : (Builtin.bitAnd ((xs.length : Int) - (ct : Int)) 1 != 0) = true := c
    rw [eb] at c'
    have o : (ds.length - ct) % 2 = 1 := by
      have : (((ds.length - ct) % 2 : Nat) : Int) ≠ 0 := by simpa using c'
      omega
    refine ⟨_, rfl, _, rfl, ?_⟩
    unfold par at q'
    rw [if_pos o] at q'
    exact q'
  · have c' : ¬ (Builtin.bitAnd ((xs.length : Int) - (ct : Int)) 1 != 0) = true := c
    rw [eb] at c'
    have o : ¬ (ds.length - ct) % 2 = 1 := fun o => c' (by rw [o]; rfl)
    refine ⟨_, rfl, ?_⟩
    unfold par at q'
    rw [if_neg o] at q'
    exact q'
theorem ok_cmp {n : Nat} (F : Fun K "compare" "compare" S_compare f fd) (B : Blt mg) (Cis_negative : Has P w K mg base 1 "is_negative" P_is_negative [] (spNeg K))
    {spF : Sp} (hF : ∀ m, n = m + 1 → ∀ vs H Q E, spFar K m vs H Q E → spF vs H Q E) (Ccompare_far : Has P w K mg base (2 * n + 1) "compare_far" P_compare_far [] spF) :
    FnOk P w K mg base CX0 (2 * n + 2) f fd P_compare (spCmp K n) := by
  have nd := sc_compare.nd
  refine F.ok sc_compare (fun vs H Q E h => ?_) (fun cdv A outer s H vs Q E hr h => ?_)
  · obtain ⟨x, y, dx, dy, rfl, _⟩ := h
    rfl
  obtain ⟨x, y, dx, dy, rfl, hx, hy, fx, fy, q⟩ := h
  refine ⟨_, (C8.pss_cut (ps_if (PW.pt (pw_and (pt_val (pe_callB (call_isiI K) (by rfl) B.isinstance (by decide +kernel) (pa_cons (pv 0) (pa_cons (pe_bltn (by rfl) B.int (by decide +kernel) (show RelV (.ty "int") (.type "int") from rfl)) pa_nil)))) (pw_and1 (pt_val (pe_callB (call_isiI K) (by rfl) B.isinstance (by decide +kernel) (pa_cons (pv 1) (pa_cons (pe_bltn (by rfl) B.int (by decide +kernel) (show RelV (.ty "int") (.type "int") from rfl)) pa_nil))))))) (pss_cons (ps_if (pt_cmpR op_eq (pv 0) (pv 1) (nomark _)) (pss_one (ps_ret pe_int)) pss_nil)
    (pss_one (ps_ret (pe_ifExp (pt_cmpR op_lt (pv 0) (pv 1) (nomark _)) (pe_un un_neg pe_int) pe_int)))) pss_nil)
    (pss_cons (ps_set (i := 2) nd rfl (Or.inl rfl) (pe_H Cis_negative (hr.mono (by omega)) rfl (pa_cons (pv 0) pa_nil)))
    (pss_cons (ps_if (pt_cmpR op_ne (pv 2) (pe_H Cis_negative (hr.mono (by omega)) rfl (pa_cons (pv 1) pa_nil)) (nomark _)) (pss_one (ps_ret (pe_ifExp (pt_truth (pv 2) (by intro _; rfl)) (pe_un un_neg pe_int) pe_int))) pss_nil)
    (pss_cons (ps_if (pt_val (pe_callB (call_isiI K) (by rfl) B.isinstance (by decide +kernel) (pa_cons (pv 0) (pa_cons (pe_bltn (by rfl) B.int (by decide +kernel) (show RelV (.ty "int") (.type "int") from rfl)) pa_nil)))) (pss_one (ps_ret (pe_ifExp (pt_truth (pv 2) (by intro _; rfl)) pe_int (pe_un un_neg pe_int)))) pss_nil)
    (pss_cons (ps_if (pt_val (pe_callB (call_isiI K) (by rfl) B.isinstance (by decide +kernel) (pa_cons (pv 1) (pa_cons (pe_bltn (by rfl) B.int (by decide +kernel) (show RelV (.ty "int") (.type "int") from rfl)) pa_nil)))) (pss_one (ps_ret (pe_ifExp (pt_truth (pv 2) (by intro _; rfl)) (pe_un un_neg pe_int) pe_int))) pss_nil)
    (pss_one (ps_ret (pe_H Ccompare_far (hr.mono (by omega)) rfl (pa_cons (pv 0) (pa_cons (pv 1) pa_nil)))))))))), ?_⟩
  have kx : (isI dx = true ∨ isT dx = true) ∧ ∀ b, dx ≠ .bool b := fm_kind fx
  have ky : (isI dy = true ∨ isT dy = true) ∧ ∀ b, dy ≠ .bool b := fm_kind fy
  refine ⟨fun σ H1 => σ = [some x, some y, none] ∧ H1 = H ∧ ¬ (isI dx = true ∧ isI dy = true), ?_, ?_⟩
  · refine ⟨_, rfl, x, dx, rfl, hx, _, rfl, ?_⟩
    refine ite2 (fun c1 => ?_) (fun c1 => ?_)
    · refine ⟨_, rfl, y, dy, rfl, hy, _, rfl, ?_⟩
      refine ite2 (fun c2 => ?_) (fun c2 => ?_)
      · obtain ⟨i, rfl⟩ := fm_int fx c1
        obtain ⟨j, rfl⟩ := fm_int fy c2
        have ec : cmpD n (.int i) (.int j) = sgnI i j := by cases n <;> rfl
        rw [ec] at q
        cases hx
        cases hy
        refine ⟨_, rfl, _, rfl, rfl, _, rfl, ?_⟩
        refine iteD (fun c => ?_) (fun c => ?_)
        · injection c with c
          subst c
          rw [sgnI_self] at q
          exact q H (Same.refl H)
        · have c' : i ≠ j := fun h => c (by rw [h])
          refine ⟨_, rfl, _, rfl, _, _, rfl, rfl, _, rfl, ?_⟩
          refine iteD (fun c3 => ?_) (fun c3 => ?_)
          · rw [sgnI_lt c3] at q
            exact ⟨_, rfl, q H (Same.refl H)⟩
          · rw [sgnI_gt (show j < i by omega)] at q
            exact q H (Same.refl H)
      · exact ⟨rfl, rfl, fun h => c2 h.2⟩
    · exact iteF ⟨rfl, rfl, fun h => c1 h.1⟩
  rintro σ H1 ⟨rfl, rfl, hno⟩
  refine ⟨_, rfl, x, dx, rfl, hx, kx.1, kx.2, fun H2 e2 => ?_⟩
  refine ⟨_, rfl, _, rfl, y, dy, rfl, (Nd.of e2).d hy, ky.1, ky.2, fun H3 e3 => ?_⟩
  have e23 := e2.trans e3
  have hx3 := (Nd.of e23).d hx
  have hy3 := (Nd.of e23).d hy
  cases n with
  | zero =>
    obtain ⟨i, rfl⟩ := fx
    obtain ⟨j, rfl⟩ := fy
    exact absurd ⟨rfl, rfl⟩ hno
  | succ k =>
  refine ⟨rfl, _, rfl, ?_⟩
  refine iteDN (fun c => ?_) (fun c => ?_)
  · have c' : negD dx ≠ negD dy := fun h => c (by rw [h])
    rw [cmp_ne fx fy hno c'] at q
    refine ⟨_, rfl, _, rfl, ?_⟩
    refine ite2 (fun c2 => ?_) (fun c2 => ?_)
    · rw [if_pos c2] at q; exact ⟨_, rfl, q H3 e23⟩
    · rw [if_neg c2] at q; exact q H3 e23
  · have c' : negD dx = negD dy := by injection c
    refine ⟨_, rfl, x, dx, rfl, hx3, _, rfl, ?_⟩
    refine ite2 (fun c1 => ?_) (fun c1 => ?_)
    · rw [cmp_ix fx fy hno c' c1] at q
      refine ⟨_, rfl, _, rfl, ?_⟩
      refine ite2 (fun c2 => ?_) (fun c2 => ?_)
      · rw [if_pos c2] at q; exact q H3 e23
      · rw [if_neg c2] at q; exact ⟨_, rfl, q H3 e23⟩
    · refine ⟨_, rfl, y, dy, rfl, hy3, _, rfl, ?_⟩
      refine ite2 (fun c3 => ?_) (fun c3 => ?_)
      · rw [cmp_iy fx fy hno c' c1 c3] at q
        refine ⟨_, rfl, _, rfl, ?_⟩
        refine ite2 (fun c2 => ?_) (fun c2 => ?_)
        · rw [if_pos c2] at q; exact ⟨_, rfl, q H3 e23⟩
        · rw [if_neg c2] at q; exact q H3 e23
      · obtain ⟨xs, rfl, _, fxs⟩ := fm_tup fx c1
        obtain ⟨ys, rfl, _, fys⟩ := fm_tup fy c3
        have ec : cmpD (k + 1) (.tuple xs) (.tuple ys) = lexD (cmpD k) xs.reverse ys.reverse := if_pos c'
        rw [ec] at q
        cases hx3 with
        | @tup a vx _ hA hd =>
        cases hy3 with
        | @tup b vy _ hB he =>
        exact ⟨_, rfl, _, rfl, hF k rfl _ _ _ _ ⟨a, b, vx, vy, xs, ys, rfl, hA, hB, hd, he, fxs, fys, fun H4 e4 => q H4 (e23.trans e4)⟩⟩
/-- both, by induction -/
theorem ok_order {n : Nat} {tk : Tok} (FC : Fun K "compare" "compare" S_compare f fd) (bC : Binds K fd P_compare []) (mC : mg "compare" = some (.ref f)) {g : Addr} {gd : FuncData} (FF : Fun K "compare_far" "compare_far" S_compare_far g gd) (bF : Binds K gd P_compare_far []) (mF : mg "compare_far" = some (.ref g)) (B : Blt mg)
    (Cis_negative : Has P w K mg base 1 "is_negative" P_is_negative [] (spNeg K)) {t : Addr} {td : FuncData} (FT : Fun K "common_tail" "common_tail" S_common_tail t td) (bT : Binds K td P_common_tail []) (mT : mg "common_tail" = some (.ref t)) (MF : mg "FEW_TURNS" = some (.int 8 tk)) (hn : n ≤ 40) :
    FnOk P w K mg base CX0 (2 * n + 2) f fd P_compare (spCmp K n) := by
  induction n with
  | zero => exact ok_cmp FC B Cis_negative (spF := fun _ _ _ _ => False) (fun m h => by cases h) ⟨g, gd, [], fnok_no, FF.kp, mF, .nil, bF⟩
  | succ n ih =>
    have h1 := ih (by omega)
    have CT : Has P w K mg base 1 "common_tail" P_common_tail [] (spTail K n) := ⟨t, td, [], ok_tail (by omega) FT B MF, FT.kp, mT, .nil, bT⟩
    have h2 := ok_far (by omega) FF B MF CT ⟨f, fd, [], h1, FC.kp, mC, .nil, bC⟩
    exact ok_cmp FC B Cis_negative (spF := spFar K n) (fun m h vs H Q E k => by cases h; exact k) ⟨g, gd, [], h2.mono (by omega), FF.kp, mF, .nil, bF⟩
theorem ok_compare_far {n : Nat} {tk : Tok} {c : Addr} {cd : FuncData} (FC : Fun K "compare" "compare" S_compare c cd) (bC : Binds K cd P_compare []) (mC : mg "compare" = some (.ref c)) (FF : Fun K "compare_far" "compare_far" S_compare_far f fd) (bF : Binds K fd P_compare_far []) (mF : mg "compare_far" = some (.ref f)) (B : Blt mg)
    (Cis_negative : Has P w K mg base 1 "is_negative" P_is_negative [] (spNeg K)) {t : Addr} {td : FuncData} (FT : Fun K "common_tail" "common_tail" S_common_tail t td) (bT : Binds K td P_common_tail []) (mT : mg "common_tail" = some (.ref t)) (MF : mg "FEW_TURNS" = some (.int 8 tk)) (hn : n ≤ 40) :
    FnOk P w K mg base CX0 (2 * n + 3) f fd P_compare_far (spFar K n) :=
  ok_far hn FF B MF ⟨t, td, [], ok_tail hn FT B MF, FT.kp, mT, .nil, bT⟩ ⟨c, cd, [], ok_order FC bC mC FF bF mF B Cis_negative FT bT mT MF hn, FC.kp, mC, .nil, bC⟩
end
end Fb
namespace Fb
open PySem L2
section
variable {P : Program} {w : World} {K : PySem.W.Frag} {mg : Str → Option Value} {base : Heap} {f : Addr} {fd : FuncData}
/-- a count of the tree v by g, all else as it was -/
def spCount (K : PySem.W.Frag) (g : Nat → PyData → Int) : Nat → Sp
  | 0 => fun _ _ _ _ => False
  | n + 1 => fun vs H Q _ => ∃ (v : V) (d : PyData), vs = [v] ∧ Dp K H v d ∧ Fm n d ∧ ∀ H' : Hp, Same H H' → Q (.int (g n d)) H'
def spHeight (K : PySem.W.Frag) : Nat → Sp
  | 0 => fun _ _ _ _ => False
  | n + 1 => fun vs H Q _ => ∃ (v : V) (d : PyData), vs = [v] ∧ Dp K H v d ∧ Fm n d ∧ Ne n d ∧ ∀ H' : Hp, Same H H' → Q (.int (ht n d)) H'
def spLevels (K : PySem.W.Frag) (n : Nat) : Sp := fun vs H Q _ => ∃ (v : V) (d : PyData), vs = [v] ∧ Dp K H v d ∧ Fm n d ∧ Sp_ n d ∧ ∀ H' : Hp, Same H H' → Q (.int (lv n d)) H'
abbrev S_parts_in : Stmt := top 40
abbrev N_parts_in : List Str := ["x", "turn"]
abbrev P_parts_in : List Str := ["x"]
theorem sc_parts_in : FnScope N_parts_in P_parts_in (defScope S_parts_in) := ⟨rfl, rfl, rfl, by decide +kernel, rfl, by decide +kernel, by decide +kernel⟩
theorem ok_parts_step {n : Nat} (F : Fun K "parts_in" "parts_in" S_parts_in f fd) (B : Blt mg) (Cparts_in : Has P w K mg base n "parts_in" P_parts_in [] (spCount K sz n)) : FnOk P w K mg base CX0 (n + 1) f fd P_parts_in (spCount K sz (n + 1)) := by
  have nd := sc_parts_in.nd
  refine F.ok sc_parts_in (fun vs H Q E h => ?_) (fun cdv A outer s H vs Q E hr h => ?_)
  · obtain ⟨v, d, rfl, _⟩ := h
    rfl
  obtain ⟨v, d, rfl, hd, hf, q⟩ := h
  refine ⟨_, (pss_cons (ps_if (pt_val (pe_callB (call_isiI K) (by rfl) B.isinstance (by decide +kernel) (pa_cons (pv 0) (pa_cons (pe_bltn (by rfl) B.int (by decide +kernel) (show RelV (.ty "int") (.type "int") from rfl)) pa_nil)))) (pss_one (ps_ret pe_int)) pss_nil)
    (pss_one (ps_ret (pe_op op_add pe_int (pe_callB (cr_sum rfl) (by rfl) B.sum (by decide +kernel) (pa_cons (pe_lc (own := [("turn", 1)]) (g := gName 1) (tt := tYes) rfl nd (pi_tup (pv 0)) (blkOk_by (own := [("turn", 1)]) (N := N_parts_in) (sc := defScope S_parts_in) (by decide +kernel)) (fun _ _ _ _ _ => pg_name (i := 1) nd rfl (Or.inl rfl)) (fun _ _ _ _ _ => pts_nil) (fun _ _ _ _ _ => (pe_ifExp (pt_val (pe_callB (call_isiI K) (by rfl) B.isinstance (by decide +kernel) (pa_cons (pv 1) (pa_cons (pe_bltn (by rfl) B.int (by decide +kernel) (show RelV (.ty "int") (.type "int") from rfl)) pa_nil)))) pe_int (pe_H Cparts_in hr rfl (pa_cons (pv 1) pa_nil))))) pa_nil)))))), ?_⟩
  refine ⟨_, rfl, _, d, rfl, hd, _, rfl, ?_⟩
  refine ite2 (fun c => ?_) (fun c => ?_)
  · have e : sz n d = 1 := by cases d <;> first | exact absurd c Bool.false_ne_true | (cases n <;> rfl)
    rw [e] at q
    exact q H (Same.refl H)
  · cases n with
    | zero =>
      obtain ⟨i, rfl⟩ := hf
      exact absurd rfl c
    | succ k =>
      rcases hf with ⟨i, rfl⟩ | ⟨ds, rfl, hl, hc⟩
      · exact absurd rfl c
      cases hd with
      | @tup a xs _ hs ha =>
        refine ⟨_, rfl, a, rfl, ⟨_, hs⟩, fun D nD => ?_⟩
        have hlen := dps_length ha
        refine lc_tup (xs := xs) (fun i H' => Same H H' ∧ H' D = some (.lst (((ds.take i).map (sz k)).map V.int))) ⟨Same.new nD, upd_same⟩ (fun i H' _ p => (Nd.of p.1).sqt hs) (fun i x H' hx p => ?_) (fun H' p => ?_)
        · obtain ⟨e, hD⟩ := p
          obtain ⟨d1, hd1, hp1⟩ := dps_get ha hx
          have hi : i < ds.length := (List.getElem?_eq_some_iff.mp hd1).1
          have hm : d1 ∈ ds := List.mem_of_getElem? hd1
          have et : ds.take (i + 1) = ds.take i ++ [d1] := by rw [List.take_add_one, hd1]; rfl
          have fin : ∀ H4, Same H' H4 → ∃ acc, H4 D = some (.lst acc) ∧ acc.length < sizeLine ∧ (Same H (upd H4 D (.lst (acc ++ [V.int (sz k d1)]))) ∧ upd H4 D (.lst (acc ++ [V.int (sz k d1)])) D = some (.lst (((ds.take (i + 1)).map (sz k)).map V.int))) := fun H4 e4 => by
            refine ⟨_, e4 _ _ hD, ?_, Same.mut (e.trans e4) nD, ?_⟩
            · rw [List.length_map, List.length_map, List.length_take]
              exact Nat.lt_of_le_of_lt (Nat.min_le_right _ _) (Nat.lt_of_le_of_lt hl (by decide))
            · rw [upd_same, et, List.map_append, List.map_append]
              rfl
          refine ⟨rfl, lcT ?_⟩
          refine ⟨_, rfl, _, d1, rfl, (Nd.of e).d hp1, _, rfl, ?_⟩
          refine ite2 (fun c1 => ?_) (fun c1 => ?_)
          · have e1 : sz k d1 = 1 := by cases d1 <;> first | exact absurd c1 Bool.false_ne_true | (cases k <;> rfl)
            rw [e1] at fin
            exact fin H' (Same.refl H')
          · exact ⟨_, rfl, x, d1, rfl, (Nd.of e).d hp1, hc d1 hm, fun H4 e4 => fin H4 e4⟩
        · obtain ⟨e, hD⟩ := p
          rw [show xs.length = ds.length from hlen, List.take_length] at hD
          refine ⟨_, _, rfl, SqL.of hD, _, _, rfl, rfl, ?_⟩
          exact q H' e
theorem ok_parts (F : Fun K "parts_in" "parts_in" S_parts_in f fd) (B : Blt mg) (b : Binds K fd P_parts_in []) (m : mg "parts_in" = some (.ref f)) : ∀ n : Nat, FnOk P w K mg base CX0 n f fd P_parts_in (spCount K sz n)
  | 0 => fnok_no
  | n + 1 => ok_parts_step F B ⟨f, fd, [], ok_parts F B b m n, F.kp, m, .nil, b⟩
abbrev S_levels_in : Stmt := top 41
abbrev N_levels_in : List Str := ["x", "levels"]
abbrev P_levels_in : List Str := ["x"]
theorem sc_levels_in : FnScope N_levels_in P_levels_in (defScope S_levels_in) := ⟨rfl, rfl, rfl, by decide +kernel, rfl, by decide +kernel, by decide +kernel⟩
theorem ok_levels {n : Nat} (F : Fun K "levels_in" "levels_in" S_levels_in f fd) (B : Blt mg) : FnOk P w K mg base CX0 1 f fd P_levels_in (spLevels K n) := by
  have nd := sc_levels_in.nd
  refine F.ok sc_levels_in (fun vs H Q E h => ?_) (fun cdv A outer s H vs Q E hr h => ?_)
  · obtain ⟨v, d, rfl, _⟩ := h
    rfl
  obtain ⟨v, d, rfl, hd, hf, hs, q⟩ := h
  refine ⟨_, (pss_cons (ps_set (i := 1) nd rfl (Or.inl rfl) pe_int)
    (pss_cons (ps_while PassesOwn.never (pt_not (pt_val (pe_callB (call_isiI K) (by rfl) B.isinstance (by decide +kernel) (pa_cons (pv 0) (pa_cons (pe_bltn (by rfl) B.int (by decide +kernel) (show RelV (.ty "int") (.type "int") from rfl)) pa_nil))))) (pss_cons (ps_set (i := 0) nd rfl (Or.inl rfl) (pe_ix ix_tup (pv 0) (pe_un un_neg pe_int) (fun _ _ => rfl)))
    (pss_one (ps_aug (i := 1) nd rfl (Or.inl rfl) pe_int ip_add))))
    (pss_one (ps_ret (pv 1))))), ?_⟩
  refine ⟨fun m σ H' => ∃ v d' l, σ = [some v, some (.int l)] ∧ Dp K H' v d' ∧ Fm m d' ∧ Sp_ m d' ∧ l + lv m d' = lv n d ∧ Same H H', ⟨n, v, d, 0, rfl, hd, hf, hs, by omega, Same.refl H⟩, ?_⟩
  rintro m σ H' ⟨v, d', l, rfl, hd', hf', hs', ht', e⟩
  refine ⟨_, rfl, _, d', rfl, hd', _, rfl, ?_⟩
  cases m with
  | zero =>
    obtain ⟨i, rfl⟩ := hf'
    have z : lv 0 (.int i) = 0 := rfl
    refine iteF ?_
    refine ⟨_, rfl, ?_⟩
    rw [z, Int.add_zero] at ht'
    rw [ht']
    exact q H' e
  | succ k =>
    rcases hf' with ⟨i, rfl⟩ | ⟨ds, rfl, hl, hc⟩
    · have z : lv (k + 1) (.int i) = 0 := rfl
      refine iteF ?_
      refine ⟨_, rfl, ?_⟩
      rw [z, Int.add_zero] at ht'
      rw [ht']
      exact q H' e
    · refine iteT ?_
      obtain ⟨dl, el, _, hs2⟩ := hs'
      cases hd' with
      | @tup a xs _ hsq ha =>
        obtain ⟨ini, rfl⟩ : ∃ ini, ds = ini ++ [dl] := List.getLast?_eq_some_iff.mp el
        obtain ⟨x, ex, hx⟩ := dps_last ha
        refine ⟨fun σ' H'' => ∃ v d' l, σ' = [some v, some (.int l)] ∧ Dp K H'' v d' ∧ Fm k d' ∧ Sp_ k d' ∧ l + lv k d' = lv n d ∧ Same H H'', fun σ' H'' h => ⟨k, Nat.lt_succ_self k, h⟩, ?_⟩
        refine ⟨_, rfl, _, rfl, a, _, _, _, rfl, rfl, hsq, ex, ?_⟩
        refine ⟨_, rfl, _, _, rfl, rfl, ?_⟩
        refine ⟨x, dl, l + 1, rfl, hx, hc dl (List.mem_append_right _ List.mem_cons_self), hs2, ?_, e⟩
        have z : lv (k + 1) (.tuple (ini ++ [dl])) = 1 + lv k dl := by
          show (match (ini ++ [dl]).getLast? with | some d => 1 + lv k d | none => 1) = _
          rw [el]
        omega
end
end Fb
namespace Fb
open PySem L2 NdefX
/-! ### an __init__ that begins with super().__init__(e), two classes above ValueError -/
structure SxF (P : Program) (K : PySem.W.Frag) (mg : Str → Option Value) (C cc cda : Addr) (qual : Str) : Prop where
  cod : PySem.W.codeIn K (.ref cda) qual = true
  file : ∃ ccl cdd vs ccs file tf, K.lookup cda = some ⟨ccl, cdd, .fields vs, ccs⟩ ∧ vs[2]? = some (.str file tf) ∧ ((P.main.file : Str) == file) = true
  cell : ∃ cl cld csl, K.lookup cc = some ⟨cl, cld, .cell (some (.ref C)), csl⟩
  sup : PySem.W.ks_superIn K C C "__init__" = some (some (.builtin "ValueError.__init__"))
  subVE : PySem.W.subIn K (.ref C) (.type "ValueError") = some true
  mroS : PySem.W.mroIn K C (.ref C) = some true
  oex : OexC K C
  opq : PySem.W.nsIn K cStatics "thirdparty.any" = some none
  top : (P.main.scope.names.lookup ("super" : Str)).isSome = false
  mgS : mg "super" = none
/-- the built-in __init__ bound to an exception, called -/
theorem call_mwVE {prog : Program} {w : World} {A : Around} {E : Value → Shared → Prop} {h : Heap} {g : Array GenState} {d : Drawn} {t : Nat} {os : OsState} {nm q : Str} {C N : Addr} {bs bm : List Value} {hdct : Bool} {sn : List Str} {sub : List Value} {ab : Bool} {col : Option Bool} {dd : Option Addr} {k0 k1 k2 k3 k5 : Option Value}
    {u e t0 : Addr} {rest : List Value} {Q : Value → Shared → Prop}
    (hC : h.get? C = some (excClassObj nm q C N bs bm hdct sn sub ab col dd k0 k1 k2 k3 k5 "ValueError.__new__")) (he : h.get? e = some (HandSPX.excO C t0)) (hu : h.get? u = some (PySem.W.kxs_mw "ValueError.__init__" e)) (hrest : rest.length ≤ sizeLine)
    (hq : ∀ h' t1, (∀ b o, b ≠ e → h.get? b = some o → h'.get? b = some o) → h'.get? e = some (HandSPX.excO C t1) → Q .none ⟨h', g, d, t, os⟩) :
    wpAny (model prog w) A (call (.ref u) rest) Q E ⟨h, g, d, t, os⟩ := by
  refine wpAny_call (codeAny_of_tree ?_)
  show wpAny _ A.in1 (callAny (.ref u) ⟨rest, []⟩) _ _ _
  simp only [callAny]
  refine wpAny_bind (wpAny_load hu ?_)
  simp only [PySem.W.kxs_mw, show (Value.type "method-wrapper" == Value.type "method" || Value.type "method-wrapper" == Value.type "builtin_function_or_method" || Value.type "method-wrapper" == Value.type "method-wrapper") = true by decide, if_true]
  refine PySem.W.KFB.if_so (by decide) ?_
  refine wpAny_bind (PySem.W.check_bound_init F.excBase_ValueError.toExcCallFacts hC he rfl ?_)
  refine wpAny_bind (wpAny_pure (wpAny_pure ?_))
  refine ⟨Code.quiet_builtin _ (by decide +kernel), codeAny_builtin F.excBase_ValueError.initEntry ?_⟩
  rw [Around.under_plainId F.excBase_ValueError.init.plain _]
  exact PySem.W.exc_init_tree (cls := .ref C) (t0 := t0) (dv := none) (c2 := .none) (c3 := .none) (b4 := .bool false) he hrest fun h' k e' _ => hq h' h.objs.size k e'
abbrev sxN (qual : Str) (st : Stmt) (cc cda : Addr) : NF := ⟨"__init__", qual, defArgs st, defBody st, defScope st, [("__class__", cc)], cda⟩
abbrev sxFd (qual : Str) (st : Stmt) (cc cda : Addr) (kV doc pm : Value) (an : Option Addr) (ct : Value) : FuncData := PySem.W.fnX "__init__" qual (defArgs st) (defBody st) (defScope st) [("__class__", cc)] .none kV doc pm an (.ref cda) ct
theorem sx_ok {P : Program} {w : World} {K : PySem.W.Frag} {mg : Str → Option Value} {base : Heap} {k : Nat} {C f cc cda : Addr} {qual : Str} {st : Stmt} {N ps : List Str} {sp : Sp} {oc : Value} {od : Option Addr} {osl : Array (Option Value)} {kV doc pm ct : Value} {an : Option Addr}
    {p0 p1 ap cp ep : Pos} {e : Expr} {rest : List Stmt} {ar : Arg} {pl : Sem Bool}
    (T : SxF P K mg C cc cda qual) (lk : K.lookup f = some ⟨oc, od, .func (sxFd qual st cc cda kV doc pm an ct), osl⟩) (S : NScope N ps ["__class__"] (defScope st)) (hsu : (defScope st).names.lookup ("super" : Str) = some .globalImplicit)
    (hst : defBody st = .Expr (.Call (.Attribute (.Call (.Name "super" p0) [] [] p1) "__init__" ap) [e] [] cp) ep :: rest)
    (hi : ∀ L, interactive (envF (sxN qual st cc cda) f L) = false) (hs : ∀ L, swapsWith (.Call (.Attribute (.Call (.Name "super" p0) [] [] p1) "__init__" ap) [e] [] cp) none ep.line (envF (sxN qual st cc cda) f L) = pure false)
    (hcall : ∀ L, eval (.Call (.Attribute (.Call (.Name "super" p0) [] [] p1) "__init__" ap) [e] [] cp) (envF (sxN qual st cc cda) f L) = (do
      let ov ← attributeBase (.Call (.Name "super" p0) [] [] p1) "__init__" (envF (sxN qual st cc cda) f L) (eval (.Call (.Name "super" p0) [] [] p1) (envF (sxN qual st cc cda) f L))
      standAt ap.atName
      let (g, first) ← holding [ov] (getMethod ov "__init__" pl)
      callWith cp g first (backTo cp (starEach [e] (envF (sxN qual st cc cda) f L))) []))
    (hstar : ∀ L, starEach [e] (envF (sxN qual st cc cda) f L) = [(false, eval e (envF (sxN qual st cc cda) f L))])
    (hpar : ((defArgs st).posonlyargs ++ (defArgs st).args).head? = some ar) (har : ps[0]? = some ar.arg) (len : ∀ vs H Q E, sp vs H Q E → vs.length = ps.length)
    (hbody : ∀ (A : Around) (outer : List Env) (s : Shared) (H : Hp) (vs : List V) (Q : VK) (E : XK), Room k (A.deeper (envF (sxN qual st cc cda) f s.heap.objs.size)) → sp vs H Q E →
      ∃ a ws ta t, vs = V.ref a :: ws ∧ H a = some (exo a C none) ∧ PA (ncx CX0 P w K mg base N (sxN qual st cc cda) f A outer s H E) [e] ta ∧ PSs (ncx CX0 P w K mg base N (sxN qual st cc cda) f A outer s H E) rest t ∧
        ta (startF N vs [some (.ref C)]) H fun us H1 => us.length ≤ 1000 ∧ H1 a = some (exo a C none) ∧ t { nx := fun _ H' => Q .non H', rt := Q } (startF N vs [some (.ref C)]) H1) :
    FnOk P w K mg base CX0 (k + 1) f (sxFd qual st cc cda kV doc pm an ct) ps sp := by
  refine ⟨len, fun A outer s H args us vs Q E hr e0 hb r hsp => ?_⟩
  have hl := len _ _ _ _ hsp
  have KX : K.In s.heap := e0.mod.kin.keeps fun b o e => (e0.bs b o e).1
  have lim : s.heap.NoLimit := e0.mod.nolimit.keeps fun b o e => (e0.bs b o e).1
  obtain ⟨cl, cld, csl, hcell⟩ := T.cell
  have hcc := e0.bs _ _ (e0.mod.kin _ _ hcell)
  have CA : CellsAt (sxN qual st cc cda).cl ["__class__"] [some (.ref C)] s.heap H := by
    have key : ∀ y c, ([("__class__", cc)] : List (Str × Addr)).lookup y = some c → y = "__class__" ∧ c = cc := fun y c h => by
      by_cases hy : y = ("__class__" : Str)
      · subst hy
        exact ⟨rfl, (Option.some.inj (show some cc = some c from h)).symm⟩
      · rw [List.lookup_cons, show (y == ("__class__" : Str)) = false from beq_eq_false_iff_ne.mpr hy] at h
        cases h
    exact ⟨rfl, fun y c h => by
      obtain ⟨_, rfl⟩ := key y c h
      exact ⟨hcc.2, _, _, hcc.1, rfl⟩, fun x y c h1 h2 => (key x c h1).1.trans (key y c h2).1.symm, fun i y hy => by
      cases i with
      | zero =>
        cases hy
        exact ⟨cc, rfl, fun v hv => by cases hv; exact ⟨.ref C, rfl, _, hcc.1, rfl⟩⟩
      | succ i => cases hy⟩
  refine codeAny_call_function hr.depth (KX _ _ lk) rfl S.co S.gen rfl (PySem.W.codeRec_of KX T.cod) (hb _ _ _ _ ?_)
  refine wpAny_newFunctionEnv S.nocell (fun ⟨n, _⟩ hy => S.par n (List.of_mem_zip hy).1) (fun h₁ hns hsb => ⟨lim.fresh _ hsb, ?_⟩) S.kind
  show codeAny _ _ (.func (sxN qual st cc cda).body (envF (sxN qual st cc cda) f s.heap.objs.size)) _ _
  refine ks_codeAny_funcAt ?_
  have kp : ∀ b o, s.heap.get? b = some o → h₁.get? b = some o := fun b o e => hsb.extBut b o (Nat.ne_of_lt (Heap.lt_size e)) (Heap.get?_push_of_some _ e)
  obtain ⟨a, ws, ta, t, rfl, ha, hpa, ht, hq⟩ := hbody A outer s H _ Q E (hr.deeper _) hsp
  have I : Inv (ncx CX0 P w K mg base N (sxN qual st cc cda) f A outer s H E) [] (startF N (V.ref a :: ws) [some (.ref C)]) H { s with heap := h₁, toks := s.toks + (ps.zip us).length } := inv_startN S hr.hd e0 hl r CA hns kp
  show _root_.PySem.wpAt (model P w) (A.deeper (envF (sxN qual st cc cda) f s.heap.objs.size)) (.func (defBody st) (envF (sxN qual st cc cda) f s.heap.objs.size)) (execs (defBody st) (envF (sxN qual st cc cda) f s.heap.objs.size)) _ _ _
  have fin : ∀ {σ' : L2.St} {H' : Hp} {v : V} {u : Value} {s' : Shared}, Inv (ncx CX0 P w K mg base N (sxN qual st cc cda) f A outer s H E) [] σ' H' s' → L2.RelV v u → Q v H' → CE outer P w H s Q u s' :=
    fun {σ' H' v u s'} J rv q => ⟨v, H', J.os, J.bare, J.base, J.hok, rv, q⟩
  -- what follows the first statement
  have restOk : ∀ (H1 : Hp) (s1 : Shared), Inv (ncx CX0 P w K mg base N (sxN qual st cc cda) f A outer s H E) [] (startF N (V.ref a :: ws) [some (.ref C)]) H1 s1 → t { nx := fun _ H' => Q .non H', rt := Q } (startF N (V.ref a :: ws) [some (.ref C)]) H1 →
      wpAny (model P w) (A.deeper (envF (sxN qual st cc cda) f s.heap.objs.size)) (execs rest (envF (sxN qual st cc cda) f s.heap.objs.size)) (fun f s' => CR CX0 outer P w H s Q E (.ok (.ret (match f with | .ret v => v | _ => .none))) s')
        (fun e s' => wpAny (model P w) (A.deeper (envF (sxN qual st cc cda) f s.heap.objs.size)) (leaving (envF (sxN qual st cc cda) f s.heap.objs.size) e) (fun _ s'' => CR CX0 outer P w H s Q E (.error e) s'') (fun e' s'' => CR CX0 outer P w H s Q E (.error e') s'') s') s1 := fun H1 s1 I1 q1 => by
    refine wpAny_mono (ht.run [] _ _ H1 _ I1 q1) (fun fl s' hs => ?_) fun e s' hs => hs
    cases fl with
    | ret u =>
      obtain ⟨v, σ', H', J, rv, q⟩ := hs
      exact fin J rv q
    | next =>
      obtain ⟨σ', H', J, q⟩ := hs
      exact fin (v := V.non) (u := Value.none) J rfl q
    | brk =>
      obtain ⟨_, _, _, q⟩ := hs
      exact False.elim q
    | cont =>
      obtain ⟨_, _, _, q⟩ := hs
      exact False.elim q
  rw [hst]
  generalize hX : ncx CX0 P w K mg base N (sxN qual st cc cda) f A outer s H E = X at *
  refine ks_wpAt_execs_cons (ks_wpAt_Expr_any ?_ (hi _) (hs _))
  refine ks_wpAt_MethodCall (pl := pl) ?_ (hcall _)
  obtain ⟨ccl, cdd, vs0, ccs, file, tf, hcode, hvs, hfile⟩ := T.file
  obtain ⟨nm, q, NN, bs, bm, sn, sub, ab, col, dd, k0, k1, k2, k3, k5, hC, hbm⟩ := T.oex.cls
  obtain ⟨t1, hae⟩ := exo_at I.hok ha
  have KX1 : K.In h₁ := KX.keeps kp
  have hCo := KX1 _ _ hC
  obtain ⟨mb, hb1, hb2⟩ := e0.mod.blt
  have bk : ∀ b o, base.get? b = some o → h₁.get? b = some o := fun b o z => kp _ _ (e0.bs b o z).1
  have hself : (fun y => (ps.zip us).reverse.lookup y) ar.arg = some (.ref a) := by
    cases r with
    | @cons _ u0 _ ur ra rw' =>
      obtain rfl : u0 = Value.ref a := ra
      refine zip_look (i := 0) ?_ har rfl
      have q := S.nd.sublist (List.take_sublist (ps.length + [("__class__" : Str)].length) N)
      rw [S.pre] at q
      exact (List.nodup_append.mp q).1
  refine ks_wpAt_super_base (env := envF (sxN qual st cc cda) f s.heap.objs.size) hsu (S.frk _ (List.mem_singleton.mpr rfl)) (by decide) rfl (KX1 _ _ lk) rfl hpar rfl (KX1 _ _ hcode) rfl hvs hfile T.top ?_
  refine PySem.W.ks_loadName_global S.kind hsu (Calls.loadGlobal_builtin (env := envF (sxN qual st cc cda) f s.heap.objs.size) (e0.mod.glob.keeps bk) T.mgS (hb1.keeps bk) ((hb2 _ (by decide)).trans (by decide +kernel)) ⟨rfl, ?_⟩)
  refine wpAny_loadName_free S.kind (S.frk _ (List.mem_singleton.mpr rfl)) rfl ⟨_, KX1 _ _ hcell, rfl⟩ ?_
  refine wpAny_loadName_local S.kind (S.par _ (List.mem_of_getElem? har)) hns hself ?_
  have hcl : PySem.W.clsIn K C = some { name := nm, bases := bs, mro := .ref C :: bm, ns := NN, qualname := q, hasDict := true, slotNames := sn, subclasses := sub, abstract := ab, collection := col, hasDel := false } := by unfold PySem.W.clsIn; rw [hC] <;> rfl
  refine ks_wpAny_isType_cls hCo rfl ⟨rfl, ?_⟩
  have IA : PySem.W.InstAt h₁ a { cls := .ref C, dict := none, data := .fields #[.ref t1, .none, .none, .none, .bool false, .none] } C none := ⟨hae, rfl, rfl, trivial⟩
  refine ks_wpAny_call_super hCo rfl hae rfl (fun c e => by cases e) (PySem.W.looks_mroIn KX1 T.mroS) (fun h2 hso k2 => ?_)
  have KX2 : K.In h2 := KX1.keeps k2
  have hsup := T.sup
  unfold PySem.W.ks_superIn at hsup
  rw [hcl] at hsup
  have hae2 := k2 _ _ hae
  have IA2 : PySem.W.InstAt h2 a { cls := .ref C, dict := none, data := .fields #[.ref t1, .none, .none, .none, .bool false, .none] } C none := ⟨hae2, rfl, rfl, trivial⟩
  have hane : a ≠ C := PySem.W.ks_ne KX2 IA2 hcl
  refine PySem.W.kxs_getMethod PySem.W.kxs_ValueError hso (PySem.W.looks_opaque KX2 T.opq) (l₀ := .ref C :: bm) ?_ rfl KX2 hsup (IA2.type.andThen (PySem.W.looks_subIn KX2 T.subVE)) hane (by decide) ?_
  · exact fun A Q E s k q => wpAny_bind ((PySem.W.looks_clsIn KX2 hcl) A _ E s k (wpAny_pure q))
  have kp2 : ∀ b o, h₁.get? b = some o → (h2.push (PySem.W.kxs_mw "ValueError.__init__" a)).get? b = some o := fun b o z => Heap.get?_push_of_some _ (k2 b o z)
  have I2 := I.kept (t' := s.toks + (ps.zip us).length + 1) kp2
  have hu : (h2.push (PySem.W.kxs_mw "ValueError.__init__" a)).get? h2.objs.size = some (PySem.W.kxs_mw "ValueError.__init__" a) := Heap.get?_push_at rfl rfl
  have hsz : h₁.objs.size ≤ h2.objs.size := Nat.le_of_lt (Heap.lt_size hso)
  have I3 : Inv X [(h2.objs.size, PySem.W.kxs_mw "ValueError.__init__" a)] (startF N (V.ref a :: ws) [some (.ref C)]) H _ := I2.pins_of fun p hp => by
    rcases List.mem_singleton.mp hp with rfl
    refine ⟨hu, I.hok.fresh hsz, ?_, I.nofs hsz, fun v z => by cases z⟩
    exact fun z => by have := I.lt; rw [← z] at this; exact absurd this (Nat.not_lt.mpr hsz)
  rw [hstar]
  refine PySem.W.kxs_callWith (i := "ValueError.__init__") (x := a) rfl ?_
  refine Calls.evalArgs_plain ?_
  subst hX
  have hrun := hpa.run cp _ _ _ H _ I3 hq
  rw [show starEach [e] (ncx CX0 P w K mg base N (sxN qual st cc cda) f A outer s H E).env = [(false, eval e (envF (sxN qual st cc cda) f s.heap.objs.size))] from hstar _] at hrun
  refine thn hrun fun us1 s1 ⟨vs1, H1, J, r1, hl1, ha1, q1⟩ => ?_
  have hmw := (J.pin (h2.objs.size, PySem.W.kxs_mw "ValueError.__init__" a) (List.mem_singleton.mpr rfl)).1
  refine ⟨hmw, ?_⟩
  obtain ⟨t2, hae3⟩ := exo_at J.hok ha1
  have hC3 := J.kIn _ _ hC
  have hus : us1.length ≤ sizeLine := by
    rw [← Paired.length r1, sizeLine_eq]
    omega
  obtain ⟨h3, g3, d3, tk3, os3⟩ := s1
  refine call_mwVE hC3 hae3 hmw hus fun h4 t4 k4 hx4 => ?_
  have L := J.write (t' := tk3) (x := a) (e := a) (o := exo a C none) (by rw [ha1]; exact True.intro) (.inl rfl) k4 ⟨_, hx4⟩ (exo_ok hx4)
  have eu : upd H1 a (exo a C none) = H1 := by
    funext b
    by_cases hb : b = a
    · rw [hb, upd_same, ha1]
    · rw [upd_ne hb]
  rw [eu] at L
  have L0 := L.pins_of (pins' := []) fun p hp => absurd (show p ∈ ([] : List (Addr × Obj)) from hp) (by simp)
  exact wpAt_of_wpAny (restOk H1 _ L0 q1)
end Fb
namespace Fb
open PySem L2 NdefX
def spErr (C : Addr) (fs : List Str) (good : List V → Prop) : Sp := fun vs H Q _ => ∃ a ws, vs = V.ref a :: ws ∧ ws.length = fs.length ∧ good ws ∧ H a = some (exo a C none) ∧
  ∀ d, H d = none → d ≠ a → Q .non (upd (upd H d (exd d (fs.zip ws).reverse)) a (exo a C (some d)))
structure SxT (st : Stmt) (f cc cda : Addr) (qual : Str) (e : Expr) (rest : List Stmt) : Prop where
  ex : ∃ (p0 p1 ap cp ep : Pos) (pl : Sem Bool), defBody st = .Expr (.Call (.Attribute (.Call (.Name "super" p0) [] [] p1) "__init__" ap) [e] [] cp) ep :: rest ∧
    (∀ L, interactive (envF (sxN qual st cc cda) f L) = false) ∧ (∀ L, swapsWith (.Call (.Attribute (.Call (.Name "super" p0) [] [] p1) "__init__" ap) [e] [] cp) none ep.line (envF (sxN qual st cc cda) f L) = pure false) ∧
    (∀ L, eval (.Call (.Attribute (.Call (.Name "super" p0) [] [] p1) "__init__" ap) [e] [] cp) (envF (sxN qual st cc cda) f L) = (do
      let ov ← attributeBase (.Call (.Name "super" p0) [] [] p1) "__init__" (envF (sxN qual st cc cda) f L) (eval (.Call (.Name "super" p0) [] [] p1) (envF (sxN qual st cc cda) f L))
      standAt ap.atName
      let (g, first) ← holding [ov] (getMethod ov "__init__" pl)
      callWith cp g first (backTo cp (starEach [e] (envF (sxN qual st cc cda) f L))) [])) ∧
    (∀ L, starEach [e] (envF (sxN qual st cc cda) f L) = [(false, eval e (envF (sxN qual st cc cda) f L))])
  su : (defScope st).names.lookup ("super" : Str) = some .globalImplicit
  par : ∃ ar, ((defArgs st).posonlyargs ++ (defArgs st).args).head? = some ar ∧ ar.arg = "self"
theorem upd_swap {H : Hp} {a b : Addr} {o u : HO} (h : a ≠ b) : upd (upd H a o) b u = upd (upd H b u) a o := by
  funext x
  by_cases h1 : x = b
  · subst h1; rw [upd_same, upd_ne (Ne.symm h), upd_same]
  · by_cases h2 : x = a
    · subst h2; rw [upd_ne h1, upd_same, upd_same]
    · rw [upd_ne h1, upd_ne h2, upd_ne h2, upd_ne h1]
theorem upd_twice {H : Hp} {a : Addr} {o u : HO} : upd (upd H a o) a u = upd H a u := by
  funext x
  by_cases h1 : x = a
  · subst h1; rw [upd_same, upd_same]
  · rw [upd_ne h1, upd_ne h1, upd_ne h1]
section
variable {P : Program} {w : World} {K : PySem.W.Frag} {mg : Str → Option Value} {base : Heap} {C f cc cda : Addr} {qual : Str} {st : Stmt} {oc : Value} {od : Option Addr} {osl : Array (Option Value)} {kV doc pm ct : Value} {an : Option Addr} {e : Expr} {good : List V → Prop}
theorem err1_ok {fld p : Str} {q1 q2 q3 q4 : Pos} (T : SxF P K mg C cc cda qual) (lk : K.lookup f = some ⟨oc, od, .func (sxFd qual st cc cda kV doc pm an ct), osl⟩) (S : NScope ["self", p, "__class__"] ["self", p] ["__class__"] (defScope st))
    (W : SxT st f cc cda qual e [.Assign [.Attribute (.Name "self" q1) fld q2] (.Name p q3) q4]) (no : PySem.W.findIn K (.ref C) fld = some none)
    (pd : (p == ("__debug__" : Str)) = false) (pc : (p == ("__classdict__" : Str)) = false) (hsw : ∀ L, swapsWith (.Name p q3) (some (.Attribute (.Name "self" q1) fld q2)) q4.line (envF (sxN qual st cc cda) f L) = pure false)
    (hmsg : ∀ (A : Around) (outer : List Env) (s : Shared) (H : Hp) (E : XK), ∃ ta, PA (ncx CX0 P w K mg base ["self", p, "__class__"] (sxN qual st cc cda) f A outer s H E) [e] ta ∧
      ∀ (a : Addr) (v : V) (H : Hp) (Q : List V → Hp → Prop), good [v] → (∀ z, Q [.str z] H) → ta [some (.ref a), some v, some (.ref C)] H Q) :
    FnOk P w K mg base CX0 1 f (sxFd qual st cc cda kV doc pm an ct) ["self", p] (spErr C [fld] good) := by
  obtain ⟨p0, p1, ap, cp, ep, pl, h1, h2, h3, h4, h5⟩ := W.ex
  obtain ⟨ar, h6, h7⟩ := W.par
  refine sx_ok (pl := pl) T lk S W.su h1 h2 h3 h4 h5 h6 (by rw [h7]; rfl) (fun vs H Q E h => ?_) (fun A outer s H vs Q E hr h => ?_)
  · obtain ⟨a, ws, rfl, hl, _⟩ := h
    show ws.length + 1 = 2
    rw [hl]; rfl
  · obtain ⟨a, ws, rfl, hl, hg, ha, q⟩ := h
    match ws, hl with
    | [v], _ =>
    obtain ⟨ta, h8, h9⟩ := hmsg A outer s H E
    refine ⟨a, [v], ta, _, rfl, ha, h8, pss_one (ps_ost (pe_var (i := 0) rfl (.inl (S.par _ (by simp)))) (pe_var (i := 1) rfl (.inl (S.par _ (by simp))) pd pc) (hsw _)), ?_⟩
    refine h9 a v H _ hg fun z => ⟨(by show 1 ≤ 1000; decide), ha, ?_⟩
    refine ⟨_, rfl, _, rfl, a, C, rfl, T.oex, no, .inl ⟨ha, fun d hd hda => ?_⟩⟩
    exact q d hd hda
end
structure Err (P : Program) (w : World) (K : PySem.W.Frag) (mg : Str → Option Value) (base : Heap) (x : Str) (C : Addr) (fs : List Str) (good : List V → Prop) : Prop where
  oex : OexC K C
  xf : XfC K C
  gC : mg x = some (.ref C)
  ini : ∃ fI fd ps, PySem.W.findIn K (.ref C) "__init__" = some (some (.ref fI)) ∧ PySem.W.typeIn K (.ref fI) = some (.type "function") ∧ FnOk P w K mg base CX0 1 fI fd ps (spErr C fs good) ∧ Binds K fd ps []
  te : PySem.W.exmOne K (.ref C) (.ref C) = some true
theorem pmk_err {X : Cx} {x : Str} {C : Addr} {fs : List Str} {good : List V → Prop} {e : Expr} {es : List Expr} {ta : TA} {p pos : Pos} (T : Err X.prog X.w X.K X.mg X.base x C fs good) (hr : Room 2 X.A) (hg : Gl X x) (ha : PA X (e :: es) ta)
    (hdb : (x == ("__debug__" : Str)) = false := by decide) (he : starEach (e :: es) X.env = (false, eval e X.env) :: starEach es X.env := by rfl) (hpl : (backTo pos (starEach es X.env)).any (·.1) = false := by rfl) :
    PMk X (.Call (.Name x p) (e :: es) [] pos) (tMkO C (spErr C fs good) [] ta) := by
  obtain ⟨fI, fd, ps, iC, tI, F1, hb⟩ := T.ini
  exact pmk_oex (x := x) (p := p) (pos := pos) T.oex iC tI F1 hr hb .nil pass0 hg T.gC ha hdb he hpl
theorem err_mk {C : Addr} {fs : List Str} {good : List V → Prop} {vs : List V} {H1 : Hp} {Q : XK} (hl : vs.length = fs.length) (hf : fs.length ≤ 10) (hg : good vs) (h : ∀ d, H1 d = none → Q (.ref C) (some d) (upd H1 d (.xd (fs.zip vs).reverse))) :
    vs.length ≤ 1000 ∧ ∀ a, H1 a = none → spErr C fs good (.ref a :: (vs ++ [])) (upd H1 a (exo a C none))
      (fun v H2 => v = .non ∧ ∃ (d : Addr) (fs : List (Str × V)), H2 a = some (exo a C (some d)) ∧ H2 d = some (exd d fs) ∧ H1 d = none ∧ Q (.ref C) (some d) (upd (del H2 a) d (.xd fs))) (fun _ _ _ => False) := by
  refine ⟨by omega, fun a ha => ⟨a, vs, by rw [List.append_nil], hl, hg, upd_same, fun d hd hda => ⟨rfl, d, (fs.zip vs).reverse, upd_same, by rw [upd_ne hda, upd_same], ?_, ?_⟩⟩⟩
  · rw [upd_ne hda] at hd; exact hd
  · have hd1 : H1 d = none := by rw [upd_ne hda] at hd; exact hd
    have q := h d hd1
    have e : upd (del (upd (upd (upd H1 a (exo a C none)) d (exd d (fs.zip vs).reverse)) a (exo a C (some d))) a) d (.xd (fs.zip vs).reverse) = upd H1 d (.xd (fs.zip vs).reverse) := by
      funext x
      by_cases h1 : x = d
      · subst h1; rw [upd_same, upd_same]
      · rw [upd_ne h1, upd_ne h1]
        by_cases h2 : x = a
        · subst h2; rw [del_same, ha]
        · rw [del_ne h2, upd_ne h2, upd_ne h1, upd_ne h2]
    rw [e]
    exact q
end Fb
namespace Fb
open PySem L2 NdefX PySem.Spec PyProof.Rows
/-! ### defs that raise -/
structure HasX (P : Program) (w : World) (K : PySem.W.Frag) (mg : Str → Option Value) (base : Heap) (k : Nat) (x : Str) (ps : List Str) (sp : Sp) : Prop where
  ex : ∃ f fd, FnOk P w K mg base (L2.CX P w) k f fd ps sp ∧ PySem.W.keepIn K (.ref f) = true ∧ mg x = some (.ref f) ∧ Binds K fd ps []
theorem pe_HX {X : Cx} {W : WX} {k : Nat} {x : Str} {ps : List Str} {sp : Sp} {e : Expr} {es : List Expr} {t : TA} {p pos : Pos} (C : HasX X.prog X.w X.K X.mg X.base k x ps sp) (tk : Takes X W) (hr : Room k X.A) (hg : Gl X x) (ha : PA X (e :: es) t)
    (hdb : (x == ("__debug__" : Str)) = false := by decide) (he : starEach (e :: es) X.env = (false, eval e X.env) :: starEach es X.env := by rfl) (hpl : (backTo pos (starEach es X.env)).any (·.1) = false := by rfl) :
    PE X (.Call (.Name x p) (e :: es) [] pos) (tCallS sp (fun σ => WE W σ) t) := by
  obtain ⟨f, fd, F, kp, hm, hb⟩ := C.ex
  exact pe_callS F hr hg hm kp hb (fun σ => passAt tk σ) ha hdb he hpl
/-! ### isinstance of a caught error that has fields -/
def rIsEd (K : PySem.W.Frag) (D a : Addr) (cls : Value) (d : Option Addr) : List V → Hp → VK → Prop := fun xs H Q => ∃ (c : V) (cv : Value) (b : Bool) (dd : Addr) (fs : List (Str × V)), xs = [.ref a, c] ∧ cls = .ref D ∧ d = some dd ∧ H dd = some (.xd fs) ∧ (∀ u, RelV c u → u = cv) ∧ PySem.W.kitOne K (.ref D) cv = some b ∧ Q (.bl b) H
theorem call_isEd {X : Cx} {a D : Addr} {oe : Obj} {cls : Value} {d : Option Addr} {pn : List (Addr × Obj)} (C : L2.ExcC X.K D) (hz : Zc cls d oe) (hf : ∃ vs, oe.data = .fields vs) : CallR (X.suite a ((a, oe) :: pn)) (.builtin "isinstance") (rIsEd X.K D a cls d) := by
  intro pins s σ H xs us Q I r h
  obtain ⟨c, cv, b, dd, fs, rfl, rfl, rfl, hd, hcv, e, q⟩ := h
  cases r with
  | cons rx rr =>
    cases rr with
    | cons rt rr =>
      cases rr
      cases rx
      have ec := hcv _ rt
      subst ec
      obtain ⟨hget, _⟩ := I.pin (a, oe) (List.mem_append.mpr (.inl List.mem_cons_self))
      obtain ⟨vs, hv⟩ := hf
      have hx : ObjOk X.prog X.w H s.heap dd (.xd fs) := I.hok dd _ hd
      obtain ⟨mA, hns, hr⟩ := hx
      obtain ⟨od, es, ep, ho, hl⟩ := hns
      have J : PySem.W.InstAt s.heap a oe D (some od) := by
        obtain ⟨oc, odd, oda, osl⟩ := oe
        obtain ⟨h1, h2⟩ := hz
        dsimp only at h1 h2 hv
        subst h1 h2 hv
        exact ⟨hget, rfl, rfl, ho⟩
      have hcl : (PySem.W.clsIn X.K D).isSome = true := by
        obtain ⟨cd, hc, _⟩ := PySem.W.any_some C.hd
        rw [hc]; rfl
      exact PySem.W.kia_one (PySem.W.kitx_exc hcl C.hg C.hk C.hs C.ha C.hn C.ht C.hm) I.kIn J e (fun z => nomatch z) fun tk => ⟨.bl b, H, I.kept (t' := tk) fun _ _ z => z, rfl, q⟩
/-! ### what K says of an error class two steps above ValueError -/
theorem exm_self {K : PySem.W.Frag} {S : Addr} (h1 : PySem.W.subIn K (.ref S) (.type "BaseException") = some true) (h2 : (PySem.W.clsIn K S).isSome = true) (h3 : PySem.W.typeIn K (.ref S) = some (.type "type")) (h4 : PySem.W.subIn K (.ref S) (.ref S) = some true) :
    PySem.W.exmOne K (.ref S) (.ref S) = some true := by
  have e1 : (PySem.W.subIn K (.ref S) (.type "BaseException") == some true) = true := by rw [h1] <;> rfl
  have e2 : ((PySem.W.clsIn K S).isSome && PySem.W.typeIn K (.ref S) == some (.type "type")) = true := by
    rw [h2, h3] <;> rfl
  show (if (PySem.W.subIn K (.ref S) (.type "BaseException") == some true) = true then (if ((PySem.W.clsIn K S).isSome && PySem.W.typeIn K (.ref S) == some (.type "type")) = true then PySem.W.subIn K (.ref S) (.ref S) else none) else none) = some true
  rw [if_pos e1, if_pos e2]
  exact h4
/-- isinstance(e, F), F a class of the program -/
theorem kit_ref {K : PySem.W.Frag} {C F : Addr} (h2 : (PySem.W.clsIn K F).isSome = true) (h3 : PySem.W.typeIn K (.ref F) = some (.type "type")) (h4 : PySem.W.subIn K (.ref C) (.ref F) = some true) : PySem.W.kitOne K (.ref C) (.ref F) = some true := by
  have e2 : ((PySem.W.clsIn K F).isSome && PySem.W.typeIn K (.ref F) == some (.type "type")) = true := by
    rw [h2, h3] <;> rfl
  unfold PySem.W.kitOne
  split
  · rfl
  · show (if ((PySem.W.clsIn K F).isSome && PySem.W.typeIn K (.ref F) == some (.type "type")) = true then PySem.W.subIn K (.ref C) (.ref F) else none) = some true
    rw [if_pos e2, h4]
theorem kit_ty {K : PySem.W.Frag} {C : Addr} {T : String} (h : PySem.W.kitMeta T = true) (h4 : PySem.W.subIn K (.ref C) (.type T) = some true) : PySem.W.kitOne K (.ref C) (.type T) = some true := by
  unfold PySem.W.kitOne
  rw [if_neg (by intro z; cases z)]
  show (if PySem.W.kitMeta T = true then PySem.W.subIn K (.ref C) (.type T) else none) = some true
  rw [if_pos h, h4]
structure ErrK (K : PySem.W.Frag) (C F fI cc cda : Addr) (qual : Str) : Prop where
  xC : ∃ nm q N bs sn sub ab col dd k0 k1 k2 k3 k5, K.lookup C = some (excClassObj nm q C N bs [.ref F, .type "ValueError", .type "Exception", .type "BaseException", .type "object"] true sn sub ab col dd k0 k1 k2 k3 k5 "ValueError.__new__")
  xF : ∃ nm q N bs sn sub ab col dd k0 k1 k2 k3 k5, K.lookup F = some (excClassObj nm q F N bs [.type "ValueError", .type "Exception", .type "BaseException", .type "object"] true sn sub ab col dd k0 k1 k2 k3 k5 "ValueError.__new__")
  fi : PySem.W.findIn K (.ref F) "__init__" = some (some (.builtin "ValueError.__init__"))
  sa : PySem.W.findIn K (.ref C) "__setattr__" = some (some (.builtin "object.__setattr__"))
  ga : PySem.W.findIn K (.ref C) "__getattribute__" = some (some (.builtin "BaseException.__getattribute__"))
  gg : PySem.W.findIn K (.ref C) "__getattr__" = some none
  gc : PySem.W.findIn K (.ref C) "__class__" = some (some (.builtin "object.__class__"))
  ia : PySem.W.findIn K (.ref C) "__init__" = some (some (.ref fI))
  it : PySem.W.typeIn K (.ref fI) = some (.type "function")
  exC : PySem.W.subIn K (.ref C) (.type "BaseException") = some true
  veC : PySem.W.subIn K (.ref C) (.type "ValueError") = some true
  suC : PySem.W.subIn K (.ref C) (.ref C) = some true
  suF : PySem.W.subIn K (.ref C) (.ref F) = some true
  tyC : PySem.W.typeIn K (.ref C) = some (.type "type")
  tyF : PySem.W.typeIn K (.ref F) = some (.type "type")
  kC : PySem.W.keepIn K (.ref C) = true
  mS : PySem.W.mroIn K C (.ref C) = some true
  mO : PySem.W.mroIn K C (.type "object") = some true
  sp : PySem.W.specialIn K (.builtin "object.__class__") "__get__" = some (some (.builtin "getset_descriptor.__get__"))
  tk : PySem.W.takesIn K (.builtin "object.__class__") = some true
  opq : PySem.W.nsIn K cStatics "thirdparty.any" = some none
  cod : PySem.W.codeIn K (.ref cda) qual = true
  cell : ∃ cl cld csl, K.lookup cc = some ⟨cl, cld, .cell (some (.ref C)), csl⟩
section
variable {P : Program} {w : World} {K : PySem.W.Frag} {mg : Str → Option Value} {base : Heap} {C F fI cc cda : Addr} {qual : Str}
theorem ErrK.cls (T : ErrK K C F fI cc cda qual) : (PySem.W.clsIn K C).isSome = true := by
  obtain ⟨_, _, _, _, _, _, _, _, _, _, _, _, _, _, h⟩ := T.xC
  unfold PySem.W.clsIn; rw [h]; rfl
theorem ErrK.clsF (T : ErrK K C F fI cc cda qual) : (PySem.W.clsIn K F).isSome = true := by
  obtain ⟨_, _, _, _, _, _, _, _, _, _, _, _, _, _, h⟩ := T.xF
  unfold PySem.W.clsIn; rw [h]; rfl
theorem ErrK.oex (T : ErrK K C F fI cc cda qual) : OexC K C := by
  obtain ⟨nm, q, N, bs, sn, sub, ab, col, dd, k0, k1, k2, k3, k5, h⟩ := T.xC
  exact ⟨⟨nm, q, N, bs, _, sn, sub, ab, col, dd, k0, k1, k2, k3, k5, h, rfl⟩, T.sa, T.exC, T.tyC, T.kC⟩
theorem ErrK.hd (T : ErrK K C F fI cc cda qual) : PySem.W.hasDictIn K C = true := by
  obtain ⟨nm, q, N, bs, sn, sub, ab, col, dd, k0, k1, k2, k3, k5, h⟩ := T.xC
  unfold PySem.W.hasDictIn PySem.W.clsIn
  rw [h]; rfl
theorem ErrK.xf (T : ErrK K C F fI cc cda qual) : XfC K C := ⟨T.ga, T.gg, T.exC, T.hd⟩
theorem ErrK.ec (T : ErrK K C F fI cc cda qual) : L2.ExcC K C := ⟨T.ga, T.gg, T.exC, T.hd, T.gc, T.sp, T.tk, T.mO⟩
theorem ErrK.te (T : ErrK K C F fI cc cda qual) : PySem.W.exmOne K (.ref C) (.ref C) = some true := exm_self T.exC T.cls T.tyC T.suC
theorem ErrK.isF (T : ErrK K C F fI cc cda qual) : PySem.W.kitOne K (.ref C) (.ref F) = some true := kit_ref T.clsF T.tyF T.suF
theorem ErrK.isVE (T : ErrK K C F fI cc cda qual) : PySem.W.kitOne K (.ref C) (.type "ValueError") = some true := kit_ty (by decide +kernel) T.veC
theorem ErrK.sup (T : ErrK K C F fI cc cda qual) : PySem.W.ks_superIn K C C "__init__" = some (some (.builtin "ValueError.__init__")) := by
  obtain ⟨nm, q, N, bs, sn, sub, ab, col, dd, k0, k1, k2, k3, k5, h⟩ := T.xC
  obtain ⟨nm', q', N', bs', sn', sub', ab', col', dd', k0', k1', k2', k3', k5', h'⟩ := T.xF
  have fi := T.fi
  unfold PySem.W.findIn at fi
  dsimp only at fi
  rw [h'] at fi
  unfold PySem.W.ks_superIn PySem.W.clsIn
  rw [h]
  have e : (Value.ref C != Value.ref C) = false := by simp
  show PySem.W.alongIn K "__init__" ((List.dropWhile (fun x => x != Value.ref C) (Value.ref C :: [.ref F, .type "ValueError", .type "Exception", .type "BaseException", .type "object"])).drop 1) = _
  rw [List.dropWhile_cons, e]
  exact fi
theorem ErrK.sx (T : ErrK K C F fI cc cda qual) (file : ∃ ccl cdd vs ccs file tf, K.lookup cda = some ⟨ccl, cdd, .fields vs, ccs⟩ ∧ vs[2]? = some (.str file tf) ∧ ((P.main.file : Str) == file) = true)
    (top : (P.main.scope.names.lookup ("super" : Str)).isSome = false) (mgS : mg "super" = none) : SxF P K mg C cc cda qual :=
  ⟨T.cod, file, T.cell, T.sup, T.veC, T.mS, T.oex, T.opq, top, mgS⟩
theorem ErrK.err {x : Str} {fs : List Str} {good : List V → Prop} {fd : FuncData} {ps : List Str} (T : ErrK K C F fI cc cda qual) (gC : mg x = some (.ref C)) (F1 : FnOk P w K mg base CX0 1 fI fd ps (spErr C fs good)) (hb : Binds K fd ps []) : Err P w K mg base x C fs good :=
  ⟨T.oex, T.xf, gC, ⟨fI, fd, ps, T.ia, T.it, F1, hb⟩, T.te⟩
end
end Fb
namespace Fb
open PySem L2 PySem.Spec PyProof.Rows
/-! ### a def called where no guard stands (the law's own) -/
def FnG (P : Program) (w : World) (K : PySem.W.Frag) (mg : Str → Option Value) (base : Heap) (k : Nat) (f : Addr) (fd : FuncData) (ps : List Str) (sp : Sp) : Prop :=
  ∀ (B : Around) (os : List Env) (s : Shared) (H : Hp) (ar : Args) (us : List Value) (vs : List V) (R : VK) (T : XK), Room k B → B.guards = some [] → Env0 P w K mg base B os s H → BindsTo s fd ar (ps.zip us) → Vals vs us → sp vs H R T →
    codeAny (model P w) B (.call (.ref f) ar) (CR CX0 os P w H s R T) s
theorem fng_of {P : Program} {w : World} {K : PySem.W.Frag} {mg : Str → Option Value} {base : Heap} {x qual : Str} {st : Stmt} {f : Addr} {fd : FuncData} {N ps : List Str} {k : Nat} {sp : Sp} (F : Fun K x qual st f fd) (S : FnScope N ps (defScope st)) (len : ∀ vs H R T, sp vs H R T → vs.length = ps.length)
    (go : ∀ (cdv : Value) (B : Around) (os : List Env) (s : Shared) (H : Hp) (vs : List V) (R : VK) (T : XK), Room k (B.deeper (envOfC qual (defScope st) s.heap.objs.size f cdv)) → B.guards = some [] → sp vs H R T →
      ∃ t, PSs (cxOf CX0 P w K mg base N qual (defScope st) f cdv B os s H T).nox (defBody st) t ∧ t { nx := fun _ H1 => R .non H1, rt := R } (L2.start N vs) H) : FnG P w K mg base (k + 1) f fd ps sp := by
  intro B os s H ar us vs R T room ng e0 bd rv hs
  obtain ⟨_, _, kV, doc, pm, an, cdv, ct, _, rfl, at_, code⟩ := F.ex
  have old : ∀ b o, base.get? b = some o → s.heap.get? b = some o := fun b o z => (e0.bs b o z).1
  have kin := e0.mod.kin.keeps old
  have vis : ∀ y ∈ ps.zip us, (defScope st).names.lookup y.1 = some .local ∨ ((defScope st).names.lookup y.1 = some .cell ∧ ((cellsFrom (s.heap.objs.size + 1) (defScope st).names []).lookup y.1).isSome = true) := by
    rintro ⟨nm, u⟩ hy
    exact (S.par nm (List.of_mem_zip hy).1).imp id fun q => ⟨q, PySem.W.cellsFrom_some _ _ _ (.inl q)⟩
  apply codeAny_call_function room.depth (kin _ _ at_) rfl S.co S.gen rfl (PySem.W.codeRec_of kin code)
  apply bd
  apply wpAny_newFunctionEnv_cells S.kind vis
  rintro env rfl s2 inc
  have lim := (e0.mod.nolimit.keeps old).keeps inc.toInCall.keep
  refine ⟨lim, codeAny_func ?_⟩
  obtain ⟨t, pt, ht⟩ := go cdv B os s H vs R T (room.deeper _) ng hs
  have J := inv_start (CX := CX0) (E := T) S room.hd e0 (len _ _ _ _ hs) rv inc
  apply wpAny_mono (pt.nox.run [] s2 (L2.start N vs) H _ J ht)
  · intro fl s3 h3
    match fl, h3 with
    | .ret u, ⟨v, _, H3, J3, r3, q3⟩ => exact ⟨v, H3, J3.os, J3.bare, J3.base, J3.hok, r3, q3⟩
    | .next, ⟨_, H3, J3, q3⟩ => exact ⟨V.non, H3, J3.os, J3.bare, J3.base, J3.hok, rfl, q3⟩
    | .brk, ⟨_, _, _, q3⟩ => exact q3.elim
    | .cont, ⟨_, _, _, q3⟩ => exact q3.elim
  · intro _ _ z
    exact z
/-- the first call of the law's def: the guards are empty there -/
theorem callG {P : Program} {w : World} {K : PySem.W.Frag} {mg mb : Str → Option Value} {k : Nat} {fa a : Addr} {fd : FuncData} {x : Str} {sp : Sp} {s1 : Shared} {us : List Value} {zs : List Int}
    (kx : K.In s1.heap) (nm : s1.heap.Ns mainGlobals mg) (nb : s1.heap.Ns builtinsNs mb) (bb : ∀ y : Str, y ≠ "__name__" → mb y = bootBuiltins y) (nl : s1.heap.NoLimit) (ng : s1.gens = #[])
    (at_ : s1.heap.get? a = some { cls := .type "list", data := .seq us.toArray }) (iz : IntsAre us zs) (short : zs.length ≤ sizeLine) (room : Room k callerA)
    (F : ∀ base : Heap, K.In base → base.Ns mainGlobals mg → FnG P w K mg base k fa fd [x] sp) (bd : ∀ (s : Shared) (u : Value), BindsTo s fd ⟨[u], []⟩ [(x, u)])
    (spec : ∀ H : Hp, SqL K H a (zs.map V.int) → sp [.ref a] H (fun v _ => v = .bl true) fun _ _ _ => False) :
    codeAny (model P w) callerA (.call (.ref fa) ⟨[.ref a], []⟩) (fun r s2 => r = .ok (.ret (.bool true)) ∧ OldK s1.heap s2.heap ∧ s2.os = s1.os ∧ AllBare s2.gens) s1 := by
  have rv := vals_ints iz
  have lz := iz.length
  obtain ⟨H, hH, hn, hs⟩ : ∃ H : Hp, (∀ b u, H b = some u → b = a ∧ u = .frz { cls := .type "list", data := .seq us.toArray } (.lst (zs.map V.int))) ∧ (∀ o, K.lookup a = some o → H a = none) ∧ SqL K H a (zs.map V.int) := by
    cases hk : K.lookup a with
    | none =>
      refine ⟨fun b => if b = a then some (.frz { cls := .type "list", data := .seq us.toArray } (.lst (zs.map V.int))) else none, fun b u z => ?_, (fun o z => by cases z), .inl (.inr ⟨_, if_pos rfl⟩)⟩
      by_cases e : b = a
      · exact ⟨e, (Option.some.inj ((if_pos e).symm.trans z)).symm⟩
      · exact nomatch (if_neg e).symm.trans z
    | some o =>
      have e := at_.symm.trans (kx a o hk)
      cases e
      exact ⟨fun _ => none, (fun _ _ z => by cases z), fun _ _ => rfl, .inr ⟨_, us.toArray, _, hk, rfl, rfl, rfl, by rw [List.size_toArray, lz]; exact short, by simpa using rv⟩⟩
  have dict : ∀ (b : Addr) (o : Obj) (es : Array DictEntry) (ep : Nat), s1.heap.get? b = some o → o.data = .dict es ep → H b = none := fun b o es ep e d => by
    cases q : H b with
    | none => rfl
    | some u =>
      obtain ⟨rfl, _⟩ := hH b u q
      have e2 := Option.some.inj (at_.symm.trans e)
      rw [← e2] at d
      cases d
  have names : ∀ (b : Addr) (m : Str → Option Value), s1.heap.Ns b m → (hidT s1.heap H).Ns b m := by
    rintro b m ⟨o, es, ep, e, d, r⟩
    exact ⟨o, es, ep, hidT_get e (dict b o es ep e d), d, r⟩
  have kb : K.In (hidT s1.heap H) := fun b o e => hidT_get (kx b o e) <| by
    cases q : H b with
    | none => rfl
    | some u =>
      obtain ⟨rfl, _⟩ := hH b u q
      rw [hn o e] at q
      cases q
  have lim : (hidT s1.heap H).NoLimit := by
    obtain ⟨m, q1, q2⟩ := nl
    exact ⟨m, names _ _ q1, q2⟩
  have ok : HOk P w H s1.heap := fun b u q => by
    obtain ⟨rfl, rfl⟩ := hH b u q
    exact ⟨at_, by rw [List.length_map]; exact short, us, _, rv, at_⟩
  have env : Env0 P w K mg (hidT s1.heap H) callerA [] s1 H := by
    refine ⟨rfl, ⟨kb, names _ _ nm, ⟨mb, names _ _ nb, bb⟩, lim⟩, fun b o e => of_hidT e, Nat.le_of_eq (hidT_size _ _), trivial, fun b q => ?_, ok, .of_eq ng⟩
    cases q
  have main := F _ kb (names _ _ nm) callerA [] s1 H ⟨[.ref a], []⟩ [.ref a] [.ref a] _ _ room rfl env (bd s1 (.ref a)) (.cons rfl .nil) (spec H hs)
  apply codeAny_mono main
  intro r s2 z
  match r, z with
  | .ok (.ret u), ⟨v, H2, os, bare, un, ok2, rel, q⟩ =>
    have qv : v = .bl true := q
    subst qv
    have ru : u = Value.bool true := rel
    refine ⟨by rw [ru], OldK.of_keep fun b o e => ?_, os, bare⟩
    cases q2 : H b with
    | none => exact un.keep b o e q2 (fun y => by cases y) (by simp)
    | some t =>
      obtain ⟨rfl, rfl⟩ := hH b t q2
      have o1 := (ok b _ q2).1
      have o2 := (ok2 b _ (un.frzs b _ _ q2)).1
      exact o2.trans (o1.symm.trans e)
  | .ok .next, z => exact z.elim
  | .ok .brk, z => exact z.elim
  | .ok .cont, z => exact z.elim
  | .error e, z => exact z.elim
theorem walkG {l : PySem.W.OpenLaw} {n k : Nat} {q : Program} {loose : List Str} {XP : (Str → Option Value) → Heap → Prop} {YP : World → Heap → Prop} {d : DefRec} {K : Params → PySem.W.Frag} {sp : World → Sp} {x : Str}
    (most : l.most = some n) (nz : n ≤ sizeLine) (df : d.params.defaults = []) (room : Room k callerA) (inK : ∀ (w : World) (h : Heap), YP w h → (K w.params).In h)
    (F : ∀ (w : World) (mg : Str → Option Value) (fa : Addr) (h : Heap), (K w.params).In h → h.Ns mainGlobals mg → mg d.name = some (.ref fa) →
      ∃ fd : FuncData, (∀ (s : Shared) (u : Value), BindsTo s fd ⟨[u], []⟩ [(x, u)]) ∧ ∀ base : Heap, (K w.params).In base → base.Ns mainGlobals mg → FnG l.prog w (K w.params) mg base k fa fd [x] (sp w))
    (spec : ∀ (w : World) (H : Hp) (a : Addr) (zs : List Int), zs.length ≤ n → SqL (K w.params) H a (zs.map V.int) → sp w [.ref a] H (fun v _ => v = .bl true) fun _ _ _ => False) :
    PySem.W.WalkO q loose XP YP l.row.toRowW d [] (fun f vs => PySem.call f vs) := by
  apply Att.attach_call most df
  intro w s0 s1 mg mb fa o pm cd doc a us zs G Y _ _ _ hmg at_ iz len ng
  have kx := inK w _ Y
  obtain ⟨fd, bd, go⟩ := F w mg fa _ kx G.T.g hmg
  exact callG kx G.T.g G.T.b G.T.builtins G.T.nolimit ng at_ iz (Nat.le_trans len nz) room go bd fun H => spec w H a zs len
end Fb
namespace Fb
open PySem L2 PySem.Spec PyProof.Rows
/-! ### repr of data -/
/-- data that can be shown: how deep, how long -/
structure Sh (d : PyData) : Prop where
  show_ : d.showable = true
  nod : d.hasDict = false
  deep : d.depth ≤ 40
  long : d.shown.length ≤ sizeLine
def rReprD (K : PySem.W.Frag) : List V → Hp → VK → Prop := fun xs H Q => ∃ (v : V) (d : PyData), xs = [v] ∧ Dp K H v d ∧ Sh d ∧ Q (.str d.shown) H
theorem call_reprD {X : Cx} (ng : X.A.guards = some []) (room : X.A.units + 64 < cLine) : CallR X (.builtin "repr") (rReprD X.K) := by
  intro pins s σ H xs us Q I rel h
  obtain ⟨v, d, rfl, dp, sh, q⟩ := h
  obtain ⟨u, rfl, ru⟩ : ∃ u, us = [u] ∧ RelV v u := by
    cases rel with
    | cons a b => cases b; exact ⟨_, rfl, a⟩
  obtain ⟨as, rd⟩ := Dp.reads I d v u dp ru
  have deep := sh.deep
  cases dp with
  | non =>
    cases ru
    exact PySem.P.repr_of_none ⟨.str _, H, I.tok _, ⟨_, rfl⟩, q⟩
  | bl b =>
    cases ru
    exact PySem.P.repr_of_bool ⟨.str _, H, I.tok _, ⟨_, rfl⟩, q⟩
  | int i =>
    obtain ⟨t, rfl⟩ := ru
    have hi : i.natAbs.log2 < 1920 := by
      have := sh.show_
      rw [PyData.showable] at this
      exact of_decide_eq_true this
    have hq : Q (.str (toString i)) H := by rw [PyData.shown] at q; exact q
    exact PySem.P.repr_of_int hi ⟨.str _, H, I.tok _, ⟨_, rfl⟩, hq⟩
  | str x =>
    obtain ⟨t, rfl⟩ := ru
    have hx : (reprText x).length ≤ sizeLine := by
      have := sh.long
      rw [PyData.shown] at this
      exact this
    have hq : Q (.str (reprText x)) H := by rw [PyData.shown] at q; exact q
    exact PySem.P.repr_of_str ⟨.str _, H, I.tok _, ⟨_, rfl⟩, hq⟩ hx
  | lst hs ha =>
    cases ru
    exact repr_of_reads' rd sh.show_ (fun z => by rw [sh.nod] at z; cases z) ng (by omega) (fun _ _ e => e) (fun h' t tk keep => ⟨.str _, H, I.kept keep, ⟨_, rfl⟩, q⟩) sh.long
  | tup hs ha =>
    cases ru
    exact repr_of_reads' rd sh.show_ (fun z => by rw [sh.nod] at z; cases z) ng (by omega) (fun _ _ e => e) (fun h' t tk keep => ⟨.str _, H, I.kept keep, ⟨_, rfl⟩, q⟩) sh.long
end Fb
namespace Fb
open PySem L2 PySem.Spec PyProof.Rows
/-! ### how long the forms are when they are shown -/
structure Sw (n b : Nat) (d : PyData) : Prop where
  a : d.showable = true
  c : d.hasDict = false
  e : d.depth ≤ n
  l : d.shown.length ≤ b
structure Lw (n b : Nat) (ds : List PyData) : Prop where
  a : PyData.showableAll ds = true
  c : PyData.hasDictAll ds = false
  e : PyData.depthAll ds ≤ n
  l : piled (PyData.shownAll ds) ≤ b
theorem Sw.sh {n b : Nat} {d : PyData} (h : Sw n b d) (hn : n ≤ 40) (hb : b ≤ 16777216) : Sh d := ⟨h.a, h.c, Nat.le_trans h.e hn, Nat.le_trans h.l hb⟩
theorem Sw.mono {n b n' b' : Nat} {d : PyData} (h : Sw n b d) (hn : n ≤ n') (hb : b ≤ b') : Sw n' b' d := ⟨h.a, h.c, Nat.le_trans h.e hn, Nat.le_trans h.l hb⟩
theorem Lw.mono {n b n' b' : Nat} {d : List PyData} (h : Lw n b d) (hn : n ≤ n') (hb : b ≤ b') : Lw n' b' d := ⟨h.a, h.c, Nat.le_trans h.e hn, Nat.le_trans h.l hb⟩
theorem sw_int {i : Int} (h : i.natAbs < 10 ^ 20) : Sw 0 21 (.int i) := by
  have big : (10 : Nat) ^ 20 < 2 ^ 1920 := by decide +kernel
  refine ⟨?_, ?_, ?_, ?_⟩
  · rw [PyData.showable]
    exact decide_eq_true (PySem.Flt.log2_lt_of (by decide) (Nat.lt_trans h big))
  · rw [PyData.hasDict]
  · rw [PyData.depth]; exact Nat.le_refl 0
  · rw [PyData.shown]
    have := int_text_length_le10 (a := i) (k := 20) (by decide) h
    rw [PySem.ofString_length]
    exact this
theorem lw_nil (n : Nat) : Lw n 0 [] := ⟨rfl, rfl, Nat.zero_le _, Nat.le_refl 0⟩
theorem lw_cons {n b c : Nat} {d : PyData} {ds : List PyData} (h : Sw n b d) (hs : Lw n c ds) : Lw n (b + 2 + c) (d :: ds) := by
  refine ⟨?_, ?_, ?_, ?_⟩
  · rw [PyData.showableAll, h.a, hs.a]; rfl
  · rw [PyData.hasDictAll, h.c, hs.c]; rfl
  · rw [PyData.depthAll]; exact Nat.max_le.mpr ⟨h.e, hs.e⟩
  · rw [PyData.shownAll, piled_cons]
    have := h.l
    have := hs.l
    omega
theorem lw_all {n b : Nat} : ∀ {ds : List PyData}, (∀ d ∈ ds, Sw n b d) → Lw n (ds.length * (b + 2)) ds
  | [], _ => (lw_nil n).mono (Nat.le_refl n) (Nat.zero_le _)
  | d :: ds, h => by
    have := lw_cons (h d List.mem_cons_self) (lw_all fun x hx => h x (List.mem_cons_of_mem _ hx))
    refine this.mono (Nat.le_refl n) ?_
    rw [List.length_cons, Nat.add_mul]
    omega
theorem lw_app {n b c : Nat} : ∀ {ds es : List PyData}, Lw n b ds → Lw n c es → Lw n (b + c) (ds ++ es)
  | [], es, _, h => h.mono (Nat.le_refl n) (Nat.le_add_left _ _)
  | d :: ds, es, h, h2 => by
    have ha := h.a
    have hc := h.c
    have he := h.e
    have hl := h.l
    rw [PyData.showableAll, Bool.and_eq_true] at ha
    rw [PyData.hasDictAll, Bool.or_eq_false_iff] at hc
    rw [PyData.depthAll] at he
    rw [PyData.shownAll, piled_cons] at hl
    have r := lw_app (n := n) (b := piled (PyData.shownAll ds)) (c := c) (ds := ds) ⟨ha.2, hc.2, by omega, Nat.le_refl _⟩ h2
    have s : Sw n d.shown.length d := ⟨ha.1, hc.1, by omega, Nat.le_refl _⟩
    exact (lw_cons s r).mono (Nat.le_refl n) (by omega)
theorem Lw.tup {n b : Nat} {ds : List PyData} (h : Lw n b ds) : Sw (n + 1) (b + 2) (.tuple ds) := by
  refine ⟨?_, ?_, ?_, ?_⟩
  · rw [PyData.showable]; exact h.a
  · rw [PyData.hasDict]; exact h.c
  · rw [PyData.depth]; have := h.e; omega
  · rw [PyData.shown]
    have := fmt_text (PyData.shownAll ds)
    have := h.l
    omega
theorem sw_nat {p : Nat} (h : p < 10 ^ 20) : Sw 0 21 (.int (p : Int)) := sw_int (by omega)
theorem lw_nD {ns : List Nat} (h : ∀ p ∈ ns, p < 10 ^ 20) : Lw 0 (ns.length * 23) (nD ns) := by
  have := lw_all (n := 0) (b := 21) (ds := nD ns) fun d hd => by
    obtain ⟨p, hp, rfl⟩ := List.mem_map.mp hd
    exact sw_nat (h p hp)
  unfold nD at this
  rw [List.length_map] at this
  exact this
/-- rows of entries -/
theorem sw_row {n b m : Nat} {f : Int → PyData} {S : Int → Prop} (o : OrdN n f S) {l : List Int} (hs : ∀ a ∈ l, S a) (hp : l.Pairwise (· < ·)) (hw : ∀ a ∈ l, Sw m b (f a)) : Sw (m + 1) (l.length * (b + 2) + 21) (rowF f l) := by
  rcases row_cases o hs hp with ⟨all, e⟩ | ⟨_, _, _, _, e⟩
  · rw [e]
    have asc := asc_toNat (fun a ha => o.pos a (hs a ha)) hp
    have bd := alt_lt (s := -1) (.inr rfl) (n := 65) asc fun p hp => by
      obtain ⟨a, ha, rfl⟩ := List.mem_map.mp hp
      have := all a ha
      omega
    have e65 : (2 : Int) ^ 65 = 36893488147419103232 := by decide +kernel
    exact (sw_int (by rw [e65] at bd; omega)).mono (Nat.zero_le _) (Nat.le_add_left _ _)
  · rw [e]
    have := (lw_all (n := m) (b := b) (ds := l.map f) fun d hd => by
      obtain ⟨a, ha, rfl⟩ := List.mem_map.mp hd
      exact hw a ha).tup
    rw [List.length_map] at this
    exact this.mono (Nat.le_refl _) (by omega)
theorem sw_form {x : Int} {k : Nat} (h0 : -(2 ^ k) ≤ x) (h1 : x < 2 ^ k) (hk : k < 10 ^ 20) : Sw 1 ((k + 1) * 23 + 21) (formD x) := by
  rw [form_row]
  have lt := turns_len h0 h1
  have r := sw_row (m := 0) (b := 21) (ordN_int 0) (l := zs (turnsN x)) zs_pos (zs_asc (turns_asc x)) fun a ha => by
    obtain ⟨p, hp, rfl⟩ := List.mem_map.mp ha
    have := turns_lt h0 h1 p hp
    exact sw_nat (p := p) (by omega)
  rw [len_zs] at r
  refine r.mono (Nat.le_refl _) ?_
  have := Nat.mul_le_mul_right 23 lt
  omega
/-- a place -/
theorem sw_place {fs : List PyData} (F : Fields fs) {p : Nat} (hp : Pl p) : Sw 3 1600 (placeD fs p) := by
  obtain ⟨a, low, g, f2, f3, rfl, a0, a1, l0, l1, g0, g1, h2, h3⟩ := F.ex
  have i20 : ∀ i : Int, 0 ≤ i → i < 10 ^ 19 → Sw 0 21 (.int i) := fun i q0 q1 => sw_int (by omega)
  have r0 : p % 200 < 64 := by have := hp.2.2; omega
  have t7 : ((turnsN ((p % 200 : Nat) : Int)).length ≤ 7) ∧ ∀ q ∈ turnsN ((p % 200 : Nat) : Int), q < 10 ^ 20 := by
    have b0 : -(2 ^ 6) ≤ (((p % 200 : Nat)) : Int) := by omega
    have b1 : (((p % 200 : Nat)) : Int) < 2 ^ 6 := by omega
    exact ⟨turns_len b0 b1, fun q hq => by have := turns_lt b0 b1 q hq; omega⟩
  have small : Lw 0 161 (nD (turnsN ((p % 200 : Nat) : Int))) := (lw_nD t7.2).mono (Nat.le_refl 0) (by have := t7.1; omega)
  have w2 : ∃ t2, f2 = .tuple t2 ∧ Lw 0 92 t2 := by
    rcases h2 with ⟨d, d0, d1, rfl⟩ | ⟨d, d0, d1, rfl⟩
    · exact ⟨_, rfl, (lw_cons (i20 _ (by omega) (by omega)) (lw_cons (i20 _ (by omega) (by omega)) (lw_nil 0))).mono (Nat.le_refl 0) (by omega)⟩
    · exact ⟨_, rfl, (lw_cons (i20 _ (by omega) (by omega)) (lw_cons (i20 _ (by omega) (by omega)) (lw_cons (i20 _ (by omega) (by omega)) (lw_cons (i20 _ (by omega) (by omega)) (lw_nil 0))))).mono (Nat.le_refl 0) (by omega)⟩
  obtain ⟨t2, rfl, k2⟩ := w2
  have s2 : Sw 2 94 (.tuple t2) := k2.tup.mono (by decide) (Nat.le_refl _)
  have gi : ∀ i : Int, 0 ≤ i → i < 10 ^ 19 → Sw 2 21 (.int i) := fun i q0 q1 => (i20 i q0 q1).mono (by decide) (Nat.le_refl _)
  have w3 : ∃ t3, f3 = .tuple t3 ∧ Lw 2 500 t3 := by
    rcases h3 with rfl | ⟨e, ts, e0, e1, et, rfl⟩ | rfl
    · exact ⟨_, rfl, (lw_cons (gi _ (by omega) (by omega)) (lw_cons s2 (lw_nil 2))).mono (Nat.le_refl 2) (by omega)⟩
    · cases et
      have q : Sw 2 150 (.tuple (.int (e + 1) :: .int 64 :: t2)) := ((lw_cons (i20 (e + 1) (by omega) (by omega)) (lw_cons (i20 64 (by omega) (by omega)) k2)).tup).mono (by decide) (by omega)
      exact ⟨_, rfl, (lw_cons s2 (lw_cons q (lw_nil 2))).mono (Nat.le_refl 2) (by omega)⟩
    · have q : Sw 2 150 (.tuple [.int g, .tuple t2]) := ((lw_cons ((i20 g (by omega) (by omega)).mono (Nat.zero_le 1) (Nat.le_refl _)) (lw_cons (k2.tup) (lw_nil 1))).tup).mono (by decide) (by omega)
      exact ⟨_, rfl, (lw_cons (gi _ (by omega) (by omega)) (lw_cons (gi _ (by omega) (by omega)) (lw_cons s2 (lw_cons q (lw_nil 2))))).mono (Nat.le_refl 2) (by omega)⟩
  obtain ⟨t3, rfl, k3⟩ := w3
  have h4 : p / 200 = 0 ∨ p / 200 = 1 ∨ p / 200 = 2 ∨ p / 200 = 3 := by have := hp.2.1; omega
  have fw : ∀ x : Int, 0 ≤ x → x < 2 ^ 64 + 200 → Sw 3 1600 (formD x) := fun x x0 x1 => by
    refine (sw_form (k := 65) (x := x) (Int.le_trans (by decide) x0) (Int.lt_of_lt_of_le x1 (by decide)) (by decide)).mono (by decide) (by decide)
  rcases h4 with e | e | e | e
  · have pe : placeD [.int 0, .int a, .tuple t2, .tuple t3] p = formD (0 + ((p % 200 : Nat) : Int)) := by unfold placeD; rw [e]; rfl
    rw [pe]; exact fw _ (by omega) (by omega)
  · have pe : placeD [.int 0, .int a, .tuple t2, .tuple t3] p = formD (a + ((p % 200 : Nat) : Int)) := by unfold placeD; rw [e]; rfl
    rw [pe]; exact fw _ (by omega) (by omega)
  · have pe : placeD [.int 0, .int a, .tuple t2, .tuple t3] p = .tuple (nD (turnsN ((p % 200 : Nat) : Int)) ++ t2) := by unfold placeD; rw [e]; rfl
    rw [pe]; exact ((lw_app small k2).tup).mono (by decide) (by decide)
  · have pe : placeD [.int 0, .int a, .tuple t2, .tuple t3] p = .tuple (nD (turnsN ((p % 200 : Nat) : Int)) ++ t3) := by unfold placeD; rw [e]; rfl
    rw [pe]; exact ((lw_app (small.mono (by decide) (Nat.le_refl _)) k3).tup).mono (by decide) (by decide)
theorem sw_moved {fs : List PyData} (F : Fields fs) {c : Int} (h : Cd c) : Sw 4 1281621 (movedD fs c) := by
  rw [moved_row]
  have pl : ∀ a ∈ zs (turnsN c), Pl a := fun a ha => by
    obtain ⟨p, hp, rfl⟩ := List.mem_map.mp ha
    exact code_places h p hp
  have r := sw_row (m := 3) (b := 1600) (ordN_place F) pl (zs_asc (turns_asc c)) fun a ha => by
    have q := pl a ha
    have e : ((a.toNat : Nat) : Int) = a := by have := q.1; omega
    exact sw_place F (p := a.toNat) (by rw [e]; exact q)
  rw [len_zs] at r
  refine r.mono (Nat.le_refl _) ?_
  have lt := len_turns h.b.1 h.b.2
  have := Nat.mul_le_mul_right 1602 lt
  omega
theorem sw_codes {fs : List PyData} (F : Fields fs) {cs : List Int} (h : ∀ c ∈ cs, Cd c) (hp : cs.Pairwise (· < ·)) : Sw 5 (cs.length * 1281623 + 21) (codesD fs cs) :=
  sw_row (m := 4) (b := 1281621) (ordN_moved F) h hp fun _ hc => sw_moved F (h _ hc)
theorem sh_codes {fs : List PyData} (F : Fields fs) {cs : List Int} (h : ∀ c ∈ cs, Cd c) (hp : cs.Pairwise (· < ·)) (hl : cs.length ≤ 12) : Sh (codesD fs cs) :=
by
  have hb : cs.length * 1281623 + 21 ≤ 16777216 := by omega
  have r := sw_codes F h hp
  generalize cs.length * 1281623 + 21 = B at hb r
  exact r.sh (by decide) hb
end Fb
namespace Fb
open PySem L2 NdefX
section
variable {P : Program} {w : World} {K : PySem.W.Frag} {mg : Str → Option Value} {base : Heap} {C f cc cda : Addr} {qual : Str} {st : Stmt} {oc : Value} {od : Option Addr} {osl : Array (Option Value)} {kV doc pm ct : Value} {an : Option Addr} {e : Expr} {good : List V → Prop}
theorem err2_ok {fl1 fl2 p r : Str} {q1 q2 q3 q4 q5 q6 q7 q8 : Pos} (T : SxF P K mg C cc cda qual) (lk : K.lookup f = some ⟨oc, od, .func (sxFd qual st cc cda kV doc pm an ct), osl⟩) (S : NScope ["self", p, r, "__class__"] ["self", p, r] ["__class__"] (defScope st))
    (W : SxT st f cc cda qual e [.Assign [.Attribute (.Name "self" q1) fl1 q2] (.Name p q3) q4, .Assign [.Attribute (.Name "self" q5) fl2 q6] (.Name r q7) q8]) (no1 : PySem.W.findIn K (.ref C) fl1 = some none) (no2 : PySem.W.findIn K (.ref C) fl2 = some none)
    (pd : (p == ("__debug__" : Str)) = false) (pc : (p == ("__classdict__" : Str)) = false) (rd : (r == ("__debug__" : Str)) = false) (rc : (r == ("__classdict__" : Str)) = false)
    (hs1 : ∀ L, swapsWith (.Name p q3) (some (.Attribute (.Name "self" q1) fl1 q2)) q4.line (envF (sxN qual st cc cda) f L) = pure false) (hs2 : ∀ L, swapsWith (.Name r q7) (some (.Attribute (.Name "self" q5) fl2 q6)) q8.line (envF (sxN qual st cc cda) f L) = pure false)
    (hmsg : ∀ (A : Around) (outer : List Env) (s : Shared) (H : Hp) (E : XK), ∃ ta, PA (ncx CX0 P w K mg base ["self", p, r, "__class__"] (sxN qual st cc cda) f A outer s H E) [e] ta ∧
      ∀ (a : Addr) (v u : V) (H : Hp) (Q : List V → Hp → Prop), good [v, u] → (∀ z, Q [.str z] H) → ta [some (.ref a), some v, some u, some (.ref C)] H Q) :
    FnOk P w K mg base CX0 1 f (sxFd qual st cc cda kV doc pm an ct) ["self", p, r] (spErr C [fl1, fl2] good) := by
  obtain ⟨p0, p1, ap, cp, ep, pl, h1, h2, h3, h4, h5⟩ := W.ex
  obtain ⟨ar, h6, h7⟩ := W.par
  refine sx_ok (pl := pl) T lk S W.su h1 h2 h3 h4 h5 h6 (by rw [h7]; rfl) (fun vs H Q E h => ?_) (fun A outer s H vs Q E hr h => ?_)
  · obtain ⟨a, ws, rfl, hl, _⟩ := h
    show ws.length + 1 = 3
    rw [hl]; rfl
  · obtain ⟨a, ws, rfl, hl, hg, ha, q⟩ := h
    match ws, hl with
    | [v, u], _ =>
    obtain ⟨ta, h8, h9⟩ := hmsg A outer s H E
    refine ⟨a, [v, u], ta, _, rfl, ha, h8, pss_cons (ps_ost (pe_var (i := 0) rfl (.inl (S.par _ (by simp)))) (pe_var (i := 1) rfl (.inl (S.par _ (by simp))) pd pc) (hs1 _))
      (pss_one (ps_ost (pe_var (i := 0) rfl (.inl (S.par _ (by simp)))) (pe_var (i := 2) rfl (.inl (S.par _ (by simp))) rd rc) (hs2 _))), ?_⟩
    refine h9 a v u H _ hg fun z => ⟨(by show 1 ≤ 1000; decide), ha, ?_⟩
    refine ⟨_, rfl, _, rfl, a, C, rfl, T.oex, no1, .inl ⟨ha, fun d hd hda => ?_⟩⟩
    refine ⟨_, rfl, _, rfl, a, C, rfl, T.oex, no2, .inr ⟨d, [(fl1, v)], upd_same, ?_, (by show 1 ≤ 900; decide), ?_⟩⟩
    · rw [upd_ne hda, upd_same]
    · have k := q d hd hda
      rw [upd_swap (Ne.symm hda), upd_twice]
      exact k
end
/-- two small ints: what a message may show -/
def twoInts (ws : List V) : Prop := ∃ i j : Int, ws = [.int i, .int j] ∧ i.natAbs < 10 ^ 20 ∧ j.natAbs < 10 ^ 20
theorem small_log {i : Int} (h : i.natAbs < 10 ^ 20) : i.natAbs.log2 < 1920 := PySem.Flt.log2_lt_of (by decide) (Nat.lt_trans h (by decide +kernel))
theorem small_txt {i : Int} (h : i.natAbs < 10 ^ 20) : (PySem.Str.ofString (toString i)).length ≤ 21 := by
  rw [PySem.ofString_length]
  exact PySem.int_text_length_le10 (a := i) (k := 20) (by decide) h
end Fb
namespace Fb
open PySem L2 NdefX
def twoW (ws : List V) : Prop := ∃ i j : Int, ws = [.int i, .int j] ∧ i.natAbs < 10 ^ 40 ∧ j.natAbs < 10 ^ 40
theorem small_logW {i : Int} (h : i.natAbs < 10 ^ 40) : i.natAbs.log2 < 1920 := PySem.Flt.log2_lt_of (by decide) (Nat.lt_trans h (by decide +kernel))
theorem small_txtW {i : Int} (h : i.natAbs < 10 ^ 40) : (PySem.Str.ofString (toString i)).length ≤ 41 := by
  rw [PySem.ofString_length]
  exact PySem.int_text_length_le10 (a := i) (k := 40) (by decide) h
def clsBody (s : Stmt) : List Stmt := match s with
  | .ClassDef _ _ _ b _ _ _ _ _ _ _ => b
  | _ => []
abbrev S_TooLarge : Stmt := (clsBody (top 2)).getD 0 (.Pass ⟨0, 0, 0, 0⟩)
section
variable {P : Program} {w : World} {K : PySem.W.Frag} {mg : Str → Option Value} {base : Heap} {f : Addr} {fd : FuncData}
theorem ok_TooLarge {C f cc cda : Addr} {oc : Value} {od : Option Addr} {osl : Array (Option Value)} {kV doc pm ct : Value} {an : Option Addr} (T : SxF P K mg C cc cda "TooLarge.__init__")
    (lk : K.lookup f = some ⟨oc, od, .func (sxFd "TooLarge.__init__" S_TooLarge cc cda kV doc pm an ct), osl⟩) (no1 : PySem.W.findIn K (.ref C) "parts" = some none) (no2 : PySem.W.findIn K (.ref C) "levels" = some none) :
    FnOk P w K mg base CX0 1 f (sxFd "TooLarge.__init__" S_TooLarge cc cda kV doc pm an ct) ["self", "parts", "levels"] (spErr C ["parts", "levels"] twoW) := by
  have S : NScope ["self", "parts", "levels", "__class__"] ["self", "parts", "levels"] ["__class__"] (defScope S_TooLarge) := nscope_by (by decide +kernel)
  refine err2_ok T lk S ⟨⟨_, _, _, _, _, _, rfl, fun _ => rfl, fun _ => rfl, fun _ => rfl, fun _ => rfl⟩, rfl, ⟨_, rfl, rfl⟩⟩ no1 no2 rfl rfl rfl rfl (fun _ => rfl) (fun _ => rfl) (fun A outer s H E => ⟨_, pa_cons (pe_joined (.cons pe_str (.cons (pe_fmt (pe_var (i := 1) rfl (.inl (S.par _ (by simp))))) (.cons pe_str (.cons (pe_fmt (pe_var (i := 2) rfl (.inl (S.par _ (by simp))))) .nil))))) pa_nil, fun a v u H Q hg q => ?_⟩)
  obtain ⟨i, j, e, hi, hj⟩ := hg
  cases e
  have li := small_txtW hi
  have lj := small_txtW hj
  refine ⟨_, rfl, ?_, _, rfl, .inr ⟨i, rfl, small_logW hi, _, rfl, ?_, _, rfl, ?_, _, rfl, .inr ⟨j, rfl, small_logW hj, _, rfl, ?_, q _⟩⟩⟩
  all_goals
    simp only [PySem.Str.length_append]
    have a0 : PySem.Str.empty.length = 0 := rfl
    have a1 : ("too large: size " : Str).length = 16 := by decide +kernel
    have a2 : (", height " : Str).length = 9 := by decide +kernel
    rw [PySem.sizeLine_eq]
    omega
abbrev S_judged : Stmt := top 42
abbrev N_judged : List Str := ["x", "parts", "levels"]
abbrev P_judged : List Str := ["x"]
theorem sc_judged : FnScope N_judged P_judged (defScope S_judged) := ⟨rfl, rfl, rfl, by decide +kernel, rfl, by decide +kernel, by decide +kernel⟩
/-- a number as it is, or the error with its size and its height -/
def spJudgedX (K : PySem.W.Frag) (n : Nat) (C : Addr) : Sp := fun vs H Q E => ∃ (v : V) (d : PyData), vs = [v] ∧ Dp K H v d ∧ Fm n d ∧ Sp_ n d ∧ ((sz n d).natAbs < 10 ^ 40 ∧ (lv n d).natAbs < 10 ^ 40) ∧ ((sz n d ≤ 2000 ∧ lv n d ≤ 6) → ∀ H' : Hp, Same H H' → Q v H') ∧
  (¬ (sz n d ≤ 2000 ∧ lv n d ≤ 6) → ∀ (H' : Hp) (a : Addr), Same H H' → H' a = none → E (.ref C) (some a) (upd H' a (.xd [("levels", .int (lv n d)), ("parts", .int (sz n d))])))
theorem lv_le : ∀ (n : Nat) (d : PyData), 0 ≤ lv n d ∧ lv n d ≤ n
  | 0, d => by cases d <;> exact ⟨Int.le_refl 0, Int.le_refl 0⟩
  | n + 1, d => by
    cases d with
    | tuple ds =>
      show 0 ≤ (match ds.getLast? with | some d => 1 + lv n d | none => 1) ∧ (match ds.getLast? with | some d => 1 + lv n d | none => 1) ≤ ((n + 1 : Nat) : Int)
      cases ds.getLast? with
      | none => exact ⟨by show (0 : Int) ≤ 1; decide, by show (1 : Int) ≤ _; omega⟩
      | some x =>
        have := lv_le n x
        exact ⟨by show (0 : Int) ≤ 1 + lv n x; omega, by show 1 + lv n x ≤ _; omega⟩
    | none => exact ⟨Int.le_refl 0, Int.le_of_lt (by show (0 : Int) < _; omega)⟩
    | bool b => exact ⟨Int.le_refl 0, Int.le_of_lt (by show (0 : Int) < _; omega)⟩
    | int i => exact ⟨Int.le_refl 0, Int.le_of_lt (by show (0 : Int) < _; omega)⟩
    | str x => exact ⟨Int.le_refl 0, Int.le_of_lt (by show (0 : Int) < _; omega)⟩
    | list x => exact ⟨Int.le_refl 0, Int.le_of_lt (by show (0 : Int) < _; omega)⟩
    | dict x => exact ⟨Int.le_refl 0, Int.le_of_lt (by show (0 : Int) < _; omega)⟩
theorem sz_small {n : Nat} {d : PyData} (h : Fm n d) (hn : n ≤ 8) : (sz n d).natAbs < 10 ^ 40 ∧ (lv n d).natAbs < 10 ^ 40 := by
  have b := sz_bd n d h
  have l := lv_le n d
  have p : (9001 : Int) ^ n ≤ 9001 ^ 8 := by
    rcases n with _ | _ | _ | _ | _ | _ | _ | _ | _ | n
    all_goals first | decide | omega
  have k : (9001 : Int) ^ 8 < 10 ^ 40 := by decide
  omega
theorem ok_judgedX {n : Nat} {C : Addr} {tk tk2 : Tok} (F : Fun K "judged" "judged" S_judged f fd) (B : Blt mg) (MP : mg "MOST_PARTS" = some (.int 2000 tk)) (MLv : mg "MOST_LEVELS" = some (.int 6 tk2)) (Cparts_in : Has P w K mg base (n + 1) "parts_in" P_parts_in [] (spCount K sz (n + 1))) (Clevels_in : Has P w K mg base 1 "levels_in" P_levels_in [] (spLevels K n))
    (T : Err P w K mg base "TooLarge" C ["parts", "levels"] twoW) : FnOk P w K mg base (L2.CX P w) (n + 3) f fd P_judged (spJudgedX K n C) := by
  have nd := sc_judged.nd
  refine F.okX sc_judged (fun vs H Q E h => ?_) (fun cdv A outer s H vs Q E hr h => ?_)
  · obtain ⟨v, d, rfl, _⟩ := h
    rfl
  obtain ⟨v, d, rfl, hd, hf, hs, hn, q, qe⟩ := h
  refine ⟨_, (C8.pss_cut (ps_if (pt_not (pt_val (pe_callB (call_isiI K) (by rfl) B.isinstance (by decide +kernel) (pa_cons (pv 0) (pa_cons (pe_bltn (by rfl) B.int (by decide +kernel) (show RelV (.ty "int") (.type "int") from rfl)) pa_nil))))) (pss_cons (ps_set (i := 1) nd rfl (Or.inl rfl) (pe_H Cparts_in (hr.mono (by omega)) rfl (pa_cons (pv 0) pa_nil)))
    (pss_cons (ps_set (i := 2) nd rfl (Or.inl rfl) (pe_H Clevels_in (hr.mono (by omega)) rfl (pa_cons (pv 0) pa_nil)))
    (pss_one (ps_if (PW.pt (pw_or (pt_cmpR op_gt (pv 1) (pe_glob (v := .int 2000) rfl MP ⟨_, rfl⟩) (nomark _)) (pw_or1 (pt_cmpR op_gt (pv 2) (pe_glob (v := .int 6) rfl MLv ⟨_, rfl⟩) (nomark _))))) (pss_one (ps_raise rfl (takes_of rfl rfl rfl rfl) (pmk_err T (hr.mono (by omega)) rfl (pa_cons (pv 1) (pa_cons (pv 2) pa_nil))))) pss_nil)))) pss_nil)
    (pss_one (ps_ret (pv 0)))), ?_⟩
  refine ⟨fun σ H' => (∃ z1 z2, σ = [some v, z1, z2]) ∧ Same H H' ∧ sz n d ≤ 2000 ∧ lv n d ≤ 6, ?_, ?_⟩
  · refine ⟨_, rfl, _, d, rfl, hd, _, rfl, ?_⟩
    cases hi : isI d with
    | true =>
      obtain ⟨i, rfl⟩ := fm_int hf hi
      refine iteF ⟨⟨_, _, rfl⟩, Same.refl H, by rw [sz_int]; decide, ?_⟩
      have : lv n (.int i) = 0 := by cases n <;> rfl
      rw [this]; decide
    | false =>
      refine iteT ?_
      refine ⟨_, rfl, v, d, rfl, hd, hf, fun H1 e1 => ?_⟩
      refine ⟨_, rfl, v, d, rfl, (Nd.of e1).d hd, hf, hs, fun H2 e2 => ?_⟩
      obtain ⟨t1, t2⟩ := hn
      have bad : ¬ (sz n d ≤ 2000 ∧ lv n d ≤ 6) → (fun σ H => tMkO C (spErr C ["parts", "levels"] twoW) [] (tCons (tVar 1) (tCons (tVar 2) tNil)) σ H fun cls d' H' => E cls d' H') [some v, some (.int (sz n d)), some (.int (lv n d))] H2 := fun hno =>
        ⟨_, rfl, _, rfl, err_mk rfl (by decide) ⟨_, _, rfl, t1, t2⟩ fun dd hdd => qe hno H2 dd (e1.trans e2) hdd⟩
      refine ⟨_, rfl, _, _, rfl, rfl, _, rfl, ?_⟩
      refine iteD (fun c => ?_) (fun c => ?_)
      · refine iteT ?_
        exact bad fun h => by omega
      · refine ⟨_, rfl, _, _, rfl, rfl, _, rfl, ?_⟩
        refine iteD (fun c2 => ?_) (fun c2 => ?_)
        · exact bad fun h => by omega
        · exact ⟨⟨_, _, rfl⟩, e1.trans e2, by omega, by omega⟩
  rintro σ H1 ⟨⟨z1, z2, rfl⟩, e, h1, h2⟩
  exact ⟨_, rfl, q ⟨h1, h2⟩ H1 e⟩
end
end Fb
namespace Fb
open PySem L2
section
variable {P : Program} {w : World} {K : PySem.W.Frag} {mg : Str → Option Value} {base : Heap} {f : Addr} {fd : FuncData}
abbrev S__law_draw : Stmt := top 71
abbrev N__law_draw : List Str := ["_law_tape", "_law_limit", "_law_at", "_law_span", "_law_cell", "_law_mixed", "_law_found"]
abbrev P__law_draw : List Str := ["_law_tape", "_law_limit"]
theorem sc__law_draw : FnScope N__law_draw P__law_draw (defScope S__law_draw) := ⟨rfl, rfl, rfl, by decide +kernel, rfl, by decide +kernel, by decide +kernel⟩
theorem ok_draw (F : Fun K "_law_draw" "_law_draw" S__law_draw f fd) (B : Blt mg) : FnOk P w K mg base CX0 1 f fd P__law_draw (spDraw K) := by
  have nd := sc__law_draw.nd
  refine F.ok sc__law_draw (fun vs H Q E h => ?_) (fun cdv A outer s H vs Q E hr h => ?_)
  · obtain ⟨τ, lim, n, rfl, _⟩ := h
    rfl
  obtain ⟨⟨t, c, cs⟩, lim, n, rfl, hT, h0, h9, q⟩ := h
  refine ⟨_, (C8.pss_cut (ps_if (pt_cmpR op_lt (pe_dget (hu_of hr) (pv 0) pe_str (fun _ _ => rfl)) (pv 1) (nomark _)) (pss_cons (ps_par (i := 2) (j := 3) (by rfl) nd rfl rfl (by decide) rfl rfl (pa_cons (pe_dget (hu_of hr) (pv 0) pe_str (fun _ _ => rfl)) (pa_cons (pe_callB call_lenL (by rfl) B.len PySem.boot_len (pa_cons (pe_dget (hu_of hr) (pv 0) pe_str (fun _ _ => rfl)) pa_nil)) pa_nil)) (by rfl))
    (pss_cons (ps_asg (pe_tup (pa_cons (pe_ix ix_list (pe_dget (hu_of hr) (pv 0) pe_str (fun _ _ => rfl)) (pe_op op_modN (pe_callTy call_intI (by rfl) B.int (by decide +kernel) (pa_cons (pv 2) pa_nil)) (pv 3)) (fun _ _ => rfl)) (pa_cons (pe_op op_add (pv 2) pe_int) pa_nil))) (pg_tup rfl (pgs_cons (pg_name (i := 4) nd rfl (Or.inl rfl)) (pgs_cons (pg_sub (pv 0) pe_str (set_dict (hu_of hr))) pgs_nil))))
    (pss_cons (ps_set (i := 5) nd rfl (Or.inl rfl) (pe_op op_add (pe_op op_add (pe_op op_modN (pe_callTy call_intI (by rfl) B.int (by decide +kernel) (pa_cons (pv 4) pa_nil)) pe_int) (pe_op op_mul pe_int (pv 2))) pe_int))
    (pss_cons (ps_dput (hu_of hr) (pv 0) pe_str (pe_op op_modN (pe_callTy call_intI (by rfl) B.int (by decide +kernel) (pa_cons (pe_op op_add (pe_op op_pow (pv 5) pe_int) (pe_op op_mul (pe_op op_mul pe_int (pv 2)) (pv 2))) pa_nil)) (pe_op op_add (pe_op op_pow pe_int pe_int) pe_int)) rfl)
    (pss_one (ps_if (PW.pt (pw_and (pt_cmpR op_ge (pv 4) (pe_op op_pow pe_int pe_int) (nomark _)) (pw_and1 (pt_cmpR op_lt (pv 2) (pv 3) (nomark _))))) (pss_one (ps_dput (hu_of hr) (pv 0) pe_str (pe_op op_sub (pv 4) (pe_op op_pow pe_int pe_int)) rfl)) pss_nil)))))) pss_nil)
    (pss_cons (ps_asg (pe_tup (pa_cons (pe_op op_modN (pe_callTy call_intI (by rfl) B.int (by decide +kernel) (pa_cons (pe_dget (hu_of hr) (pv 0) pe_str (fun _ _ => rfl)) pa_nil)) (pv 1)) (pa_cons (pe_op op_fdivW (pe_dget (hu_of hr) (pv 0) pe_str (fun _ _ => rfl)) (pv 1)) pa_nil))) (pg_tup rfl (pgs_cons (pg_name (i := 6) nd rfl (Or.inl rfl)) (pgs_cons (pg_sub (pv 0) pe_str (set_dict (hu_of hr))) pgs_nil))))
    (pss_one (ps_ret (pv 6))))), ?_⟩
  obtain ⟨a, r, ts, h3, h4, h5, h6, h7⟩ := hT
  replace ts : TS K t c cs a r H := ts
  replace h3 : cs ≠ [] := h3
  have hpos : 0 < cs.length := List.length_pos_iff.mpr h3
  have hlen : ((cs.map V.int).length : Int) = cs.length := by rw [List.length_map]
  refine ⟨fun σ H1 => σ[0]? = some (some (.ref t)) ∧ σ[1]? = some (some (.int lim)) ∧ σ.length = 7 ∧ Nd H H1 ∧ ∃ a' r', TS K t c cs a' r' H1 ∧ 0 ≤ a' ∧ a' ≤ a + 1 ∧ 0 ≤ r', ?_, ?_⟩
  · refine ⟨_, rfl, _, _, rfl, ts.rest, _, rfl, _, _, rfl, rfl, _, rfl, ?_⟩
    refine iteD (fun c1 => ?_) (fun c1 => ?_)
    · refine ⟨_, rfl, _, _, rfl, ts.at_, _, rfl, _, _, rfl, ts.cells, _, _, rfl, ts.s, _, _, rfl, ?_⟩
      obtain ⟨v, hv, hm⟩ := atI_mod (k := a) (by simpa using h3 : cs.map V.int ≠ [])
      obtain ⟨z, hz, rfl⟩ := List.mem_map.mp hm
      refine ⟨_, rfl, _, _, rfl, ts.cells, _, rfl, _, rfl, _, rfl, _, _, rfl, rfl, (by omega), _, _, _, _, rfl, rfl, ts.s, hv, _, rfl, _, _, rfl, rfl, (by show 2 ≤ sizeLine; decide), fun p1 np1 => ?_⟩
      have ts1 := ts.new (o := .tup [.int z, .int (a + 1)]) np1
      refine ⟨_, _, rfl, SqT.of upd_same, rfl, _, _, rfl, _, _, rfl, _, rfl, _, _, rfl, ts1.pat, rfl, ?_⟩
      have ts2 := ts1.put (b := a + 1) (u := r)
      have ex2 : Nd H _ := (Nd.new (o := .tup [.int z, .int (a + 1)]) np1).trans (Nd.tape (o := .dK (tp c (a + 1) r)) ts1.d)
      generalize upd (upd H p1 _) t _ = H2 at ts2 ex2 ⊢
      have m0 : 0 ≤ z.fmod 2305843009213693921 := Int.fmod_nonneg_of_pos _ (by omega)
      have m1 : z.fmod 2305843009213693921 < 2305843009213693921 := Int.fmod_lt_of_pos _ (by omega)
      refine ⟨_, rfl, _, rfl, _, _, rfl, rfl, (by show _ ≠ (0:Int); decide), _, rfl, _, _, rfl, rfl, .inl ⟨by omega, by omega⟩, _, _, rfl, rfl, _, _, rfl, rfl, ?_⟩
      refine ⟨_, rfl, _, _, rfl, rfl, ⟨by omega, by omega, by omega⟩, _, rfl, _, _, rfl, rfl, .inl ⟨by omega, by omega⟩, _, rfl, _, _, rfl, rfl, .inl ⟨by omega, by omega⟩, _, _, rfl, rfl, _, rfl, _, _, rfl, rfl, (by unfold CPow; decide), _, _, rfl, rfl, _, _, rfl, rfl, (by show _ ≠ (0:Int); decide), _, rfl, _, _, rfl, ts2.prest, ?_⟩
      have ts3 := ts2.put (b := a + 1) (u := Int.fmod ((z.fmod 2305843009213693921 + 50119 * a + 23911) ^ (13 : Int).toNat + 91 * a * a) ((10 : Int) ^ (48 : Int).toNat + 193))
      have ex3 := ex2.trans (Nd.tape (o := .dK (tp c (a + 1) (Int.fmod ((z.fmod 2305843009213693921 + 50119 * a + 23911) ^ (13 : Int).toNat + 91 * a * a) ((10 : Int) ^ (48 : Int).toNat + 193)))) ts2.d)
      have nn : 0 ≤ Int.fmod ((z.fmod 2305843009213693921 + 50119 * a + 23911) ^ (13 : Int).toNat + 91 * a * a) ((10 : Int) ^ (48 : Int).toNat + 193) := Int.fmod_nonneg_of_pos _ (by decide +kernel)
      generalize Int.fmod ((z.fmod 2305843009213693921 + 50119 * a + 23911) ^ (13 : Int).toNat + 91 * a * a) ((10 : Int) ^ (48 : Int).toNat + 193) = u3 at ts3 ex3 nn ⊢
      generalize upd H2 t _ = H3 at ts3 ex3 ⊢
      refine ⟨_, rfl, _, _, rfl, rfl, (by unfold CPow; decide), _, _, rfl, rfl, _, rfl, ?_⟩
      refine iteD (fun c2 => ?_) (fun c2 => ?_)
      · refine ⟨_, rfl, _, rfl, _, _, rfl, rfl, _, rfl, ?_⟩
        refine iteD (fun c3 => ?_) (fun c3 => ?_)
        · refine ⟨_, rfl, _, _, rfl, rfl, (by unfold CPow; decide), _, _, rfl, rfl, _, rfl, _, _, rfl, ts3.prest, ?_⟩
          exact ⟨rfl, rfl, rfl, ex3.trans (Nd.tape ts3.d), _, _, ts3.put, by omega, by omega, by omega⟩
        · exact ⟨rfl, rfl, rfl, ex3, _, _, ts3, by omega, by omega, nn⟩
      · refine iteF ?_
        exact ⟨rfl, rfl, rfl, ex3, _, _, ts3, by omega, by omega, nn⟩
    · exact ⟨rfl, rfl, rfl, Nd.refl _, _, _, ts, h5, by omega, h7⟩
  rintro σ H1 ⟨s0, s1, s7, ex, a', r', ts, ha0, ha1, hr0⟩
  refine ⟨_, s0, _, _, rfl, ts.rest, _, rfl, _, s1, _, _, rfl, rfl, (by omega), _, s0, _, _, rfl, ts.rest, _, s1, _, _, rfl, rfl, div_BigL h0 h9, (by show 2 ≤ sizeLine; decide), fun p2 np2 => ?_⟩
  have ts1 := ts.new (o := .tup [.int (r'.fmod lim), .int (r' / lim)]) np2
  have s0' : (σ.set 6 (some (V.int (r'.fmod lim))))[0]? = some (some (.ref t)) := by rw [List.getElem?_set_ne (by decide)]; exact s0
  refine ⟨_, _, rfl, SqT.of upd_same, rfl, _, _, rfl, _, _, rfl, _, s0', _, _, rfl, ts1.prest, rfl, ?_⟩
  have s6 : (σ.set 6 (some (V.int (r'.fmod lim))))[6]? = some (some (V.int (r'.fmod lim))) := by rw [List.getElem?_set_self (by omega)]
  refine ⟨_, s6, ?_⟩
  have ts2 := ts1.put (b := a') (u := r' / lim)
  refine q _ _ (ex.trans ((Nd.new np2).trans (Nd.tape ts1.d))) ⟨a', r' / lim, ts2, h3, h4, ha0, by omega, Int.ediv_nonneg hr0 (by omega)⟩ (Int.fmod_nonneg_of_pos _ h0) (Int.fmod_lt_of_pos _ h0)
abbrev S__law_begin : Stmt := top 70
abbrev N__law_begin : List Str := ["_law_script"]
abbrev P__law_begin : List Str := ["_law_script"]
theorem sc__law_begin : FnScope N__law_begin P__law_begin (defScope S__law_begin) := ⟨rfl, rfl, rfl, by decide +kernel, rfl, by decide +kernel, by decide +kernel⟩
def spBegin (K : PySem.W.Frag) : Sp := fun vs H Q _ => ∃ (a : Addr) (ns : List Int), vs = [.ref a] ∧ SqL K H a (ns.map V.int) ∧ ns.length ≤ 63 ∧ ∀ (τ : Tp) (H' : Hp), Same H H' → Tape K τ (2 ^ 39) H' → Q (.ref τ.t) H'
theorem ok_begin (F : Fun K "_law_begin" "_law_begin" S__law_begin f fd) : FnOk P w K mg base CX0 1 f fd P__law_begin (spBegin K) := by
  have nd := sc__law_begin.nd
  refine F.ok sc__law_begin (fun vs H Q E h => ?_) (fun cdv A outer s H vs Q E hr h => ?_)
  · obtain ⟨a, ns, rfl, _⟩ := h
    rfl
  obtain ⟨a, ns, rfl, hS, h63, q⟩ := h
  refine ⟨_, (pss_one (ps_ret (pe_disp (pps_cons pe_str (pe_orT (pe_slice sl_list (pv 0) po_none (po_some pe_int)) (pe_one (pe_lst (pa_cons pe_int pa_nil)))) (pps_cons pe_str pe_int (pps_cons pe_str pe_int pps_nil))) (by rfl) (by rfl) (fun z => by cases z) (by decide)))), ?_⟩
  refine fun p np => ?_
  have g0 : Same H (upd H p (.dK [])) := Same.new np
  refine ⟨_, rfl, _, rfl, _, _, rfl, g0.seq hS, fun l nl => ?_⟩
  have nlp : p ≠ l := by rintro rfl; rw [upd_same] at nl; cases nl
  have ec : ∃ cs : List Int, cutV (ns.map V.int) none (some 63) = cs.map V.int ∧ cs.length ≤ 63 := by
    unfold cutV
    rw [← List.map_drop, ← List.map_take]
    exact ⟨_, rfl, by rw [List.length_take, List.length_drop]; omega⟩
  obtain ⟨cs, ecs, lcs⟩ := ec
  rw [ecs]
  have fin : ∀ (c : Addr) (zs : List Int) (H2 : Hp), Same H H2 → H2 p = some (.dK []) → H2 c = some (.lst (zs.map V.int)) → zs ≠ [] → zs.length ≤ 63 → Q (.ref p) (upd H2 p (.dK (tp c 0 0))) := fun c zs H2 g e1 e2 n0 n1 => by
    have hn : c ≠ p := by rintro rfl; rw [e1] at e2; cases e2
    refine q ⟨p, c, zs⟩ _ (Same.mut g np) ⟨0, 0, ⟨upd_same, SqL.of (by rw [upd_ne hn]; exact e2)⟩, n0, n1, Int.le_refl _, by decide, Int.le_refl _⟩
  have g1 : Same H (upd (upd H p (.dK [])) l (.lst (cs.map V.int))) := Same.mut g0 (g0.free nl)
  by_cases hz : cs = []
  · subst hz
    refine ⟨false, .inl ⟨_, SqL.of upd_same, rfl⟩, iteF ?_⟩
    refine ⟨(by show 1 ≤ sizeLine; decide), fun l2 nl2 => ?_⟩
    have ep : (upd (upd H p (.dK [])) l (.lst (List.map V.int []))) p = some (.dK []) := by rw [upd_ne nlp, upd_same]
    have nlp2 : p ≠ l2 := by rintro rfl; rw [ep] at nl2; cases nl2
    refine ⟨(by rw [upd_ne nlp2]; exact ep), [(.inr "cells", .ref l2), (.inr "at", .int 0), (.inr "rest", .int 0)], rfl, (by show 3 ≤ 15; decide), ?_⟩
    exact fin l2 [0] _ (Same.mut g1 (g1.free nl2)) (by rw [upd_ne nlp2]; exact ep) upd_same (by decide) (by decide)
  · refine ⟨true, .inl ⟨_, SqL.of upd_same, ?_⟩, iteT ?_⟩
    · cases cs with
      | nil => exact absurd rfl hz
      | cons z zs => rfl
    have ep : (upd (upd H p (.dK [])) l (.lst (cs.map V.int))) p = some (.dK []) := by rw [upd_ne nlp, upd_same]
    refine ⟨ep, [(.inr "cells", .ref l), (.inr "at", .int 0), (.inr "rest", .int 0)], rfl, (by show 3 ≤ 15; decide), ?_⟩
    exact fin l cs _ g1 ep upd_same hz lcs
abbrev S__law_pick : Stmt := top 72
abbrev N__law_pick : List Str := ["_law_tape", "_law_some"]
abbrev P__law_pick : List Str := ["_law_tape", "_law_some"]
theorem sc__law_pick : FnScope N__law_pick P__law_pick (defScope S__law_pick) := ⟨rfl, rfl, rfl, by decide +kernel, rfl, by decide +kernel, by decide +kernel⟩
def spPick (K : PySem.W.Frag) : Sp := fun vs H Q _ => ∃ (τ : Tp) (l : Addr) (xs : List V) (n : Nat), vs = [.ref τ.t, .ref l] ∧ SqL K H l xs ∧ xs ≠ [] ∧ xs.length ≤ 100000 ∧ Tape K τ (n + 1) H ∧ ∀ (x : V) (i : Nat) (H' : Hp), Nd H H' → Tape K τ n H' → xs[i]? = some x → Q x H'
theorem ok_pick (F : Fun K "_law_pick" "_law_pick" S__law_pick f fd) (B : Blt mg) (C_law_draw : Has P w K mg base 1 "_law_draw" P__law_draw [] (spDraw K)) : FnOk P w K mg base CX0 2 f fd P__law_pick (spPick K) := by
  have nd := sc__law_pick.nd
  refine F.ok sc__law_pick (fun vs H Q E h => ?_) (fun cdv A outer s H vs Q E hr h => ?_)
  · obtain ⟨t, l, xs, n, rfl, _⟩ := h
    rfl
  obtain ⟨t, l, xs, n, rfl, hS, h0, h1, hT, q⟩ := h
  refine ⟨_, (pss_one (ps_ret (pe_ix ix_list (pv 1) (pe_H C_law_draw (hr.mono (by decide)) rfl (pa_cons (pv 0) (pa_cons (pe_callB call_lenL (by rfl) B.len PySem.boot_len (pa_cons (pv 1) pa_nil)) pa_nil))) (fun _ _ => rfl)))), ?_⟩
  have hp : 0 < xs.length := List.length_pos_iff.mpr h0
  refine ⟨_, rfl, _, rfl, _, rfl, _, _, rfl, hS, t, _, n, rfl, hT, (by omega), lt_BigL (by omega), fun d H' e hT' d0 d1 => ?_⟩
  obtain ⟨j, rfl⟩ := Int.eq_ofNat_of_zero_le d0
  have hj : j < xs.length := by omega
  refine ⟨_, _, _, _, rfl, rfl, e.sql hS, atI_nat (List.getElem?_eq_getElem hj), ?_⟩
  exact q _ j _ e hT' (List.getElem?_eq_getElem hj)
/-! ### turns, ints, forms -/
abbrev S__law_turns : Stmt := top 73
abbrev N__law_turns : List Str := ["_law_number", "_law_marks", "_law_found", "_law_low"]
abbrev P__law_turns : List Str := ["_law_number"]
theorem sc__law_turns : FnScope N__law_turns P__law_turns (defScope S__law_turns) := ⟨rfl, rfl, rfl, by decide +kernel, rfl, by decide +kernel, by decide +kernel⟩
def spTurns : Sp := fun vs H Q _ => ∃ x : Int, vs = [.int x] ∧ InB x ∧ ∀ (p : Addr) (H' : Hp), Same H H' → H p = none → H' p = some (.lst (nI (turnsN x))) → Q (.ref p) H'
theorem ok_turns (F : Fun K "_law_turns" "_law_turns" S__law_turns f fd) : FnOk P w K mg base CX0 1 f fd P__law_turns spTurns := by
  have nd := sc__law_turns.nd
  refine F.ok sc__law_turns (fun vs H Q E h => ?_) (fun cdv A outer s H vs Q E hr h => ?_)
  · obtain ⟨x, rfl, _⟩ := h
    rfl
  obtain ⟨x, rfl, hx, q⟩ := h
  refine ⟨_, (pss_cons (ps_par (i := 1) (j := 2) (by rfl) nd rfl rfl (by decide) rfl rfl (pa_cons (pe_op op_xor (pv 0) (pe_op op_mul (pv 0) pe_int)) (pa_cons (pe_lst pa_nil) pa_nil)) (by rfl))
    (pss_cons (ps_while PassesOwn.never (pt_cmpR op_ne (pv 1) pe_int (nomark _)) (pss_cons (ps_set (i := 3) nd rfl (Or.inl rfl) (pe_op op_and (pv 1) (pe_un un_neg (pv 1))))
    (pss_cons (ps_expr (pe_bm PySem.F.plainAttrs_list PySem.F.slot_list_append PySem.F.type_list_append mt_append (pv 2) (pa_cons (pe_op op_sub (pe_bits (pv 3)) pe_int) pa_nil)))
    (pss_one (ps_set (i := 1) nd rfl (Or.inl rfl) (pe_op op_sub (pv 1) (pv 3)))))))
    (pss_one (ps_ret (pv 2))))), ?_⟩
  refine ⟨_, rfl, _, rfl, _, _, rfl, rfl, .inr ⟨by decide, by decide⟩, _, _, rfl, rfl, (by show 0 ≤ sizeLine; decide), fun p np => ?_⟩
  refine ⟨_, _, rfl, ?_⟩
  refine ⟨fun m σ H' => ∃ (z : Option V) (done : List Nat), σ = [some (.int x), some (.int (m : Int)), some (.ref p), z] ∧ H' p = some (.lst (nI done)) ∧ done ++ ones m = turnsN x ∧ Same H H', ⟨marks x, _, [], (by rw [← marks_val x]; rfl), upd_same, rfl, Same.new np⟩, ?_⟩
  rintro m σ H' ⟨z, done, rfl, hp, hd, e⟩
  refine ⟨_, rfl, rfl, _, rfl, ?_⟩
  refine iteDN (fun c => ?_) (fun c => ?_)
  · have hm : m ≠ 0 := fun h => c (by rw [h]; rfl)
    obtain ⟨k, k1, k2, k3⟩ := marks_low hm
    refine ⟨fun σ' H'' => ∃ (z : Option V) (done : List Nat), σ' = [some (.int x), some (.int ((m - 2 ^ k : Nat) : Int)), some (.ref p), z] ∧ H'' p = some (.lst (nI done)) ∧ done ++ ones (m - 2 ^ k) = turnsN x ∧ Same H H'', fun σ' H'' h => ⟨m - 2 ^ k, Nat.sub_lt (by omega) (Nat.two_pow_pos k), h⟩, ?_⟩
    refine ⟨_, rfl, _, rfl, _, rfl, _, _, rfl, rfl, ?_⟩
    have hb : (Builtin.Int.intBits (Builtin.bitAnd (m : Int) (-(m : Int))) : Int) - 1 = k := by
      rw [k1]
      unfold Builtin.Int.intBits
      have h0 : ((2 : Int) ^ k == 0) = false := beq_false_of_ne (Int.ne_of_gt (Int.pow_pos (by decide)))
      rw [h0]
      have h1 : ((2 : Int) ^ k).natAbs = 2 ^ k := by rw [Int.natAbs_pow]; rfl
      rw [h1, Nat.log2_two_pow]
      simp
    have hlen : (nI done).length < sizeLine := by
      have h1 := turns_len (n := 600000) hx.1 hx.2
      rw [← hd, List.length_append] at h1
      unfold nI
      rw [List.length_map]
      exact Nat.lt_of_le_of_lt (show done.length ≤ 600001 by omega) (by decide)
    refine ⟨_, rfl, .inl ⟨rfl, _, SqL.of hp⟩, _, rfl, _, rfl, _, _, rfl, rfl, p, _, _, rfl, rfl, hp, hlen, ?_⟩
    refine ⟨_, rfl, _, rfl, _, _, rfl, rfl, ?_⟩
    have hc : (m : Int) - Builtin.bitAnd (m : Int) (-(m : Int)) = ((m - 2 ^ k : Nat) : Int) := by
      rw [k1]
      have h2 : ((2 ^ k : Nat) : Int) = (2 : Int) ^ k := Int.natCast_pow 2 k
      omega
    refine ⟨some (.int (Builtin.bitAnd (m : Int) (-(m : Int)))), done ++ [k], by rw [← hc]; rfl, ?_, ?_, Same.mut e np⟩
    · rw [upd_same]
      show some (HO.lst (nI done ++ [V.int ((Builtin.Int.intBits (Builtin.bitAnd (m : Int) (-(m : Int))) : Int) - 1)])) = _
      rw [hb]
      unfold nI
      rw [List.map_append]
      rfl
    · rw [List.append_assoc, ← hd, k3]
      rfl
  · have hm : m = 0 := by injection c with c; omega
    subst hm
    rw [ones_zero, List.append_nil] at hd
    subst hd
    exact ⟨_, rfl, q p H' e np hp⟩
abbrev S__law_int : Stmt := top 74
abbrev N__law_int : List Str := ["_law_places", "_law_total", "_law_sign", "_law_turn"]
abbrev P__law_int : List Str := ["_law_places"]
theorem sc__law_int : FnScope N__law_int P__law_int (defScope S__law_int) := ⟨rfl, rfl, rfl, by decide +kernel, rfl, by decide +kernel, by decide +kernel⟩
def spInt (K : PySem.W.Frag) : Sp := fun vs H Q _ => ∃ (a : Addr) (ns : List Nat), vs = [.ref a] ∧ SqL K H a (nI ns) ∧ (∀ n ∈ ns, n ≤ 10000) ∧ ∀ H' : Hp, Same H H' → Q (.int (alt (-1) ns)) H'
theorem ok_int (F : Fun K "_law_int" "_law_int" S__law_int f fd) : FnOk P w K mg base CX0 1 f fd P__law_int (spInt K) := by
  have nd := sc__law_int.nd
  refine F.ok sc__law_int (fun vs H Q E h => ?_) (fun cdv A outer s H vs Q E hr h => ?_)
  · obtain ⟨a, ns, rfl, _⟩ := h
    rfl
  obtain ⟨a, ns, rfl, hS, hn, q⟩ := h
  refine ⟨_, (pss_cons (ps_asg (pe_tup (pa_cons pe_int (pa_cons (pe_un un_neg pe_int) pa_nil))) (pg_tup rfl (pgs_cons (pg_name (i := 1) nd rfl (Or.inl rfl)) (pgs_cons (pg_name (i := 2) nd rfl (Or.inl rfl)) pgs_nil))))
    (pss_cons (ps_for PassesOwn.never rfl (pi_list (pv 0)) (pg_name (i := 3) nd rfl (Or.inl rfl)) (pss_one (ps_par (i := 1) (j := 2) (by rfl) nd rfl rfl (by decide) rfl rfl (pa_cons (pe_op op_add (pv 1) (pe_op op_mul (pv 2) (pe_op op_shl pe_int (pv 3)))) (pa_cons (pe_un un_neg (pv 2)) pa_nil)) (by rfl))))
    (pss_one (ps_ret (pv 1))))), ?_⟩
  refine ⟨_, rfl, (by show 2 ≤ sizeLine; decide), fun p np => ?_⟩
  have g0 : Same H (upd H p (.tup [.int 0, .int (-1)])) := Same.new np
  have hS0 := hS
  replace hS := g0.seq hS
  refine ⟨_, _, rfl, SqT.of upd_same, rfl, _, _, rfl, _, _, rfl, rfl, ?_⟩
  generalize upd H p _ = H0 at g0 hS ⊢
  refine ⟨_, rfl, _, rfl, ⟨_, hS⟩, ?_⟩
  refine for_list (xs := nI ns) (fun i σ H' => ∃ (tot sg : Int) (z : Option V), σ = [some (.ref a), some (.int tot), some (.int sg), z] ∧ (sg = 1 ∨ sg = -1) ∧ tot + alt sg (ns.drop i) = alt (-1) ns ∧ H' = H0)
    ⟨0, -1, _, rfl, .inr rfl, by rw [List.drop_zero]; omega, rfl⟩ (fun i σ H' _ p => ?_) (fun i x σ H' hx p => ?_) (fun σ H' p => ?_)
  · obtain ⟨_, _, _, _, _, _, rfl⟩ := p
    exact hS
  · obtain ⟨tot, sg, z, rfl, hsg, ht, rfl⟩ := p
    unfold nI at hx
    rw [List.getElem?_map] at hx
    obtain ⟨n, hn1, rfl⟩ := Option.map_eq_some_iff.mp hx
    have hi : i < ns.length := (List.getElem?_eq_some_iff.mp hn1).1
    have ed : ns.drop i = n :: ns.drop (i + 1) := by
      rw [List.drop_eq_getElem_cons hi]
      rw [List.getElem?_eq_getElem hi] at hn1
      injection hn1 with h; rw [h]
    have hb := hn n (List.mem_of_getElem? hn1)
    refine ⟨_, rfl, _, rfl, _, rfl, _, _, rfl, rfl, ⟨by omega, by omega, by decide⟩, _, _, rfl, rfl, .inl ⟨by omega, by omega⟩, _, _, rfl, rfl, _, rfl, _, rfl, _, _, rfl, ?_⟩
    refine ⟨_, -sg, _, rfl, by omega, ?_, rfl⟩
    rw [ed] at ht
    have ht' : tot + (sg * 2 ^ n + alt (-sg) (ns.drop (i + 1))) = alt (-1) ns := ht
    rw [show ((n : Int)).toNat = n from rfl, Int.one_mul]
    omega
  · obtain ⟨tot, sg, z, rfl, hsg, ht, rfl⟩ := p
    refine ⟨_, rfl, ?_⟩
    have e0 : alt sg (ns.drop (nI ns).length) = 0 := by
      unfold nI
      rw [List.length_map, List.drop_length]
      rfl
    rw [e0, Int.add_zero] at ht
    rw [ht]
    exact q _ g0
def spForm (K : PySem.W.Frag) : Sp := fun vs H Q _ => ∃ x : Int, vs = [.int x] ∧ InB x ∧ ∀ (v : V) (H' : Hp), Same H H' → Dp K H' v (formD x) → Q v H'
end
end Fb
namespace Fb
open PySem L2
section
variable {P : Program} {w : World} {K : PySem.W.Frag} {mg : Str → Option Value} {base : Heap} {f : Addr} {fd : FuncData}
abbrev S__law_row_form : Stmt := top 75
abbrev N__law_row_form : List Str := ["_law_places"]
abbrev P__law_row_form : List Str := ["_law_places"]
theorem sc__law_row_form : FnScope N__law_row_form P__law_row_form (defScope S__law_row_form) := ⟨rfl, rfl, rfl, by decide +kernel, rfl, by decide +kernel, by decide +kernel⟩
def spRow (K : PySem.W.Frag) : Sp := fun vs H Q _ => ∃ (a : Addr) (xs : List V) (ds : List PyData) (n : Nat), vs = [.ref a] ∧ SqL K H a xs ∧ DpAll K H xs ds ∧ n ≤ 40 ∧ (∀ d ∈ ds, Fm n d) ∧ RowC ds ∧ ∀ (v : V) (H' : Hp), Same H H' → Dp K H' v (rowD ds) → Q v H'
theorem ok_row (F : Fun K "_law_row_form" "_law_row_form" S__law_row_form f fd) (B : Blt mg) (C_law_int : Has P w K mg base 1 "_law_int" P__law_int [] (spInt K)) : FnOk P w K mg base CX0 2 f fd P__law_row_form (spRow K) := by
  have nd := sc__law_row_form.nd
  refine F.ok sc__law_row_form (fun vs H Q E h => ?_) (fun cdv A outer s H vs Q E hr h => ?_)
  · obtain ⟨a, xs, ds, n, rfl, _⟩ := h
    rfl
  obtain ⟨a, xs, ds, n, rfl, hS, hd, n40, hf, hrow, q⟩ := h
  refine ⟨_, (pss_cons (ps_if (PW.pt (pw_or (pt_cmpR (op_eqD hr.units) (pv 0) (pe_lst pa_nil) (nomark _)) (pw_or1 (PW.pt (pw_and (pt_val (pe_callB (call_isiI K) (by rfl) B.isinstance (by decide +kernel) (pa_cons (pe_ix ix_list (pv 0) (pe_un un_neg pe_int) (fun _ _ => rfl)) (pa_cons (pe_bltn (by rfl) B.int (by decide +kernel) (show RelV (.ty "int") (.type "int") from rfl)) pa_nil)))) (pw_and1 (pt_cmpR op_le (pe_ix ix_list (pv 0) (pe_un un_neg pe_int) (fun _ _ => rfl)) pe_int (nomark _)))))))) (pss_one (ps_ret (pe_H C_law_int (hr.mono (by decide)) rfl (pa_cons (pv 0) pa_nil)))) pss_nil)
    (pss_one (ps_ret (pe_callTy call_tupL (by rfl) B.tuple (by decide +kernel) (pa_cons (pv 0) pa_nil))))), ?_⟩
  refine ⟨_, rfl, (by show 0 ≤ sizeLine; decide), fun p np => ?_⟩
  have g0 : Same H (upd H p (.lst [])) := Same.new np
  have hS' : SqL K (upd H p (.lst [])) a xs := g0.seq hS
  have hd' : DpAll K (upd H p (.lst [])) xs ds := (Nd.of g0).ds hd
  refine ⟨.list ds, .list [], .lst hS' hd', .lst (SqL.of upd_same) .nil, shaped_list n40 hf, shaped_nil, _, rfl, ?_⟩
  generalize upd H p _ = H1 at g0 hS' hd' ⊢
  rw [eqv_nil]
  rcases List.eq_nil_or_concat ds with rfl | ⟨m, dl, rfl⟩
  · cases hd'
    refine iteT ?_
    exact ⟨_, rfl, a, [], rfl, hS', (fun n hn => by cases hn), fun H' e => q _ _ (g0.trans e) (.int _)⟩
  · rw [List.concat_eq_append] at *
    have ee : (m ++ [dl]).isEmpty = false := by cases m <;> rfl
    rw [ee]
    refine iteF ?_
    obtain ⟨x, ex, hx⟩ := dps_last hd'
    have el : (m ++ [dl]).getLast? = some dl := List.getLast?_concat ..
    have far : isNear dl = false → ∀ l, H1 l = none → Q (.ref l) (upd H1 l (.tup xs)) := fun hn l nl => by
      refine q _ _ (g0.trans (Same.new nl)) ?_
      rw [rowD_far el hn]
      exact .tup (SqT.of upd_same) ((Nd.new nl).ds hd')
    refine ⟨_, rfl, _, rfl, a, _, _, _, rfl, rfl, hS', ex, _, dl, rfl, hx, _, rfl, ?_⟩
    cases dl with
    | int i =>
      cases hx
      refine iteT ?_
      refine ⟨_, rfl, _, rfl, a, _, _, _, rfl, rfl, hS', ex, _, _, rfl, rfl, _, rfl, ?_⟩
      refine iteD (fun c => ?_) (fun c => ?_)
      · have hn : isNear (.int i) = true := decide_eq_true c
        obtain ⟨ns, e, hb⟩ := hrow _ el hn
        rw [e] at hd' el q
        have exs := dps_n_inv hd'
        rw [exs] at hS'
        refine ⟨_, rfl, a, ns, rfl, hS', (fun n hn => Nat.le_trans (hb n hn) (by decide)), fun H' e => q _ _ (g0.trans e) ?_⟩
        rw [rowD_near el hn]
        exact .int _
      · exact ⟨_, rfl, a, xs, rfl, hS', far (decide_eq_false c)⟩
    | bool b => exact (fm_bool (hf (.bool b) (by simp))).elim
    | none => exact iteF ⟨_, rfl, a, xs, rfl, hS', far rfl⟩
    | str z => exact iteF ⟨_, rfl, a, xs, rfl, hS', far rfl⟩
    | list z => exact iteF ⟨_, rfl, a, xs, rfl, hS', far rfl⟩
    | tuple z => exact iteF ⟨_, rfl, a, xs, rfl, hS', far rfl⟩
    | dict z => exact iteF ⟨_, rfl, a, xs, rfl, hS', far rfl⟩
def spMoved (K : PySem.W.Frag) : Sp := fun vs H Q _ => ∃ (c : Int) (b : Addr) (ys : List V) (fs : List PyData) (m : Nat), vs = [.int c, .ref b] ∧ SqL K H b ys ∧ DpAll K H ys (fs.take m) ∧ Fields fs ∧ (∀ p ∈ turnsN c, p / 200 < m) ∧ 0 ≤ c ∧ c < 2 ^ 799 ∧ ∀ (v : V) (H' : Hp), Same H H' → Dp K H' v (movedD fs c) → Q v H'
theorem fields_at {fs : List PyData} (F : Fields fs) {i : Nat} {d : PyData} (h : fs[i]? = some d) : (∃ a : Int, d = .int a ∧ 0 ≤ a ∧ a < 2 ^ 64) ∨ ∃ ts, d = .tuple ts ∧ ts ≠ [] ∧ ts.length ≤ 50 := by
  obtain ⟨a, low, g, f2, f3, rfl, a0, a1, _, _, _, _, k2, k3⟩ := F.ex
  obtain ⟨t2, rfl, l2, _, d2, e2, _⟩ := f2_ok (n := 0) k2
  obtain ⟨t3, h3, rfl, h1, l3, _, d3, e3, _⟩ := f3_ok (n := 0) k2 k3
  match i, h with
  | 0, h => cases h; exact .inl ⟨0, rfl, by decide, by decide⟩
  | 1, h => cases h; exact .inl ⟨a, rfl, by omega, a1⟩
  | 2, h => cases h; exact .inr ⟨t2, rfl, fun z => (by rw [z] at e2; cases e2), l2⟩
  | 3, h => cases h; exact .inr ⟨t3, rfl, fun z => (by rw [z] at e3; cases e3), l3⟩
  | n + 4, h => simp at h
def spFoc (K : PySem.W.Frag) : Sp := fun vs H Q _ => ∃ (a b : Addr) (cs : List Int) (ys : List V) (fs : List PyData) (m : Nat), vs = [.ref a, .ref b] ∧ SqL K H a (cs.map V.int) ∧ SqL K H b ys ∧ DpAll K H ys (fs.take m) ∧ Fields fs ∧ Codes cs ∧ (∀ c ∈ cs, ∀ p ∈ turnsN c, p / 200 < m) ∧ ∀ (v : V) (H' : Hp), Same H H' → Dp K H' v (codesD fs cs) → Q v H'
theorem moved_fm {fs : List PyData} (F : Fields fs) {c : Int} (h0 : 0 ≤ c) (h1 : c < 2 ^ 799) : Fm 4 (movedD fs c) := by
  obtain ⟨hm, _, k⟩ := moveds F 0
  exact (k c h0 h1).2.1.fm
end
end Fb
namespace Fb
open PySem L2 PyProof.Rows
/-- the binary signs of a number, the highest first -/
def digB (n : Nat) : List Nat := (Nat.toDigits 2 n).map Char.toNat
section
open Builtin Builtin.Str Builtin.Int Builtin.Float PySem.W
theorem cps_b : ("b" : Str).cps.toList = [98] := by decide +kernel
theorem parse_b (name : String) : parseFormatSpec ("b" : Str).cps.toList name 62 = .ok { align := 62, type := some 98 } := by
  rw [cps_b]; kernel_rfl
theorem field_plain (ds : List Nat) : intField' { align := 62, type := some 98 } false [] ds [] 4 = SX.S ds := by
  unfold intField'
  cases ds with
  | nil => rfl
  | cons d ds =>
    simp
    omega
theorem meets_fmt (spec : Str) (f : FormatSpec) (hf : f = { align := 62, type := some 98 }) (hp : parseFormatSpec spec.cps.toList "int" 62 = .ok f) (hne : (spec.length == 0) = false)
    (hasc : ((spec.cps.toList.drop 1).any (· ≥ 128) || (spec.cps.getD 0 0 ≥ 128 && !([60, 62, 61, 94] : List Nat).contains (spec.cps.getD 1 0))) = false)
    (n : Nat) (t u : Tok) (hz : (digB n).length ≤ sizeLine) : Meets («int.__format__» ⟨[.int (n : Int) t, .str spec u], []⟩) (fun _ R s => ∀ t' k, R (.ok (.ret (.str (SX.S (digB n)) t'))) { s with toks := k }) := by
  apply PySem.W.KPc.meets_of
  intro prog w A s Q E h
  unfold Builtin.«int.__format__»
  simp only [selfAndOne, noKeywords, Int.intOfSelf, asInt?, asStr?, List.isEmpty_nil, if_true, pure_bind, bind_assoc, hne, hasc, Bool.false_eq_true, if_false,
    show (Value.str spec u == Value.none) = false from rfl]
  refine wpAny_bind (wpAny_typeNameOf (T := "str") (typeIs_str _ _ _) (by decide) fun _ => ?_)
  refine wpAny_bind (wpAny_typeNameOfCut_int ?_)
  have hty : f.type = some 98 := by rw [hf]
  have hpr : f.precision = none := by rw [hf]
  have hnz : f.noNeg0 = false := by rw [hf]
  have hw : f.width = none := by rw [hf]
  have hal : f.alt = false := by rw [hf]
  have hgr : f.grouping = none := by rw [hf]
  have hsg : f.sign = none := by rw [hf]
  have hfi : f.fill = 32 := by rw [hf]
  have hag : f.align = 62 := by rw [hf]
  simp only [hp, hty, Option.getD_some]
  rw [if_pos (by decide)]
  show wpAny _ _ (if _ then _ else _) _ _ _
  rw [if_neg (by simp [hpr])]
  show wpAny _ _ (if _ then _ else _) _ _ _
  rw [if_neg (by simp [hnz])]
  show wpAny _ _ (if _ then _ else _) _ _ _
  rw [if_neg (by decide)]
  show wpAny _ _ (if _ then _ else _) _ _ _
  rw [if_neg (by simp)]
  show wpAny _ _ (if _ then _ else _) _ _ _
  rw [if_neg (by simp [hw])]
  show wpAny _ _ (retStr _) _ _ _
  have hneg : decide ((n : Int) < 0) = false := decide_eq_false (by omega)
  simp only [hneg, hal, Int.natAbs_natCast, Bool.false_eq_true, if_false, show ((98 : Nat) == 88) = false from rfl, show ((2 : Nat) == 10) = false from rfl]
  subst hf
  have e := field_plain (digB n)
  refine KXf.ret_text (X := intField' { align := 62, type := some 98 } false [] (digB n) [] 4) e (by rw [e]; exact Nat.le_trans (Nat.le_of_eq (SX.S_len _)) hz) h
theorem meets_fmtB (n : Nat) (t u : Tok) (hz : (digB n).length ≤ sizeLine) : Meets («int.__format__» ⟨[.int (n : Int) t, .str "b" u], []⟩) (fun _ R s => ∀ t' k, R (.ok (.ret (.str (SX.S (digB n)) t'))) { s with toks := k }) :=
  meets_fmt "b" _ rfl (parse_b _) (by decide +kernel) (by decide +kernel) n t u hz
end
section
variable {X : Cx}
/-- f'{e:b}' of a number from 0 on -/
def tFmtB (te : TE) : TE := fun σ H Q => te σ H fun x H1 => ∃ n : Nat, x = .int (n : Int) ∧ (digB n).length ≤ sizeLine ∧ Q (.str (SX.S (digB n))) H1
theorem pe_fmtB {e : Expr} {te : TE} {k : Nat} {p1 p2 p3 p4 : Pos} (he : PE X e te) : PE X (.JoinedStr [.FormattedValue e (-1) (some (.JoinedStr [.Constant (.str "b") k p1] p2)) p3] p4) (tFmtB te) := by
  refine ⟨fun pins s σ H Q I h => ?_⟩
  refine wpAny_JoinedStr_one (wpAny_FormattedValue_spec (thn (he.run pins s σ H _ I h) fun v s1 hv => ?_))
  obtain ⟨x, H1, I1, r1, n, rfl, hz, q⟩ := hv
  obtain ⟨t, rfl⟩ := r1
  have hs : PE X (.JoinedStr [.Constant (.str "b") k p1] p2) (tC (.str "b")) := pe_joined1 pe_str
  refine thn (hs.run pins s1 σ H1 (fun x H2 => x = .str "b" ∧ H2 = H1) I1 ⟨rfl, rfl⟩) fun r s2 hr => ?_
  obtain ⟨y, H2, I2, r2, ey, eh⟩ := hr
  subst ey eh
  obtain ⟨t2, rfl⟩ := r2
  exact ⟨_, _, rfl, PySem.W.KXf.field_int rfl (by decide +kernel) (by decide +kernel) (fun u => meets_fmtB n t u hz) fun t' k' => ⟨.str (SX.S (digB n)), H2, I2.tok _, ⟨_, rfl⟩, q⟩⟩
/-! ### text[::-1] -/
theorem revS_idx (n : Nat) : Builtin.Str.strSliceIndices none none (-1) n = (List.range n).reverse := by
  show sliceRange ((n : Int) - 1) (-1) (-1) = _
  rw [PySem.W.krv_sliceRange, PySem.W.krv_range]
def tRevS (te : TE) : TE := fun σ H Q => te σ H fun x H1 => ∃ l : List Nat, x = .str (SX.S l) ∧ l.length ≤ sizeLine ∧ Q (.str (SX.S l.reverse)) H1
theorem pe_revS {e : Expr} {te : TE} {k : Nat} {p1 p2 p3 pos : Pos} (he : PE X e te) : PE X (.Subscript e (.Slice none none (some (.UnaryOp .USub (.Constant (.int 1) k p1) p2)) p3) pos) (tRevS te) := by
  refine ⟨fun pins s σ H Q I h => ?_⟩
  refine Subscript_ (thn (he.run pins s σ H _ I h) fun v s1 ⟨x, H1, I1, r1, q1⟩ => ?_)
  obtain ⟨cs, ex, hz, q⟩ := q1
  subst ex
  obtain ⟨tx, rfl⟩ := r1
  have hst : PO X (some (.UnaryOp .USub (.Constant (.int 1) k p1) p2)) (tPart (tUn (rU fun i => .int (-i)) (tC (.int 1)))) := po_some (pe_un un_neg pe_int)
  refine wpAny_Slice (thn (po_none.run pins s1 σ H1 (fun o H2 => o = none ∧ H2 = H1) I1 ⟨rfl, rfl⟩) fun vl s2 ⟨l, H2, I2, pl, el, e2⟩ => ?_)
  subst el e2
  refine thn (po_none.run pins s2 σ H2 (fun o H3 => o = none ∧ H3 = H2) I2 ⟨rfl, rfl⟩) fun vu s3 ⟨u, H3, I3, pu, eu, e3⟩ => ?_
  subst eu e3
  refine thn (hst.run pins s3 σ H3 (fun o H4 => o = some (-1) ∧ H4 = H3) I3 ⟨1, rfl, -1, rfl, rfl, rfl⟩) fun vs s4 ⟨o, H4, I4, ps, eo, e4⟩ => ?_
  subst eo e4
  have en : vl = .none ∧ vu = .none ∧ ∃ tk, vs = .int (-1) tk := by
    refine ⟨?_, ?_, ?_⟩
    · cases pl; rfl
    · cases pu; rfl
    · cases ps; exact ⟨_, rfl⟩
  obtain ⟨rfl, rfl, tk, rfl⟩ := en
  have I5 : L2.Inv X pins σ H4 { s4 with heap := s4.heap.push { cls := .type "slice", data := .fields #[.none, .none, .int (-1) tk] } } := I4.kept (t' := s4.toks) fun b ob q => Heap.get?_push_of_some _ q
  refine tail_any (ops := [.str (SX.S cs) tx, .ref s4.heap.objs.size]) (typeIs_str _ _ _) (PySem.F.slot_str_getitem.lookup) ?_ (by with_unfolding_all rfl)
  refine wpAny_getItem_str_slice (l := none) (u := none) (st := some (-1, tk)) ⟨_, Heap.get?_push_size _ rfl, rfl, rfl⟩ (by show ((-1 : Int) == 0) = false; decide) ?_
  have e1 : sliceMade (SX.S cs) tx none none (some (-1, tk)) = .str (SX.S cs.reverse) := by
    unfold sliceMade
    rw [if_neg (by show ¬ (((-1 : Int) == 1) && _) = true; simp)]
    unfold slicePicked
    have ha := PySem.W.krv_all cs.toArray
    have eb : (Builtin.Str.strSliceIndices none none (-1) (SX.S cs).length).filterMap ((SX.S cs).cps[·]?) = cs.reverse := by
      rw [revS_idx, List.filterMap_reverse]
      exact congrArg List.reverse ha
    exact congrArg (fun l : List Nat => Made.str (SX.S l)) eb
  rw [e1]
  exact ⟨by rw [SX.S_len, List.length_reverse]; exact hz, ⟨.str _, H4, I5.tok _, ⟨_, rfl⟩, q⟩⟩
end
end Fb
namespace Fb
open PySem L2 PyProof.Rows
/-- the binary signs, the lowest first -/
def lsb (m : Nat) : List Nat := (digB m).reverse
theorem lsb_one : lsb 1 = [49] := by decide +kernel
theorem lsb_zero : lsb 0 = [48] := by decide +kernel
theorem lsb_even {k : Nat} (h : 1 ≤ k) : lsb (2 * k) = 48 :: lsb k := by
  unfold lsb digB
  rw [Nat.toDigits_of_base_le (b := 2) (by decide) (by omega), List.map_append, List.reverse_append, show 2 * k / 2 = k by omega, show 2 * k % 2 = 0 by omega]
  rfl
theorem lsb_odd {k : Nat} (h : 1 ≤ k) : lsb (2 * k + 1) = 49 :: lsb k := by
  unfold lsb digB
  rw [Nat.toDigits_of_base_le (b := 2) (by decide) (by omega), List.map_append, List.reverse_append, show (2 * k + 1) / 2 = k by omega, show (2 * k + 1) % 2 = 1 by omega]
  rfl
theorem digB_len {n : Nat} : ∀ {m : Nat}, m < 2 ^ n → 1 ≤ n → (digB m).length ≤ n := by
  induction n with
  | zero => intro m _ h; omega
  | succ n ih =>
    intro m h _
    by_cases h2 : m < 2
    · have : digB m = [(m.digitChar).toNat] := by
        unfold digB
        rw [Nat.toDigits_of_lt_base h2]
        rfl
      rw [this]
      show 1 ≤ _
      omega
    · have n1 : 1 ≤ n := by
        rcases n with _ | n
        · exact absurd h (by omega)
        · omega
      have hm : m / 2 < 2 ^ n := by rw [Nat.pow_succ] at h; omega
      have := ih hm n1
      have e : digB m = digB (m / 2) ++ [((m % 2).digitChar).toNat] := by
        unfold digB
        rw [Nat.toDigits_of_base_le (b := 2) (by decide) (by omega), List.map_append]
        rfl
      rw [e, List.length_append]
      show _ + 1 ≤ _
      omega
/-- where the rows of zeros end -/
def posOf : Int → List Nat → List Int
  | _, [] => []
  | a, g :: gs => (a + g + 1) :: posOf (a + g + 1) gs
def plc : Int → List Nat → Int
  | a, [] => a
  | a, g :: gs => plc (a + g + 1) gs
theorem plc_snoc : ∀ (a : Int) (gs : List Nat) (g : Nat), plc a (gs ++ [g]) = plc a gs + g + 1
  | a, [], g => rfl
  | a, x :: gs, g => plc_snoc (a + x + 1) gs g
theorem posOf_snoc : ∀ (a : Int) (gs : List Nat) (g : Nat), posOf a (gs ++ [g]) = posOf a gs ++ [plc a gs + g + 1]
  | a, [], g => rfl
  | a, x :: gs, g => congrArg ((a + x + 1) :: ·) (posOf_snoc (a + x + 1) gs g)
theorem posOf_len : ∀ (a : Int) (gs : List Nat), (posOf a gs).length = gs.length
  | _, [] => rfl
  | a, x :: gs => congrArg (· + 1) (posOf_len (a + x + 1) gs)
abbrev zrow (g : Nat) : List Nat := List.replicate g 48
theorem joinL_cons (s : Nat) (p q : List Nat) (r : List (List Nat)) : TL.joinL [s] (p :: q :: r) = p ++ ([s] ++ TL.joinL [s] (q :: r)) := rfl
theorem joinL_grow (s c : Nat) (p : List Nat) : ∀ r : List (List Nat), TL.joinL [s] ((c :: p) :: r) = c :: TL.joinL [s] (p :: r)
  | [] => rfl
  | q :: r => rfl
theorem gaps_ex : ∀ m : Nat, 1 ≤ m → ∃ gs : List Nat, gs ≠ [] ∧ TL.joinL [49] (gs.map zrow) = lsb m ∧ (∀ c : Int, ∃ e : Int, posOf (c - 1) gs = (ones m).map (fun p : Nat => c + (p : Int)) ++ [e]) := by
  intro m
  induction m using Nat.strongRecOn with
  | ind m ih =>
    intro h1
    by_cases hm : m = 1
    · subst hm
      refine ⟨[0, 0], by simp, by rw [lsb_one]; rfl, fun c => ⟨c + 1, ?_⟩⟩
      have : ones 1 = [0] := by have := ones_odd 0; rw [ones_zero] at this; exact this
      rw [this]
      show [c - 1 + (0 : Nat) + 1, c - 1 + (0 : Nat) + 1 + (0 : Nat) + 1] = [c + ((0 : Nat) : Int), c + 1]
      simp
    · obtain ⟨k, hk⟩ : ∃ k, k = m / 2 := ⟨_, rfl⟩
      have k1 : 1 ≤ k := by omega
      obtain ⟨gs, ne, ej, ep⟩ := ih k (by omega) k1
      obtain ⟨g, r, rfl⟩ : ∃ g r, gs = g :: r := by
        cases gs with
        | nil => exact absurd rfl ne
        | cons g r => exact ⟨g, r, rfl⟩
      rcases (show m = 2 * k ∨ m = 2 * k + 1 by omega) with e | e
      · subst e
        refine ⟨(g + 1) :: r, by simp, ?_, fun c => ?_⟩
        · rw [lsb_even k1, ← ej]
          exact joinL_grow 49 48 (zrow g) (r.map zrow)
        · obtain ⟨z, hz⟩ := ep (c + 1)
          refine ⟨z, ?_⟩
          have e1 : posOf (c - 1) ((g + 1) :: r) = posOf (c + 1 - 1) (g :: r) := by
            show (c - 1 + ((g + 1 : Nat) : Int) + 1) :: posOf (c - 1 + ((g + 1 : Nat) : Int) + 1) r = (c + 1 - 1 + (g : Int) + 1) :: posOf (c + 1 - 1 + (g : Int) + 1) r
            rw [show c - 1 + ((g + 1 : Nat) : Int) + 1 = c + 1 - 1 + (g : Int) + 1 by omega]
          rw [e1, hz, ones_even, List.map_map]
          congr 1
          refine List.map_congr_left fun p _ => ?_
          show c + 1 + (p : Int) = c + ((p + 1 : Nat) : Int)
          omega
      · subst e
        refine ⟨0 :: g :: r, by simp, ?_, fun c => ?_⟩
        · rw [lsb_odd k1, ← ej]
          rfl
        · obtain ⟨z, hz⟩ := ep (c + 1)
          refine ⟨z, ?_⟩
          have e1 : posOf (c - 1) (0 :: g :: r) = c :: posOf (c + 1 - 1) (g :: r) := by
            show (c - 1 + ((0 : Nat) : Int) + 1) :: posOf (c - 1 + ((0 : Nat) : Int) + 1) (g :: r) = _
            rw [show c - 1 + ((0 : Nat) : Int) + 1 = c by omega, show c + 1 - 1 = c by omega]
          rw [e1, hz, ones_odd]
          show c :: _ = (c + ((0 : Nat) : Int)) :: _
          rw [List.map_map, show c + ((0 : Nat) : Int) = c by omega]
          show c :: (_ ++ [z]) = c :: (_ ++ [z])
          congr 2
          refine List.map_congr_left fun p _ => ?_
          show c + 1 + (p : Int) = c + ((p + 1 : Nat) : Int)
          omega
theorem joinL_le (s : Nat) : ∀ (ps : List (List Nat)) (p : List Nat), p ∈ ps → p.length ≤ (TL.joinL [s] ps).length
  | [], _, h => by cases h
  | [a], p, h => by cases List.mem_singleton.mp h; exact Nat.le_refl _
  | a :: b :: r, p, h => by
    rw [joinL_cons, List.length_append, List.length_append]
    rcases List.mem_cons.mp h with h | h
    · subst h; omega
    · have := joinL_le s (b :: r) p h
      omega
/-- the text of the signs, the lowest first, split at the ones -/
theorem split_bits {m : Nat} (h : 1 ≤ m) : ∃ gs : List Nat, Txt.split (SX.S (lsb m)) "1" = gs.map (fun g => SX.S (zrow g)) ∧ (∀ g ∈ gs, g ≤ (digB m).length) ∧ ∃ e : Int, posOf (-1) gs = (ones m).map (fun p : Nat => (p : Int)) ++ [e] := by
  obtain ⟨gs, ne, ej, ep⟩ := gaps_ex m h
  obtain ⟨e, he⟩ := ep 0
  refine ⟨gs, ?_, fun g hg => ?_, e, ?_⟩
  · have h1 : ("1" : Str) = SX.S [49] := by decide +kernel
    rw [h1, SX.split_S (by simp) (by decide), ← ej, TL.spl_join (fun e => ne (List.map_eq_nil_iff.mp e)) (fun p hp => ?_), List.map_map]
    · rfl
    · obtain ⟨g, _, rfl⟩ := List.mem_map.mp hp
      intro hc
      have := List.eq_of_mem_replicate hc
      exact absurd this (by decide)
  · have := joinL_le 49 (gs.map zrow) (zrow g) (List.mem_map_of_mem hg)
    rw [ej, List.length_replicate] at this
    unfold lsb at this
    rw [List.length_reverse] at this
    exact this
  · rw [show (-1 : Int) = 0 - 1 by decide, he]
    congr 1
    refine List.map_congr_left fun p _ => ?_
    omega
end Fb
namespace Fb
open PySem L2
/-- the lowest one taken away -/
theorem xor_low {m k : Nat} (h : Builtin.bitAnd (m : Int) (-(m : Int)) = 2 ^ k) (h2 : m / 2 ^ k % 2 = 1) : Builtin.bitXor (m : Int) (2 ^ k) = ((m - 2 ^ k : Nat) : Int) := by
  have e : ((2 : Int) ^ k) = ((2 ^ k : Nat) : Int) := (Int.natCast_pow 2 k).symm
  have a : m &&& 2 ^ k = 2 ^ k := by
    refine Nat.eq_of_testBit_eq fun i => ?_
    rw [Nat.testBit_and, Nat.testBit_two_pow]
    by_cases z : k = i
    · subst z
      rw [Nat.testBit_eq_decide_div_mod_eq, h2]
      simp
    · simp [z]
  have le : 2 ^ k ≤ m := by
    rw [← a]; exact Nat.and_le_left
  rw [PyProof.Rows.bitXor_and, e, PySem.W.os_band, a]
  omega
theorem marks_low2 {m : Nat} (h : m ≠ 0) : ∃ k : Nat, Builtin.bitAnd (m : Int) (-(m : Int)) = 2 ^ k ∧ 2 ^ k ≤ m ∧ ones m = k :: ones (m - 2 ^ k) ∧ m / 2 ^ k % 2 = 1 := by
  obtain ⟨k, a, b, c⟩ := marks_low h
  refine ⟨k, a, b, c, ?_⟩
  obtain ⟨j, q, e⟩ := low_of h
  have a2 := PySem.W.kbt_low j (q : Int)
  have e3 : (m : Int) = 2 ^ j * (2 * (q : Int) + 1) := by rw [e]; simp
  rw [← e3, a] at a2
  have e4 : (2 : Nat) ^ k = 2 ^ j := by
    have : ((2 ^ k : Nat) : Int) = ((2 ^ j : Nat) : Int) := by rw [Int.natCast_pow, Int.natCast_pow]; exact a2
    omega
  rw [e4]
  subst e
  rw [Nat.mul_div_cancel_left _ (Nat.two_pow_pos j)]
  omega
theorem intBits_le {x : Int} (h : InB x) : (Builtin.Int.intBits x : Int) ≤ 600002 := by
  unfold Builtin.Int.intBits
  by_cases z : (x == 0) = true
  · rw [if_pos z]; decide
  · rw [if_neg z]
    have l : x.natAbs.log2 < 600001 := PySem.Flt.log2_lt_of (by decide) (by
      have e : ((2 ^ 600000 : Nat) : Int) = 2 ^ 600000 := by decide +kernel
      have e2 : (2 : Nat) ^ 600001 = 2 * 2 ^ 600000 := by rw [Nat.pow_succ]; omega
      have p : 0 < 2 ^ 600000 := Nat.two_pow_pos 600000
      obtain ⟨h0, h1⟩ := h
      rw [e2]
      rw [← e] at h0 h1
      generalize (2 : Nat) ^ 600000 = B at *
      omega)
    omega
theorem shl_ok {x : Int} (h : InB x) : CShl x 1 := by
  have b := intBits_le h
  exact ⟨by decide, by omega⟩
section
variable {P : Program} {w : World} {K : PySem.W.Frag} {mg : Str → Option Value} {base : Heap} {f : Addr} {fd : FuncData}
abbrev S_ones_of_text : Stmt := top 16
abbrev N_ones_of_text : List Str := ["value", "text", "places", "place", "zeros"]
abbrev P_ones_of_text : List Str := ["value"]
theorem sc_ones_of_text : FnScope N_ones_of_text P_ones_of_text (defScope S_ones_of_text) := ⟨rfl, rfl, rfl, by decide +kernel, rfl, by decide +kernel, by decide +kernel⟩
def spOnesT : Sp := fun vs H Q _ => ∃ m : Nat, vs = [.int (m : Int)] ∧ 1 ≤ m ∧ m < 2 ^ 700000 ∧ ∀ (p : Addr) (H' : Hp), Same H H' → H p = none → H' p = some (.lst (nI (ones m))) → Q (.ref p) H'
theorem ok_onest (F : Fun K "ones_of_text" "ones_of_text" S_ones_of_text f fd) (B : Blt mg) : FnOk P w K mg base CX0 1 f fd P_ones_of_text spOnesT := by
  have nd := sc_ones_of_text.nd
  refine F.ok sc_ones_of_text (fun vs H Q E h => ?_) (fun cdv A outer s H vs Q E hr h => ?_)
  · obtain ⟨m, rfl, _⟩ := h
    rfl
  obtain ⟨m, rfl, m1, m2, q⟩ := h
  refine ⟨_, (pss_cons (ps_set (i := 1) nd rfl (Or.inl rfl) (pe_fmtB (pv 0)))
    (pss_cons (ps_set (i := 2) nd rfl (Or.inl rfl) (pe_lst pa_nil))
    (pss_cons (ps_set (i := 3) nd rfl (Or.inl rfl) (pe_un un_neg pe_int))
    (pss_cons (ps_for PassesOwn.never rfl (pi_list (pe_split (pe_revS (pv 1)) pe_str)) (pg_name (i := 4) nd rfl (Or.inl rfl)) (pss_cons (ps_set (i := 3) nd rfl (Or.inl rfl) (pe_op op_add (pe_op op_add (pv 3) (pe_callB call_len_str (by rfl) B.len PySem.boot_len (pa_cons (pv 4) pa_nil))) pe_int))
    (pss_one (ps_expr (pe_bm PySem.F.plainAttrs_list PySem.F.slot_list_append PySem.F.type_list_append mt_append (pv 2) (pa_cons (pv 3) pa_nil))))))
    (pss_cons (ps_expr (pe_bm0 PySem.F.plainAttrs_list PySem.F.slot_list_pop PySem.F.type_list_pop mt_pop (pv 2)))
    (pss_one (ps_ret (pv 2)))))))), ?_⟩
  have dl : (digB m).length ≤ 700000 := digB_len m2 (by decide)
  have big : 700002 ≤ sizeLine := by decide
  refine ⟨_, rfl, m, rfl, by omega, ?_⟩
  refine ⟨(by show 0 ≤ sizeLine; decide), fun p np => ?_⟩
  refine ⟨_, rfl, ?_⟩
  obtain ⟨gs, es, zl0, z, ez⟩ := split_bits m1
  refine ⟨_, rfl, digB m, rfl, by omega, ⟨_, rfl⟩, _, _, rfl, rfl, (by decide +kernel), (by rw [SX.S_len, List.length_reverse]; omega), fun L nL => ?_⟩
  have hg : gs.length = (ones m).length + 1 := by
    have := congrArg List.length ez
    rw [posOf_len, List.length_append, List.length_map] at this
    exact this
  have gl : gs.length ≤ 700001 := by
    have := ones_len m2
    omega
  have es2 : (Txt.split (SX.S (digB m).reverse) "1").map V.str = gs.map (fun g => V.str (SX.S (zrow g))) := by
    have : Txt.split (SX.S (digB m).reverse) "1" = gs.map (fun g => SX.S (zrow g)) := es
    rw [this, List.map_map]
    rfl
  rw [es2]
  have zl : ∀ g ∈ gs, g ≤ sizeLine := fun g hg' => by
    have := zl0 g hg'
    omega
  refine ⟨_, rfl, ⟨_, SqL.of upd_same⟩, ?_⟩
  have Lp : L ≠ p := fun e => by
    subst e
    rw [upd_same] at nL
    cases nL
  refine for_list (xs := gs.map (fun g => V.str (SX.S (zrow g)))) (fun i σ H' => ∃ z4 : Option V, σ = [some (.int (m : Int)), some (.str (SX.S (digB m))), some (.ref p), some (.int (plc (-1) (gs.take i))), z4] ∧ Same H H' ∧ H' L = some (.lst (gs.map (fun g => V.str (SX.S (zrow g))))) ∧ H' p = some (.lst ((posOf (-1) (gs.take i)).map V.int)))
    ⟨none, rfl, (Same.new np).trans (Same.new nL), upd_same, by rw [upd_ne (fun e => Lp e.symm), upd_same]; rfl⟩ (fun i σ H' _ h => ?_) (fun i x σ H' hx h => ?_) (fun σ H' h => ?_)
  · obtain ⟨z4, rfl, e, hL, hp⟩ := h
    exact SqL.of hL
  · obtain ⟨z4, rfl, e, hL, hp⟩ := h
    rw [List.getElem?_map] at hx
    obtain ⟨g, hg1, rfl⟩ := Option.map_eq_some_iff.mp hx
    have et : gs.take (i + 1) = gs.take i ++ [g] := by rw [List.take_add_one, hg1]; rfl
    refine ⟨_, rfl, _, rfl, _, rfl, by rw [SX.S_len, List.length_replicate]; exact zl g (List.mem_of_getElem? hg1), _, _, rfl, rfl, _, _, rfl, rfl, ?_⟩
    have ep : plc (-1) (gs.take i) + ((SX.S (zrow g)).length : Int) + 1 = plc (-1) (gs.take (i + 1)) := by
      rw [et, plc_snoc, SX.S_len, List.length_replicate]
    refine ⟨_, rfl, .inl ⟨rfl, _, SqL.of hp⟩, _, rfl, p, _, _, rfl, rfl, hp, ?_, ?_⟩
    · rw [List.length_map, posOf_len, List.length_take]
      exact Nat.lt_of_le_of_lt (Nat.min_le_right _ _) (Nat.lt_of_le_of_lt gl (by decide))
    · refine ⟨some (.str (SX.S (zrow g))), ?_, Same.mut e np, ?_, ?_⟩
      · rw [← ep]; rfl
      · rw [upd_ne Lp]; exact hL
      · rw [upd_same, et, posOf_snoc, List.map_append]
        show some (HO.lst (_ ++ [V.int (plc (-1) (gs.take i) + ((SX.S (zrow g)).length : Int) + 1)])) = _
        rw [SX.S_len, List.length_replicate]
        rfl
  · obtain ⟨z4, rfl, e, hL, hp⟩ := h
    rw [List.length_map, List.take_length, ez, List.map_append, List.map_map] at hp
    refine ⟨_, rfl, .inl ⟨rfl, _, SqL.of hp⟩, p, _, .int z, rfl, rfl, hp, (by rw [List.length_append]; simp), ?_⟩
    refine ⟨_, rfl, q p _ (Same.mut e np) np ?_⟩
    rw [upd_same]
    show some (HO.lst ((_ ++ [V.int z]).dropLast)) = _
    rw [List.dropLast_concat]
    rfl
abbrev S_turns_of_int : Stmt := top 15
abbrev N_turns_of_int : List Str := ["value", "changes", "turns", "lowest"]
abbrev P_turns_of_int : List Str := ["value"]
theorem sc_turns_of_int : FnScope N_turns_of_int P_turns_of_int (defScope S_turns_of_int) := ⟨rfl, rfl, rfl, by decide +kernel, rfl, by decide +kernel, by decide +kernel⟩
theorem ok_tint {tk : Tok} (F : Fun K "turns_of_int" "turns_of_int" S_turns_of_int f fd) (B : Blt mg) (MF : mg "FEW_TURNS" = some (.int 8 tk)) (Cones_of_text : Has P w K mg base 1 "ones_of_text" P_ones_of_text [] spOnesT) : FnOk P w K mg base CX0 2 f fd P_turns_of_int spTurns := by
  have nd := sc_turns_of_int.nd
  refine F.ok sc_turns_of_int (fun vs H Q E h => ?_) (fun cdv A outer s H vs Q E hr h => ?_)
  · obtain ⟨x, rfl, _⟩ := h
    rfl
  obtain ⟨x, rfl, hx, q⟩ := h
  refine ⟨_, (pss_cons (ps_set (i := 1) nd rfl (Or.inl rfl) (pe_op op_xor (pv 0) (pe_op op_shlW (pv 0) pe_int)))
    (pss_cons (ps_set (i := 2) nd rfl (Or.inl rfl) (pe_lst pa_nil))
    (pss_cons (ps_while PassesOwn.never (pt_truth (pv 1) (by intro _; rfl)) (C8.pss_cut (ps_if (pt_cmpR op_eq (pe_callB call_lenL (by rfl) B.len PySem.boot_len (pa_cons (pv 2) pa_nil)) (pe_glob (v := .int 8) rfl MF ⟨_, rfl⟩) (nomark _)) (pss_cons (ps_expr (pe_bm PySem.F.plainAttrs_list PySem.F.slot_list_extend PySem.F.type_list_extend mt_extend (pv 2) (pa_cons (pe_H Cones_of_text (hr.mono (by decide)) rfl (pa_cons (pv 1) pa_nil)) pa_nil)))
    (pss_one ps_break)) pss_nil)
    (pss_cons (ps_set (i := 3) nd rfl (Or.inl rfl) (pe_op op_and (pv 1) (pe_un un_neg (pv 1))))
    (pss_cons (ps_expr (pe_bm PySem.F.plainAttrs_list PySem.F.slot_list_append PySem.F.type_list_append mt_append (pv 2) (pa_cons (pe_op op_sub (pe_bits (pv 3)) pe_int) pa_nil)))
    (pss_one (ps_set (i := 1) nd rfl (Or.inl rfl) (pe_op op_xor (pv 1) (pv 3))))))))
    (pss_one (ps_ret (pv 2)))))), ?_⟩
  refine ⟨_, rfl, _, rfl, _, _, rfl, rfl, shl_ok hx, _, _, rfl, rfl, ?_⟩
  refine ⟨(by show 0 ≤ sizeLine; decide), fun p np => ?_⟩
  refine ⟨fun m σ H' => ∃ (z : Option V) (done : List Nat), σ = [some (.int x), some (.int (m : Int)), some (.ref p), z] ∧ H' p = some (.lst (nI done)) ∧ done ++ ones m = turnsN x ∧ m ≤ marks x ∧ Same H H', ⟨marks x, _, [], (by rw [← marks_val x]; rfl), upd_same, rfl, Nat.le_refl _, Same.new np⟩, ?_⟩
  rintro m σ H' ⟨z, done, rfl, hp, hd, hmx, e⟩
  have ek : ((m : Int) != 0) = !decide (m = 0) := by
    by_cases z : m = 0
    · subst z; rfl
    · have : (m : Int) ≠ 0 := by omega
      simp [z, this]
  refine ⟨_, rfl, _, rfl, ?_⟩
  rw [ek]
  refine iteDN (fun c => ?_) (fun c => ?_)
  · have hm : m ≠ 0 := c
    obtain ⟨k, k1, k2, k3, k4⟩ := marks_low2 hm
    refine ⟨fun σ' H'' => ∃ (z : Option V) (done : List Nat), σ' = [some (.int x), some (.int ((m - 2 ^ k : Nat) : Int)), some (.ref p), z] ∧ H'' p = some (.lst (nI done)) ∧ done ++ ones (m - 2 ^ k) = turnsN x ∧ m - 2 ^ k ≤ marks x ∧ Same H H'', fun σ' H'' h => ⟨m - 2 ^ k, Nat.sub_lt (by omega) (Nat.two_pow_pos k), h⟩, ?_⟩
    refine ⟨fun σ'' H'' => σ'' = [some (.int x), some (.int (m : Int)), some (.ref p), z] ∧ H'' = H', ?_, ?_⟩
    · refine ⟨_, rfl, p, _, rfl, SqL.of hp, rfl, _, rfl, ?_⟩
      refine iteD (fun c8 => ?_) (fun c8 => ⟨rfl, rfl⟩)
      have mb : marks x < 2 ^ 600001 := marks_lt hx.1 hx.2
      have ml : m < 2 ^ 700000 := Nat.lt_of_lt_of_le (Nat.lt_of_le_of_lt hmx mb) (Nat.pow_le_pow_right (by decide) (by decide))
      refine ⟨_, rfl, .inl ⟨rfl, _, SqL.of hp⟩, _, rfl, m, rfl, by omega, ml, fun b H1 e1 nb hb => ?_⟩
      have hp1 := e1 _ _ hp
      refine ⟨p, b, _, _, rfl, rfl, hp1, hb, ?_, ?_⟩
      · unfold nI
        rw [List.length_map, List.length_map, ← List.length_append, hd]
        exact Nat.le_trans (turns_len (n := 600000) hx.1 hx.2) (by decide)
      · refine ⟨_, rfl, q p _ (Same.mut (e.trans e1) np) np ?_⟩
        rw [upd_same, ← hd]
        unfold nI
        rw [List.map_append]
    rintro σ'' H'' ⟨rfl, rfl⟩
    refine ⟨_, rfl, _, rfl, _, rfl, _, _, rfl, rfl, ?_⟩
    have hb : (Builtin.Int.intBits (Builtin.bitAnd (m : Int) (-(m : Int))) : Int) - 1 = k := by
      rw [k1]
      unfold Builtin.Int.intBits
      have h0 : ((2 : Int) ^ k == 0) = false := beq_false_of_ne (Int.ne_of_gt (Int.pow_pos (by decide)))
      rw [h0]
      have h1 : ((2 : Int) ^ k).natAbs = 2 ^ k := by rw [Int.natAbs_pow]; rfl
      rw [h1, Nat.log2_two_pow]
      simp
    have hlen : (nI done).length < sizeLine := by
      have h1 := turns_len (n := 600000) hx.1 hx.2
      rw [← hd, List.length_append] at h1
      unfold nI
      rw [List.length_map]
      exact Nat.lt_of_le_of_lt (show done.length ≤ 600001 by omega) (by decide)
    refine ⟨_, rfl, .inl ⟨rfl, _, SqL.of hp⟩, _, rfl, _, rfl, _, _, rfl, rfl, p, _, _, rfl, rfl, hp, hlen, ?_⟩
    refine ⟨_, rfl, _, rfl, _, _, rfl, rfl, ?_⟩
    have hc : Builtin.bitXor (m : Int) (Builtin.bitAnd (m : Int) (-(m : Int))) = ((m - 2 ^ k : Nat) : Int) := by
      rw [k1]
      exact xor_low k1 k4
    refine ⟨some (.int (Builtin.bitAnd (m : Int) (-(m : Int)))), done ++ [k], by rw [← hc]; rfl, ?_, ?_, Nat.le_trans (Nat.sub_le _ _) hmx, Same.mut e np⟩
    · rw [upd_same]
      show some (HO.lst (nI done ++ [V.int ((Builtin.Int.intBits (Builtin.bitAnd (m : Int) (-(m : Int))) : Int) - 1)])) = _
      rw [hb]
      unfold nI
      rw [List.map_append]
      rfl
    · rw [List.append_assoc, ← hd, k3]
      rfl
  · have hm : m = 0 := c
    subst hm
    rw [ones_zero, List.append_nil] at hd
    subst hd
    exact ⟨_, rfl, q p H' e np hp⟩
end
end Fb
namespace Fb
open PySem L2 PyProof.Rows
/-! ### a sign, so many times -/
theorem fold_rep (c : Nat) : ∀ (k : Nat) (acc : Array Nat), (List.replicate k #[c]).foldl (· ++ ·) acc = acc ++ (List.replicate k c).toArray
  | 0, acc => by simp
  | k + 1, acc => by
    rw [List.replicate_succ, List.foldl_cons, fold_rep c k]
    apply Array.toList_inj.mp
    simp [List.replicate_succ]
theorem op_repS {X : Cx} : OpR X (binaryOp .Mult) (fun x y H Q => ∃ (c k : Nat), x = .str (SX.S [c]) ∧ y = .int (k : Int) ∧ k ≤ 1000000 ∧ Q (.str (SX.S (List.replicate k c))) H) := by
  intro pins s σ H x y v u Q I rx ry h
  obtain ⟨c, k, rfl, rfl, hk, q⟩ := h
  obtain ⟨t, rfl⟩ := rx
  obtain ⟨t', rfl⟩ := ry
  have l1 : (SX.S [c]).length = 1 := rfl
  have big : (1000000 : Nat) ≤ sizeLine := by decide
  refine P.mul_str (by rw [decide_eq_false (by omega), decide_eq_false (by omega)]; rfl) (fun h1 h2 => ?_) (fun h1 h2 => ?_) ?_
  · rw [l1]
    have h3 : (1 : Int) ≤ k := by omega
    have : (k : Int) ≤ 2 ^ 63 - 1 := by omega
    have h4 : 1 ≤ (2 ^ 63 - 1 : Int) / (k : Int) := (Int.le_ediv_iff_mul_le (by omega)).mpr (by omega)
    omega
  · rw [l1, Int.toNat_natCast, Nat.one_mul]
    exact decide_eq_false (by omega)
  · by_cases h0 : (k : Int) < 1
    · have : k = 0 := by omega
      subst this
      rw [if_pos h0]
      exact ⟨by decide, ⟨.str _, H, I.tok _, ⟨_, rfl⟩, q⟩⟩
    · rw [if_neg h0]
      by_cases h1 : k = 1
      · subst h1
        rw [if_pos (by rfl)]
        exact ⟨.str (SX.S [c]), H, I, ⟨t, rfl⟩, q⟩
      · have e : ((k : Int) == 1 || (SX.S [c]).length == 0) = false := by
          rw [l1]
          have : ((k : Int) == 1) = false := beq_false_of_ne (by omega)
          rw [this]; rfl
        rw [if_neg (by rw [e]; decide), Int.toNat_natCast]
        have e2 : (List.replicate k (SX.S [c]).cps).foldl (· ++ ·) #[] = (List.replicate k c).toArray := by
          show (List.replicate k #[c]).foldl (· ++ ·) #[] = _
          rw [fold_rep]
          simp
        rw [e2]
        exact ⟨by rw [SX.S_len, List.length_replicate]; omega, ⟨.str _, H, I.tok _, ⟨_, rfl⟩, q⟩⟩
/-! ### int(text, 2) -/
namespace Bx
open PySem.NumText PySem.Calls L2.Hx
def IsBit (c : Nat) : Prop := c = 48 ∨ c = 49
def binNum (l : List Nat) : Nat := l.foldl (fun a c => a * 2 + (c - 48)) 0
theorem digit_bin {c : Nat} (h : IsBit c) : digit? c = some (c - 48) := by
  unfold IsBit at h
  unfold digit?
  rw [if_pos (bb (show 48 ≤ c by omega) (show c ≤ 57 by omega))]
theorem step_bin {ds : Array Nat} {b : Bool} {c : Nat} (h : IsBit c) : PySem.NumText.step 2 (ds, b) c = some (ds.push (c - 48), true) := by
  have h' := h
  unfold IsBit at h'
  unfold PySem.NumText.step
  rw [if_neg (by rw [beq_iff_eq]; omega), digit_bin h]
  exact if_pos (by omega)
theorem foldl_bin : ∀ (cs : List Nat) (ds : Array Nat), (∀ c ∈ cs, IsBit c) → cs.foldlM (PySem.NumText.step 2) (ds, true) = some (cs.foldl (fun acc c => acc.push (c - 48)) ds, true)
  | [], _, _ => rfl
  | c :: cs, ds, h => by
    rw [List.foldlM_cons, step_bin (h c (List.mem_cons_self ..))]
    show cs.foldlM (PySem.NumText.step 2) (ds.push (c - 48), true) = _
    exact foldl_bin cs (ds.push (c - 48)) fun d hd => h d (List.mem_cons_of_mem _ hd)
theorem digits_bin {cs : List Nat} (h : ∀ c ∈ cs, IsBit c) (hne : cs ≠ []) : digits? 2 cs = some (cs.foldl (fun acc c => acc.push (c - 48)) #[]) := by
  cases cs with
  | nil => exact absurd rfl hne
  | cons c cs =>
    unfold digits?
    rw [List.foldlM_cons, step_bin (h c (List.mem_cons_self ..))]
    show (cs.foldlM (PySem.NumText.step 2) ((#[] : Array Nat).push (c - 48), true)).bind _ = _
    rw [foldl_bin cs _ fun d hd => h d (List.mem_cons_of_mem _ hd)]
    rfl
theorem push_bin : ∀ (cs : List Nat) (ds : Array Nat), (cs.foldl (fun acc c => acc.push (c - 48)) ds).foldl (fun acc d => acc * 2 + d) 0 = cs.foldl (fun a c => a * 2 + (c - 48)) (ds.foldl (fun acc d => acc * 2 + d) 0)
  | [], _ => rfl
  | c :: cs, ds => by
    rw [List.foldl_cons, push_bin cs (ds.push (c - 48)), List.foldl_cons]
    congr 1
    simp
theorem toHex {c : Nat} (h : IsBit c) : IsHex c := by unfold IsBit at h; unfold IsHex; omega
theorem basedB {cs : List Nat} (h : ∀ c ∈ cs, IsBit c) : based 2 cs = (2, false, cs) := by
  match cs, h with
  | [], _ => rfl
  | [a], h =>
    rcases h a (List.mem_cons_self ..) with rfl | rfl <;> rfl
  | a :: c :: r, h =>
    rcases h a (List.mem_cons_self ..) with rfl | rfl <;> rcases h c (List.mem_cons_of_mem _ (List.mem_cons_self ..)) with rfl | rfl <;> rfl
theorem read_bin {cs : List Nat} (h : ∀ c ∈ cs, IsBit c) (hne : cs ≠ []) : (int_private% "readNumeral") 0 2 cs = (int_private% "Numeral.value") ((binNum cs : Nat) : Int) := by
  have hx : ∀ c ∈ cs, IsHex c := fun c hc => toHex (h c hc)
  have hr : ∀ c ∈ cs.reverse, IsHex c := fun c hc => hx c (List.mem_reverse.mp hc)
  refine (readNumeral_eq 0 2 cs).trans ?_
  rw [dropB hx, signH hx]
  show judge 0 false (based 2 cs).1 (based 2 cs).2.1 (digits? (based 2 cs).1 (((based 2 cs).2.2.reverse.dropWhile blank).reverse)) = _
  rw [basedB h]
  show judge 0 false 2 false (digits? 2 ((cs.reverse.dropWhile blank).reverse)) = _
  rw [dropB hr, List.reverse_reverse, digits_bin h hne]
  show (int_private% "Numeral.value") (((cs.foldl (fun acc c => acc.push (c - 48)) (#[] : Array Nat)).foldl (fun acc d => acc * 2 + d) 0 : Nat) : Int) = _
  have z : (#[] : Array Nat).foldl (fun acc d => acc * 2 + d) 0 = 0 := by first | rfl | simp
  rw [push_bin, z] <;> rfl
set_option maxHeartbeats 4000000 in
theorem gives_bin {x : PySem.Str} {u t : Tok} (hl : x.length ≤ 640) (h : ∀ c ∈ x.cps.toList, IsBit c) (hne : x.cps.toList ≠ []) :
    Gives (Builtin.«int.__new__» ⟨[.type "int", .str x u, .int 2 t], []⟩) (.int ((binNum x.cps.toList : Nat) : Int)) :=
  .of_wp fun M A E s Q hQ => by
    obtain ⟨hp, g, d, tk, os⟩ := s
    have f1 := F.conv_sub_int
    have f2 := F.madeHere_int
    have f6 : typeOf (.str x u) = pure (.type "str") := rfl
    obtain ⟨e1, e2⟩ := seen_hex (x := x) (fun c hc => toHex (h c hc))
    have hs : (numSeenOf x).length ≤ 640 := by
      rw [e2, Array.length_toList]
      exact hl
    have hr : (int_private% "readNumeral") 0 2 (numSeenOf x) = (int_private% "Numeral.value") ((binNum x.cps.toList : Nat) : Int) := by
      rw [e2]
      exact read_bin h hne
    have ha : ((numSeenOf x).length == (numTextOf x).length) = true := by
      rw [e1, e2]
      exact beq_self_eq_true _
    have hk := Hid.mk (And.intro hs (And.intro hr ha))
    clear hs hr ha e1 e2 hl hne h
    repeat (any_goals (first
      | assumption
      | ((with_reducible show wpAny _ _ ((int_private% "intFromText") _ _ _) _ _ _); refine wp_textB hk.out.1 hk.out.2.1 hk.out.2.2 ?_)
      | wp_step))
    all_goals first | exact ⟨_, rfl, hQ⟩ | skip
theorem call_bin {prog : Program} {w : World} {A : Around} {E : Value → Shared → Prop} {s : Shared} {Q : Value → Shared → Prop} {x : PySem.Str} {u t : Tok} (hl : x.length ≤ 640) (h : ∀ c ∈ x.cps.toList, IsBit c) (hne : x.cps.toList ≠ [])
    (hQ : Q (.int ((binNum x.cps.toList : Nat) : Int) s.toks) { s with toks := s.toks + 1 }) : wpAny (model prog w) A (call (.type "int") [.str x u, .int 2 t]) Q E s :=
  callType_new F.called_int F.newNe_int (typeCall_int_2 _ _) (newCall_int_2 _ _) (fun obj => F.initArgs_range_2 obj _ _) F.entry_int_new (gives_bin hl h hne).meets (show (Made.int ((binNum x.cps.toList : Nat) : Int)).post _ s from ⟨rfl, hQ⟩)
end Bx
/-- int(t, 2) -/
def rIntBin : List V → Hp → VK → Prop := fun xs H Q => ∃ l : List Nat, xs = [.str (SX.S l), .int 2] ∧ l ≠ [] ∧ l.length ≤ 640 ∧ (∀ c ∈ l, Bx.IsBit c) ∧ Q (.int ((Bx.binNum l : Nat) : Int)) H
theorem call_int_bin {X : Cx} : CallR X (.type "int") rIntBin := by
  intro pins s σ H xs us Q I r h
  obtain ⟨l, rfl, hne, hl, hx, q⟩ := h
  obtain ⟨u, w', rfl, r1, r2⟩ := vals2 r
  obtain ⟨t1, rfl⟩ := r1
  obtain ⟨t2, rfl⟩ := r2
  exact Bx.call_bin (x := SX.S l) (by rw [SX.S_len]; exact hl) hx hne ⟨.int ((Bx.binNum l : Nat) : Int), H, I.tok _, ⟨_, rfl⟩, q⟩
/-! ### a list made over a range with a step -/
theorem lc_rangeC {lo c : Int} {n : Nat} {g : TG} {tt : TT} {te : TE} {vs : List Nat} {σ : L2.St} {H1 : Hp} {D : Addr} {Qd : Hp → Prop} (Pv : Nat → Hp → Prop) (h0 : Pv 0 (upd H1 D (.lst [])))
    (hs : ∀ i H, i < n → Pv i H → g (.int (lo + (i : Nat) * c)) (wipe σ vs) H fun σ2 H2 => wipe σ2 vs = wipe σ vs ∧ tt σ2 H2 fun b H3 =>
      if b = true then te σ2 H3 fun y H4 => ∃ acc, H4 D = some (.lst acc) ∧ acc.length < sizeLine ∧ Pv (i + 1) (upd H4 D (.lst (acc ++ [y]))) else Pv (i + 1) H3) (hd : ∀ H, Pv n H → Qd H) :
    ∃ W : Nat → Nat → Hp → Prop, (∃ m, W 0 m (upd H1 D (.lst []))) ∧ ∀ i m H, W i m H →
      ((Itc lo c n).stop i H ∧ Qd H) ∨ ((Itc lo c n).go i H ∧ ∃ Nx : Hp → Prop, (∀ H', Nx H' → ∃ m', m' < m ∧ W (i + 1) m' H') ∧ ∀ x H', (Itc lo c n).yld i H x H' → g x (wipe σ vs) H' fun σ2 H2 => wipe σ2 vs = wipe σ vs ∧ tt σ2 H2 fun b H3 =>
        if b = true then te σ2 H3 fun y H4 => ∃ acc, H4 D = some (.lst acc) ∧ acc.length < sizeLine ∧ Nx (upd H4 D (.lst (acc ++ [y]))) else Nx H3) := by
  refine ⟨fun i m H => m = n - i ∧ i ≤ n ∧ Pv i H, ⟨n, by simp, Nat.zero_le _, h0⟩, ?_⟩
  rintro i m H ⟨rfl, hi, p⟩
  by_cases hlt : i < n
  · refine .inr ⟨hlt, Pv (i + 1), fun H' p' => ⟨n - (i + 1), by omega, rfl, hlt, p'⟩, fun x H' y => ?_⟩
    obtain ⟨e, y⟩ := y
    subst e y
    exact hs i _ hlt p
  · have e : i = n := by omega
    subst e
    exact .inl ⟨Nat.le_refl _, hd H p⟩
end Fb
namespace Fb
open PySem L2 PyProof.Rows Bx
theorem binF (l : List Nat) : ∀ a : Nat, l.foldl (fun a c => a * 2 + (c - 48)) a = a * 2 ^ l.length + binNum l := by
  induction l with
  | nil => intro a; simp [binNum]
  | cons c l ih =>
    intro a
    unfold binNum
    rw [List.foldl_cons, List.foldl_cons, ih, ih (0 * 2 + (c - 48)), List.length_cons, Nat.pow_succ, Nat.add_mul, Nat.add_mul]
    have : a * 2 * 2 ^ l.length = a * (2 ^ l.length * 2) := by rw [Nat.mul_assoc, Nat.mul_comm 2]
    omega
theorem binNum_app (a b : List Nat) : binNum (a ++ b) = binNum a * 2 ^ b.length + binNum b := by
  show (a ++ b).foldl _ 0 = _
  rw [List.foldl_append, binF]
  rfl
theorem binNum_zeros (m : Nat) : binNum (List.replicate m 48) = 0 := by
  induction m with
  | zero => rfl
  | succ m ih =>
    rw [show List.replicate (m + 1) 48 = [48] ++ List.replicate m 48 from rfl, binNum_app, ih]
    show (0 * 2 + (48 - 48)) * _ + 0 = 0
    simp
theorem binNum_ones (m : Nat) : binNum (List.replicate m 49) + 1 = 2 ^ m := by
  induction m with
  | zero => rfl
  | succ m ih =>
    rw [show List.replicate (m + 1) 49 = [49] ++ List.replicate m 49 from rfl, binNum_app, List.length_replicate, Nat.add_assoc, ih, Nat.pow_succ]
    show (0 * 2 + (49 - 48)) * 2 ^ m + 2 ^ m = _
    omega
theorem flip_par : ∀ {k : Nat}, flip (-1) (k + 1) = if k % 2 = 0 then 1 else -1
  | 0 => rfl
  | 1 => rfl
  | k + 2 => by
    rw [flip_succ, flip_succ, Int.neg_neg, flip_par (k := k)]
    rw [show (k + 2) % 2 = k % 2 by omega]
/-- the row of equal bits below turn k -/
def rowS (ns : List Nat) (k : Nat) : List Nat := List.replicate (ns.getD k 0 - ns.getD (k - 1) 0) (48 + k % 2)
/-- all rows up to turn k -/
def rowD2 (ns : List Nat) : Nat → List Nat
  | 0 => List.replicate (ns.getD 0 0) 48
  | k + 1 => rowS ns (k + 1) ++ rowD2 ns k
theorem rowD2_val {ns : List Nat} (asc : ns.Pairwise (· < ·)) : ∀ k, k < ns.length → (rowD2 ns k).length = ns.getD k 0 ∧ ((binNum (rowD2 ns k) : Nat) : Int) = alt (-1) (ns.take (k + 1)) + (if k % 2 = 0 then 2 ^ (ns.getD k 0) else 0) := by
  intro k
  induction k with
  | zero =>
    intro h
    obtain ⟨t, r, rfl⟩ : ∃ t r, ns = t :: r := by
      cases ns with
      | nil => exact absurd h (by decide)
      | cons t r => exact ⟨t, r, rfl⟩
    refine ⟨List.length_replicate .., ?_⟩
    show ((binNum (List.replicate t 48) : Nat) : Int) = (-1 * 2 ^ t + 0) + (if 0 % 2 = 0 then 2 ^ t else 0)
    rw [binNum_zeros, if_pos (by rfl)]
    simp only [Int.natCast_zero]
    generalize (2 : Int) ^ t = T
    omega
  | succ k ih =>
    intro h
    obtain ⟨l1, v1⟩ := ih (by omega)
    have hk : ns.getD k 0 = ns[k]'(by omega) := by rw [List.getD_eq_getElem?_getD, List.getElem?_eq_getElem (by omega)]; rfl
    have hk1 : ns.getD (k + 1) 0 = ns[k + 1]'h := by rw [List.getD_eq_getElem?_getD, List.getElem?_eq_getElem h]; rfl
    have lt : ns.getD k 0 < ns.getD (k + 1) 0 := by
      rw [hk, hk1]
      exact List.pairwise_iff_getElem.mp asc k (k + 1) (by omega) h (by omega)
    have len : (rowD2 ns (k + 1)).length = ns.getD (k + 1) 0 := by
      show (rowS ns (k + 1) ++ rowD2 ns k).length = _
      rw [List.length_append, l1]
      unfold rowS
      rw [List.length_replicate, Nat.add_sub_cancel]
      omega
    refine ⟨len, ?_⟩
    have et : ns.take (k + 1 + 1) = ns.take (k + 1) ++ [ns.getD (k + 1) 0] := by
      rw [List.take_add_one, List.getElem?_eq_getElem h, hk1]; rfl
    have ll : (ns.take (k + 1)).length = k + 1 := by rw [List.length_take]; omega
    rw [et, alt_snoc, ll]
    show ((binNum (rowS ns (k + 1) ++ rowD2 ns k) : Nat) : Int) = _
    rw [binNum_app, l1, Int.natCast_add, Int.natCast_mul, v1, Int.natCast_pow]
    unfold rowS
    rw [Nat.add_sub_cancel]
    generalize alt (-1) (ns.take (k + 1)) = A
    generalize ns.getD k 0 = s at *
    generalize ns.getD (k + 1) 0 = t at *
    have fl : flip (-1) (k + 1) = if k % 2 = 0 then 1 else -1 := flip_par (k := k)
    rw [fl]
    rcases (show k % 2 = 0 ∨ k % 2 = 1 by omega) with c | c
    · rw [if_pos c, if_pos c, if_neg (show ¬ (k + 1) % 2 = 0 by omega), show (k + 1) % 2 = 1 by omega]
      have o := binNum_ones (t - s)
      have o2 : ((binNum (List.replicate (t - s) 49) : Nat) : Int) = 2 ^ (t - s) - 1 := by
        have : ((2 ^ (t - s) : Nat) : Int) = 2 ^ (t - s) := Int.natCast_pow 2 _
        rw [← this, ← o]; omega
      rw [show 48 + 1 = 49 from rfl, o2, Int.sub_mul]
      have e : (2 : Int) ^ (t - s) * ((2 : Nat) : Int) ^ s = 2 ^ t := by
        rw [show ((2 : Nat) : Int) = 2 from rfl, ← Int.pow_add, Nat.sub_add_cancel (Nat.le_of_lt lt)]
      rw [e, show ((2 : Nat) : Int) = 2 from rfl]
      generalize (2 : Int) ^ t = T
      generalize (2 : Int) ^ s = S
      omega
    · rw [if_neg (show ¬ k % 2 = 0 by omega), if_neg (show ¬ k % 2 = 0 by omega), if_pos (show (k + 1) % 2 = 0 by omega), show (k + 1) % 2 = 0 by omega]
      rw [show 48 + 0 = 48 from rfl, binNum_zeros]
      generalize (2 : Int) ^ t = T
      simp only [Int.natCast_zero]
      omega
theorem rowD2_bits (ns : List Nat) : ∀ k, ∀ c ∈ rowD2 ns k, IsBit c := by
  intro k
  induction k with
  | zero => intro c h; exact .inl (List.eq_of_mem_replicate h)
  | succ k ih =>
    intro c h
    rcases List.mem_append.mp h with h | h
    · have := List.eq_of_mem_replicate h
      unfold IsBit
      omega
    · exact ih c h
theorem joinL_nil : ∀ l : List (List Nat), TL.joinL [] l = l.flatten
  | [] => rfl
  | [p] => by show p = _; simp
  | p :: q :: r => by
    show p ++ ([] ++ TL.joinL [] (q :: r)) = _
    rw [joinL_nil (q :: r)]
    simp
theorem rows_join (ns : List Nat) : ∀ N : Nat, (((List.range N).map fun i => rowS ns (N - i)) ++ [List.replicate (ns.getD 0 0) 48]).flatten = rowD2 ns N := by
  intro N
  induction N with
  | zero => simp [rowD2]
  | succ N ih =>
    rw [List.range_succ_eq_map, List.map_cons, List.map_map]
    show (rowS ns (N + 1) :: (_ ++ _)).flatten = _
    rw [List.flatten_cons]
    show _ = rowS ns (N + 1) ++ rowD2 ns N
    rw [← ih]
    congr 4
    funext i
    show rowS ns (N + 1 - (i + 1)) = rowS ns (N - i)
    rw [Nat.add_sub_add_right]
end Fb
namespace Fb
open PySem L2 PySem.Spec PyProof.Rows
namespace Bx
open Hx PySem.NumText
theorem read_binL {cs : List Nat} (lim : Nat) (h : ∀ c ∈ cs, IsBit c) (hne : cs ≠ []) : (int_private% "readNumeral") lim 2 cs = (int_private% "Numeral.value") ((binNum cs : Nat) : Int) := by
  have hx : ∀ c ∈ cs, IsHex c := fun c hc => toHex (h c hc)
  have hr : ∀ c ∈ cs.reverse, IsHex c := fun c hc => hx c (List.mem_reverse.mp hc)
  refine (readNumeral_eq lim 2 cs).trans ?_
  rw [dropB hx, signH hx]
  show judge lim false (based 2 cs).1 (based 2 cs).2.1 (digits? (based 2 cs).1 (((based 2 cs).2.2.reverse.dropWhile blank).reverse)) = _
  rw [basedB h]
  show judge lim false 2 false (digits? 2 ((cs.reverse.dropWhile blank).reverse)) = _
  rw [dropB hr, List.reverse_reverse, digits_bin h hne]
  show (int_private% "Numeral.value") (((cs.foldl (fun acc c => acc.push (c - 48)) (#[] : Array Nat)).foldl (fun acc d => acc * 2 + d) 0 : Nat) : Int) = _
  have z : (#[] : Array Nat).foldl (fun acc d => acc * 2 + d) 0 = 0 := by first | rfl | simp
  rw [push_bin, z] <;> rfl
theorem wp_textL {M : Model} {A : Around} {E : Value → Shared → Prop} {s : Shared} {Q : Value → Shared → Prop} {v : Value} {text : List Nat} {B : Nat} {n : Int}
    (hs : ¬ (text.takeWhile (· != 0)).length ≤ 640) (hL : ∀ Q' : Option Value → Shared → Prop, Q' none s → wpAny M A (nsGet cStatics "sys.int_max_str_digits") Q' E s) (hr : ∀ lim, (int_private% "readNumeral") lim B (text.takeWhile (· != 0)) = (int_private% "Numeral.value") n)
    (ha : ((text.takeWhile (· != 0)).length == text.length) = true) (h : Q (.int n s.toks) { s with toks := s.toks + 1 }) :
    wpAny M A ((int_private% "intFromText") v text B) Q E s := by
  obtain ⟨hp, g, d, tk, os⟩ := s
  repeat (any_goals (first
    | assumption
    | (with_reducible refine wpAny_ite_false (decide_eq_false hs) ?_)
    | (with_reducible refine wpAny_ite_true (decide_eq_true ha) ?_)
    | (with_reducible refine hL _ ?_)
    | wp_step))
  all_goals (try rw [hr])
  all_goals (try dsimp only)
  repeat (any_goals (first
    | assumption
    | (with_reducible refine wpAny_ite_true (decide_eq_true ha) ?_)
    | wp_step))
structure HidL (p : Prop) : Prop where
  out : p
theorem gives_binL {prog : Program} {w : World} {x : PySem.Str} {u t : Tok} (hl : ¬ x.length ≤ 640) (h : ∀ c ∈ x.cps.toList, IsBit c) (hne : x.cps.toList ≠ []) :
    MeetsIn prog w (Builtin.«int.__new__» ⟨[.type "int", .str x u, .int 2 t], []⟩) (fun A R s => (∀ (M : Model) (A : Around) (E : Value → Shared → Prop) (Q' : Option Value → Shared → Prop), Q' none s → wpAny M A (nsGet cStatics "sys.int_max_str_digits") Q' E s) ∧ (Made.int ((binNum x.cps.toList : Nat) : Int)).post (fun v s' => R (.ok (.ret v)) s') s) := by
  intro A R s h0
  obtain ⟨hL, hQ⟩ := h0
  suffices hh : wpAny (model prog w) A.in1 (Builtin.«int.__new__» ⟨[.type "int", .str x u, .int 2 t], []⟩) (fun fin s' => ∃ v, fin = .done (.ret v) ∧ R (.ok (.ret v)) s') (fun e s' => R (.error e) s') s from
    wpAny_mono hh (fun fin s' h' => by obtain ⟨v, rfl, hv⟩ := h'; exact hv) fun _ _ x => x
  replace hL := hL (model prog w) A.in1
  generalize (model prog w) = M at hL ⊢
  generalize A.in1 = A' at hL ⊢
  generalize (fun e s' => R (.error e) s' : Value → Shared → Prop) = E at hL ⊢
  replace hL := hL E
  obtain ⟨hp, g, d, tk, os⟩ := s
  have f1 := F.conv_sub_int
  have f2 := F.madeHere_int
  have f6 : typeOf (.str x u) = pure (.type "str") := rfl
  obtain ⟨e1, e2⟩ := seen_hex (x := x) (fun c hc => toHex (h c hc))
  have hs : ¬ (numSeenOf x).length ≤ 640 := by
    rw [e2, Array.length_toList]
    exact hl
  have hr : ∀ lim, (int_private% "readNumeral") lim 2 (numSeenOf x) = (int_private% "Numeral.value") ((binNum x.cps.toList : Nat) : Int) := by
    rw [e2]
    exact fun lim => read_binL lim h hne
  have ha : ((numSeenOf x).length == (numTextOf x).length) = true := by
    rw [e1, e2]
    exact beq_self_eq_true _
  have hk := HidL.mk (And.intro hs (And.intro hr (And.intro ha hL)))
  clear hs hr ha e1 e2 hl hne h hL
  repeat (any_goals (first
    | assumption
    | ((with_reducible show wpAny _ _ ((int_private% "intFromText") _ _ _) _ _ _); refine wp_textL hk.out.1 hk.out.2.2.2 hk.out.2.1 hk.out.2.2.1 ?_)
    | wp_step))
  all_goals first | exact ⟨_, rfl, hQ⟩ | skip
theorem call_binL {prog : Program} {w : World} {A : Around} {E : Value → Shared → Prop} {s : Shared} {Q : Value → Shared → Prop} {x : PySem.Str} {u t : Tok} (hl : ¬ x.length ≤ 640) (h : ∀ c ∈ x.cps.toList, IsBit c) (hne : x.cps.toList ≠ [])
    (hL : ∀ (M : Model) (A : Around) (E : Value → Shared → Prop) (Q' : Option Value → Shared → Prop), Q' none s → wpAny M A (nsGet cStatics "sys.int_max_str_digits") Q' E s)
    (hQ : Q (.int ((binNum x.cps.toList : Nat) : Int) s.toks) { s with toks := s.toks + 1 }) : wpAny (model prog w) A (call (.type "int") [.str x u, .int 2 t]) Q E s :=
  callType_newIn F.called_int F.newNe_int (typeCall_int_2 _ _) (newCall_int_2 _ _) (fun obj => F.initArgs_range_2 obj _ _) F.entry_int_new (gives_binL hl h hne) ⟨hL, show (Made.int ((binNum x.cps.toList : Nat) : Int)).post _ s from ⟨rfl, hQ⟩⟩
end Bx
/-- int(t, 2), of a text of any length -/
def rIntBinL : List V → Hp → VK → Prop := fun xs H Q => ∃ l : List Nat, xs = [.str (SX.S l), .int 2] ∧ l ≠ [] ∧ (∀ c ∈ l, Bx.IsBit c) ∧ Q (.int ((Bx.binNum l : Nat) : Int)) H
theorem call_int_binL {X : Cx} (hk : PySem.W.nsIn X.K cStatics "sys.int_max_str_digits" = some none) : CallR X (.type "int") rIntBinL := by
  intro pins s σ H xs us Q I r h
  obtain ⟨l, rfl, hne, hx, q⟩ := h
  by_cases hl : l.length ≤ 640
  · exact call_int_bin _ _ _ _ _ _ _ I r ⟨l, rfl, hne, hl, hx, q⟩
  obtain ⟨u, w', rfl, r1, r2⟩ := vals2 r
  obtain ⟨t1, rfl⟩ := r1
  obtain ⟨t2, rfl⟩ := r2
  refine Bx.call_binL (x := SX.S l) (by rw [SX.S_len]; exact hl) hx hne (fun M A E Q' h' => PySem.W.looks_nsIn I.kIn hk A Q' E s (fun _ _ z => z) h') ⟨.int ((Bx.binNum l : Nat) : Int), H, I.tok _, ⟨_, rfl⟩, q⟩
end Fb
namespace Fb
open PySem L2
/-! ### codes a step apart -/
def Cq (c : Int) : Prop := 0 ≤ c ∧ c < 2 ^ 799 ∧ ∀ p ∈ turnsN c, Pl (p : Int)
theorem Cq.of {c : Int} (h : Cd c) : Cq c := ⟨h.b.1, h.b.2, code_places h⟩
/-- the turns of x - 1 -/
theorem dec_turns {x : Int} {t : Nat} {rest : List Nat} (h : turnsN x = t :: rest) : ∀ p ∈ turnsN (x - 1), p = 0 ∨ p ∈ turnsN x ∨ p = t + 1 := by
  have asc := turns_asc x
  have val := turns_alt x
  rw [h] at asc val
  obtain ⟨a1, a2⟩ := List.pairwise_cons.mp asc
  have key : ∀ L : List Nat, L.Pairwise (· < ·) → alt (-1) L = x - 1 → (∀ p ∈ L, p = 0 ∨ p ∈ t :: rest ∨ p = t + 1) → ∀ p ∈ turnsN (x - 1), p = 0 ∨ p ∈ turnsN x ∨ p = t + 1 := fun L hL e hp => by
    rw [← e, turns_of_alt hL, h]
    exact hp
  have pp : ∀ n : Nat, (2 : Int) ^ (n + 1) = 2 * 2 ^ n := fun n => by rw [Int.pow_succ]; omega
  have two : ∀ r2, rest = (t + 1) :: r2 → ∀ p ∈ turnsN (x - 1), p = 0 ∨ p ∈ turnsN x ∨ p = t + 1 := fun r2 hr => by
    subst hr
    obtain ⟨b1, b2⟩ := List.pairwise_cons.mp a2
    have v : -1 * 2 ^ t + (- -1 * 2 ^ (t + 1) + alt (- - -1) r2) = x := val
    have v' : (2 : Int) ^ t + alt (-1) r2 = x := by
      rw [pp] at v
      have e3 : (- - -1 : Int) = -1 := by decide
      rw [e3] at v
      omega
    by_cases t0 : t = 0
    · subst t0
      refine key r2 b2 ?_ fun p hp => .inr (.inl (List.mem_cons_of_mem _ (List.mem_cons_of_mem _ hp)))
      have : (2 : Int) ^ 0 = 1 := rfl
      omega
    · refine key (0 :: t :: r2) ?_ ?_ fun p hp => ?_
      · refine List.pairwise_cons.mpr ⟨fun p hp => ?_, List.pairwise_cons.mpr ⟨fun p hp => a1 p (List.mem_cons_of_mem _ hp), b2⟩⟩
        rcases List.mem_cons.mp hp with rfl | hp
        · omega
        · have := a1 p (List.mem_cons_of_mem _ hp); omega
      · show -1 * 2 ^ 0 + (- -1 * 2 ^ t + alt (- - -1) r2) = _
        have e3 : (- - -1 : Int) = -1 := by decide
        have e0 : (2 : Int) ^ 0 = 1 := rfl
        rw [e3, e0]
        omega
      · rcases List.mem_cons.mp hp with rfl | hp
        · exact .inl rfl
        · rcases List.mem_cons.mp hp with rfl | hp
          · exact .inr (.inl List.mem_cons_self)
          · exact .inr (.inl (List.mem_cons_of_mem _ (List.mem_cons_of_mem _ hp)))
  have far : (∀ p ∈ rest, t + 1 < p) → ∀ p ∈ turnsN (x - 1), p = 0 ∨ p ∈ turnsN x ∨ p = t + 1 := fun hf => by
    have v : -1 * 2 ^ t + alt (- -1) rest = x := val
    have e2 : (- -1 : Int) = 1 := by decide
    rw [e2] at v
    by_cases t0 : t = 0
    · subst t0
      refine key (1 :: rest) (List.pairwise_cons.mpr ⟨fun p hp => hf p hp, a2⟩) ?_ fun p hp => ?_
      · show -1 * 2 ^ 1 + alt (- -1) rest = _
        have e0 : (2 : Int) ^ 0 = 1 := rfl
        have e1 : (2 : Int) ^ 1 = 2 := rfl
        rw [e2, e1]
        omega
      · rcases List.mem_cons.mp hp with rfl | hp
        · exact .inr (.inr rfl)
        · exact .inr (.inl (List.mem_cons_of_mem _ hp))
    · refine key (0 :: t :: (t + 1) :: rest) ?_ ?_ fun p hp => ?_
      · refine List.pairwise_cons.mpr ⟨fun p hp => ?_, List.pairwise_cons.mpr ⟨fun p hp => ?_, List.pairwise_cons.mpr ⟨hf, a2⟩⟩⟩
        · rcases List.mem_cons.mp hp with rfl | hp
          · omega
          · rcases List.mem_cons.mp hp with rfl | hp
            · omega
            · have := hf p hp; omega
        · rcases List.mem_cons.mp hp with rfl | hp
          · omega
          · have := hf p hp; omega
      · show -1 * 2 ^ 0 + (- -1 * 2 ^ t + (- - -1 * 2 ^ (t + 1) + alt (- - - -1) rest)) = _
        have e3 : (- - -1 : Int) = -1 := by decide
        have e4 : (- - - -1 : Int) = 1 := by decide
        have e0 : (2 : Int) ^ 0 = 1 := rfl
        rw [e4, e3, e0, pp]
        omega
      · rcases List.mem_cons.mp hp with rfl | hp
        · exact .inl rfl
        · rcases List.mem_cons.mp hp with rfl | hp
          · exact .inr (.inl List.mem_cons_self)
          · rcases List.mem_cons.mp hp with rfl | hp
            · exact .inr (.inr rfl)
            · exact .inr (.inl (List.mem_cons_of_mem _ hp))
  cases rest with
  | nil => exact far fun p hp => by cases hp
  | cons u r2 =>
    have := a1 u List.mem_cons_self
    by_cases e : u = t + 1
    · subst e; exact two r2 rfl
    · refine far fun p hp => ?_
      rcases List.mem_cons.mp hp with rfl | hp
      · omega
      · have := (List.pairwise_cons.mp a2).1 p hp; omega
theorem digit_turns60 {d : Int} (h0 : 0 ≤ d) (h1 : d < 2 ^ 60) : ∀ p ∈ turnsN d, p ≤ 60 := fun p hp =>
  turns_lt (x := d) (n := 60) (by omega) h1 p hp
theorem code_places60 {m : Nat} {c : Int} (h : CodeB m (2 ^ 60) c) : ∀ p ∈ turnsN c, p < 799 ∧ p % 200 ≤ 60 := by
  obtain ⟨d, rfl, h2, _⟩ := h
  have t0 := digit_turns60 (h2 0).1 (h2 0).2
  have t1 := digit_turns60 (h2 1).1 (h2 1).2
  have t2 := digit_turns60 (h2 2).1 (h2 2).2
  have t3 := digit_turns60 (h2 3).1 (h2 3).2
  have n3 : 0 ≤ d 2 + d 3 * 2 ^ 200 := by have := (h2 2).1; have := (h2 3).1; omega
  have n2 : 0 ≤ d 1 + (d 2 + d 3 * 2 ^ 200) * 2 ^ 200 := by have := (h2 1).1; omega
  have e : val4 d = d 0 + (d 1 + (d 2 + d 3 * 2 ^ 200) * 2 ^ 200) * 2 ^ 200 := by unfold val4; omega
  rw [e, turns_two (h2 0).1 n2 (fun p hp => by have := t0 p hp; omega), turns_two (h2 1).1 n3 (fun p hp => by have := t1 p hp; omega), turns_two (h2 2).1 (h2 3).1 (fun p hp => by have := t2 p hp; omega)]
  intro p hp
  simp only [List.mem_append, List.map_append, List.mem_map] at hp
  rcases hp with hp | ⟨q, hq, rfl⟩ | ⟨q, ⟨r, hr, rfl⟩ , rfl⟩ | ⟨q, ⟨r, ⟨u, hu, rfl⟩, rfl⟩, rfl⟩
  · have := t0 p hp; omega
  · have := t1 q hq; omega
  · have := t2 r hr; omega
  · have := t3 u hu; omega
theorem Cq.dec {c : Int} (h : Cd c) (h1 : 1 ≤ c) : Cq (c - 1) := by
  have b := h.b
  refine ⟨by omega, by generalize (2 : Int) ^ 799 = B at b ⊢; omega, ?_⟩
  cases ht : turnsN c with
  | nil =>
    have v := turns_alt c
    rw [ht] at v
    have : (0 : Int) = c := v
    omega
  | cons t rest =>
    have pl := code_places60 h
    intro p hp
    rcases dec_turns ht p hp with rfl | hp | rfl
    · exact ⟨by decide, by decide, by decide⟩
    · have := pl p hp
      exact ⟨by omega, by omega, by omega⟩
    · have := pl t (by rw [ht]; exact List.mem_cons_self)
      exact ⟨by omega, by omega, by omega⟩
theorem ordN_movedQ {fs : List PyData} (F : Fields fs) : OrdN 4 (movedD fs) Cq := by
  have o := ordN_place F
  have pl : ∀ c, Cq c → ∀ a ∈ zs (turnsN c), Pl a := fun c h a ha => by
    obtain ⟨p, hp, rfl⟩ := List.mem_map.mp ha
    exact h.2.2 p hp
  have le : ∀ c, Cq c → (zs (turnsN c)).length ≤ 9000 := fun c h => by
    rw [len_zs]
    have := len_turns h.1 h.2.1
    omega
  refine { fm := fun c h => ?_, ord := fun c c' h h' => ?_, pos := fun c h => h.1, near := fun c h h64 => small_moved F h.1 h64, far := fun c h h64 => ?_ }
  · rw [moved_row]
    exact row_fm o (pl c h) (zs_asc (turns_asc c)) (le c h)
  · show cmpD 4 (movedD fs c) (movedD fs c') = _
    rw [moved_row, moved_row, row_ord o (pl c h) (pl c' h') (zs_asc (turns_asc c)) (zs_asc (turns_asc c')) (le c h) (le c' h'), cmpS_turns]
  · obtain ⟨hm, _, k⟩ := moveds F 0
    have := (k c h.1 h.2.1).2.2
    by_cases e : isNear (movedD fs c) = true
    · have := this e; omega
    · exact Bool.eq_false_iff.mpr e
theorem sw_movedQ {fs : List PyData} (F : Fields fs) {c : Int} (h : Cq c) : Sw 4 1281621 (movedD fs c) := by
  rw [moved_row]
  have pl : ∀ a ∈ zs (turnsN c), Pl a := fun a ha => by
    obtain ⟨p, hp, rfl⟩ := List.mem_map.mp ha
    exact h.2.2 p hp
  have r := sw_row (m := 3) (b := 1600) (ordN_place F) pl (zs_asc (turns_asc c)) fun a ha => by
    have q := pl a ha
    have e : ((a.toNat : Nat) : Int) = a := by have := q.1; omega
    exact sw_place F (p := a.toNat) (by rw [e]; exact q)
  rw [len_zs] at r
  refine r.mono (Nat.le_refl _) ?_
  have lt := len_turns h.1 h.2.1
  have := Nat.mul_le_mul_right 1602 lt
  omega
end Fb
namespace Fb
open PySem L2
/-! ### the bits of an int -/
def Bt (p : Nat) (x : Int) : Int := x / 2 ^ p % 2
theorem bt_zero (x : Int) : Bt 0 x = x % 2 := by unfold Bt; rw [Int.pow_zero, Int.ediv_one]
theorem bt_succ (p : Nat) (x : Int) : Bt (p + 1) x = Bt p (x / 2) := by
  unfold Bt
  rw [Int.pow_succ, Int.mul_comm, ← Int.ediv_ediv_of_nonneg (by decide)]
theorem bt_01 (p : Nat) (x : Int) : Bt p x = 0 ∨ Bt p x = 1 := by unfold Bt; omega
theorem bt_ext_bd : ∀ (N : Nat) (x y : Int), -(2 ^ N) ≤ x → x < 2 ^ N → -(2 ^ N) ≤ y → y < 2 ^ N → (∀ p, Bt p x = Bt p y) → x = y
  | 0, x, y, h1, h2, h3, h4, h => by
    have := h 0
    rw [bt_zero, bt_zero] at this
    omega
  | N + 1, x, y, h1, h2, h3, h4, h => by
    have e := bt_ext_bd N (x / 2) (y / 2) (by rw [Int.pow_succ] at h1; omega) (by rw [Int.pow_succ] at h2; omega) (by rw [Int.pow_succ] at h3; omega) (by rw [Int.pow_succ] at h4; omega) fun p => by
      have := h (p + 1)
      rw [bt_succ, bt_succ] at this
      exact this
    have := h 0
    rw [bt_zero, bt_zero] at this
    omega
theorem lt_two_pow (n : Nat) : n < 2 ^ n := Nat.lt_two_pow_self
theorem bt_ext {x y : Int} (h : ∀ p, Bt p x = Bt p y) : x = y := by
  have b : ∀ (z : Int) (N : Nat), z.natAbs ≤ N → -(2 ^ N) ≤ z ∧ z < 2 ^ N := fun z N hz => by
    have e : ((2 ^ N : Nat) : Int) = 2 ^ N := Int.natCast_pow 2 N
    have := lt_two_pow N
    omega
  have bx := b x (x.natAbs + y.natAbs) (by omega)
  have by' := b y (x.natAbs + y.natAbs) (by omega)
  exact bt_ext_bd _ x y bx.1 bx.2 by'.1 by'.2 h
theorem bt_and : ∀ (p : Nat) (x y : Int), Bt p (Builtin.bitAnd x y) = Bt p x * Bt p y
  | 0, x, y => by
    rw [bt_zero, bt_zero, bt_zero, PySem.W.kbt_halves]
    rcases Int.emod_two_eq x with h | h <;> rcases Int.emod_two_eq y with k | k <;> rw [h, k] <;> simp <;> omega
  | p + 1, x, y => by
    rw [bt_succ, bt_succ, bt_succ, ← bt_and p]
    congr 1
    rw [PySem.W.kbt_halves]
    split <;> omega
theorem bt_not : ∀ (p : Nat) (x : Int), Bt p (-x - 1) = 1 - Bt p x
  | 0, x => by rw [bt_zero, bt_zero]; omega
  | p + 1, x => by
    rw [bt_succ, bt_succ, ← bt_not p]
    congr 1
    omega
/-- carries -/
def maj (a b c : Int) : Int := (a + b + c) / 2
def cr (x y k : Int) : Nat → Int
  | 0 => k
  | p + 1 => maj (Bt p x) (Bt p y) (cr x y k p)
theorem cr_01 {x y k : Int} (hk : k = 0 ∨ k = 1) : ∀ p, cr x y k p = 0 ∨ cr x y k p = 1
  | 0 => hk
  | p + 1 => by
    have := cr_01 (x := x) (y := y) hk p
    have := bt_01 p x
    have := bt_01 p y
    show maj _ _ _ = 0 ∨ maj _ _ _ = 1
    unfold maj
    omega
theorem cr_shift (x y k : Int) : ∀ p, cr x y k (p + 1) = cr (x / 2) (y / 2) (maj (x % 2) (y % 2) k) p
  | 0 => by show maj (Bt 0 x) (Bt 0 y) k = _; rw [bt_zero, bt_zero]; rfl
  | p + 1 => by
    show maj (Bt (p + 1) x) (Bt (p + 1) y) (cr x y k (p + 1)) = _
    rw [cr_shift x y k p, bt_succ, bt_succ]
    rfl
theorem bt_add : ∀ (p : Nat) (x y k : Int), (k = 0 ∨ k = 1) → Bt p (x + y + k) = (Bt p x + Bt p y + cr x y k p) % 2
  | 0, x, y, k, hk => by
    rw [bt_zero, bt_zero, bt_zero]
    show _ = (x % 2 + y % 2 + k) % 2
    omega
  | p + 1, x, y, k, hk => by
    have e : (x + y + k) / 2 = x / 2 + y / 2 + maj (x % 2) (y % 2) k := by unfold maj; omega
    rw [bt_succ, e, bt_add p _ _ _ (by unfold maj; omega), ← cr_shift, bt_succ, bt_succ]
/-! ### the bits told by turns -/
theorem alt_mul (k : Nat) : ∀ (l : List Nat) (s : Int), (∀ n ∈ l, k ≤ n) → ∃ q, alt s l = 2 ^ k * q
  | [], s, _ => ⟨0, by rw [Int.mul_zero]; rfl⟩
  | n :: l, s, h => by
    obtain ⟨q, hq⟩ := alt_mul k l (-s) fun m hm => h m (List.mem_cons_of_mem _ hm)
    have hn := h n List.mem_cons_self
    refine ⟨s * 2 ^ (n - k) + q, ?_⟩
    show s * 2 ^ n + alt (-s) l = _
    rw [hq, Int.mul_add]
    congr 1
    rw [← Int.mul_assoc, Int.mul_comm (2 ^ k) s, Int.mul_assoc, ← Int.pow_add]
    congr 2
    omega
theorem alt_neg : ∀ (l : List Nat) (s : Int), alt (-s) l = -alt s l
  | [], s => rfl
  | n :: l, s => by
    show -s * 2 ^ n + alt (- -s) l = -(s * 2 ^ n + alt (-s) l)
    rw [alt_neg l (-s)]
    rw [Int.neg_mul, Int.neg_add]
def cnt (l : List Int) (c : Int) : Nat := (l.filter fun t => decide (t ≤ c)).length
def clt (l : List Int) (c : Int) : Nat := (l.filter fun t => decide (t < c)).length
theorem bt_alt (p : Nat) : ∀ l : List Nat, l.Pairwise (· < ·) → Bt p (alt (-1) l) = ((l.filter fun t => decide (t ≤ p)).length % 2 : Nat)
  | [], _ => by show Bt p 0 = 0; unfold Bt; rw [Int.zero_ediv]; rfl
  | n :: l, hp => by
    obtain ⟨h1, h2⟩ := List.pairwise_cons.mp hp
    obtain ⟨q, hq⟩ := alt_mul (n + 1) l (-1) fun m hm => h1 m hm
    have ih := bt_alt p l h2
    have e : alt (-1) (n :: l) = -(2 ^ n * (2 * q + 1)) := by
      show -1 * 2 ^ n + alt (- -1) l = _
      rw [alt_neg l (-1), hq, Int.pow_succ, Int.mul_add, ← Int.mul_assoc]
      omega
    by_cases hn : n ≤ p
    · rw [List.filter_cons_of_pos (by simp [hn]), List.length_cons]
      have k1 : Bt p (alt (-1) (n :: l)) = 1 - Bt p (alt (-1) l) := by
        rw [← bt_not, e, hq]
        unfold Bt
        obtain ⟨d, rfl⟩ : ∃ d, p = n + d := ⟨p - n, by omega⟩
        have p2 : (0 : Int) < 2 ^ n := Int.pow_pos (by decide)
        have k2 : (-(2 ^ n * (2 * q + 1))) / 2 ^ n = -(2 * q + 1) := by
          rw [← Int.mul_neg]
          exact Int.mul_ediv_cancel_left _ (Int.ne_of_gt p2)
        have k3 : (-(2 ^ (n + 1) * q) - 1) / 2 ^ n = -(2 * q + 1) := by
          have : -(2 ^ (n + 1) * q) - 1 = (2 ^ n - 1) + 2 ^ n * (-(2 * q + 1)) := by
            rw [Int.pow_succ, Int.mul_assoc]
            generalize (2 : Int) ^ n = N
            rw [Int.mul_neg, Int.mul_add, Int.mul_one]
            omega
          rw [this, Int.add_mul_ediv_left _ _ (Int.ne_of_gt p2), Int.ediv_eq_zero_of_lt (by omega) (by omega), Int.zero_add]
        rw [Int.pow_add, ← Int.ediv_ediv_of_nonneg (Int.le_of_lt p2), k2, ← Int.ediv_ediv_of_nonneg (Int.le_of_lt p2), k3]
      rw [k1, ih]
      omega
    · have none : l.filter (fun t => decide (t ≤ p)) = [] := List.filter_eq_nil_iff.mpr fun t ht => by
        have := h1 t ht
        simp only [decide_eq_true_eq]
        omega
      rw [List.filter_cons_of_neg (by simp [hn]), none]
      rw [e]
      unfold Bt
      obtain ⟨d, hd⟩ : ∃ d, n = p + 1 + d := ⟨n - p - 1, by omega⟩
      have : -(2 ^ n * (2 * q + 1)) = 2 ^ p * (2 * (2 ^ d * -(2 * q + 1))) := by
        rw [hd, Int.pow_add, Int.pow_add, ← Int.mul_neg, Int.mul_assoc, Int.mul_assoc]
        rfl
      rw [this, Int.mul_ediv_cancel_left _ (Int.ne_of_gt (Int.pow_pos (by decide)))]
      simp
/-- the turns of an int, as places -/
def Tl (x : Int) : List Int := zs (turnsN x)
theorem tl_asc (x : Int) : (Tl x).Pairwise (· < ·) := zs_asc (turns_asc x)
theorem tl_pos (x : Int) : ∀ c ∈ Tl x, 0 ≤ c := zs_pos
theorem cnt_zs (l : List Nat) (p : Nat) : cnt (zs l) (p : Int) = (l.filter fun t => decide (t ≤ p)).length := by
  unfold cnt zs
  rw [List.filter_map, List.length_map]
  congr 1
  refine List.filter_congr fun t _ => ?_
  show decide (((t : Nat) : Int) ≤ (p : Int)) = decide (t ≤ p)
  exact decide_eq_decide.mpr (by omega)
theorem bt_tl (p : Nat) (x : Int) : Bt p x = ((cnt (Tl x) (p : Int)) % 2 : Nat) := by
  unfold Tl
  rw [cnt_zs, ← bt_alt p _ (turns_asc x), turns_alt]
/-- a list of places that tells the bits of x is that of its turns -/
theorem tl_of {l : List Int} {x : Int} (asc : l.Pairwise (· < ·)) (pos : ∀ c ∈ l, 0 ≤ c) (h : ∀ p : Nat, (((cnt l (p : Int)) % 2 : Nat) : Int) = Bt p x) : l = Tl x := by
  have a2 := asc_toNat pos asc
  have e : alt (-1) (l.map Int.toNat) = x := bt_ext fun p => by
    rw [bt_alt p _ a2, ← h p, ← cnt_zs, zs_toNat pos]
  have : turnsN x = l.map Int.toNat := by rw [← e, turns_of_alt a2]
  unfold Tl
  rw [this, zs_toNat pos]
/-! ### counts -/
theorem cnt_app (l m : List Int) (c : Int) : cnt (l ++ m) c = cnt l c + cnt m c := by unfold cnt; rw [List.filter_append, List.length_append]
theorem cnt_nil (c : Int) : cnt [] c = 0 := rfl
theorem cnt_cons (a : Int) (l : List Int) (c : Int) : cnt (a :: l) c = (if a ≤ c then 1 else 0) + cnt l c := by
  unfold cnt
  by_cases h : a ≤ c
  · rw [List.filter_cons_of_pos (by simp [h]), if_pos h, List.length_cons]; omega
  · rw [List.filter_cons_of_neg (by simp [h]), if_neg h]; omega
theorem cnt_zero {l : List Int} {c : Int} (h : ∀ t ∈ l, c < t) : cnt l c = 0 := by
  unfold cnt
  rw [List.filter_eq_nil_iff.mpr fun t ht => by have := h t ht; simp only [decide_eq_true_eq]; omega]
  rfl
theorem cnt_all {l : List Int} {c : Int} (h : ∀ t ∈ l, t ≤ c) : cnt l c = l.length := by
  unfold cnt
  rw [List.filter_eq_self.mpr fun t ht => by simp [h t ht]]
end Fb
namespace Fb
open PySem L2
theorem clt_cons (a : Int) (l : List Int) (c : Int) : clt (a :: l) c = (if a < c then 1 else 0) + clt l c := by
  unfold clt
  by_cases h : a < c
  · rw [List.filter_cons_of_pos (by simp [h]), if_pos h, List.length_cons]; omega
  · rw [List.filter_cons_of_neg (by simp [h]), if_neg h]; omega
theorem clt_zero {l : List Int} {c : Int} (h : ∀ t ∈ l, c ≤ t) : clt l c = 0 := by
  unfold clt
  rw [List.filter_eq_nil_iff.mpr fun t ht => by have := h t ht; simp only [decide_eq_true_eq]; omega]
  rfl
theorem clt_le (l : List Int) (c : Int) : clt l c ≤ l.length := List.length_filter_le _ _
theorem cnt_le (l : List Int) (c : Int) : cnt l c ≤ l.length := List.length_filter_le _ _
/-- an ascending list around a -/
theorem split3 (a : Int) : ∀ {B : List Int}, B.Pairwise (· < ·) → B = B.take (clt B a) ++ ((if a ∈ B then [a] else []) ++ B.drop (cnt B a)) ∧ (∀ t ∈ B.take (clt B a), t < a) ∧ (∀ t ∈ B.drop (cnt B a), a < t) ∧ cnt B a = clt B a + (if a ∈ B then 1 else 0)
  | [], _ => ⟨rfl, (fun _ h => by cases h), (fun _ h => by cases h), rfl⟩
  | b :: B, hp => by
    obtain ⟨h1, h2⟩ := List.pairwise_cons.mp hp
    obtain ⟨i1, i2, i3, i4⟩ := split3 a h2
    rcases Int.lt_trichotomy b a with h | h | h
    · have m : (a ∈ b :: B) ↔ a ∈ B := by rw [List.mem_cons]; constructor <;> intro k <;> first | (rcases k with k | k <;> first | omega | exact k) | exact .inr k
      rw [clt_cons, cnt_cons, if_pos h, if_pos (show b ≤ a by omega), Nat.add_comm 1, Nat.add_comm 1, List.take_succ_cons, List.drop_succ_cons]
      simp only [m]
      refine ⟨?_, fun t ht => ?_, i3, by omega⟩
      · show b :: B = b :: (B.take _ ++ _)
        rw [← i1]
      · rcases List.mem_cons.mp ht with rfl | ht
        · exact h
        · exact i2 t ht
    · subst h
      have z1 : clt B b = 0 := clt_zero fun t ht => by have := h1 t ht; omega
      have z2 : cnt B b = 0 := cnt_zero h1
      rw [clt_cons, cnt_cons, if_neg (Int.lt_irrefl _), if_pos (Int.le_refl _), z1, z2]
      simp only [List.mem_cons, true_or, if_true]
      exact ⟨rfl, (fun t ht => by cases ht), h1, by first | trivial | rfl⟩
    · have m : a ∉ b :: B := fun k => by
        rcases List.mem_cons.mp k with k | k
        · omega
        · have := h1 a k; omega
      have z1 : clt (b :: B) a = 0 := clt_zero fun t ht => by
        rcases List.mem_cons.mp ht with rfl | ht
        · omega
        · have := h1 t ht; omega
      have z2 : cnt (b :: B) a = 0 := cnt_zero fun t ht => by
        rcases List.mem_cons.mp ht with rfl | ht
        · exact h
        · have := h1 t ht; omega
      rw [z1, z2, if_neg m]
      refine ⟨rfl, (fun t ht => by cases ht), fun t ht => ?_, by rw [if_neg m]⟩
      rcases List.mem_cons.mp ht with rfl | ht
      · exact h
      · have := h1 t ht; omega
/-! ### merged lists -/
def mrg : List Int → List Int → List Int
  | [], B => B
  | a :: A, B => B.take (clt B a) ++ ((if a ∈ B then [] else [a]) ++ mrg A (B.drop (cnt B a)))
theorem mrg_mem : ∀ {A B : List Int} {t : Int}, t ∈ mrg A B → t ∈ A ∨ t ∈ B
  | [], B, t, h => .inr h
  | a :: A, B, t, h => by
    rcases List.mem_append.mp h with h | h
    · exact .inr (List.mem_of_mem_take h)
    · rcases List.mem_append.mp h with h | h
      · split at h
        · cases h
        · exact .inl (List.mem_cons.mpr (.inl (List.mem_singleton.mp h)))
      · rcases mrg_mem h with h | h
        · exact .inl (List.mem_cons_of_mem _ h)
        · exact .inr (List.mem_of_mem_drop h)
theorem mrg_ok : ∀ {A B : List Int}, A.Pairwise (· < ·) → B.Pairwise (· < ·) → (mrg A B).Pairwise (· < ·) ∧ ∀ c, cnt (mrg A B) c % 2 = (cnt A c + cnt B c) % 2
  | [], B, _, hB => ⟨hB, fun c => by rw [cnt_nil, Nat.zero_add]; rfl⟩
  | a :: A, B, hA, hB => by
    obtain ⟨h1, h2⟩ := List.pairwise_cons.mp hA
    obtain ⟨s1, s2, s3, s4⟩ := split3 a hB
    obtain ⟨i1, i2⟩ := mrg_ok h2 (hB.sublist (List.drop_sublist (cnt B a) B))
    have up : ∀ t ∈ mrg A (B.drop (cnt B a)), a < t := fun t ht => (mrg_mem ht).elim (h1 t) (s3 t)
    have hB' := hB
    rw [s1] at hB'
    obtain ⟨p1, p2, p3⟩ := List.pairwise_append.mp hB'
    constructor
    · refine List.pairwise_append.mpr ⟨p1, List.pairwise_append.mpr ⟨?_, i1, fun x hx y hy => ?_⟩, fun x hx y hy => ?_⟩
      · split <;> simp
      · split at hx
        · cases hx
        · rw [List.mem_singleton.mp hx]; exact up y hy
      · have := s2 x hx
        rcases List.mem_append.mp hy with hy | hy
        · split at hy
          · cases hy
          · rw [List.mem_singleton.mp hy]; exact this
        · have := up y hy; omega
    · intro c
      have e := congrArg (fun l => cnt l c) s1
      simp only [cnt_app] at e
      show cnt (B.take (clt B a) ++ ((if a ∈ B then [] else [a]) ++ mrg A (B.drop (cnt B a)))) c % 2 = _
      rw [cnt_app, cnt_app, cnt_cons]
      have := i2 c
      by_cases m : a ∈ B
      · rw [if_pos m] at e ⊢
        rw [cnt_cons, cnt_nil] at e
        rw [cnt_nil]
        split at e <;> rename_i q <;> simp only [q, if_true, if_false] <;> omega
      · rw [if_neg m] at e ⊢
        rw [cnt_nil] at e
        rw [cnt_cons, cnt_nil]
        split <;> omega
theorem bxor_halves (x y : Int) : Builtin.bitXor x y = 2 * Builtin.bitXor (x / 2) (y / 2) + (x % 2 + y % 2) % 2 := by
  rw [PyProof.Rows.bitXor_and, PyProof.Rows.bitXor_and, PySem.W.kbt_halves]
  split <;> omega
theorem bt_xor : ∀ (p : Nat) (x y : Int), Bt p (Builtin.bitXor x y) = (Bt p x + Bt p y) % 2
  | 0, x, y => by rw [bt_zero, bt_zero, bt_zero, bxor_halves]; omega
  | p + 1, x, y => by
    rw [bt_succ, bt_succ, bt_succ, ← bt_xor p]
    congr 1
    rw [bxor_halves]
    omega
theorem mrg_tl (x y : Int) : mrg (Tl x) (Tl y) = Tl (Builtin.bitXor x y) := by
  obtain ⟨a, b⟩ := mrg_ok (tl_asc x) (tl_asc y)
  refine tl_of a (fun c hc => (mrg_mem hc).elim (tl_pos x c) (tl_pos y c)) fun p => ?_
  have := b p
  rw [bt_xor, bt_tl, bt_tl]
  omega
theorem bxor_comm (x y : Int) : Builtin.bitXor x y = Builtin.bitXor y x := by rw [PyProof.Rows.bitXor_and, PyProof.Rows.bitXor_and, PyProof.Rows.bitAnd_comm]; omega
/-! ### common ones -/
def com (B : List Int) : List Int → List Int
  | [] => []
  | [u] => (if cnt B u % 2 = 1 then [u] else []) ++ B.drop (cnt B u)
  | u :: v :: A => (if cnt B u % 2 = 1 then [u] else []) ++ ((B.take (clt B v)).drop (cnt B u) ++ ((if clt B v % 2 = 1 then [v] else []) ++ com B A))
theorem cnt_take_lt {B : List Int} (hB : B.Pairwise (· < ·)) {v c : Int} (h : c < v) : cnt (B.take (clt B v)) c = cnt B c := by
  obtain ⟨s1, s2, s3, s4⟩ := split3 v hB
  have e := congrArg (fun l => cnt l c) s1
  simp only [cnt_app] at e
  rw [cnt_zero (l := B.drop _) fun t ht => by have := s3 t ht; omega] at e
  by_cases m : v ∈ B
  · rw [if_pos m, cnt_cons, if_neg (by omega), cnt_nil] at e; omega
  · rw [if_neg m, cnt_nil] at e; omega
theorem take_cnt_le {u : Int} : ∀ {B : List Int}, B.Pairwise (· < ·) → ∀ t ∈ B.take (cnt B u), t ≤ u
  | [], _, t, ht => by cases ht
  | b :: B, hp, t, ht => by
    obtain ⟨h1, h2⟩ := List.pairwise_cons.mp hp
    by_cases h : b ≤ u
    · rw [cnt_cons, if_pos h, Nat.add_comm, List.take_succ_cons] at ht
      rcases List.mem_cons.mp ht with rfl | ht
      · exact h
      · exact take_cnt_le h2 t ht
    · rw [cnt_zero fun t ht => by
        rcases List.mem_cons.mp ht with rfl | ht
        · omega
        · have := h1 t ht; omega] at ht
      cases ht
theorem drop_cnt {B : List Int} (hB : B.Pairwise (· < ·)) {u c : Int} (h : u ≤ c) : cnt (B.drop (cnt B u)) c = cnt B c - cnt B u ∧ cnt B u ≤ cnt B c := by
  have e := congrArg (fun l => cnt l c) (List.take_append_drop (cnt B u) B)
  simp only [cnt_app] at e
  have k : cnt (B.take (cnt B u)) c = cnt B u := by
    rw [cnt_all fun t ht => by have := take_cnt_le hB t ht; omega, List.length_take]
    have := cnt_le B u; omega
  omega
theorem cnt_clt {B : List Int} (hB : B.Pairwise (· < ·)) {u v : Int} (h : u < v) : cnt B u ≤ clt B v := by
  have e := cnt_take_lt hB h
  have := cnt_le (B.take (clt B v)) u
  rw [List.length_take] at this
  omega
theorem clt_cnt {B : List Int} (hB : B.Pairwise (· < ·)) {u v : Int} (h : u < v) : ∀ t ∈ (B.take (clt B v)).drop (cnt B u), u < t ∧ t < v := by
  intro t ht
  refine ⟨?_, (split3 v hB).2.1 t (List.mem_of_mem_drop ht)⟩
  have : (B.take (clt B v)).drop (cnt B u) = (B.drop (cnt B u)).take (clt B v - cnt B u) := by rw [List.drop_take]
  rw [this] at ht
  exact (split3 u hB).2.2.1 t (List.mem_of_mem_take ht)
theorem cnt_mid {B : List Int} (hB : B.Pairwise (· < ·)) {u v c : Int} (h : u < v) (hu : u ≤ c) (hv : c < v) : cnt ((B.take (clt B v)).drop (cnt B u)) c = cnt B c - cnt B u := by
  have e := congrArg (fun l => cnt l c) (List.take_append_drop (cnt B u) (B.take (clt B v)))
  simp only [cnt_app] at e
  rw [cnt_take_lt hB hv, List.take_take, Nat.min_eq_left (cnt_clt hB h), cnt_all fun t ht => by have := take_cnt_le hB t ht; omega, List.length_take] at e
  have := cnt_le B u
  omega
theorem com_ok {B : List Int} (hB : B.Pairwise (· < ·)) : ∀ {A : List Int}, A.Pairwise (· < ·) → (com B A).Pairwise (· < ·) ∧ (∀ t ∈ com B A, (t ∈ A ∨ t ∈ B) ∧ ∃ u, A.head? = some u ∧ u ≤ t) ∧ ∀ c, cnt (com B A) c % 2 = (cnt A c % 2) * (cnt B c % 2)
  | [], _ => ⟨.nil, (fun t h => by cases h), fun c => by rw [cnt_nil, Nat.zero_mod, Nat.zero_mul]; rfl⟩
  | [u], _ => by
    obtain ⟨s1, s2, s3, s4⟩ := split3 u hB
    refine ⟨List.pairwise_append.mpr ⟨by split <;> simp, hB.sublist (List.drop_sublist _ _), fun x hx y hy => ?_⟩, fun t ht => ?_, fun c => ?_⟩
    · split at hx
      · rw [List.mem_singleton.mp hx]; exact s3 y hy
      · cases hx
    · rcases List.mem_append.mp ht with h | h
      · split at h
        · rw [List.mem_singleton.mp h]; exact ⟨.inl List.mem_cons_self, u, rfl, Int.le_refl _⟩
        · cases h
      · exact ⟨.inr (List.mem_of_mem_drop h), u, rfl, by have := s3 t h; omega⟩
    · show cnt ((if cnt B u % 2 = 1 then [u] else []) ++ B.drop (cnt B u)) c % 2 = _
      rw [cnt_app, cnt_cons, cnt_nil]
      by_cases h : u ≤ c
      · obtain ⟨d1, d2⟩ := drop_cnt hB h
        rw [d1, if_pos h]
        have r : (1 + 0) % 2 * (cnt B c % 2) = cnt B c % 2 := by rw [Nat.one_mul]
        rw [r]
        split
        · rw [cnt_cons, cnt_nil, if_pos h]; omega
        · rw [cnt_nil]; omega
      · rw [if_neg h, cnt_zero (l := B.drop _) fun t ht => by have := s3 t ht; omega, Nat.zero_mod, Nat.zero_mul]
        split
        · rw [cnt_cons, cnt_nil, if_neg h]
        · rw [cnt_nil]
  | u :: v :: A, hA => by
    obtain ⟨h1, h2⟩ := List.pairwise_cons.mp hA
    obtain ⟨h3, h4⟩ := List.pairwise_cons.mp h2
    have huv : u < v := h1 v List.mem_cons_self
    obtain ⟨i1, i2, i3⟩ := com_ok hB h4
    have mid := clt_cnt hB huv
    have up : ∀ t ∈ com B A, v < t := fun t ht => by
      obtain ⟨_, w, hw, hwt⟩ := i2 t ht
      have : w ∈ A := List.mem_of_mem_head? hw
      have := h3 w this
      omega
    refine ⟨List.pairwise_append.mpr ⟨by split <;> simp, List.pairwise_append.mpr ⟨(hB.sublist (List.take_sublist _ _)).sublist (List.drop_sublist _ _), List.pairwise_append.mpr ⟨by split <;> simp, i1, fun x hx y hy => ?_⟩, fun x hx y hy => ?_⟩, fun x hx y hy => ?_⟩, fun t ht => ?_, fun c => ?_⟩
    · split at hx
      · rw [List.mem_singleton.mp hx]; exact up y hy
      · cases hx
    · have := mid x hx
      rcases List.mem_append.mp hy with hy | hy
      · split at hy
        · rw [List.mem_singleton.mp hy]; omega
        · cases hy
      · have := up y hy; omega
    · split at hx
      · rw [List.mem_singleton.mp hx]
        rcases List.mem_append.mp hy with hy | hy
        · exact (mid y hy).1
        · rcases List.mem_append.mp hy with hy | hy
          · split at hy
            · rw [List.mem_singleton.mp hy]; exact huv
            · cases hy
          · have := up y hy; omega
      · cases hx
    · refine ⟨?_, u, rfl, ?_⟩
      all_goals
        rcases List.mem_append.mp ht with h | h
        · split at h
          · have := List.mem_singleton.mp h
            first | (subst this; exact .inl List.mem_cons_self) | omega
          · cases h
        · rcases List.mem_append.mp h with h | h
          · have := mid t h
            first | exact .inr (List.mem_of_mem_take (List.mem_of_mem_drop h)) | omega
          · rcases List.mem_append.mp h with h | h
            · split at h
              · have := List.mem_singleton.mp h
                first | (subst this; exact .inl (List.mem_cons_of_mem _ List.mem_cons_self)) | omega
              · cases h
            · have q := up t h
              first | exact (i2 t h).1.imp (fun k => List.mem_cons_of_mem _ (List.mem_cons_of_mem _ k)) id | omega
    · show cnt ((if cnt B u % 2 = 1 then [u] else []) ++ ((B.take (clt B v)).drop (cnt B u) ++ ((if clt B v % 2 = 1 then [v] else []) ++ com B A))) c % 2 = _
      rw [cnt_app, cnt_app, cnt_app, cnt_cons, cnt_cons]
      have ih := i3 c
      rcases Int.lt_or_le c u with hu | hu
      · rw [cnt_zero (l := (B.take _).drop _) fun t ht => by have := mid t ht; omega, cnt_zero (l := com B A) fun t ht => by have := up t ht; omega, cnt_zero (l := A) fun t ht => by have := h3 t ht; omega, if_neg (show ¬ u ≤ c by omega), if_neg (show ¬ v ≤ c by omega)]
        have z1 : cnt (if cnt B u % 2 = 1 then [u] else []) c = 0 := by split <;> simp [cnt_cons, cnt_nil] <;> omega
        have z2 : cnt (if clt B v % 2 = 1 then [v] else []) c = 0 := by split <;> simp [cnt_cons, cnt_nil] <;> omega
        rw [z1, z2]
        simp
      · have z1 : cnt (if cnt B u % 2 = 1 then [u] else []) c = cnt B u % 2 := by
          split
          · rw [cnt_cons, cnt_nil, if_pos hu]; omega
          · rw [cnt_nil]; omega
        rcases Int.lt_or_le c v with hv | hv
        · obtain ⟨_, d2⟩ := drop_cnt hB hu
          rw [cnt_mid hB huv hu hv, cnt_zero (l := com B A) fun t ht => by have := up t ht; omega, cnt_zero (l := A) fun t ht => by have := h3 t ht; omega, if_pos hu, if_neg (show ¬ v ≤ c by omega), z1]
          have z2 : cnt (if clt B v % 2 = 1 then [v] else []) c = 0 := by split <;> simp [cnt_cons, cnt_nil] <;> omega
          rw [z2]
          have r : (1 + (0 + 0)) % 2 * (cnt B c % 2) = cnt B c % 2 := by rw [Nat.one_mul]
          rw [r]
          omega
        · have z2 : cnt (if clt B v % 2 = 1 then [v] else []) c = clt B v % 2 := by
            split
            · rw [cnt_cons, cnt_nil, if_pos hv]; omega
            · rw [cnt_nil]; omega
          have m : cnt ((B.take (clt B v)).drop (cnt B u)) c = clt B v - cnt B u := by
            rw [cnt_all fun t ht => by have := mid t ht; omega, List.length_drop, List.length_take]
            have := clt_le B v; omega
          have := cnt_clt hB huv
          rw [z1, z2, m, if_pos hu, if_pos hv]
          have r : (1 + (1 + cnt A c)) % 2 = cnt A c % 2 := by omega
          rw [r, ← ih]
          omega
theorem com_tl (x y : Int) : com (Tl y) (Tl x) = Tl (Builtin.bitAnd x y) := by
  obtain ⟨a, b, c⟩ := com_ok (tl_asc y) (tl_asc x)
  refine tl_of a (fun t ht => (b t ht).1.elim (tl_pos x t) (tl_pos y t)) fun p => ?_
  rw [c p, bt_and, bt_tl, bt_tl]
  rw [Int.natCast_mul]
end Fb
namespace Fb
open PySem L2
/-! ### carries, segment by segment of the shorter one -/
/-- the place at which the carry turns, if there is one: the bit of the few is `bit`, the carry is the other one -/
def turnAt (B : List Int) (bit sta : Nat) : Option Int := if cnt B sta % 2 = bit then some (sta : Int) else B[cnt B sta]?
def carL (B : List Int) : List Int → Nat → Nat → Nat → List Int
  | [], bit, sta, bin => if bit = bin then [] else match turnAt B bit sta with
    | none => []
    | some p => [p + 1]
  | a :: A, bit, sta, bin => if bit = bin then carL B A (1 - bit) a.toNat bin else match turnAt B bit sta with
    | none => carL B A (1 - bit) a.toNat bin
    | some p => if p < a then (p + 1) :: carL B A (1 - bit) a.toNat bit else carL B A (1 - bit) a.toNat bin
section
variable {x y k : Int} {B : List Int}
/-- within a segment: the carry is bin up to the place, then bit -/
theorem seg_carry (hB : B.Pairwise (· < ·)) (hy : ∀ p : Nat, Bt p y = (cnt B (p : Int) % 2 : Nat)) {bit sta bin : Nat} (h1 : bit ≤ 1) (h2 : bin ≤ 1) (hs : cr x y k sta = bin) (e : Option Int)
    (hx : ∀ p : Nat, sta ≤ p → (∀ a, e = some a → (p : Int) < a) → Bt p x = bit) :
    ∀ d : Nat, (∀ a, e = some a → ((sta + d : Nat) : Int) ≤ a) → cr x y k (sta + d) = if bit = bin then (bin : Int) else match turnAt B bit sta with
      | none => (bin : Int)
      | some q => if q < ((sta + d : Nat) : Int) then (bit : Int) else bin
  | 0, _ => by
    rw [Nat.add_zero, hs]
    split
    · rfl
    · split
      · rfl
      · rename_i q hq
        have : (sta : Int) ≤ q := by
          unfold turnAt at hq
          split at hq
          · cases hq; exact Int.le_refl _
          · have hm : q ∈ B.drop (cnt B (sta : Int)) := by
              rw [List.getElem?_eq_some_iff] at hq
              obtain ⟨hl, hq⟩ := hq
              rw [← hq]
              exact List.mem_drop_iff_getElem.mpr ⟨0, by simpa using hl, by simp⟩
            have := (split3 (sta : Int) hB).2.2.1 q hm
            omega
        rw [if_neg (by omega)]
  | d + 1, hd => by
    have ih := seg_carry hB hy h1 h2 hs e hx d fun a ha => by have := hd a ha; omega
    have hxp := hx (sta + d) (by omega) fun a ha => by have := hd a ha; omega
    have hyp := hy (sta + d)
    show maj (Bt (sta + d) x) (Bt (sta + d) y) (cr x y k (sta + d)) = _
    rw [hxp, hyp]
    by_cases hb : bit = bin
    · rw [if_pos hb] at ih ⊢
      rw [ih, hb]
      unfold maj
      omega
    · rw [if_neg hb] at ih ⊢
      cases ht : turnAt B bit sta with
      | none =>
        rw [ht] at ih
        dsimp only at ih ⊢
        rw [ih]
        unfold turnAt at ht
        split at ht
        · cases ht
        · rename_i hne
          have hl : B.length ≤ cnt B (sta : Int) := List.getElem?_eq_none_iff.mp ht
          have : cnt B ((sta + d : Nat) : Int) = cnt B (sta : Int) := by
            have := (drop_cnt hB (show (sta : Int) ≤ ((sta + d : Nat) : Int) by omega)).2
            have := cnt_le B ((sta + d : Nat) : Int)
            omega
          rw [this]
          unfold maj
          omega
      | some q =>
        rw [ht] at ih
        dsimp only at ih ⊢
        rw [ih]
        unfold turnAt at ht
        split at ht
        · rename_i he
          cases ht
          rw [if_pos (show (sta : Int) < ((sta + (d + 1) : Nat) : Int) by omega)]
          by_cases hd0 : d = 0
          · subst hd0
            rw [if_neg (by simp), Nat.add_zero, he]
            unfold maj
            omega
          · rw [if_pos (by omega)]
            unfold maj
            omega
        · rename_i hne
          obtain ⟨hl, hq⟩ := List.getElem?_eq_some_iff.mp ht
          have hm : q ∈ B.drop (cnt B (sta : Int)) := by
            rw [← hq]
            exact List.mem_drop_iff_getElem.mpr ⟨0, by simpa using hl, by simp⟩
          have hsq := (split3 (sta : Int) hB).2.2.1 q hm
          by_cases c1 : q < ((sta + d : Nat) : Int)
          · rw [if_pos c1, if_pos (show q < ((sta + (d + 1) : Nat) : Int) by omega)]
            unfold maj
            omega
          · rw [if_neg c1]
            have dr : B.drop (cnt B (sta : Int)) = q :: B.drop (cnt B (sta : Int) + 1) := by
              rw [List.drop_eq_getElem_cons hl, hq]
            have hp := hB.sublist (List.drop_sublist (cnt B (sta : Int)) B)
            rw [dr] at hp
            obtain ⟨g1, g2⟩ := List.pairwise_cons.mp hp
            have dc := drop_cnt hB (show (sta : Int) ≤ ((sta + d : Nat) : Int) by omega)
            rw [dr, cnt_cons] at dc
            by_cases c2 : q = ((sta + d : Nat) : Int)
            · rw [if_pos (show q < ((sta + (d + 1) : Nat) : Int) by omega)]
              rw [cnt_zero (l := B.drop _) fun t ht => by have := g1 t ht; omega, if_pos (show q ≤ ((sta + d : Nat) : Int) by omega)] at dc
              unfold maj
              omega
            · rw [if_neg (show ¬ q < ((sta + (d + 1) : Nat) : Int) by omega)]
              rw [cnt_zero (l := B.drop _) fun t ht => by have := g1 t ht; omega, if_neg (show ¬ q ≤ ((sta + d : Nat) : Int) by omega)] at dc
              unfold maj
              omega
theorem turn_ge (hB : B.Pairwise (· < ·)) {bit sta : Nat} {q : Int} (ht : turnAt B bit sta = some q) : (sta : Int) ≤ q ∧ (q = sta ∨ q ∈ B) := by
  unfold turnAt at ht
  split at ht
  · cases ht; exact ⟨Int.le_refl _, .inl rfl⟩
  · have hm : q ∈ B.drop (cnt B (sta : Int)) := by
      obtain ⟨hl, hq⟩ := List.getElem?_eq_some_iff.mp ht
      rw [← hq]
      exact List.mem_drop_iff_getElem.mpr ⟨0, by simpa using hl, by simp⟩
    have := (split3 (sta : Int) hB).2.2.1 q hm
    exact ⟨by omega, .inr (List.mem_of_mem_drop hm)⟩
theorem carL_ok (hB : B.Pairwise (· < ·)) (hy : ∀ p : Nat, Bt p y = (cnt B (p : Int) % 2 : Nat)) : ∀ {A : List Int} {bit sta bin : Nat}, A.Pairwise (· < ·) → (∀ a ∈ A, (sta : Int) ≤ a) → bit ≤ 1 → bin ≤ 1 → cr x y k sta = bin →
    (∀ p : Nat, sta ≤ p → Bt p x = ((bit + cnt A (p : Int)) % 2 : Nat)) →
    (carL B A bit sta bin).Pairwise (· < ·) ∧ (∀ t ∈ carL B A bit sta bin, (sta : Int) < t ∧ (t - 1 = sta ∨ t - 1 ∈ B ∨ t - 1 ∈ A)) ∧ ∀ p : Nat, sta ≤ p → cr x y k p = ((bin + cnt (carL B A bit sta bin) (p : Int)) % 2 : Nat)
  | [], bit, sta, bin, _, _, h1, h2, hs, hx => by
    have seg := seg_carry hB hy h1 h2 hs none fun p hp _ => by
      rw [hx p hp, cnt_nil]; omega
    rw [show carL B [] bit sta bin = (if bit = bin then [] else match turnAt B bit sta with | none => [] | some p => [p + 1]) from rfl]
    by_cases hb : bit = bin
    · rw [if_pos hb]
      refine ⟨.nil, (fun t ht => by cases ht), fun p hp => ?_⟩
      have := seg (p - sta) (fun a ha => by cases ha)
      rw [if_pos hb, show sta + (p - sta) = p by omega] at this
      rw [this, cnt_nil]; omega
    · rw [if_neg hb]
      cases ht : turnAt B bit sta with
      | none =>
        refine ⟨.nil, (fun t ht => by cases ht), fun p hp => ?_⟩
        have := seg (p - sta) (fun a ha => by cases ha)
        rw [if_neg hb, ht, show sta + (p - sta) = p by omega] at this
        dsimp only at this ⊢
        rw [this, cnt_nil]; omega
      | some q =>
        obtain ⟨g1, g2⟩ := turn_ge hB ht
        refine ⟨by simp, fun t ht => ?_, fun p hp => ?_⟩
        · rw [List.mem_singleton.mp ht]
          refine ⟨by omega, ?_⟩
          rw [show q + 1 - 1 = q by omega]
          exact g2.imp id .inl
        · have := seg (p - sta) (fun a ha => by cases ha)
          rw [if_neg hb, ht, show sta + (p - sta) = p by omega] at this
          dsimp only at this ⊢
          rw [this, cnt_cons, cnt_nil]
          by_cases c : q < (p : Int)
          · rw [if_pos c, if_pos (by omega)]; omega
          · rw [if_neg c, if_neg (by omega)]; omega
  | a :: A, bit, sta, bin, hA, hs0, h1, h2, hs, hx => by
    obtain ⟨a1, a2⟩ := List.pairwise_cons.mp hA
    have ha0 := hs0 a List.mem_cons_self
    have ea : ((a.toNat : Nat) : Int) = a := by omega
    have seg := seg_carry hB hy h1 h2 hs (some a) fun p hp hlt => by
      have := hlt a rfl
      rw [hx p hp, cnt_cons, if_neg (by omega), cnt_zero fun t ht => by have := a1 t ht; omega]; omega
    have hx' : ∀ p : Nat, a.toNat ≤ p → Bt p x = ((1 - bit + cnt A (p : Int)) % 2 : Nat) := fun p hp => by
      rw [hx p (by omega), cnt_cons, if_pos (by omega)]
      congr 1
      omega
    have hA' : ∀ t ∈ A, ((a.toNat : Nat) : Int) ≤ t := fun t ht => by have := a1 t ht; omega
    have mid : ∀ p : Nat, sta ≤ p → (p : Int) ≤ a → cr x y k p = if bit = bin then (bin : Int) else match turnAt B bit sta with
      | none => (bin : Int)
      | some q => if q < (p : Int) then (bit : Int) else bin := fun p hp hpa => by
      have := seg (p - sta) (fun b hb => by cases hb; omega)
      rw [show sta + (p - sta) = p by omega] at this
      exact this
    have atA := mid a.toNat (by omega) (by omega)
    -- the rest with the carry bin
    have same : cr x y k a.toNat = bin → (∀ p : Nat, sta ≤ p → (p : Int) ≤ a → cr x y k p = bin) → (carL B A (1 - bit) a.toNat bin).Pairwise (· < ·) ∧ (∀ t ∈ carL B A (1 - bit) a.toNat bin, (sta : Int) < t ∧ (t - 1 = sta ∨ t - 1 ∈ B ∨ t - 1 ∈ a :: A)) ∧
        ∀ p : Nat, sta ≤ p → cr x y k p = ((bin + cnt (carL B A (1 - bit) a.toNat bin) (p : Int)) % 2 : Nat) := fun ca seg' => by
      obtain ⟨i1, i2, i3⟩ := carL_ok hB hy (sta := a.toNat) a2 hA' (by omega : 1 - bit ≤ 1) h2 ca hx'
      refine ⟨i1, fun t ht => ?_, fun p hp => ?_⟩
      · obtain ⟨j1, j2⟩ := i2 t ht
        refine ⟨by omega, ?_⟩
        rcases j2 with j | j | j
        · exact .inr (.inr (List.mem_cons.mpr (.inl (by omega))))
        · exact .inr (.inl j)
        · exact .inr (.inr (List.mem_cons_of_mem _ j))
      · by_cases c : (p : Int) ≤ a
        · rw [seg' p hp c, cnt_zero fun t ht => by have := (i2 t ht).1; omega]; omega
        · exact i3 p (by omega)
    rw [show carL B (a :: A) bit sta bin = (if bit = bin then carL B A (1 - bit) a.toNat bin else match turnAt B bit sta with | none => carL B A (1 - bit) a.toNat bin | some p => if p < a then (p + 1) :: carL B A (1 - bit) a.toNat bit else carL B A (1 - bit) a.toNat bin) from rfl]
    by_cases hb : bit = bin
    · simp only [if_pos hb] at mid atA ⊢
      exact same atA mid
    · simp only [if_neg hb] at mid atA ⊢
      cases ht : turnAt B bit sta with
      | none =>
        simp only [ht] at mid atA ⊢
        exact same atA mid
      | some q =>
        obtain ⟨g1, g2⟩ := turn_ge hB ht
        simp only [ht] at mid atA ⊢
        by_cases c : q < a
        · rw [if_pos c]
          rw [if_pos (by omega)] at atA
          obtain ⟨i1, i2, i3⟩ := carL_ok hB hy (sta := a.toNat) a2 hA' (by omega : 1 - bit ≤ 1) h1 atA hx'
          refine ⟨List.pairwise_cons.mpr ⟨fun t ht => by have := (i2 t ht).1; omega, i1⟩, fun t ht => ?_, fun p hp => ?_⟩
          · rcases List.mem_cons.mp ht with rfl | ht
            · refine ⟨by omega, ?_⟩
              rw [show q + 1 - 1 = q by omega]
              exact g2.imp id .inl
            · obtain ⟨j1, j2⟩ := i2 t ht
              refine ⟨by omega, ?_⟩
              rcases j2 with j | j | j
              · exact .inr (.inr (List.mem_cons.mpr (.inl (by omega))))
              · exact .inr (.inl j)
              · exact .inr (.inr (List.mem_cons_of_mem _ j))
          · rw [cnt_cons]
            by_cases cp : (p : Int) ≤ a
            · rw [mid p hp cp, cnt_zero fun t ht => by have := (i2 t ht).1; omega]
              by_cases cq : q < (p : Int)
              · rw [if_pos cq, if_pos (by omega)]; omega
              · rw [if_neg cq, if_neg (by omega)]; omega
            · rw [i3 p (by omega), if_pos (by omega)]
              congr 1
              omega
        · rw [if_neg c]
          refine same ?_ fun p hp hpa => ?_
          · rw [if_neg (by omega)] at atA; exact atA
          · rw [mid p hp hpa, if_neg (by omega)]
end
/-- the list of the carry's turns -/
def carT (A B : List Int) (k : Nat) : List Int := (if k = 1 then [0] else []) ++ carL B A 0 0 k
theorem carT_ok (x y : Int) {k : Nat} (hk : k ≤ 1) : ∃ c : Int, carT (Tl x) (Tl y) k = Tl c ∧ (∀ t ∈ Tl c, t = 0 ∨ t - 1 = 0 ∨ t - 1 ∈ Tl y ∨ t - 1 ∈ Tl x) ∧ Builtin.bitXor (Builtin.bitXor x c) y = x + y + k := by
  obtain ⟨i1, i2, i3⟩ := carL_ok (x := x) (y := y) (k := (k : Int)) (tl_asc y) (fun p => bt_tl p y) (A := Tl x) (bit := 0) (sta := 0) (bin := k) (tl_asc x) (fun a ha => tl_pos x a ha) (by omega) hk rfl (fun p _ => by rw [bt_tl, Nat.zero_add])
  have asc : (carT (Tl x) (Tl y) k).Pairwise (· < ·) := by
    refine List.pairwise_append.mpr ⟨by split <;> simp, i1, fun a ha b hb => ?_⟩
    split at ha
    · rw [List.mem_singleton.mp ha]; exact (i2 b hb).1
    · cases ha
  have pos : ∀ c ∈ carT (Tl x) (Tl y) k, 0 ≤ c := fun c hc => by
    rcases List.mem_append.mp hc with h | h
    · split at h
      · rw [List.mem_singleton.mp h]; exact Int.le_refl _
      · cases h
    · have := (i2 c h).1; omega
  have bits : ∀ p : Nat, ((cnt (carT (Tl x) (Tl y) k) (p : Int) % 2 : Nat) : Int) = cr x y k p := fun p => by
    rw [i3 p (Nat.zero_le _)]
    unfold carT
    rw [cnt_app]
    congr 2
    congr 1
    split
    · rw [cnt_cons, cnt_nil, if_pos (by omega)]; omega
    · rw [cnt_nil]; omega
  have a2 := asc_toNat pos asc
  have hb : ∀ p : Nat, Bt p (alt (-1) ((carT (Tl x) (Tl y) k).map Int.toNat)) = cr x y k p := fun p => by
    rw [bt_alt p _ a2, ← cnt_zs, zs_toNat pos, bits p]
  refine ⟨alt (-1) ((carT (Tl x) (Tl y) k).map Int.toNat), tl_of asc pos fun p => by rw [bits p, hb p], fun t ht => ?_, bt_ext fun p => ?_⟩
  · have : Tl (alt (-1) ((carT (Tl x) (Tl y) k).map Int.toNat)) = carT (Tl x) (Tl y) k := (tl_of asc pos fun p => by rw [bits p, hb p]).symm
    rw [this] at ht
    rcases List.mem_append.mp ht with h | h
    · split at h
      · exact .inl (List.mem_singleton.mp h)
      · cases h
    · have := (i2 t h).2
      rcases this with j | j | j
      · exact .inr (.inl (by omega))
      · exact .inr (.inr (.inl j))
      · exact .inr (.inr (.inr j))
  · rw [bt_xor, bt_xor, hb p, bt_add p x y k (by omega)]
    have := bt_01 p x
    have := bt_01 p y
    have := cr_01 (x := x) (y := y) (k := (k : Int)) (by omega) p
    omega
/-! ### the complement, and one more -/
def flp (l : List Int) : List Int := match l with
  | 0 :: r => r
  | r => 0 :: r
theorem cnt_flp {l : List Int} (pos : ∀ c ∈ l, 0 ≤ c) (p : Nat) : cnt (flp l) (p : Int) % 2 = (1 + cnt l (p : Int)) % 2 := by
  unfold flp
  split
  · rw [cnt_cons, if_pos (by omega)]; omega
  · rw [cnt_cons, if_pos (by omega)]
theorem flp_tl (x : Int) : flp (Tl x) = Tl (-x - 1) := by
  have c := cnt_flp (tl_pos x)
  have asc := tl_asc x
  have pos := tl_pos x
  refine tl_of ?_ ?_ fun p => ?_
  · unfold flp
    split
    · rename_i r e
      rw [e] at asc
      exact (List.pairwise_cons.mp asc).2
    · rename_i hne
      refine List.pairwise_cons.mpr ⟨fun a ha => ?_, asc⟩
      have h0 := pos a ha
      by_cases z : a = 0
      · subst z
        exfalso
        cases e : Tl x with
        | nil => rw [e] at ha; cases ha
        | cons b r =>
          rw [e] at ha asc pos
          have hb : b = 0 := by
            rcases List.mem_cons.mp ha with h | h
            · exact h.symm
            · have := (List.pairwise_cons.mp asc).1 0 h
              have := pos b List.mem_cons_self
              omega
          subst hb
          exact hne r e
      · omega
  · unfold flp
    split
    · rename_i r e
      rw [e] at pos
      exact fun c hc => pos c (List.mem_cons_of_mem _ hc)
    · intro c hc
      rcases List.mem_cons.mp hc with rfl | hc
      · exact Int.le_refl _
      · exact pos c hc
  · rw [bt_not, bt_tl, c p]
    omega
/-- the mask of x ^ (x + 1) -/
theorem succ_tl {x : Int} {b : Int} (h : (∃ t r, Tl x = 0 :: t :: r ∧ b = t + 1) ∨ (Tl x).head? ≠ some 0 ∧ b = 1) : mrg [0, b] (Tl x) = Tl (x + 1) := by
  have asc := tl_asc x
  have pos := tl_pos x
  have b1 : 1 ≤ b := by
    rcases h with ⟨t, r, e, rfl⟩ | ⟨_, rfl⟩
    · have := pos t (by rw [e]; simp); omega
    · omega
  obtain ⟨i1, i2⟩ := mrg_ok (A := [0, b]) (B := Tl x) (by simp; omega) asc
  refine tl_of i1 (fun c hc => ?_) fun p => ?_
  · rcases mrg_mem hc with h | h
    · simp at h; omega
    · exact pos c h
  · have e1 : x + 1 = x + 0 + 1 := by omega
    rw [e1, bt_add p x 0 1 (.inr rfl)]
    have z : Bt p 0 = 0 := by unfold Bt; rw [Int.zero_ediv]; rfl
    have c : ∀ p : Nat, cr x 0 1 p = if (p : Int) < b then 1 else 0 := by
      intro p
      induction p with
      | zero => rw [if_pos (by omega)]; rfl
      | succ p ih =>
        have z : Bt p 0 = 0 := by unfold Bt; rw [Int.zero_ediv]; rfl
        show maj (Bt p x) (Bt p 0) (cr x 0 1 p) = _
        rw [ih, z, bt_tl]
        rcases h with ⟨t, r, e, rfl⟩ | ⟨hne, rfl⟩
        · rw [e] at asc
          obtain ⟨q1, q2⟩ := List.pairwise_cons.mp asc
          obtain ⟨q3, q4⟩ := List.pairwise_cons.mp q2
          have := q1 t List.mem_cons_self
          by_cases c1 : (p : Int) < t
          · rw [e, cnt_cons, cnt_cons, if_pos (show (0 : Int) ≤ p by omega), if_neg (show ¬ t ≤ (p : Int) by omega), cnt_zero fun u hu => by have := q3 u hu; omega, if_pos (by omega), if_pos (by omega)]
            rfl
          · rw [if_neg (show ¬ ((p + 1 : Nat) : Int) < t + 1 by omega)]
            by_cases c2 : (p : Int) = t
            · rw [e, cnt_cons, cnt_cons, if_pos (show (0 : Int) ≤ p by omega), if_pos (show t ≤ (p : Int) by omega), cnt_zero fun u hu => by have := q3 u hu; omega, if_pos (by omega)]
              rfl
            · rw [if_neg (by omega)]
              unfold maj
              omega
        · rw [if_neg (show ¬ ((p + 1 : Nat) : Int) < 1 by omega)]
          by_cases c1 : p = 0
          · subst c1
            rw [if_pos (by omega)]
            have : cnt (Tl x) ((0 : Nat) : Int) = 0 := cnt_zero fun t ht => by
              have h0 := pos t ht
              by_cases zt : t = 0
              · subst zt
                exfalso
                cases e : Tl x with
                | nil => rw [e] at ht; cases ht
                | cons d r =>
                  rw [e] at ht asc pos hne
                  have hd : d = 0 := by
                    rcases List.mem_cons.mp ht with h | h
                    · exact h.symm
                    · have := (List.pairwise_cons.mp asc).1 0 h
                      have := pos d List.mem_cons_self
                      omega
                  exact hne (by rw [hd]; rfl)
              · omega
            rw [this]
            rfl
          · rw [if_neg (by omega)]
            unfold maj
            omega
    rw [c p, z, bt_tl, i2, cnt_cons, cnt_cons, cnt_nil, if_pos (show (0 : Int) ≤ p by omega)]
    by_cases cb : (p : Int) < b
    · rw [if_pos cb, if_neg (by omega)]; omega
    · rw [if_neg cb, if_pos (by omega)]; omega
end Fb
namespace Fb
open PySem L2
/-! ### counts in ascending lists -/
theorem asc_none {x s : Int} {xs : List Int} (h : ∀ y ∈ xs, x < y) (hs : s ≤ x) : (xs.filter fun c => decide (c < s)) = [] ∧ (xs.filter fun c => decide (c ≤ s)) = [] := by
  constructor <;> refine List.filter_eq_nil_iff.mpr fun y hy => ?_ <;> have := h y hy <;> simp only [decide_eq_true_eq] <;> omega
theorem asc_lt (s : Int) : ∀ {l : List Int}, l.Pairwise (· < ·) → ∀ (i : Nat) (c : Int), l[i]? = some c → (i < (l.filter fun c => decide (c < s)).length ↔ c < s)
  | [], _, i, c, h => by simp at h
  | x :: xs, hp, i, c, h => by
    obtain ⟨h1, h2⟩ := List.pairwise_cons.mp hp
    by_cases hx : x < s
    · rw [List.filter_cons_of_pos (by simp [hx]), List.length_cons]
      cases i with
      | zero => cases h; simp [hx]
      | succ i =>
        have := asc_lt s h2 i c h
        omega
    · have e := (asc_none h1 (show s ≤ x by omega)).1
      rw [List.filter_cons_of_neg (by simp [hx]), e]
      have hc : x ≤ c := by
        cases i with
        | zero => cases h; omega
        | succ i => have := h1 c (List.mem_of_getElem? h); omega
      simp
      omega
theorem asc_one (s : Int) : ∀ {l : List Int}, l.Pairwise (· < ·) → (l.filter fun c => decide (c ≤ s)).length = (l.filter fun c => decide (c < s)).length + (if s ∈ l then 1 else 0)
  | [], _ => rfl
  | x :: xs, hp => by
    obtain ⟨h1, h2⟩ := List.pairwise_cons.mp hp
    have ih := asc_one s h2
    by_cases hx : x < s
    · rw [List.filter_cons_of_pos (by simp; omega), List.filter_cons_of_pos (by simp [hx]), List.length_cons, List.length_cons, ih]
      have : (s ∈ x :: xs) ↔ s ∈ xs := by
        rw [List.mem_cons]; constructor
        · rintro (h | h)
          · omega
          · exact h
        · exact .inr
      simp only [this]
      split <;> omega
    · obtain ⟨e1, e2⟩ := asc_none h1 (show s ≤ x by omega)
      rw [List.filter_cons_of_neg (p := fun c => decide (c < s)) (by simp [hx]), e1]
      by_cases he : x = s
      · rw [List.filter_cons_of_pos (by simp; omega), e2, if_pos (by rw [he]; exact List.mem_cons_self)]; rfl
      · rw [List.filter_cons_of_neg (by simp; omega), e2, if_neg (by
          intro h
          rcases List.mem_cons.mp h with h | h
          · omega
          · have := h1 s h; omega)]
        rfl
theorem asc_at {s : Int} {l : List Int} (hp : l.Pairwise (· < ·)) {c : Int} (h : l[(l.filter fun c => decide (c < s)).length]? = some c) : c = s ↔ s ∈ l := by
  have k := (asc_lt s hp _ _ h)
  constructor
  · intro e; rw [← e]; exact List.mem_of_getElem? h
  · intro hm
    obtain ⟨j, hj⟩ := List.getElem?_of_mem hm
    have k2 := asc_lt s hp j s hj
    have ge : s ≤ c := by
      have : ¬ c < s := fun z => absurd (k.mpr z) (Nat.lt_irrefl _)
      omega
    have hj1 : (l.filter fun c => decide (c < s)).length ≤ j := by
      have : ¬ j < (l.filter fun c => decide (c < s)).length := fun z => absurd (k2.mp z) (Int.lt_irrefl _)
      omega
    rcases Nat.lt_or_ge (l.filter fun c => decide (c < s)).length j with g | g
    · obtain ⟨lj, ej⟩ := List.getElem?_eq_some_iff.mp hj
      obtain ⟨lm, em⟩ := List.getElem?_eq_some_iff.mp h
      have := (List.pairwise_iff_getElem.mp hp) _ _ lm lj g
      rw [ej, em] at this
      omega
    · have : j = (l.filter fun c => decide (c < s)).length := by omega
      rw [← this, hj] at h
      exact (Option.some.inj h).symm
end Fb
namespace PySem
open Sem (wp)
/-- l.extend(a tuple), whatever its dict and its slots -/
theorem fb_ext_tup (p : Addr) (us : Array Value) (m : Nat) (q : Addr) (ws : Array Value) (k : Nat) (od : Option Addr) (osl : Array (Option Value)) (r0 : ¬(!us.isEmpty && Builtin.List.listTooLong (us.size + ws.size)) = true) (r1 : us.size ≤ sizeLine) (r2 : us.size + ws.size ≤ sizeLine + 1) :
    Meets (Builtin.«list.extend» ⟨[.ref p, .ref q], []⟩) (fun _ R s => s.heap.get? p = some { cls := .type "list", data := .seq us m } ∧ s.heap.get? q = some { cls := .type "tuple", dict := od, data := .seq ws k, slots := osl } ∧
      R (.ok (.ret Value.none)) { s with heap := s.heap.update p (Obj.mapSeq fun x => x ++ ws), toks := s.toks }) :=
  .of_wp fun prog w A R s h => by
    obtain ⟨hp, g, d, tk, os⟩ := s
    obtain ⟨hl, hb, h⟩ := h
    have g1 := AutoSeq1.idx_int
    have g2 := AutoSeq1.sub_tuple_tuple
    have g3 := AutoSeq1.sub_list_list
    have g4 := AutoSeq1.sub_tuple_list
    have g5 := AutoSeq1.sub_list_tuple
    have big : (us ++ ws).size ≤ sizeLine + 1 := by
      rw [Array.size_append]
      omega
    wp_walk using (wpAny_updateSeq hl rfl (hz := r1) (_hz' := big)), wpAny_loadPart' hl, wpAny_loadPart' hb
    exact ⟨_, rfl, h⟩
end PySem
namespace Fb
open PySem L2 PySem.Spec PyProof.Rows
/-! ### lists and tuples alike -/
def Sq (K : PySem.W.Frag) (H : Hp) (a : Addr) (xs : List V) : Prop := H a = some (.lst xs) ∨ SqT K H a xs
theorem Sq.same {K : PySem.W.Frag} {H H' : Hp} {a : Addr} {xs : List V} (h : Sq K H a xs) (e : Same H H') : Sq K H' a xs := h.imp (fun h => e _ _ h) (fun h => (Nd.of e).sqt h)
theorem Sq.any {K : PySem.W.Frag} {H : Hp} {a : Addr} {xs : List V} (h : Sq K H a xs) : SqL K H a xs ∨ SqT K H a xs := h.imp SqL.of id
theorem Sq.tru {K : PySem.W.Frag} {H : Hp} {a : Addr} {xs : List V} (h : Sq K H a xs) : TruV K (.ref a) H (!xs.isEmpty) := h.elim (fun h => .inl ⟨_, SqL.of h, rfl⟩) fun h => .inr (.inl ⟨_, h, rfl⟩)
/-- a slice, a new list, or a tuple -/
def rSlS (K : PySem.W.Frag) : V → Option Int → Option Int → Hp → VK → Prop := fun x lo hi H Q => ∃ a xs, x = .ref a ∧ Sq K H a xs ∧ ∀ b H', Same H H' → H b = none ∨ H' = H → Sq K H' b (cutV xs lo hi) → Q (.ref b) H'
theorem sl_seq {X : Cx} (K : PySem.W.Frag) (hK : X.K = K := by rfl) : SlR X (rSlS K) := by
  subst hK
  intro pins s σ H x v vl vu lo hi sl Q I rx hs pl pu ⟨a, xs, e, h, q⟩
  refine (sl_list.or sl_tupA) pins s σ H x v vl vu lo hi sl Q I rx hs pl pu (h.imp (fun h => ⟨a, xs, e, SqL.of h, fun p np => q p _ (Same.new np) (.inl np) (.inl upd_same)⟩) fun h => ⟨a, xs, e, h, fun hw => ?_, fun _ p np => q p _ (Same.new np) (.inl np) (.inr (SqT.of upd_same))⟩)
  refine q a H (Same.refl H) (.inr rfl) (.inr ?_)
  unfold cutV
  rw [hw.1, hw.2, List.drop_zero, Nat.sub_zero, List.take_length]
  exact h
/-- l.extend(a list, or a tuple) -/
def rExtS (K : PySem.W.Frag) : V → List V → Hp → VK → Prop := fun x vs H Q => ∃ l b xs zs, x = .ref l ∧ vs = [.ref b] ∧ H l = some (.lst xs) ∧ Sq K H b zs ∧ xs.length + zs.length ≤ sizeLine ∧ Q .non (upd H l (.lst (xs ++ zs)))
theorem mt_extS {X : Cx} (K : PySem.W.Frag) (hK : X.K = K := by rfl) : MtM X "list.extend" (rExtS K) := by
  subst hK
  rintro pins s σ H v0 vs v us Q I rx rv ⟨l, b, xs, zs, rfl, rfl, at_l, hz, fits, q⟩
  rcases hz with hz | hz
  · exact mt_extend pins s σ H _ _ v us Q I rx rv ⟨l, b, xs, zs, rfl, rfl, at_l, hz, fits, q⟩
  cases rx
  obtain ⟨_, rfl, ru⟩ := rv.one
  cases ru
  obtain ⟨_, us1, n1, rel1, len1, get1⟩ := I.lstM at_l
  obtain ⟨us2, rel2, isT, _⟩ := I.tuple hz
  have e1 := rel1.length
  have e2 := rel2.length
  obtain ⟨⟨oc, od, oda, osl⟩, get2, rfl, n2, rfl⟩ := isT
  have fit : us1.toArray.size + us2.toArray.size ≤ sizeLine := by
    rw [List.size_toArray, List.size_toArray]
    omega
  have room1 : ¬ (!us1.toArray.isEmpty && Builtin.List.listTooLong (us1.toArray.size + us2.toArray.size)) = true := by
    rw [notLongL fit, Bool.and_false]
    decide
  refine call_meets F.slot_list_extend ⟨_, get1, rfl⟩ F.entry_list_extend (F.args_list_extend_2 _ _) (PySem.fb_ext_tup l _ n1 b _ n2 od osl room1 (by omega) (by omega)) ⟨get1, get2, ?_⟩
  refine ⟨.non, _, I.lset (its' := us1 ++ us2) at_l get1 (by simp) (rel1.append rel2) ?_, rfl, q⟩
  rw [List.length_append]
  exact fits
/-- a loop over either -/
theorem pi_or {X : Cx} {tg l : Expr} {t1 t2 : TI} (h1 : PI X tg l t1) (h2 : PI X tg l t2) : PI X tg l (fun σ H R => t1 σ H R ∨ t2 σ H R) := ⟨fun pins s σ H R I h => h.elim (h1.run pins s σ H R I) (h2.run pins s σ H R I)⟩
def iSeq (K : PySem.W.Frag) (t : TE) : TI := fun σ H R => iList K t σ H R ∨ iTup K t σ H R
theorem pi_seq {X : Cx} {tg l : Expr} {t : TE} (K : PySem.W.Frag) (h : PE X l t) (hK : X.K = K := by rfl) : PI X tg l (iSeq K t) := by
  subst hK
  exact pi_or (pi_list h) (pi_tup h)
theorem for_seq {K : PySem.W.Frag} {a : Addr} {xs : List V} {g : TG} {tb : L2.TS} {D : Ends} {σ : L2.St} {H0 H : Hp} {j : Nat} (hs0 : Sq K H0 a xs) (hv : σ[j]? = some (some (.ref a))) (Pv : Nat → L2.St → Hp → Prop) (h0 : Pv 0 σ H) (hl : ∀ i σ H', i ≤ xs.length → Pv i σ H' → Same H0 H')
    (hs : ∀ i x σ H, xs[i]? = some x → Pv i σ H → g x σ H fun σ2 H2 => tb { D with nx := Pv (i + 1), ct := Pv (i + 1), bk := D.nx } σ2 H2) (hd : ∀ σ H, Pv xs.length σ H → D.nx σ H) :
    tFor (iSeq K (tVar j)) g tb D σ H := by
  have here := hl 0 σ H (Nat.zero_le _) h0
  rcases hs0 with h | h
  · exact .inl ⟨_, hv, a, rfl, ⟨_, SqL.of (here _ _ h)⟩, for_list Pv h0 (fun i σ H' hi p => SqL.of (hl i σ H' hi p _ _ h)) hs hd⟩
  · exact .inr ⟨_, hv, a, rfl, ⟨_, (Nd.of here).sqt h⟩, for_tup Pv h0 (fun i σ H' hi p => (Nd.of (hl i σ H' hi p)).sqt h) hs hd⟩
/-- places, by codes -/
structure Pls (K : PySem.W.Frag) (H : Hp) (f : Int → PyData) (a : Addr) (l : List Int) : Prop where
  ex : ∃ vs, Sq K H a vs ∧ DpAll K H vs (l.map f)
theorem Pls.same {K : PySem.W.Frag} {H H' : Hp} {f : Int → PyData} {a : Addr} {l : List Int} (h : Pls K H f a l) (e : Same H H') : Pls K H' f a l := by
  obtain ⟨vs, s, d⟩ := h.ex
  exact ⟨vs, s.same e, (Nd.of e).ds d⟩
theorem Pls.at {K : PySem.W.Frag} {H : Hp} {f : Int → PyData} {a : Addr} {l : List Int} (h : Pls K H f a l) : ∃ vs, Sq K H a vs ∧ vs.length = l.length ∧ DpAll K H vs (l.map f) ∧ ∀ (i : Nat) (c : Int), l[i]? = some c → ∃ v, vs[i]? = some v ∧ Dp K H v (f c) := by
  obtain ⟨vs, s, d⟩ := h.ex
  have e : vs.length = l.length := by rw [dps_length d, List.length_map]
  refine ⟨vs, s, e, d, fun i c hc => ?_⟩
  obtain ⟨hi, _⟩ := List.getElem?_eq_some_iff.mp hc
  obtain ⟨v, hv⟩ : ∃ v, vs[i]? = some v := ⟨_, List.getElem?_eq_getElem (by omega)⟩
  obtain ⟨d', hd', dp⟩ := dps_get d hv
  rw [List.getElem?_map, hc] at hd'
  cases hd'
  exact ⟨v, hv, dp⟩
/-- a slice of places -/
theorem cut_nat {xs : List V} {i j : Nat} (hi : i ≤ xs.length) (hj : j ≤ xs.length) : cutV xs (some (i : Int)) (some (j : Int)) = (xs.take j).drop i := by
  unfold cutV
  rw [HT.sIx_nat, HT.sIx_nat, Nat.min_eq_left hi, Nat.min_eq_left hj, List.drop_take]
theorem cut_from {xs : List V} {i : Nat} (hi : i ≤ xs.length) : cutV xs (some (i : Int)) none = xs.drop i := by
  unfold cutV
  rw [HT.sIx_nat, Nat.min_eq_left hi]
  show List.take (xs.length - i) (xs.drop i) = _
  rw [List.take_of_length_le (by rw [List.length_drop]; exact Nat.le_refl _)]
/-- what a step of the merging leaves -/
theorem mrg_step {a : Int} {A B : List Int} {st : Nat} (hB : B.Pairwise (· < ·)) (h : ∀ t ∈ B.take st, t < a) (hst : st ≤ B.length) :
    st ≤ clt B a ∧ mrg (a :: A) (B.drop st) = (B.take (clt B a)).drop st ++ ((if a ∈ B then [] else [a]) ++ mrg A (B.drop (cnt B a))) := by
  have e1 : clt B a = st + clt (B.drop st) a := by
    have e := congrArg (fun l => (l.filter fun t => decide (t < a)).length) (List.take_append_drop st B)
    simp only [List.filter_append, List.length_append] at e
    rw [List.filter_eq_self.mpr fun t ht => by simp [h t ht], List.length_take, Nat.min_eq_left hst] at e
    exact e.symm
  have e2 : cnt B a = st + cnt (B.drop st) a := by
    have e := congrArg (fun l => cnt l a) (List.take_append_drop st B)
    simp only [cnt_app] at e
    rw [cnt_all fun t ht => by have := h t ht; omega, List.length_take, Nat.min_eq_left hst] at e
    exact e.symm
  have m : a ∈ B.drop st ↔ a ∈ B := by
    constructor
    · exact List.mem_of_mem_drop
    · intro k
      rw [← List.take_append_drop st B] at k
      rcases List.mem_append.mp k with k | k
      · have := h a k; omega
      · exact k
  refine ⟨by omega, ?_⟩
  show (B.drop st).take (clt (B.drop st) a) ++ ((if a ∈ B.drop st then [] else [a]) ++ mrg A ((B.drop st).drop (cnt (B.drop st) a))) = _
  rw [List.drop_drop, ← e2, List.drop_take, show clt B a - st = clt (B.drop st) a by omega]
  simp only [m]
theorem take_cnt_lt {a c : Int} {B : List Int} (hB : B.Pairwise (· < ·)) (h : a < c) : ∀ t ∈ B.take (cnt B a), t < c := fun t ht => by
  have := take_cnt_le hB t ht
  omega
/-- the shorter one first -/
def fm2 (l m : List Int) : List Int × List Int := if l.length ≤ m.length then (l, m) else (m, l)
theorem clt_le_cnt : ∀ (B : List Int) (a : Int), clt B a ≤ cnt B a
  | [], _ => Nat.le_refl _
  | b :: B, a => by
    have := clt_le_cnt B a
    rw [clt_cons, cnt_cons]
    split <;> split <;> omega
theorem mrg_len : ∀ (A B : List Int), (mrg A B).length ≤ A.length + B.length
  | [], B => by show B.length ≤ _; simp
  | a :: A, B => by
    have := mrg_len A (B.drop (cnt B a))
    show (B.take (clt B a) ++ ((if a ∈ B then [] else [a]) ++ mrg A (B.drop (cnt B a)))).length ≤ _
    rw [List.length_append, List.length_append, List.length_take, List.length_cons]
    rw [List.length_drop] at this
    have k := clt_le_cnt B a
    have := cnt_le B a
    split <;> simp <;> omega
end Fb
namespace Fb
open PySem L2 Bx
theorem ix_seqK {X : Cx} (K : PySem.W.Frag) (hK : X.K = K := by rfl) : IxR X (rIx K) := by subst hK; exact ix_seq
theorem rIx_sq {K : PySem.W.Frag} {p : Addr} {xs : List V} {i : Int} {v : V} {H : Hp} {Q : VK} (h : Sq K H p xs) (e : atI xs i = some v) (q : Q v H) : rIx K (.ref p) (.int i) H Q :=
  h.any.elim (fun h => .inl ⟨p, xs, i, v, rfl, rfl, h, e, q⟩) fun h => .inr (.inl ⟨p, xs, i, v, rfl, rfl, h, e, q⟩)
def rLenS (K : PySem.W.Frag) : List V → Hp → VK → Prop := fun xs H Q => ∃ p ys, xs = [.ref p] ∧ Sq K H p ys ∧ Q (.int ys.length) H
theorem call_lenS {X : Cx} (K : PySem.W.Frag) (hK : X.K = K := by rfl) : CallR X (.builtin "len") (rLenS K) := by
  subst hK
  exact fun pins s σ H xs us Q I r ⟨p, ys, e, h, q⟩ => call_len_seq pins s σ H xs us Q I r ⟨p, ys, e, h.any, q⟩
def rListS (K : PySem.W.Frag) : List V → Hp → VK → Prop := fun xs H Q => ∃ p ys, xs = [.ref p] ∧ Sq K H p ys ∧ ∀ l, H l = none → Q (.ref l) (upd H l (.lst ys))
theorem call_listS {X : Cx} (K : PySem.W.Frag) (hK : X.K = K := by rfl) : CallR X (.type "list") (rListS K) := by
  subst hK
  exact fun pins s σ H xs us Q I r ⟨p, ys, e, h, q⟩ => call_list_of pins s σ H xs us Q I r ⟨p, ys, e, h.any, q⟩
def rTupS (K : PySem.W.Frag) : List V → Hp → VK → Prop := fun xs H Q => ∃ p ys, xs = [.ref p] ∧ Sq K H p ys ∧ ∀ t H', Same H H' → SqT K H' t ys → Q (.ref t) H'
theorem call_tupS {X : Cx} (K : PySem.W.Frag) (hK : X.K = K := by rfl) : CallR X (.type "tuple") (rTupS K) := by
  subst hK
  exact fun pins s σ H xs us Q I r ⟨p, ys, e, h, q⟩ => call_tuple_of pins s σ H xs us Q I r ⟨p, ys, e, h.elim (fun h => .inl ⟨SqL.of h, fun l nl => q l _ (Same.new nl) (SqT.of upd_same)⟩) fun h => .inr ⟨h, q p H (Same.refl H) h⟩⟩
/-- numbers whose turns are places of S -/
structure Num (f : Int → PyData) (S : Int → Prop) (z : Int) : Prop where
  mem : ∀ c ∈ Tl z, S c
  len : (Tl z).length ≤ 8500
def numD (f : Int → PyData) (z : Int) : PyData := rowF f (Tl z)
theorem tl_near {z : Int} : plain z ↔ ∀ c ∈ Tl z, c ≤ 64 := by
  rw [plain_iff]
  unfold Tl zs
  constructor
  · intro h c hc
    obtain ⟨p, hp, rfl⟩ := List.mem_map.mp hc
    have := h p hp
    show ((p : Nat) : Int) ≤ 64
    omega
  · intro h p hp
    have := h ((p : Nat) : Int) (List.mem_map.mpr ⟨p, hp, rfl⟩)
    omega
theorem num_cases {n : Nat} {f : Int → PyData} {S : Int → Prop} (o : OrdN n f S) {z : Int} (hz : Num f S z) :
    (plain z ∧ numD f z = .int z ∧ (Tl z).map f = nD (turnsN z)) ∨ (¬ plain z ∧ numD f z = .tuple ((Tl z).map f) ∧ ∃ m p, Tl z = m ++ [p] ∧ 64 < p) := by
  have vz : alt (-1) ((Tl z).map Int.toNat) = z := by unfold Tl; rw [zs_nat, turns_alt]
  rcases row_cases o hz.mem (tl_asc z) with ⟨all, e⟩ | ⟨m, p, el, p64, e⟩
  · refine .inl ⟨tl_near.mpr all, by unfold numD; rw [e, vz], ?_⟩
    have : (Tl z).map f = (Tl z).map PyData.int := List.map_congr_left fun c hc => o.near c (hz.mem c hc) (all c hc)
    rw [this]
    unfold Tl zs nD
    rw [List.map_map]
    rfl
  · refine .inr ⟨fun h => ?_, e, m, p, el, p64⟩
    have := tl_near.mp h p (by rw [el]; simp)
    omega
theorem num_fm {n : Nat} {f : Int → PyData} {S : Int → Prop} (o : OrdN n f S) {z : Int} (hz : Num f S z) : Fm (n + 1) (numD f z) := row_fm o hz.mem (tl_asc z) (by have := hz.len; omega)
theorem xor_alt {ns : List Nat} {t : Nat} (h : (ns ++ [t]).Pairwise (· < ·)) : Builtin.bitXor (alt (-1) ns) (-1 * 2 ^ t) = alt (-1) (ns ++ [t]) := by
  have h1 := (List.pairwise_append.mp h).1
  refine bt_ext fun p => ?_
  have e : (-1 * 2 ^ t : Int) = alt (-1) [t] := by show _ = -1 * 2 ^ t + 0; omega
  rw [bt_xor, e, bt_alt p ns h1, bt_alt p [t] (by simp), bt_alt p _ h, List.filter_append, List.length_append]
  omega
section
variable {P : Program} {w : World} {K : PySem.W.Frag} {mg : Str → Option Value} {base : Heap} {f : Addr} {fd : FuncData}
abbrev S_is_near : Stmt := top 14
abbrev N_is_near : List Str := ["place"]
abbrev P_is_near : List Str := ["place"]
theorem sc_is_near : FnScope N_is_near P_is_near (defScope S_is_near) := ⟨rfl, rfl, rfl, by decide +kernel, rfl, by decide +kernel, by decide +kernel⟩
def spNear (K : PySem.W.Frag) : Sp := fun vs H Q _ => ∃ (v : V) (d : PyData), vs = [v] ∧ Dp K H v d ∧ (∀ b, d ≠ .bool b) ∧ ∀ H' : Hp, Same H H' → Q (.bl (isNear d)) H'
theorem ok_near {tk : Tok} (F : Fun K "is_near" "is_near" S_is_near f fd) (B : Blt mg) (ML : mg "LAST_PLAIN_TURN" = some (.int 64 tk)) : FnOk P w K mg base CX0 1 f fd P_is_near (spNear K) := by
  have nd := sc_is_near.nd
  refine F.ok sc_is_near (fun vs H Q E h => ?_) (fun cdv A outer s H vs Q E hr h => ?_)
  · obtain ⟨v, d, rfl, _⟩ := h
    rfl
  obtain ⟨v, d, rfl, hd, hb, q⟩ := h
  refine ⟨_, (pss_one (ps_ret (pe_and (pe_callB (call_isiI K) (by rfl) B.isinstance (by decide +kernel) (pa_cons (pv 0) (pa_cons (pe_bltn (by rfl) B.int (by decide +kernel) (show RelV (.ty "int") (.type "int") from rfl)) pa_nil))) (pe_one (pe_cmpR op_le (pv 0) (pe_glob (v := .int 64) rfl ML ⟨_, rfl⟩) (nomark _)))))), ?_⟩
  refine ⟨_, rfl, _, d, rfl, hd, _, rfl, ?_⟩
  have q' := q H (Same.refl H)
  cases d with
  | int i =>
    cases hd
    refine iteT ?_
    exact ⟨_, rfl, _, _, rfl, rfl, q'⟩
  | bool b => exact absurd rfl (hb b)
  | tuple ds => exact iteF q'
  | none => exact iteF q'
  | str x => exact iteF q'
  | list x => exact iteF q'
  | dict x => exact iteF q'
abbrev S_int_of_rows : Stmt := top 18
abbrev N_int_of_rows : List Str := ["turns", "rows", "value", "k"]
abbrev P_int_of_rows : List Str := ["turns"]
theorem sc_int_of_rows : FnScope N_int_of_rows P_int_of_rows (defScope S_int_of_rows) := ⟨rfl, rfl, rfl, by decide +kernel, rfl, by decide +kernel, by decide +kernel⟩
theorem asc_ge {ns : List Nat} (asc : ns.Pairwise (· < ·)) : ∀ k (h : k < ns.length), k ≤ ns[k] := by
  intro k
  induction k with
  | zero => intro h; exact Nat.zero_le _
  | succ k ih =>
    intro h
    have h1 := ih (by omega)
    have h2 := List.pairwise_iff_getElem.mp asc k (k + 1) (by omega) h (by omega)
    omega
theorem asc_few {ns : List Nat} {b : Nat} (asc : ns.Pairwise (· < ·)) (le : ∀ p ∈ ns, p ≤ b) : ns.length ≤ b + 1 := by
  by_cases h : ns.length ≤ b + 1
  · exact h
  · have := asc_ge asc (b + 1) (by omega)
    have := le _ (List.getElem_mem (show b + 1 < ns.length by omega))
    omega
def spRows (K : PySem.W.Frag) : Sp := fun vs H Q _ => ∃ (a : Addr) (ns : List Nat), vs = [.ref a] ∧ Sq K H a (nI ns) ∧ ns.Pairwise (· < ·) ∧ 2 ≤ ns.length ∧ (∀ p ∈ ns, p ≤ 700000) ∧ ∀ H' : Hp, Same H H' → Q (.int (alt (-1) ns)) H'
theorem ok_rows {tk : Tok} (F : Fun K "int_of_rows" "int_of_rows" S_int_of_rows f fd) (B : Blt mg) (MB : mg "BITS" = some (.str "01" tk)) (hk : PySem.W.nsIn K cStatics "sys.int_max_str_digits" = some none) : FnOk P w K mg base CX0 1 f fd P_int_of_rows (spRows K) := by
  have nd := sc_int_of_rows.nd
  refine F.ok sc_int_of_rows (fun vs H Q E h => ?_) (fun cdv A outer s H vs Q E hr h => ?_)
  · obtain ⟨a, ns, rfl, _⟩ := h
    rfl
  obtain ⟨a, ns, rfl, hs, asc, l2, le, q⟩ := h
  refine ⟨_, (pss_cons (ps_setLc (i := 1) (own := [("k", 3)]) (g := gName 3) (tt := tYes) rfl nd rfl rfl (sw_true rfl rfl rfl (by decide +kernel)) (pi_range3 (by rfl) B.range (pa_cons (pe_op op_sub (pe_callB (call_lenS K) (by rfl) B.len PySem.boot_len (pa_cons (pv 0) pa_nil)) pe_int) (pa_cons pe_int (pa_cons (pe_un un_neg pe_int) pa_nil)))) (blkOk_by (own := [("k", 3)]) (N := N_int_of_rows) (sc := defScope S_int_of_rows) (by decide +kernel)) (fun _ _ _ _ _ => pg_name (i := 3) nd rfl (Or.inl rfl)) (fun _ _ _ _ _ => pts_nil) (fun _ _ _ _ _ => (pe_op op_repS (pe_ix ix_str (pe_glob (v := .str "01") rfl MB ⟨_, rfl⟩) (pe_op op_and (pv 3) pe_int) (fun _ _ => rfl)) (pe_op op_sub (pe_ix (ix_seqK K) (pv 0) (pv 3) (fun _ _ => rfl)) (pe_ix (ix_seqK K) (pv 0) (pe_op op_sub (pv 3) pe_int) (fun _ _ => rfl))))))
    (pss_cons (ps_expr (pe_bm PySem.F.plainAttrs_list PySem.F.slot_list_append PySem.F.type_list_append mt_append (pv 1) (pa_cons (pe_op op_repS (pe_ix ix_str (pe_glob (v := .str "01") rfl MB ⟨_, rfl⟩) pe_int (fun _ _ => rfl)) (pe_ix (ix_seqK K) (pv 0) pe_int (fun _ _ => rfl))) pa_nil)))
    (pss_cons (ps_set (i := 2) nd rfl (Or.inl rfl) (pe_callTy (call_int_binL hk) (by rfl) B.int (by decide +kernel) (pa_cons (pe_join pe_str (pv 1)) (pa_cons pe_int pa_nil))))
    (pss_one (ps_ret (pe_ifExp (pt_truth (pe_op op_and (pe_callB (call_lenS K) (by rfl) B.len PySem.boot_len (pa_cons (pv 0) pa_nil)) pe_int) (by intro _; rfl)) (pe_op op_sub (pv 2) (pe_op op_shl pe_int (pe_ix (ix_seqK K) (pv 0) (pe_un un_neg pe_int) (fun _ _ => rfl)))) (pv 2))))))), ?_⟩
  have few := asc_few asc le
  have nl : (nI ns).length = ns.length := by unfold nI; rw [List.length_map]
  have big : 800000 ≤ sizeLine := by decide
  have h01 : ("01" : Str).cps.toList = [48, 49] := by decide +kernel
  have l01 : ("01" : Str).length ≤ sizeLine := by decide +kernel
  obtain ⟨N, hN⟩ : ∃ N, ns.length = N + 1 := ⟨ns.length - 1, by omega⟩
  have at_ : ∀ k, k ≤ N → atI (nI ns) (k : Int) = some (.int (ns.getD k 0 : Int)) := fun k hk => atI_nat (by
    unfold nI
    rw [List.getElem?_map, List.getElem?_eq_getElem (by omega), List.getD_eq_getElem?_getD, List.getElem?_eq_getElem (by omega)]
    rfl)
  have lt_ : ∀ k, k < N → ns.getD k 0 < ns.getD (k + 1) 0 := fun k hk => by
    rw [List.getD_eq_getElem?_getD, List.getElem?_eq_getElem (by omega), List.getD_eq_getElem?_getD, List.getElem?_eq_getElem (by omega)]
    exact List.pairwise_iff_getElem.mp asc k (k + 1) (by omega) (by omega) (by omega)
  have le_ : ∀ k, k ≤ N → ns.getD k 0 ≤ 700000 := fun k hk => by
    rw [List.getD_eq_getElem?_getD, List.getElem?_eq_getElem (by omega)]
    exact le _ (List.getElem_mem _)
  have lastA : atI (nI ns) (-1) = some (.int (ns.getD N 0 : Int)) := by
    have h := atI_end (xs := nI ns) (s := 0) (v := .int (ns.getD N 0 : Int)) (by
      rw [List.getElem?_reverse (by omega), nl, hN]
      have := at_ N (Nat.le_refl _)
      unfold nI
      rw [List.getElem?_map, show N + 1 - 1 - 0 = N by omega, List.getElem?_eq_getElem (by omega), List.getD_eq_getElem?_getD, List.getElem?_eq_getElem (by omega)]
      rfl)
    exact h
  have Llen : ((nI ns).length : Int) - 1 = (N : Int) := by omega
  refine ⟨_, rfl, _, _, rfl, hs, _, _, rfl, rfl, _, rfl, _, _, _, _, rfl, RgC.neg (by omega) (by omega) (by omega) (by omega), fun D nD => ?_⟩
  rw [Llen, show ((N : Int) - 0).toNat = N by omega]
  refine lc_rangeC (fun i H' => Same H H' ∧ H' D = some (.lst ((List.range i).map fun j => V.str (SX.S (rowS ns (N - j)))))) ⟨Same.new nD, upd_same⟩ (fun i H' hi h => ?_) (fun H' h => ?_)
  · obtain ⟨e, hD⟩ := h
    obtain ⟨k, hk⟩ : ∃ k, N - i = k + 1 := ⟨N - i - 1, by omega⟩
    have ek : (N : Int) + (i : Nat) * -1 = ((k + 1 : Nat) : Int) := by omega
    rw [ek]
    have hs' := hs.same e
    have hb : atI ("01" : Str).cps.toList (Builtin.bitAnd ((k + 1 : Nat) : Int) 1) = some (48 + (k + 1) % 2) := by
      rw [h01, PyProof.Rows.bitAnd_m1]
      rcases (show (k + 1) % 2 = 0 ∨ (k + 1) % 2 = 1 by omega) with c | c
      · rw [show ((k + 1 : Nat) : Int) % 2 = ((0 : Nat) : Int) by omega, c]; exact atI_nat rfl
      · rw [show ((k + 1 : Nat) : Int) % 2 = ((1 : Nat) : Int) by omega, c]; exact atI_nat rfl
    have l1 := lt_ k (by omega)
    have l2 := le_ (k + 1) (by omega)
    refine ⟨rfl, lcT ?_⟩
    refine ⟨_, rfl, _, _, rfl, rfl, _, _, _, rfl, rfl, l01, hb, _, rfl, _, rfl, rIx_sq hs' (at_ (k + 1) (by omega)) ?_⟩
    refine ⟨_, rfl, _, rfl, _, _, rfl, rfl, rIx_sq hs' (by rw [show ((k + 1 : Nat) : Int) - 1 = (k : Int) by omega]; exact at_ k (by omega)) ?_⟩
    refine ⟨_, _, rfl, rfl, 48 + (k + 1) % 2, ns.getD (k + 1) 0 - ns.getD k 0, rfl, (congrArg V.int (by omega)), by omega, ?_⟩
    refine ⟨_, hD, ?_, Same.mut e nD, ?_⟩
    · rw [List.length_map, List.length_range]; omega
    · rw [upd_same, List.range_succ, List.map_append]
      show some (HO.lst (_ ++ [V.str (SX.S (List.replicate (ns.getD (k + 1) 0 - ns.getD k 0) (48 + (k + 1) % 2)))])) = some (HO.lst (_ ++ [V.str (SX.S (rowS ns (N - i)))]))
      rw [hk]
      rfl
  obtain ⟨e, hD⟩ := h
  have hs' := hs.same e
  have z0 : atI ("01" : Str).cps.toList 0 = some 48 := by rw [h01]; exact atI_nat (j := 0) rfl
  refine ⟨_, rfl, .inl ⟨rfl, _, SqL.of hD⟩, _, _, _, rfl, rfl, l01, z0, _, rfl, rIx_sq hs' (at_ 0 (Nat.zero_le _)) ?_⟩
  have l0 := le_ 0 (Nat.zero_le _)
  refine ⟨48, ns.getD 0 0, rfl, rfl, by omega, D, _, _, rfl, rfl, hD, (by rw [List.length_map, List.length_range]; omega), ?_⟩
  have e2 : Same H (upd H' D (.lst (((List.range N).map fun j => V.str (SX.S (rowS ns (N - j)))) ++ [V.str (SX.S (List.replicate (ns.getD 0 0) 48))]))) := Same.mut e nD
  have hs2 := hs.same e2
  have eys : ((List.range N).map fun j => V.str (SX.S (rowS ns (N - j)))) ++ [V.str (SX.S (List.replicate (ns.getD 0 0) 48))] = ((((List.range N).map fun j => rowS ns (N - j)) ++ [List.replicate (ns.getD 0 0) 48]).map SX.S).map V.str := by
    rw [List.map_append, List.map_append, List.map_map, List.map_map]
    rfl
  have hj := rows_join ns N
  have hv := rowD2_val asc N (by omega)
  have lN := le_ N (Nat.le_refl _)
  have je : Txt.join ("" : Str) ((((List.range N).map fun j => rowS ns (N - j)) ++ [List.replicate (ns.getD 0 0) 48]).map SX.S) = SX.S (rowD2 ns N) := by
    have h1 : ("" : Str) = SX.S [] := by decide +kernel
    rw [h1, SX.join_S, joinL_nil, hj]
  have hl : ((((List.range N).map fun j => rowS ns (N - j)) ++ [List.replicate (ns.getD 0 0) 48] : List (List Nat)).map (fun l : List Nat => l.length)).sum = ns.getD N 0 := by
    rw [← List.length_flatten, hj, hv.1]
  have n1 : 1 ≤ ns.getD N 0 := by
    have := lt_ (N - 1) (by omega)
    rw [show N - 1 + 1 = N by omega] at this
    omega
  refine ⟨⟨_, rfl⟩, _, rfl, _, D, _, rfl, rfl, .inl (SqL.of (by rw [upd_same, eys])), ?_, ?_⟩
  · rw [SX.lens, hl, show ("" : Str).length = 0 from by decide +kernel]
    omega
  rw [je]
  refine ⟨rowD2 ns N, rfl, (fun h => by have h1 := hv.1; rw [h] at h1; have h2 : 0 = ns.getD N 0 := h1; omega), rowD2_bits ns N, ?_⟩
  refine ⟨_, rfl, _, _, rfl, hs2, _, _, rfl, rfl, _, rfl, ?_⟩
  have tk : ns.take (N + 1) = ns := List.take_of_length_le (by omega)
  have vv := hv.2
  rw [tk] at vv
  have eb : Builtin.bitAnd ((nI ns).length : Int) 1 = (((N + 1) % 2 : Nat) : Int) := by
    rw [PyProof.Rows.bitAnd_m1]; omega
  refine ite2 (fun c => ?_) (fun c => ?_)
  · have c' : (Builtin.bitAnd ((nI ns).length : Int) 1 != 0) = true := c
    rw [eb] at c'
    have o : N % 2 = 0 := by
      have : (((N + 1) % 2 : Nat) : Int) ≠ 0 := by simpa using c'
      omega
    rw [if_pos o] at vv
    refine ⟨_, rfl, _, rfl, _, rfl, rIx_sq hs2 lastA ?_⟩
    refine ⟨_, _, rfl, rfl, cpow (by show 0 ≤ ((ns.getD N 0 : Nat) : Int) ∧ ((ns.getD N 0 : Nat) : Int) ≤ 1000000 ∧ (1 : Int).natAbs < 2 ^ 64; exact ⟨by omega, by omega, by decide⟩), _, _, rfl, rfl, ?_⟩
    have q' := q _ e2
    have er : ((binNum (rowD2 ns N) : Nat) : Int) - 1 * 2 ^ ((ns.getD N 0 : Nat) : Int).toNat = alt (-1) ns := by
      rw [vv, Int.toNat_natCast]
      generalize (2 : Int) ^ (ns.getD N 0) = T
      omega
    rw [← er] at q'
    exact q'
  · have c' : ¬ (Builtin.bitAnd ((nI ns).length : Int) 1 != 0) = true := c
    rw [eb] at c'
    have o : ¬ N % 2 = 0 := fun o => c' (by rw [show (N + 1) % 2 = 1 by omega]; rfl)
    rw [if_neg o, Int.add_zero] at vv
    refine ⟨_, rfl, ?_⟩
    have q' := q _ e2
    rw [← vv] at q'
    exact q'
abbrev S_int_of_turns : Stmt := top 17
abbrev N_int_of_turns : List Str := ["turns", "value", "turn"]
abbrev P_int_of_turns : List Str := ["turns"]
theorem sc_int_of_turns : FnScope N_int_of_turns P_int_of_turns (defScope S_int_of_turns) := ⟨rfl, rfl, rfl, by decide +kernel, rfl, by decide +kernel, by decide +kernel⟩
def spIoT (K : PySem.W.Frag) : Sp := fun vs H Q _ => ∃ (a : Addr) (ns : List Nat), vs = [.ref a] ∧ Sq K H a (nI ns) ∧ ns.Pairwise (· < ·) ∧ (∀ p ∈ ns, p ≤ 700000) ∧ (16 < ns.length → ∀ p ∈ ns, p ≤ 700000) ∧ ∀ H' : Hp, Same H H' → Q (.int (alt (-1) ns)) H'
theorem ok_iot {tk : Tok} (F : Fun K "int_of_turns" "int_of_turns" S_int_of_turns f fd) (B : Blt mg) (MM : mg "MANY_TURNS" = some (.int 16 tk)) (Cint_of_rows : Has P w K mg base 1 "int_of_rows" P_int_of_rows [] (spRows K)) : FnOk P w K mg base CX0 2 f fd P_int_of_turns (spIoT K) := by
  have nd := sc_int_of_turns.nd
  refine F.ok sc_int_of_turns (fun vs H Q E h => ?_) (fun cdv A outer s H vs Q E hr h => ?_)
  · obtain ⟨a, ns, rfl, _⟩ := h
    rfl
  obtain ⟨a, ns, rfl, hs, asc, le, le6, q⟩ := h
  refine ⟨_, (pss_cons (ps_if (pt_cmpR op_gt (pe_callB (call_lenS K) (by rfl) B.len PySem.boot_len (pa_cons (pv 0) pa_nil)) (pe_glob (v := .int 16) rfl MM ⟨_, rfl⟩) (nomark _)) (pss_one (ps_ret (pe_H Cint_of_rows (hr.mono (by decide)) rfl (pa_cons (pv 0) pa_nil)))) pss_nil)
    (pss_cons (ps_set (i := 1) nd rfl (Or.inl rfl) pe_int)
    (pss_cons (ps_for PassesOwn.never rfl (pi_seq K (pv 0)) (pg_name (i := 2) nd rfl (Or.inl rfl)) (pss_one (ps_set (i := 1) nd rfl (Or.inl rfl) (pe_op op_xor (pv 1) (pe_op op_shl (pe_un un_neg pe_int) (pv 2))))))
    (pss_one (ps_ret (pv 1)))))), ?_⟩
  have nl : (nI ns).length = ns.length := by unfold nI; rw [List.length_map]
  refine ⟨_, rfl, _, _, rfl, hs, _, _, rfl, rfl, _, rfl, ?_⟩
  refine iteD (fun c => ?_) (fun c => ?_)
  · rw [nl] at c
    exact ⟨_, rfl, a, ns, rfl, hs, asc, by omega, le6 (by omega), q⟩
  refine for_seq (xs := nI ns) hs rfl (fun i σ H' => ∃ z, σ = [some (.ref a), some (.int (alt (-1) (ns.take i))), z] ∧ Same H H') ⟨_, rfl, Same.refl H⟩ (fun i σ H' _ h => ?_) (fun i x σ H' hx h => ?_) (fun σ H' h => ?_)
  · obtain ⟨_, _, e⟩ := h
    exact e
  · obtain ⟨z, rfl, e⟩ := h
    unfold nI at hx
    rw [List.getElem?_map] at hx
    obtain ⟨t, ht, rfl⟩ := Option.map_eq_some_iff.mp hx
    have := le t (List.mem_of_getElem? ht)
    have et : ns.take (i + 1) = ns.take i ++ [t] := by rw [List.take_add_one, ht]; rfl
    have k := xor_alt (ns := ns.take i) (t := t) (by rw [← et]; exact asc.sublist (List.take_sublist _ _))
    refine ⟨_, rfl, _, rfl, _, rfl, _, _, rfl, rfl, cpow (by show 0 ≤ ((t : Nat) : Int) ∧ ((t : Nat) : Int) ≤ 1000000 ∧ (-1 : Int).natAbs < 2 ^ 64; exact ⟨by omega, by omega, by decide⟩), _, _, rfl, rfl, ?_⟩
    refine ⟨some (.int (t : Int)), ?_, e⟩
    rw [et, ← k]
    rfl
  · obtain ⟨z, rfl, e⟩ := h
    rw [show (nI ns).length = ns.length from by unfold nI; rw [List.length_map], List.take_length]
    exact ⟨_, rfl, q H' e⟩
abbrev S_form_with : Stmt := top 23
abbrev N_form_with : List Str := ["turns"]
abbrev P_form_with : List Str := ["turns"]
theorem sc_form_with : FnScope N_form_with P_form_with (defScope S_form_with) := ⟨rfl, rfl, rfl, by decide +kernel, rfl, by decide +kernel, by decide +kernel⟩
def spWith (K : PySem.W.Frag) (g : Int → PyData) (S : Int → Prop) : Sp := fun vs H Q _ => ∃ (a : Addr) (z : Int), vs = [.ref a] ∧ Pls K H g a (Tl z) ∧ Num g S z ∧ ∀ (v : V) (H' : Hp), Same H H' → Dp K H' v (numD g z) → Q v H'
theorem ok_with {n : Nat} {g : Int → PyData} {S : Int → Prop} (o : OrdN n g S) (F : Fun K "form_with" "form_with" S_form_with f fd) (B : Blt mg) (Cis_near : Has P w K mg base 1 "is_near" P_is_near [] (spNear K)) (Cint_of_turns : Has P w K mg base 2 "int_of_turns" P_int_of_turns [] (spIoT K)) :
    FnOk P w K mg base CX0 3 f fd P_form_with (spWith K g S) := by
  have nd := sc_form_with.nd
  refine F.ok sc_form_with (fun vs H Q E h => ?_) (fun cdv A outer s H vs Q E hr h => ?_)
  · obtain ⟨a, z, rfl, _⟩ := h
    rfl
  obtain ⟨a, z, rfl, hp, hz, q⟩ := h
  refine ⟨_, (pss_cons (ps_if (PW.pt (pw_or (pt_not (pt_truth (pv 0) (by intro _; rfl))) (pw_or1 (pt_val (pe_H Cis_near (hr.mono (by decide)) rfl (pa_cons (pe_ix (ix_seqK K) (pv 0) (pe_un un_neg pe_int) (fun _ _ => rfl)) pa_nil)))))) (pss_one (ps_ret (pe_H Cint_of_turns (hr.mono (by decide)) rfl (pa_cons (pv 0) pa_nil)))) pss_nil)
    (pss_one (ps_ret (pe_callTy (call_tupS K) (by rfl) B.tuple (by decide +kernel) (pa_cons (pv 0) pa_nil))))), ?_⟩
  obtain ⟨vs, hs, hl, hd, hat⟩ := hp.at
  refine ⟨_, rfl, _, hs.tru, ?_⟩
  have vz : alt (-1) (turnsN z) = z := turns_alt z
  rcases num_cases o hz with ⟨pl, e, ed⟩ | ⟨npl, e, m, p, el, p64⟩
  · rw [ed] at hd
    have ev := dps_n_inv hd
    subst ev
    have fin : ∀ H1, Same H H1 → spIoT K ([.ref a] ++ []) H1 (fun x H' => Q x H') E0 := fun H1 e1 => by
      refine ⟨a, turnsN z, rfl, hs.same e1, turns_asc z, (fun p hp => Nat.le_trans (turns_lt (n := 64) pl.1 pl.2 p hp) (by decide)), (fun _ p hp => Nat.le_trans (turns_lt (n := 64) pl.1 pl.2 p hp) (by decide)), fun H2 e2 => ?_⟩
      rw [vz]
      have k := q (.int z) H2 (e1.trans e2)
      rw [e] at k
      exact k (.int z)
    rcases List.eq_nil_or_concat (turnsN z) with hc | ⟨m, p, hc⟩
    · have e0 : (!(nI (turnsN z)).isEmpty) = false := by rw [hc]; rfl
      rw [e0]
      exact iteT ⟨_, rfl, fin H (Same.refl H)⟩
    · rw [List.concat_eq_append] at hc
      have e0 : (!(nI (turnsN z)).isEmpty) = true := by rw [hc]; unfold nI; simp
      rw [e0]
      have hd' := hd
      have em : nD (turnsN z) = nD m ++ [.int (p : Int)] := by rw [hc]; unfold nD; rw [List.map_append]; rfl
      rw [em] at hd'
      obtain ⟨x, hx, dx⟩ := dps_last hd'
      have hp64 : p ≤ 64 := turns_lt (n := 64) pl.1 pl.2 p (by rw [hc]; simp)
      refine iteF ?_
      refine ⟨_, rfl, _, rfl, rIx_sq hs hx ⟨x, _, rfl, dx, (fun b h => by cases h), fun H1 e1 => ?_⟩⟩
      have en : isNear (.int (p : Int)) = true := decide_eq_true (by omega)
      rw [en]
      exact ⟨_, rfl, iteT ⟨_, rfl, fin H1 e1⟩⟩
  · have hne : (Tl z).length ≠ 0 := by rw [el]; simp
    have e0 : (!vs.isEmpty) = true := by
      cases vs with
      | nil => exact absurd hl.symm hne
      | cons => rfl
    rw [e0]
    have hd' := hd
    rw [el, List.map_append] at hd'
    obtain ⟨x, hx, dx⟩ := dps_last hd'
    have hS : S p := hz.mem p (by rw [el]; simp)
    refine iteF ?_
    refine ⟨_, rfl, _, rfl, rIx_sq hs hx ⟨x, _, rfl, dx, (fm_kind (o.fm p hS)).2, fun H1 e1 => ?_⟩⟩
    rw [o.far p hS p64]
    refine ⟨_, rfl, iteF ?_⟩
    refine ⟨_, rfl, a, vs, rfl, hs.same e1, fun t H2 e2 ht => ?_⟩
    have k := q (.ref t) H2 (e1.trans e2)
    rw [e] at k
    exact k (.tup ht ((Nd.of (e1.trans e2)).ds hd))
abbrev S_turns_in : Stmt := top 24
abbrev N_turns_in : List Str := ["x"]
abbrev P_turns_in : List Str := ["x"]
theorem sc_turns_in : FnScope N_turns_in P_turns_in (defScope S_turns_in) := ⟨rfl, rfl, rfl, by decide +kernel, rfl, by decide +kernel, by decide +kernel⟩
def spTin (K : PySem.W.Frag) (g : Int → PyData) (S : Int → Prop) : Sp := fun vs H Q _ => ∃ (v : V) (z : Int), vs = [v] ∧ Dp K H v (numD g z) ∧ Num g S z ∧ ∀ (a : Addr) (H' : Hp), Same H H' → Pls K H' g a (Tl z) → Q (.ref a) H'
theorem ok_tin {n : Nat} {g : Int → PyData} {S : Int → Prop} (o : OrdN n g S) (F : Fun K "turns_in" "turns_in" S_turns_in f fd) (B : Blt mg) (Cturns_of_int : Has P w K mg base 2 "turns_of_int" P_turns_of_int [] spTurns) : FnOk P w K mg base CX0 3 f fd P_turns_in (spTin K g S) := by
  have nd := sc_turns_in.nd
  refine F.ok sc_turns_in (fun vs H Q E h => ?_) (fun cdv A outer s H vs Q E hr h => ?_)
  · obtain ⟨v, z, rfl, _⟩ := h
    rfl
  obtain ⟨v, z, rfl, hd, hz, q⟩ := h
  refine ⟨_, (pss_cons (ps_if (pt_val (pe_callB (call_isiI K) (by rfl) B.isinstance (by decide +kernel) (pa_cons (pv 0) (pa_cons (pe_bltn (by rfl) B.int (by decide +kernel) (show RelV (.ty "int") (.type "int") from rfl)) pa_nil)))) (pss_one (ps_ret (pe_H Cturns_of_int (hr.mono (by decide)) rfl (pa_cons (pv 0) pa_nil)))) pss_nil)
    (pss_one (ps_ret (pv 0)))), ?_⟩
  refine ⟨_, rfl, _, _, rfl, hd, _, rfl, ?_⟩
  rcases num_cases o hz with ⟨pl, e, ed⟩ | ⟨npl, e, _⟩
  · rw [e] at hd ⊢
    cases hd
    refine iteT ?_
    refine ⟨_, rfl, z, rfl, InB.of (n := 64) pl.1 pl.2 (by decide), fun p H' e1 np hp => q p H' e1 ⟨_, .inl hp, ?_⟩⟩
    rw [ed]
    exact dps_n _
  · rw [e] at hd ⊢
    cases hd with
    | tup hs ha =>
    refine iteF ?_
    exact ⟨_, rfl, q _ _ (Same.refl _) ⟨_, .inr hs, ha⟩⟩
abbrev S_is_less : Stmt := top 29
abbrev N_is_less : List Str := ["x", "y"]
abbrev P_is_less : List Str := ["x", "y"]
theorem sc_is_less : FnScope N_is_less P_is_less (defScope S_is_less) := ⟨rfl, rfl, rfl, by decide +kernel, rfl, by decide +kernel, by decide +kernel⟩
def spLess (K : PySem.W.Frag) (g : Int → PyData) (S : Int → Prop) : Sp := fun vs H Q _ => ∃ (x y : V) (c d : Int), vs = [x, y] ∧ Dp K H x (g c) ∧ Dp K H y (g d) ∧ S c ∧ S d ∧ ∀ H' : Hp, Same H H' → Q (.bl (decide (c < d))) H'
theorem sgn_lt {d c : Int} : sgnI d c < 0 ↔ d < c := by
  rcases Int.lt_trichotomy d c with k | k | k
  · rw [sgnI_lt k]; exact ⟨fun _ => k, fun _ => by decide⟩
  · subst k; rw [sgnI_self]; exact ⟨fun z => absurd z (by decide), fun z => absurd z (Int.lt_irrefl _)⟩
  · rw [sgnI_gt k]; exact ⟨fun z => absurd z (by decide), fun z => by omega⟩
theorem ok_less {n : Nat} {g : Int → PyData} {S : Int → Prop} (o : OrdN n g S) (nn : ∀ c, S c → negD (g c) = false) {spF : Sp} (hF : ∀ m, n = m + 1 → ∀ vs H Q E, spFar K m vs H Q E → spF vs H Q E) (F : Fun K "is_less" "is_less" S_is_less f fd) (B : Blt mg) (Ccompare_far : Has P w K mg base (2 * n + 1) "compare_far" P_compare_far [] spF) : FnOk P w K mg base CX0 (2 * n + 2) f fd P_is_less (spLess K g S) := by
  have nd := sc_is_less.nd
  refine F.ok sc_is_less (fun vs H Q E h => ?_) (fun cdv A outer s H vs Q E hr h => ?_)
  · obtain ⟨x, y, c, d, rfl, _⟩ := h
    rfl
  obtain ⟨x, y, c, d, rfl, hx, hy, sc, sd, q⟩ := h
  refine ⟨_, (pss_cons (ps_if (pt_val (pe_callB (call_isiI K) (by rfl) B.isinstance (by decide +kernel) (pa_cons (pv 0) (pa_cons (pe_bltn (by rfl) B.int (by decide +kernel) (show RelV (.ty "int") (.type "int") from rfl)) pa_nil)))) (pss_one (ps_ret (pe_or (pe_not (pe_callB (call_isiI K) (by rfl) B.isinstance (by decide +kernel) (pa_cons (pv 1) (pa_cons (pe_bltn (by rfl) B.int (by decide +kernel) (show RelV (.ty "int") (.type "int") from rfl)) pa_nil)))) (pe_one (pe_cmpR op_lt (pv 0) (pv 1) (nomark _)))))) pss_nil)
    (pss_cons (ps_if (pt_val (pe_callB (call_isiI K) (by rfl) B.isinstance (by decide +kernel) (pa_cons (pv 1) (pa_cons (pe_bltn (by rfl) B.int (by decide +kernel) (show RelV (.ty "int") (.type "int") from rfl)) pa_nil)))) (pss_one (ps_ret pe_bl)) pss_nil)
    (pss_one (ps_ret (pe_cmpR op_lt (pe_H Ccompare_far (hr.mono (by omega)) rfl (pa_cons (pv 0) (pa_cons (pv 1) pa_nil))) pe_int (nomark _)))))), ?_⟩
  have ord := o.ord c d sc sd
  have fx := o.fm c sc
  have fy := o.fm d sd
  have nx := nn c sc
  have ny := nn d sd
  have q : ∀ H', Same H H' → Q (.bl (decide (cmpD n (g c) (g d) < 0))) H' := fun H' e => by
    rw [ord, decide_eq_decide.mpr sgn_lt]
    exact q H' e
  clear ord
  generalize g c = dx at *
  generalize g d = dy at *
  have q0 := q H (Same.refl H)
  refine ⟨_, rfl, x, dx, rfl, hx, _, rfl, ?_⟩
  refine ite2 (fun c1 => ?_) (fun c1 => ?_)
  · obtain ⟨i, rfl⟩ := fm_int fx c1
    refine ⟨_, rfl, y, dy, rfl, hy, ?_⟩
    by_cases c2 : isI dy = true
    · obtain ⟨j, rfl⟩ := fm_int fy c2
      cases hx
      cases hy
      have ec : cmpD n (.int i) (.int j) = sgnI i j := by cases n <;> rfl
      rw [ec] at q0
      refine ⟨_, rfl, false, rfl, iteF ?_⟩
      refine ⟨_, rfl, _, rfl, _, _, rfl, rfl, ?_⟩
      rw [decide_eq_decide.mpr sgn_lt] at q0
      exact q0
    · cases n with
      | zero => obtain ⟨j, rfl⟩ := fy; exact absurd rfl c2
      | succ k =>
      rw [cmp_ix fx fy (fun h => c2 h.2) (nx.trans ny.symm) rfl, if_neg (by rw [nx]; decide)] at q0
      have c3 : isI dy = false := by cases h : isI dy with | true => exact absurd h c2 | false => rfl
      rw [c3]
      exact ⟨_, rfl, true, rfl, iteT q0⟩
  · refine ⟨_, rfl, y, dy, rfl, hy, _, rfl, ?_⟩
    cases n with
    | zero => obtain ⟨j, rfl⟩ := fx; exact absurd rfl c1
    | succ k =>
    refine ite2 (fun c2 => ?_) (fun c2 => ?_)
    · rw [cmp_iy fx fy (fun h => c1 h.1) (nx.trans ny.symm) c1 c2, if_neg (by rw [nx]; decide)] at q0
      exact q0
    · obtain ⟨xs, rfl, _, fxs⟩ := fm_tup fx c1
      obtain ⟨ys, rfl, _, fys⟩ := fm_tup fy c2
      have ec : cmpD (k + 1) (.tuple xs) (.tuple ys) = lexD (cmpD k) xs.reverse ys.reverse := if_pos (nx.trans ny.symm)
      rw [ec] at q
      cases hx with
      | @tup a vx _ hA hd =>
      cases hy with
      | @tup b vy _ hB he =>
      exact ⟨_, rfl, _, rfl, hF k rfl _ _ _ _ ⟨a, b, vx, vy, xs, ys, rfl, hA, hB, hd, he, fxs, fys, fun H4 e4 => ⟨_, _, rfl, rfl, q H4 e4⟩⟩⟩
abbrev S_turns_between : Stmt := top 31
abbrev N_turns_between : List Str := ["turns", "place", "low", "high", "middle"]
abbrev P_turns_between : List Str := ["turns", "place", "low", "high"]
theorem sc_turns_between : FnScope N_turns_between P_turns_between (defScope S_turns_between) := ⟨rfl, rfl, rfl, by decide +kernel, rfl, by decide +kernel, by decide +kernel⟩
def spBetween (K : PySem.W.Frag) (g : Int → PyData) (S : Int → Prop) : Sp := fun vs H Q _ => ∃ (a : Addr) (y : V) (l : List Int) (c : Int) (l0 h0 : Nat), vs = [.ref a, y, .int (l0 : Int), .int (h0 : Int)] ∧ Pls K H g a l ∧ Dp K H y (g c) ∧ l.Pairwise (· < ·) ∧ (∀ t ∈ l, S t) ∧ S c ∧ l0 ≤ clt l c ∧ clt l c ≤ h0 ∧ h0 ≤ l.length ∧
  ∀ H' : Hp, Same H H' → Q (.int (clt l c : Int)) H'
theorem ok_between {n : Nat} {g : Int → PyData} {S : Int → Prop} (F : Fun K "turns_between" "turns_between" S_turns_between f fd) (Cis_less : Has P w K mg base (2 * n + 2) "is_less" P_is_less [] (spLess K g S)) : FnOk P w K mg base CX0 (2 * n + 3) f fd P_turns_between (spBetween K g S) := by
  have nd := sc_turns_between.nd
  refine F.ok sc_turns_between (fun vs H Q E h => ?_) (fun cdv A outer s H vs Q E hr h => ?_)
  · obtain ⟨a, y, l, c, l0, h0, rfl, _⟩ := h
    rfl
  obtain ⟨a, y, l, c, l0, h0, rfl, hp, hy, asc, hS, hc, hl0, hh0, hh1, q⟩ := h
  refine ⟨_, (pss_cons (ps_while PassesOwn.never (pt_cmpR op_lt (pv 2) (pv 3) (nomark _)) (pss_cons (ps_set (i := 4) nd rfl (Or.inl rfl) (pe_op op_fdivW (pe_op op_add (pv 2) (pv 3)) pe_int))
    (pss_one (ps_if (pt_val (pe_H Cis_less (hr.mono (by omega)) rfl (pa_cons (pe_ix (ix_seqK K) (pv 0) (pv 4) (fun _ _ => rfl)) (pa_cons (pv 1) pa_nil)))) (pss_one (ps_set (i := 2) nd rfl (Or.inl rfl) (pe_op op_add (pv 4) pe_int))) (pss_one (ps_set (i := 3) nd rfl (Or.inl rfl) (pv 4)))))))
    (pss_one (ps_ret (pv 2)))), ?_⟩
  obtain ⟨vs, hs, hl, hd, hat⟩ := hp.at
  have ord := asc_lt c asc
  refine ⟨fun k σ H' => ∃ (lo hi : Nat) (z : Option V), σ = [some (.ref a), some y, some (.int (lo : Int)), some (.int (hi : Int)), z] ∧ k = hi - lo ∧ lo ≤ clt l c ∧ clt l c ≤ hi ∧ hi ≤ l.length ∧ Same H H', ⟨_, l0, h0, _, rfl, rfl, hl0, hh0, hh1, Same.refl _⟩, ?_⟩
  rintro k σ H' ⟨lo, hi, z, rfl, rfl, h1, h2, h3, e⟩
  refine ⟨_, rfl, _, rfl, _, _, rfl, rfl, _, rfl, ?_⟩
  refine iteD (fun cc => ?_) (fun cc => ?_)
  · have hlt : lo < hi := by omega
    obtain ⟨d, hd1⟩ : ∃ d, l[(lo + hi) / 2]? = some d := ⟨_, List.getElem?_eq_getElem (by omega)⟩
    obtain ⟨x, hx, dp⟩ := hat _ _ hd1
    have em : ((lo : Int) + (hi : Int)) / 2 = (((lo + hi) / 2 : Nat) : Int) := by omega
    have od := ord _ _ hd1
    have hSd := hS d (List.mem_of_getElem? hd1)
    refine ⟨fun σ H' => ∃ (lo' hi' : Nat) (z : Option V), σ = [some (.ref a), some y, some (.int (lo' : Int)), some (.int (hi' : Int)), z] ∧ hi' - lo' < hi - lo ∧ lo' ≤ clt l c ∧ clt l c ≤ hi' ∧ hi' ≤ l.length ∧ Same H H', fun σ' H' h => ?_, ?_⟩
    · obtain ⟨lo', hi', z, rfl, k1, k2, k3, k4, k5⟩ := h
      exact ⟨_, k1, lo', hi', z, rfl, rfl, k2, k3, k4, k5⟩
    · refine ⟨_, rfl, _, rfl, _, _, rfl, rfl, _, _, rfl, rfl, ⟨by decide, by decide⟩, ?_⟩
      refine ⟨_, rfl, _, rfl, rIx_sq (v := x) (hs.same e) (by show atI vs (((lo : Int) + (hi : Int)) / 2) = _; rw [em]; exact atI_nat hx) ?_⟩
      refine ⟨_, rfl, x, y, d, c, rfl, (Nd.of e).d dp, (Nd.of e).d hy, hSd, hc, fun H1 e1 => ?_⟩
      refine ⟨_, rfl, ?_⟩
      have od' : (lo + hi) / 2 < clt l c ↔ d < c := od
      refine iteD (fun c1 => ?_) (fun c1 => ?_)
      · refine ⟨_, rfl, _, _, rfl, rfl, (lo + hi) / 2 + 1, hi, some (.int (((lo : Int) + (hi : Int)) / 2)), ?_, by omega, by have := od'.mpr c1; omega, h2, h3, e.trans e1⟩
        have e2 : ((lo : Int) + (hi : Int)) / 2 + 1 = (((lo + hi) / 2 + 1 : Nat) : Int) := by omega
        rw [← e2]
        rfl
      · refine ⟨_, rfl, lo, (lo + hi) / 2, some (.int (((lo : Int) + (hi : Int)) / 2)), ?_, by omega, h1, by have := fun h => c1 (od'.mp h); omega, by omega, e.trans e1⟩
        rw [← em]
        rfl
  · have : lo = clt l c := by omega
    have q' := q _ e
    rw [← this] at q'
    exact ⟨_, rfl, q'⟩
abbrev S_turns_before : Stmt := top 30
abbrev N_turns_before : List Str := ["turns", "place", "start", "low", "high", "step"]
abbrev P_turns_before : List Str := ["turns", "place", "start"]
theorem sc_turns_before : FnScope N_turns_before P_turns_before (defScope S_turns_before) := ⟨rfl, rfl, rfl, by decide +kernel, rfl, by decide +kernel, by decide +kernel⟩
def spBefore (K : PySem.W.Frag) (g : Int → PyData) (S : Int → Prop) : Sp := fun vs H Q _ => ∃ (a : Addr) (y : V) (l : List Int) (c : Int) (s : Nat), vs = [.ref a, y, .int (s : Int)] ∧ Pls K H g a l ∧ Dp K H y (g c) ∧ l.Pairwise (· < ·) ∧ (∀ t ∈ l, S t) ∧ S c ∧ s ≤ clt l c ∧ l.length ≤ 30000 ∧
  ∀ H' : Hp, Same H H' → Q (.int (clt l c : Int)) H'
theorem ok_before {n : Nat} {g : Int → PyData} {S : Int → Prop} (F : Fun K "turns_before" "turns_before" S_turns_before f fd) (B : Blt mg) (Cis_less : Has P w K mg base (2 * n + 2) "is_less" P_is_less [] (spLess K g S)) (Cturns_between : Has P w K mg base (2 * n + 3) "turns_between" P_turns_between [] (spBetween K g S)) : FnOk P w K mg base CX0 (2 * n + 4) f fd P_turns_before (spBefore K g S) := by
  have nd := sc_turns_before.nd
  refine F.ok sc_turns_before (fun vs H Q E h => ?_) (fun cdv A outer s H vs Q E hr h => ?_)
  · obtain ⟨a, y, l, c, s, rfl, _⟩ := h
    rfl
  obtain ⟨a, y, l, c, s0, rfl, hp, hy, asc, hS, hc, hs0, l4, q⟩ := h
  refine ⟨_, (pss_cons (ps_set (i := 3) nd rfl (Or.inl rfl) (pv 2))
    (pss_cons (ps_set (i := 4) nd rfl (Or.inl rfl) (pv 2))
    (pss_cons (ps_set (i := 5) nd rfl (Or.inl rfl) pe_int)
    (pss_cons (ps_while PassesOwn.never (PW.pt (pw_and (pt_cmpR op_lt (pv 4) (pe_callB (call_lenS K) (by rfl) B.len PySem.boot_len (pa_cons (pv 0) pa_nil)) (nomark _)) (pw_and1 (pt_val (pe_H Cis_less (hr.mono (by omega)) rfl (pa_cons (pe_ix (ix_seqK K) (pv 0) (pv 4) (fun _ _ => rfl)) (pa_cons (pv 1) pa_nil))))))) (pss_cons (ps_set (i := 3) nd rfl (Or.inl rfl) (pe_op op_add (pv 4) pe_int))
    (pss_cons (ps_set (i := 4) nd rfl (Or.inl rfl) (pe_op op_add (pv 4) (pv 5)))
    (pss_one (ps_set (i := 5) nd rfl (Or.inl rfl) (pe_op op_mul (pv 5) pe_int))))))
    (pss_one (ps_ret (pe_H Cturns_between (hr.mono (by omega)) rfl (pa_cons (pv 0) (pa_cons (pv 1) (pa_cons (pv 3) (pa_cons (pe_callB (call_min2 rfl) (by rfl) B.min (by decide +kernel) (pa_cons (pv 4) (pa_cons (pe_callB (call_lenS K) (by rfl) B.len PySem.boot_len (pa_cons (pv 0) pa_nil)) pa_nil))) pa_nil))))))))))), ?_⟩
  obtain ⟨vs, hs, hl, hd, hat⟩ := hp.at
  have ord := asc_lt c asc
  have cle := clt_le l c
  refine ⟨_, rfl, _, rfl, ?_⟩
  have fin : ∀ (lo hi : Nat) (z : V) (H' : Hp), lo ≤ clt l c → clt l c ≤ hi → Same H H' → tRet (tCall (spBetween K g S) [] E0 (tCons (tVar 0) (tCons (tVar 1) (tCons (tVar 3) (tCons (tCB (fun xs H Q => ∃ i j, xs = [.int i, .int j] ∧ Q (.int (if j < i then j else i)) H) (tCons (tVar 4) (tCons (tCB (rLenS K) (tCons (tVar 0) tNil)) tNil))) tNil))))) { nx := fun _ H' => Q .non H', rt := Q } [some (.ref a), some y, some (.int (s0 : Int)), some (.int (lo : Int)), some (.int (hi : Int)), some z] H' := fun lo hi z H' h1 h2 e => by
    refine ⟨_, rfl, _, rfl, _, rfl, _, rfl, _, rfl, a, vs, rfl, hs.same e, _, _, rfl, ?_⟩
    have em : (if (vs.length : Int) < (hi : Int) then (vs.length : Int) else (hi : Int)) = ((min hi l.length : Nat) : Int) := by
      rw [hl]
      split <;> omega
    rw [em]
    exact ⟨a, y, l, c, lo, min hi l.length, rfl, hp.same e, (Nd.of e).d hy, asc, hS, hc, h1, by omega, by omega, fun H2 e2 => q H2 (e.trans e2)⟩
  refine ⟨fun k σ H' => ∃ (lo hi st : Nat), σ = [some (.ref a), some y, some (.int (s0 : Int)), some (.int (lo : Int)), some (.int (hi : Int)), some (.int (st : Int))] ∧ k = l.length - hi ∧ lo ≤ clt l c ∧ 1 ≤ st ∧ Same H H', ⟨_, s0, s0, 1, rfl, rfl, hs0, Nat.le_refl _, Same.refl _⟩, ?_⟩
  rintro k σ H' ⟨lo, hi, st, rfl, rfl, h1, h2, e⟩
  refine ⟨_, rfl, _, rfl, a, vs, rfl, hs.same e, _, _, rfl, rfl, _, rfl, ?_⟩
  refine iteD (fun cc => ?_) (fun cc => ?_)
  · have hlt : hi < l.length := by omega
    obtain ⟨d, hd1⟩ : ∃ d, l[hi]? = some d := ⟨_, List.getElem?_eq_getElem hlt⟩
    obtain ⟨x, hx, dp⟩ := hat _ _ hd1
    have od := ord _ _ hd1
    have hSd := hS d (List.mem_of_getElem? hd1)
    refine ⟨_, rfl, _, rfl, rIx_sq (v := x) (hs.same e) (atI_nat hx) ?_⟩
    refine ⟨_, rfl, x, y, d, c, rfl, (Nd.of e).d dp, (Nd.of e).d hy, hSd, hc, fun H1 e1 => ?_⟩
    have od' : hi < clt l c ↔ d < c := od
    refine ⟨_, rfl, ?_⟩
    refine iteD (fun c1 => ?_) (fun c1 => ?_)
    · refine ⟨fun σ H' => ∃ (lo' hi' st' : Nat), σ = [some (.ref a), some y, some (.int (s0 : Int)), some (.int (lo' : Int)), some (.int (hi' : Int)), some (.int (st' : Int))] ∧ l.length - hi' < l.length - hi ∧ lo' ≤ clt l c ∧ 1 ≤ st' ∧ Same H H', fun σ' H' h => ?_, ?_⟩
      · obtain ⟨lo', hi', st', rfl, k1, k2, k3, k4⟩ := h
        exact ⟨_, k1, lo', hi', st', rfl, rfl, k2, k3, k4⟩
      · refine ⟨_, rfl, _, _, rfl, rfl, _, rfl, _, rfl, _, _, rfl, rfl, _, rfl, _, _, rfl, rfl, .inr ⟨by decide, by decide⟩, ?_⟩
        refine ⟨hi + 1, hi + st, st * 2, rfl, by omega, by have := od'.mpr c1; omega, by omega, e.trans e1⟩
    · exact fin lo hi _ H1 h1 (by have := fun h => c1 (od'.mp h); omega) (e.trans e1)
  · exact fin lo hi _ H' h1 (by omega) e
abbrev S_turns_up_to : Stmt := top 32
abbrev N_turns_up_to : List Str := ["turns", "place", "start", "many"]
abbrev P_turns_up_to : List Str := ["turns", "place", "start"]
theorem sc_turns_up_to : FnScope N_turns_up_to P_turns_up_to (defScope S_turns_up_to) := ⟨rfl, rfl, rfl, by decide +kernel, rfl, by decide +kernel, by decide +kernel⟩
def spUpTo (K : PySem.W.Frag) (g : Int → PyData) (S : Int → Prop) : Sp := fun vs H Q _ => ∃ (a : Addr) (y : V) (l : List Int) (c : Int) (s : Nat), vs = [.ref a, y, .int (s : Int)] ∧ Pls K H g a l ∧ Dp K H y (g c) ∧ l.Pairwise (· < ·) ∧ (∀ t ∈ l, S t) ∧ S c ∧ s ≤ clt l c ∧ l.length ≤ 30000 ∧ ∀ H' : Hp, Same H H' → Q (.int (cnt l c : Int)) H'
theorem ok_upto {n : Nat} (hn : n ≤ 40) {g : Int → PyData} {S : Int → Prop} (o : OrdN n g S) {dvs : List V} {kws : List (Str × V)} (F : FunD K "turns_up_to" "turns_up_to" (defArgs S_turns_up_to) (defBody S_turns_up_to) (defScope S_turns_up_to) dvs kws f fd) (B : Blt mg) (Cturns_between : Has P w K mg base (2 * n + 3) "turns_between" P_turns_between [] (spBetween K g S)) (Cturns_before : Has P w K mg base (2 * n + 4) "turns_before" P_turns_before [] (spBefore K g S)) : FnOk P w K mg base CX0 (2 * n + 5) f fd P_turns_up_to (spUpTo K g S) := by
  have nd := sc_turns_up_to.nd
  refine funD_ok F sc_turns_up_to (fun vs H Q E h => ?_) (fun cdv A outer s H vs Q E hr h => ?_)
  · obtain ⟨a, y, l, c, s0, rfl, _⟩ := h
    rfl
  obtain ⟨a, y, l, c, s0, rfl, hp, hy, asc, hS, hc, hs0, l4, q⟩ := h
  refine ⟨_, (C8.pss_cut (ps_if (pt_cmpR op_eq (pv 2) pe_int (nomark _)) (pss_one (ps_set (i := 3) nd rfl (Or.inl rfl) (pe_H Cturns_between (hr.mono (by omega)) rfl (pa_cons (pv 0) (pa_cons (pv 1) (pa_cons pe_int (pa_cons (pe_callB (call_lenS K) (by rfl) B.len PySem.boot_len (pa_cons (pv 0) pa_nil)) pa_nil))))))) (pss_one (ps_set (i := 3) nd rfl (Or.inl rfl) (pe_H Cturns_before (hr.mono (by omega)) rfl (pa_cons (pv 0) (pa_cons (pv 1) (pa_cons (pv 2) pa_nil)))))))
    (pss_cons (ps_if (PW.pt (pw_and (pt_cmpR op_lt (pv 3) (pe_callB (call_lenS K) (by rfl) B.len PySem.boot_len (pa_cons (pv 0) pa_nil)) (nomark _)) (pw_and1 (pt_cmpR (op_eqD hr.units) (pe_ix (ix_seqK K) (pv 0) (pv 3) (fun _ _ => rfl)) (pv 1) (nomark _))))) (pss_one (ps_ret (pe_op op_add (pv 3) pe_int))) pss_nil)
    (pss_one (ps_ret (pv 3))))), ?_⟩
  obtain ⟨vs, hs, hl, hd, hat⟩ := hp.at
  obtain ⟨s1, s2, s3, s4⟩ := split3 c asc
  refine ⟨fun σ H1 => σ = [some (.ref a), some y, some (.int (s0 : Int)), some (.int (clt l c : Int))] ∧ Same H H1, ?_, ?_⟩
  · refine ⟨_, rfl, rfl, _, rfl, ?_⟩
    refine iteD (fun cc => ?_) (fun cc => ?_)
    · refine ⟨_, rfl, _, rfl, _, rfl, a, vs, rfl, hs, a, y, l, c, 0, l.length, (by rw [hl]; rfl), hp, hy, asc, hS, hc, Nat.zero_le _, clt_le l c, Nat.le_refl _, fun H1 e1 => ?_⟩
      exact ⟨rfl, e1⟩
    · refine ⟨_, rfl, _, rfl, _, rfl, a, y, l, c, s0, rfl, hp, hy, asc, hS, hc, hs0, l4, fun H1 e1 => ?_⟩
      exact ⟨rfl, e1⟩
  rintro σ H1 ⟨rfl, e1⟩
  refine ⟨_, rfl, _, rfl, a, vs, rfl, hs.same e1, _, _, rfl, rfl, _, rfl, ?_⟩
  refine iteD (fun cc => ?_) (fun cc => ?_)
  · have c' : clt l c < l.length := by omega
    obtain ⟨d, hd1⟩ : ∃ d, l[clt l c]? = some d := ⟨_, List.getElem?_eq_getElem c'⟩
    obtain ⟨x, hx, dp⟩ := hat _ _ hd1
    have hSd := hS d (List.mem_of_getElem? hd1)
    refine ⟨_, rfl, _, rfl, rIx_sq (v := x) (hs.same e1) (atI_nat hx) ?_⟩
    refine ⟨_, rfl, _, _, (Nd.of e1).d dp, (Nd.of e1).d hy, shaped_fm (o.fm d hSd) hn, shaped_fm (o.fm c hc) hn, _, rfl, ?_⟩
    have ae := (o.toOrd.eqv hSd hc).trans (asc_at asc hd1)
    by_cases he : c ∈ l
    · rw [ae.mpr he]
      rw [if_pos he] at s4
      refine ⟨_, rfl, _, _, rfl, rfl, ?_⟩
      have q' := q H1 e1
      rw [s4] at q'
      exact q'
    · have : PyData.eqv (g d) (g c) = false := Bool.eq_false_iff.mpr fun h => he (ae.mp h)
      rw [this]
      rw [if_neg he] at s4
      refine ⟨_, rfl, ?_⟩
      have q' := q H1 e1
      rw [s4] at q'
      exact q'
  · have he : c ∉ l := fun he => by
      rw [if_pos he] at s4
      have := cnt_le l c
      omega
    rw [if_neg he] at s4
    refine ⟨_, rfl, ?_⟩
    have q' := q H1 e1
    rw [s4] at q'
    exact q'
abbrev S_shorter_first : Stmt := top 33
abbrev N_shorter_first : List Str := ["x", "y"]
abbrev P_shorter_first : List Str := ["x", "y"]
theorem sc_shorter_first : FnScope N_shorter_first P_shorter_first (defScope S_shorter_first) := ⟨rfl, rfl, rfl, by decide +kernel, rfl, by decide +kernel, by decide +kernel⟩
def spShort (K : PySem.W.Frag) : Sp := fun vs H Q _ => ∃ (a b : Addr) (xs ys : List V), vs = [.ref a, .ref b] ∧ Sq K H a xs ∧ Sq K H b ys ∧ ∀ (t : Addr) (H' : Hp), Same H H' → SqT K H' t (if xs.length ≤ ys.length then [.ref a, .ref b] else [.ref b, .ref a]) → Q (.ref t) H'
theorem ok_short (F : Fun K "shorter_first" "shorter_first" S_shorter_first f fd) (B : Blt mg) : FnOk P w K mg base CX0 1 f fd P_shorter_first (spShort K) := by
  have nd := sc_shorter_first.nd
  refine F.ok sc_shorter_first (fun vs H Q E h => ?_) (fun cdv A outer s H vs Q E hr h => ?_)
  · obtain ⟨a, b, xs, ys, rfl, _⟩ := h
    rfl
  obtain ⟨a, b, xs, ys, rfl, ha, hb, q⟩ := h
  refine ⟨_, (pss_cons (ps_if (pt_cmpR op_le (pe_callB (call_lenS K) (by rfl) B.len PySem.boot_len (pa_cons (pv 0) pa_nil)) (pe_callB (call_lenS K) (by rfl) B.len PySem.boot_len (pa_cons (pv 1) pa_nil)) (nomark _)) (pss_one (ps_ret (pe_tup (pa_cons (pv 0) (pa_cons (pv 1) pa_nil))))) pss_nil)
    (pss_one (ps_ret (pe_tup (pa_cons (pv 1) (pa_cons (pv 0) pa_nil)))))), ?_⟩
  refine ⟨_, rfl, a, xs, rfl, ha, _, rfl, b, ys, rfl, hb, _, _, rfl, rfl, _, rfl, ?_⟩
  refine iteD (fun c => ?_) (fun c => ?_)
  · refine ⟨_, rfl, _, rfl, (by show 2 ≤ sizeLine; decide), fun p np => q p _ (Same.new np) ?_⟩
    rw [if_pos (by omega)]
    exact SqT.of upd_same
  · refine ⟨_, rfl, _, rfl, (by show 2 ≤ sizeLine; decide), fun p np => q p _ (Same.new np) ?_⟩
    rw [if_neg (by omega)]
    exact SqT.of upd_same
end
end Fb
namespace Fb
open PySem L2
/-- two sequences of places, the shorter one first -/
theorem two_pls {K : PySem.W.Frag} {H : Hp} {g : Int → PyData} {S : Int → Prop} {a b : Addr} {l m : List Int} {vs ws : List V} (hl : vs.length = l.length) (hm : ws.length = m.length) (hp : Pls K H g a l) (hq : Pls K H g b m)
    (al : l.Pairwise (· < ·)) (am : m.Pairwise (· < ·)) (sl : ∀ t ∈ l, S t) (sm : ∀ t ∈ m, S t) :
    ∃ (u v : Addr) (A B : List Int), (if vs.length ≤ ws.length then [V.ref a, .ref b] else [.ref b, .ref a]) = [.ref u, .ref v] ∧ fm2 l m = (A, B) ∧ Pls K H g u A ∧ Pls K H g v B ∧ A.Pairwise (· < ·) ∧ B.Pairwise (· < ·) ∧ (∀ t ∈ A, S t) ∧ (∀ t ∈ B, S t) ∧ A.length + B.length = l.length + m.length := by
  unfold fm2
  rw [hl, hm]
  split
  · exact ⟨a, b, l, m, rfl, rfl, hp, hq, al, am, sl, sm, rfl⟩
  · exact ⟨b, a, m, l, rfl, rfl, hq, hp, am, al, sm, sl, Nat.add_comm _ _⟩
section
variable {P : Program} {w : World} {K : PySem.W.Frag} {mg : Str → Option Value} {base : Heap} {f : Addr} {fd : FuncData}
abbrev S_merged_turns : Stmt := top 34
abbrev N_merged_turns : List Str := ["x", "y", "few", "many", "merged", "start", "turn", "at"]
abbrev P_merged_turns : List Str := ["x", "y"]
theorem sc_merged_turns : FnScope N_merged_turns P_merged_turns (defScope S_merged_turns) := ⟨rfl, rfl, rfl, by decide +kernel, rfl, by decide +kernel, by decide +kernel⟩
def spMerged (K : PySem.W.Frag) (g : Int → PyData) (S : Int → Prop) : Sp := fun vs H Q _ => ∃ (a b : Addr) (l m : List Int), vs = [.ref a, .ref b] ∧ Pls K H g a l ∧ Pls K H g b m ∧ l.Pairwise (· < ·) ∧ m.Pairwise (· < ·) ∧ (∀ t ∈ l, S t) ∧ (∀ t ∈ m, S t) ∧ l.length + m.length ≤ 30000 ∧
  ∀ (p : Addr) (us : List V) (H' : Hp), Same H H' → H' p = some (.lst us) → DpAll K H' us ((mrg (fm2 l m).1 (fm2 l m).2).map g) → Q (.ref p) H'
theorem ok_merged {n : Nat} (hn : n ≤ 40) {g : Int → PyData} {S : Int → Prop} (o : OrdN n g S) (F : Fun K "merged_turns" "merged_turns" S_merged_turns f fd) (B : Blt mg) (Cshorter_first : Has P w K mg base 1 "shorter_first" P_shorter_first [] (spShort K)) (Cturns_before : Has P w K mg base (2 * n + 4) "turns_before" P_turns_before [] (spBefore K g S)) :
    FnOk P w K mg base CX0 (2 * n + 5) f fd P_merged_turns (spMerged K g S) := by
  have nd := sc_merged_turns.nd
  refine F.ok sc_merged_turns (fun vs H Q E h => ?_) (fun cdv A outer s H vs Q E hr h => ?_)
  · obtain ⟨a, b, l, m, rfl, _⟩ := h
    rfl
  obtain ⟨a, b, l, m, rfl, hl, hm, al, am, sl, sm, l4, q⟩ := h
  refine ⟨_, (pss_cons (ps_asg (pe_H Cshorter_first (hr.mono (by omega)) rfl (pa_cons (pv 0) (pa_cons (pv 1) pa_nil))) (pg_tup rfl (pgs_cons (pg_name (i := 2) nd rfl (Or.inl rfl)) (pgs_cons (pg_name (i := 3) nd rfl (Or.inl rfl)) pgs_nil))))
    (pss_cons (ps_set (i := 4) nd rfl (Or.inl rfl) (pe_lst pa_nil))
    (pss_cons (ps_set (i := 5) nd rfl (Or.inl rfl) pe_int)
    (pss_cons (ps_for PassesOwn.never rfl (pi_seq K (pv 2)) (pg_name (i := 6) nd rfl (Or.inl rfl)) (pss_cons (ps_set (i := 7) nd rfl (Or.inl rfl) (pe_H Cturns_before (hr.mono (by omega)) rfl (pa_cons (pv 3) (pa_cons (pv 6) (pa_cons (pv 5) pa_nil)))))
    (pss_cons (ps_expr (pe_bm PySem.F.plainAttrs_list PySem.F.slot_list_extend PySem.F.type_list_extend (mt_extS K) (pv 4) (pa_cons (pe_slice (sl_seq K) (pv 3) (po_some (pv 5)) (po_some (pv 7))) pa_nil)))
    (pss_cons (ps_set (i := 5) nd rfl (Or.inl rfl) (pv 7))
    (pss_one (ps_if (PW.pt (pw_and (pt_cmpR op_lt (pv 7) (pe_callB (call_lenS K) (by rfl) B.len PySem.boot_len (pa_cons (pv 3) pa_nil)) (nomark _)) (pw_and1 (pt_cmpR (op_eqD hr.units) (pe_ix (ix_seqK K) (pv 3) (pv 7) (fun _ _ => rfl)) (pv 6) (nomark _))))) (pss_one (ps_set (i := 5) nd rfl (Or.inl rfl) (pe_op op_add (pv 7) pe_int))) (pss_one (ps_expr (pe_bm PySem.F.plainAttrs_list PySem.F.slot_list_append PySem.F.type_list_append mt_append (pv 4) (pa_cons (pv 6) pa_nil))))))))))
    (pss_cons (ps_expr (pe_bm PySem.F.plainAttrs_list PySem.F.slot_list_extend PySem.F.type_list_extend (mt_extS K) (pv 4) (pa_cons (pe_slice (sl_seq K) (pv 3) (po_some (pv 5)) po_none) pa_nil)))
    (pss_one (ps_ret (pv 4)))))))), ?_⟩
  obtain ⟨xs, hs, lxs, _, _⟩ := hl.at
  obtain ⟨ys, ht, lys, _, _⟩ := hm.at
  refine ⟨_, rfl, _, rfl, a, b, xs, ys, rfl, hs, ht, fun t H1 e1 hT => ?_⟩
  obtain ⟨u, v, fa, fb, ep, e2, hA, hB, aA, aB, sA, sB, lAB⟩ := two_pls lxs lys (hl.same e1) (hm.same e1) al am sl sm
  rw [ep] at hT
  rw [e2] at q
  obtain ⟨as, ha, la, dA, atA⟩ := hA.at
  obtain ⟨bs, hb, lb, dB, atB⟩ := hB.at
  refine ⟨_, _, rfl, hT, rfl, _, _, rfl, _, _, rfl, rfl, ?_⟩
  refine ⟨(by show 0 ≤ sizeLine; decide), fun p np => ?_⟩
  refine for_seq (K := K) (H0 := H1) (xs := as) ha rfl (fun i σ H' => ∃ (st : Nat) (us : List V) (M : List Int) (z6 z7 : Option V), σ = [some (.ref a), some (.ref b), some (.ref u), some (.ref v), some (.ref p), some (.int (st : Int)), z6, z7] ∧ Same H1 H' ∧ H' p = some (.lst us) ∧ DpAll K H1 us (M.map g) ∧
      M ++ mrg (fa.drop i) (fb.drop st) = mrg fa fb ∧ st ≤ fb.length ∧ ∀ t ∈ fb.take st, ∀ c ∈ fa.drop i, t < c)
    ⟨0, [], [], _, _, rfl, Same.new np, upd_same, .nil, rfl, Nat.zero_le _, fun t ht => by cases ht⟩ (fun i σ H' _ h => ?_) (fun i x σ H' hx h => ?_) (fun σ H' h => ?_)
  · obtain ⟨_, _, _, _, _, _, e, _⟩ := h
    exact e
  · obtain ⟨st, us, M, z6, z7, rfl, e, hp, dM, eq, hst, low⟩ := h
    have hi := (List.getElem?_eq_some_iff.mp hx).1
    obtain ⟨c, hc⟩ : ∃ c, fa[i]? = some c := ⟨_, List.getElem?_eq_getElem (by omega)⟩
    obtain ⟨x', hx', dx⟩ := atA i c hc
    cases hx.symm.trans hx'
    have dr : fa.drop i = c :: fa.drop (i + 1) := by
      obtain ⟨h1, h2⟩ := List.getElem?_eq_some_iff.mp hc
      rw [List.drop_eq_getElem_cons h1, h2]
    have hcm := List.mem_of_getElem? hc
    have low' : ∀ t ∈ fb.take st, t < c := fun t ht => low t ht c (by rw [dr]; exact List.mem_cons_self)
    obtain ⟨k1, k2⟩ := mrg_step (A := fa.drop (i + 1)) aB low' hst
    rw [dr, k2] at eq
    obtain ⟨s1, s2, s3, s4⟩ := split3 c aB
    have tot := congrArg List.length eq
    have ml := mrg_len fa fb
    rw [List.length_append, List.length_append, List.length_append] at tot
    have lus : us.length = M.length := by rw [dps_length dM, List.length_map]
    have cl := clt_le fb c
    have cn := cnt_le fb c
    have upc : ∀ c' ∈ fa.drop (i + 1), c < c' := by
      have := aA.sublist (List.drop_sublist i fa)
      rw [dr] at this
      exact (List.pairwise_cons.mp this).1
    refine ⟨_, rfl, _, rfl, _, rfl, v, x, fb, c, st, rfl, hB.same e, (Nd.of e).d dx, aB, sB, sA c hcm, k1, by omega, fun H2 e2 => ?_⟩
    refine ⟨_, rfl, .inl ⟨rfl, _, SqL.of (e2 _ _ hp)⟩, _, rfl, _, rfl, _, rfl, _, rfl, _, rfl, v, bs, rfl, (hb.same e).same e2, fun w1 H3 e3 _ hw1 => ?_⟩
    have hp3 := e3 _ _ (e2 _ _ hp)
    have ec : cutV bs (some (st : Int)) (some (clt fb c : Int)) = (bs.take (clt fb c)).drop st := cut_nat (by omega) (by omega)
    rw [ec] at hw1
    have fit : us.length + ((bs.take (clt fb c)).drop st).length ≤ sizeLine := by
      rw [List.length_drop, List.length_take]
      exact Nat.le_trans (show _ ≤ 100000 by omega) (by decide)
    refine ⟨p, w1, us, _, rfl, rfl, hp3, hw1, fit, ?_⟩
    have e14 : Same H1 (upd H3 p (.lst (us ++ (bs.take (clt fb c)).drop st))) := Same.mut (e.trans (e2.trans e3)) np
    have d4 : DpAll K H1 (us ++ (bs.take (clt fb c)).drop st) ((M ++ (fb.take (clt fb c)).drop st).map g) := by
      rw [List.map_append, List.map_drop, List.map_take]
      exact dps_app dM (dps_drop _ (dps_take _ dB))
    have hp4 : upd H3 p (.lst (us ++ (bs.take (clt fb c)).drop st)) p = some (.lst (us ++ (bs.take (clt fb c)).drop st)) := upd_same
    generalize hus : us ++ (bs.take (clt fb c)).drop st = us4 at d4 hp4 e14 fit ⊢
    have l4' : us4.length ≤ 60000 := by
      rw [← hus, List.length_append, List.length_drop, List.length_take]
      omega
    generalize upd H3 p (.lst us4) = H4 at hp4 e14 ⊢
    have lowN : ∀ t ∈ fb.take (cnt fb c), ∀ c' ∈ fa.drop (i + 1), t < c' := fun t ht c' hc' => by
      have := take_cnt_le aB t ht
      have := upc c' hc'
      omega
    have fin : ∀ (us5 : List V) (H5 : Hp) (z : Nat), z = cnt fb c → Same H1 H5 → H5 p = some (.lst us5) → DpAll K H1 us5 ((M ++ (fb.take (clt fb c)).drop st ++ (if c ∈ fb then [] else [c])).map g) →
        ∃ (st : Nat) (us : List V) (M : List Int) (z6 z7 : Option V), ([some (.ref a), some (.ref b), some (.ref u), some (.ref v), some (.ref p), some (.int (z : Int)), some x, some (.int (clt fb c : Int))] : L2.St) = [some (.ref a), some (.ref b), some (.ref u), some (.ref v), some (.ref p), some (.int (st : Int)), z6, z7] ∧ Same H1 H5 ∧ H5 p = some (.lst us) ∧ DpAll K H1 us (M.map g) ∧
          M ++ mrg (fa.drop (i + 1)) (fb.drop st) = mrg fa fb ∧ st ≤ fb.length ∧ ∀ t ∈ fb.take st, ∀ c ∈ fa.drop (i + 1), t < c := fun us5 H5 z hz g1 g2 g3 =>
      ⟨z, us5, _, _, _, rfl, g1, g2, g3, by rw [hz, List.append_assoc, List.append_assoc]; exact eq, by omega, by rw [hz]; exact lowN⟩
    have hb4 := hb.same e14
    refine ⟨_, rfl, _, rfl, _, rfl, v, bs, rfl, hb4, _, _, rfl, rfl, _, rfl, ?_⟩
    have app : c ∉ fb → (tDrop (tBM (cxOf CX0 P w K mg base N_merged_turns "merged_turns" (defScope S_merged_turns) f cdv A outer s H E).nox.K "list" rAppend (tVar 4) (tCons (tVar 6) tNil))) = (tDrop (tBM (cxOf CX0 P w K mg base N_merged_turns "merged_turns" (defScope S_merged_turns) f cdv A outer s H E).nox.K "list" rAppend (tVar 4) (tCons (tVar 6) tNil))) := fun _ => rfl
    clear app
    refine iteD (fun cc => ?_) (fun cc => ?_)
    · have c' : clt fb c < fb.length := by omega
      obtain ⟨d, hd1⟩ : ∃ d, fb[clt fb c]? = some d := ⟨_, List.getElem?_eq_getElem c'⟩
      obtain ⟨y, hy, dy⟩ := atB _ _ hd1
      have hSd := sB d (List.mem_of_getElem? hd1)
      refine ⟨_, rfl, _, rfl, rIx_sq (v := y) hb4 (atI_nat hy) ?_⟩
      refine ⟨_, rfl, _, _, (Nd.of e14).d dy, (Nd.of e14).d dx, shaped_fm (o.fm d hSd) hn, shaped_fm (o.fm c (sA c hcm)) hn, _, rfl, ?_⟩
      have ae := (o.toOrd.eqv hSd (sA c hcm)).trans (asc_at aB hd1)
      by_cases he : c ∈ fb
      · rw [ae.mpr he]
        rw [if_pos he] at s4 fin
        refine ⟨_, rfl, _, _, rfl, rfl, ?_⟩
        exact fin us4 H4 (clt fb c + 1) s4.symm e14 hp4 (by rw [List.append_nil]; exact d4)
      · have : PyData.eqv (g d) (g c) = false := Bool.eq_false_iff.mpr fun h => he (ae.mp h)
        rw [this]
        rw [if_neg he] at s4 fin
        refine ⟨_, rfl, .inl ⟨rfl, _, SqL.of hp4⟩, _, rfl, p, _, _, rfl, rfl, hp4, Nat.lt_of_le_of_lt l4' (by decide), ?_⟩
        exact fin (us4 ++ [x]) _ (clt fb c) s4.symm (Same.mut e14 np) upd_same (by rw [List.map_append]; exact dps_app d4 (.cons dx .nil))
    · have he : c ∉ fb := fun he => by
        rw [if_pos he] at s4
        omega
      rw [if_neg he] at s4 fin
      refine iteF ?_
      refine ⟨_, rfl, .inl ⟨rfl, _, SqL.of hp4⟩, _, rfl, p, _, _, rfl, rfl, hp4, Nat.lt_of_le_of_lt l4' (by decide), ?_⟩
      exact fin (us4 ++ [x]) _ (clt fb c) s4.symm (Same.mut e14 np) upd_same (by rw [List.map_append]; exact dps_app d4 (.cons dx .nil))
  · obtain ⟨st, us, M, z6, z7, rfl, e, hp, dM, eq, hst, low⟩ := h
    rw [la, List.drop_length] at eq
    have eq : M ++ fb.drop st = mrg fa fb := eq
    have tot := congrArg List.length eq
    have ml := mrg_len fa fb
    rw [List.length_append, List.length_drop] at tot
    have lus : us.length = M.length := by rw [dps_length dM, List.length_map]
    refine ⟨_, rfl, .inl ⟨rfl, _, SqL.of hp⟩, _, rfl, _, rfl, _, rfl, v, bs, rfl, hb.same e, fun w1 H3 e3 _ hw1 => ?_⟩
    have ec : cutV bs (some (st : Int)) none = bs.drop st := cut_from (by omega)
    rw [ec] at hw1
    refine ⟨p, w1, us, _, rfl, rfl, e3 _ _ hp, hw1, ?_, ?_⟩
    · rw [List.length_drop]
      exact Nat.le_trans (show _ ≤ 100000 by omega) (by decide)
    · have e14 : Same H1 (upd H3 p (.lst (us ++ bs.drop st))) := Same.mut (e.trans e3) np
      refine ⟨_, rfl, q p _ _ (e1.trans e14) upd_same ?_⟩
      rw [← eq, List.map_append, List.map_drop]
      exact (Nd.of e14).ds (dps_app dM (dps_drop _ dB))
abbrev S_flipped_turns : Stmt := top 35
abbrev N_flipped_turns : List Str := ["turns"]
abbrev P_flipped_turns : List Str := ["turns"]
theorem sc_flipped_turns : FnScope N_flipped_turns P_flipped_turns (defScope S_flipped_turns) := ⟨rfl, rfl, rfl, by decide +kernel, rfl, by decide +kernel, by decide +kernel⟩
def spFlip (K : PySem.W.Frag) (g : Int → PyData) (S : Int → Prop) : Sp := fun vs H Q _ => ∃ (a : Addr) (l : List Int), vs = [.ref a] ∧ Pls K H g a l ∧ (∀ t ∈ l, S t) ∧ l.length ≤ 30000 ∧ ∀ (p : Addr) (us : List V) (H' : Hp), Same H H' → H' p = some (.lst us) → DpAll K H' us ((flp l).map g) → Q (.ref p) H'
theorem ok_flip {n : Nat} (hn : n ≤ 40) {g : Int → PyData} {S : Int → Prop} (o : OrdN n g S) (z0 : S 0) (F : Fun K "flipped_turns" "flipped_turns" S_flipped_turns f fd) (B : Blt mg) : FnOk P w K mg base CX0 1 f fd P_flipped_turns (spFlip K g S) := by
  have nd := sc_flipped_turns.nd
  refine F.ok sc_flipped_turns (fun vs H Q E h => ?_) (fun cdv A outer s H vs Q E hr h => ?_)
  · obtain ⟨a, l, rfl, _⟩ := h
    rfl
  obtain ⟨a, l, rfl, hp, hS, l4, q⟩ := h
  refine ⟨_, (pss_cons (ps_if (PW.pt (pw_and (pt_cmpR op_gt (pe_callB (call_lenS K) (by rfl) B.len PySem.boot_len (pa_cons (pv 0) pa_nil)) pe_int (nomark _)) (pw_and1 (pt_cmpR (op_eqD hr.units) (pe_ix (ix_seqK K) (pv 0) pe_int (fun _ _ => rfl)) pe_int (nomark _))))) (pss_one (ps_ret (pe_callTy (call_listS K) (by rfl) B.list (by decide +kernel) (pa_cons (pe_slice (sl_seq K) (pv 0) (po_some pe_int) po_none) pa_nil)))) pss_nil)
    (pss_one (ps_ret (pe_lst (pa_cons pe_int (StX.pa_star (pv 0) pa_nil)))))), ?_⟩
  obtain ⟨vs, hs, hl, hd, hat⟩ := hp.at
  have g0 : g 0 = .int 0 := o.near 0 z0 (by decide)
  refine ⟨_, rfl, a, vs, rfl, hs, _, _, rfl, rfl, _, rfl, ?_⟩
  have star : (flp l = 0 :: l) → tRet (tLst (tCons (tC (.int 0)) (StX.tStar K (tVar 0) tNil))) { nx := fun _ H' => Q .non H', rt := Q } [some (.ref a)] H := fun ef => by
    refine ⟨_, rfl, a, vs, rfl, hs.any.symm, ?_⟩
    refine ⟨?_, fun p np => q p _ _ (Same.new np) upd_same ?_⟩
    · show (vs ++ []).length + 1 ≤ sizeLine
      rw [List.append_nil]
      exact Nat.le_trans (show _ ≤ 30001 by omega) (by decide)
    · rw [ef]
      show DpAll K _ (V.int 0 :: (vs ++ [])) (g 0 :: l.map g)
      rw [List.append_nil, g0]
      exact .cons (.int 0) ((Nd.of (Same.new np)).ds hd)
  refine iteD (fun cc => ?_) (fun cc => ?_)
  · cases l with
    | nil => simp at hl; subst hl; simp at cc
    | cons t r =>
      obtain ⟨x, hx, dx⟩ := hat 0 t rfl
      have hSt := hS t List.mem_cons_self
      refine ⟨_, rfl, rIx_sq hs (atI_nat hx) ?_⟩
      refine ⟨_, _, dx, .int 0, shaped_fm (o.fm t hSt) hn, rfl, _, rfl, ?_⟩
      have ae := o.toOrd.eqv hSt z0
      rw [g0] at ae
      by_cases h0 : t = 0
      · rw [ae.mpr h0]
        subst h0
        refine ⟨_, rfl, _, rfl, a, vs, rfl, hs, fun b1 H1 e1 _ k1 => ?_⟩
        have ec : cutV vs (some 1) none = vs.drop 1 := cut_from (i := 1) (by rw [hl]; simp)
        rw [ec] at k1
        refine ⟨b1, _, rfl, k1, fun p np => q p _ _ (e1.trans (Same.new np)) upd_same ?_⟩
        exact dps_drop (ds := (0 :: r).map g) 1 ((Nd.of (e1.trans (Same.new np))).ds hd)
      · have : PyData.eqv (g t) (.int 0) = false := Bool.eq_false_iff.mpr fun h => h0 (ae.mp h)
        rw [this]
        refine star ?_
        unfold flp
        split
        · rename_i e; cases e; exact absurd rfl h0
        · rfl
  · refine iteF (star ?_)
    cases l with
    | nil => rfl
    | cons t r =>
      have : 0 < vs.length := by rw [hl]; simp
      omega
abbrev S_common_turns : Stmt := top 36
abbrev N_common_turns : List Str := ["x", "y", "few", "many", "common", "behind", "k", "at"]
abbrev P_common_turns : List Str := ["x", "y"]
theorem sc_common_turns : FnScope N_common_turns P_common_turns (defScope S_common_turns) := ⟨rfl, rfl, rfl, by decide +kernel, rfl, by decide +kernel, by decide +kernel⟩
def spCommon (K : PySem.W.Frag) (g : Int → PyData) (S : Int → Prop) : Sp := fun vs H Q _ => ∃ (a b : Addr) (l m : List Int), vs = [.ref a, .ref b] ∧ Pls K H g a l ∧ Pls K H g b m ∧ l.Pairwise (· < ·) ∧ m.Pairwise (· < ·) ∧ (∀ t ∈ l, S t) ∧ (∀ t ∈ m, S t) ∧ l.length + m.length ≤ 4000 ∧
  ∀ (p : Addr) (us : List V) (H' : Hp), Same H H' → H' p = some (.lst us) → DpAll K H' us ((com (fm2 l m).2 (fm2 l m).1).map g) → Q (.ref p) H'
theorem rg2 (n : Nat) (h : n ≤ 10000) : RgC 0 (n : Int) 2 ((n + 1) / 2) := by
  have e : Builtin.Range.rangeSize 0 (n : Int) 2 = (((n + 1) / 2 : Nat) : Int) := by
    unfold Builtin.Range.rangeSize
    rw [if_pos (by decide)]
    split <;> omega
  refine ⟨by decide, by decide, ?_, e⟩
  unfold Builtin.Range.small
  rw [e]
  generalize (n + 1) / 2 = m at e
  have hm : m ≤ 10000 := by
    unfold Builtin.Range.rangeSize at e
    rw [if_pos (by decide)] at e
    split at e <;> omega
  have fits : ∀ i : Int, -20000 ≤ i → i ≤ 20000 → Builtin.Range.rangeFitsLong i = true := fun i h1 h2 => by
    unfold Builtin.Range.rangeFitsLong
    rw [decide_eq_true (show -(2 ^ 63) ≤ i by omega), decide_eq_true (show i < 2 ^ 63 by omega)]
    rfl
  simp [fits (n : Int) (by omega) (by omega), fits (m : Int) (by omega) (by omega), fits 0 (by decide) (by decide), fits 2 (by decide) (by decide), fits ((n : Int) + 1) (by omega) (by omega)]
theorem com_len (B : List Int) : ∀ A : List Int, (com B A).length ≤ (A.length + 1) * (B.length + 2)
  | [] => Nat.zero_le _
  | [u] => by
    show ((if cnt B u % 2 = 1 then [u] else []) ++ B.drop (cnt B u)).length ≤ _
    rw [List.length_append, List.length_drop]
    show _ ≤ 2 * (B.length + 2)
    split <;> simp <;> omega
  | u :: v :: A => by
    have ih := com_len B A
    show ((if cnt B u % 2 = 1 then [u] else []) ++ ((B.take (clt B v)).drop (cnt B u) ++ ((if clt B v % 2 = 1 then [v] else []) ++ com B A))).length ≤ (A.length + 2 + 1) * (B.length + 2)
    rw [List.length_append, List.length_append, List.length_append, List.length_drop, List.length_take]
    have e : (A.length + 2 + 1) * (B.length + 2) = (A.length + 1) * (B.length + 2) + 2 * (B.length + 2) := by rw [← Nat.add_mul]
    rw [e]
    split <;> split <;> simp <;> omega
theorem ok_common {n : Nat} {g : Int → PyData} {S : Int → Prop} (o : OrdN n g S) (F : Fun K "common_turns" "common_turns" S_common_turns f fd) (B : Blt mg) (Cshorter_first : Has P w K mg base 1 "shorter_first" P_shorter_first [] (spShort K)) (Cturns_before : Has P w K mg base (2 * n + 4) "turns_before" P_turns_before [] (spBefore K g S))
    (Cturns_up_to : Has P w K mg base (2 * n + 5) "turns_up_to" P_turns_up_to [] (spUpTo K g S)) : FnOk P w K mg base CX0 (2 * n + 6) f fd P_common_turns (spCommon K g S) := by
  have nd := sc_common_turns.nd
  refine F.ok sc_common_turns (fun vs H Q E h => ?_) (fun cdv A outer s H vs Q E hr h => ?_)
  · obtain ⟨a, b, l, m, rfl, _⟩ := h
    rfl
  obtain ⟨a, b, l, m, rfl, hl, hm, al, am, sl, sm, l4, q⟩ := h
  refine ⟨_, (pss_cons (ps_asg (pe_H Cshorter_first (hr.mono (by omega)) rfl (pa_cons (pv 0) (pa_cons (pv 1) pa_nil))) (pg_tup rfl (pgs_cons (pg_name (i := 2) nd rfl (Or.inl rfl)) (pgs_cons (pg_name (i := 3) nd rfl (Or.inl rfl)) pgs_nil))))
    (pss_cons (ps_set (i := 4) nd rfl (Or.inl rfl) (pe_lst pa_nil))
    (pss_cons (ps_set (i := 5) nd rfl (Or.inl rfl) pe_int)
    (pss_cons (ps_for PassesOwn.never rfl (pi_range3 (by rfl) B.range (pa_cons pe_int (pa_cons (pe_callB (call_lenS K) (by rfl) B.len PySem.boot_len (pa_cons (pv 2) pa_nil)) (pa_cons pe_int pa_nil)))) (pg_name (i := 6) nd rfl (Or.inl rfl)) (pss_cons (ps_set (i := 7) nd rfl (Or.inl rfl) (pe_H Cturns_up_to (hr.mono (by omega)) rfl (pa_cons (pv 3) (pa_cons (pe_ix (ix_seqK K) (pv 2) (pv 6) (fun _ _ => rfl)) (pa_cons (pv 5) pa_nil)))))
    (C8.pss_cut (ps_if (pt_truth (pe_op op_and (pv 7) pe_int) (by intro _; rfl)) (pss_one (ps_expr (pe_bm PySem.F.plainAttrs_list PySem.F.slot_list_append PySem.F.type_list_append mt_append (pv 4) (pa_cons (pe_ix (ix_seqK K) (pv 2) (pv 6) (fun _ _ => rfl)) pa_nil)))) pss_nil)
    (pss_one (ps_if (pt_cmpR op_eq (pe_op op_add (pv 6) pe_int) (pe_callB (call_lenS K) (by rfl) B.len PySem.boot_len (pa_cons (pv 2) pa_nil)) (nomark _)) (pss_one (ps_expr (pe_bm PySem.F.plainAttrs_list PySem.F.slot_list_extend PySem.F.type_list_extend (mt_extS K) (pv 4) (pa_cons (pe_slice (sl_seq K) (pv 3) (po_some (pv 7)) po_none) pa_nil)))) (pss_cons (ps_set (i := 5) nd rfl (Or.inl rfl) (pe_H Cturns_before (hr.mono (by omega)) rfl (pa_cons (pv 3) (pa_cons (pe_ix (ix_seqK K) (pv 2) (pe_op op_add (pv 6) pe_int) (fun _ _ => rfl)) (pa_cons (pv 7) pa_nil)))))
    (pss_cons (ps_expr (pe_bm PySem.F.plainAttrs_list PySem.F.slot_list_extend PySem.F.type_list_extend (mt_extS K) (pv 4) (pa_cons (pe_slice (sl_seq K) (pv 3) (po_some (pv 7)) (po_some (pv 5))) pa_nil)))
    (pss_one (ps_if (pt_truth (pe_op op_and (pv 5) pe_int) (by intro _; rfl)) (pss_one (ps_expr (pe_bm PySem.F.plainAttrs_list PySem.F.slot_list_append PySem.F.type_list_append mt_append (pv 4) (pa_cons (pe_ix (ix_seqK K) (pv 2) (pe_op op_add (pv 6) pe_int) (fun _ _ => rfl)) pa_nil)))) pss_nil)))))))))
    (pss_one (ps_ret (pv 4))))))), ?_⟩
  obtain ⟨xs, hs, lxs, _, _⟩ := hl.at
  obtain ⟨ys, ht, lys, _, _⟩ := hm.at
  refine ⟨_, rfl, _, rfl, a, b, xs, ys, rfl, hs, ht, fun t H1 e1 hT => ?_⟩
  obtain ⟨u, v, fa, fb, ep, e2, hA, hB, aA, aB, sA, sB, lAB⟩ := two_pls lxs lys (hl.same e1) (hm.same e1) al am sl sm
  rw [ep] at hT
  rw [e2] at q
  obtain ⟨as, ha, la, dA, atA⟩ := hA.at
  obtain ⟨bs, hb, lb, dB, atB⟩ := hB.at
  refine ⟨_, _, rfl, hT, rfl, _, _, rfl, _, _, rfl, rfl, ?_⟩
  refine ⟨(by show 0 ≤ sizeLine; decide), fun p np => ?_⟩
  refine ⟨_, rfl, u, as, rfl, ha.same (Same.new np), _, _, _, (as.length + 1) / 2, rfl, rg2 _ (by omega), ?_⟩
  have cap : ∀ M : List Int, ∀ R : List Int, M ++ R = com fb fa → M.length ≤ 16012002 := fun M R h => by
    have h1 := com_len fb fa
    have h2 := congrArg List.length h
    rw [List.length_append] at h2
    have h3 : (fa.length + 1) * (fb.length + 2) ≤ 4001 * 4002 := Nat.mul_le_mul (by omega) (by omega)
    omega
  have bit1 : ∀ n : Nat, (Builtin.bitAnd (n : Int) 1 != 0) = decide (n % 2 = 1) := fun n => by
    rw [PyProof.Rows.bitAnd_m1]
    by_cases h : n % 2 = 1
    · rw [decide_eq_true h]
      have : ((n : Int) % 2) = 1 := by omega
      rw [this]
      rfl
    · rw [decide_eq_false h]
      have : ((n : Int) % 2) = 0 := by omega
      rw [this]
      rfl
  refine for_rangeC (lo := 0) (c := 2) (n := (as.length + 1) / 2) (fun i σ H' => ∃ (us : List V) (M : List Int) (bh : Nat) (z6 z7 : Option V), σ = [some (.ref a), some (.ref b), some (.ref u), some (.ref v), some (.ref p), some (.int (bh : Int)), z6, z7] ∧ (∀ t ∈ fa.drop (2 * i), bh ≤ clt fb t) ∧ Same H1 H' ∧ H' p = some (.lst us) ∧ DpAll K H1 us (M.map g) ∧ M ++ com fb (fa.drop (2 * i)) = com fb fa)
    ⟨[], [], 0, _, _, rfl, fun t _ => Nat.zero_le _, Same.new np, upd_same, .nil, rfl⟩ (fun i σ H' hi h => ?_) (fun σ H' h => ?_)
  · obtain ⟨us, M, bh, z6, z7, rfl, hbh, e, hp, dM, eq⟩ := h
    have ek : (0 : Int) + (i : Nat) * 2 = ((2 * i : Nat) : Int) := by omega
    rw [ek]
    have hk : 2 * i < fa.length := by omega
    obtain ⟨c, hc⟩ : ∃ c, fa[2 * i]? = some c := ⟨_, List.getElem?_eq_getElem hk⟩
    obtain ⟨x, hx, dx⟩ := atA _ c hc
    have hcm := List.mem_of_getElem? hc
    have dr : fa.drop (2 * i) = c :: fa.drop (2 * i + 1) := by
      obtain ⟨h1, h2⟩ := List.getElem?_eq_some_iff.mp hc
      rw [List.drop_eq_getElem_cons h1, h2]
    have lus : ∀ {us : List V} {M : List Int}, DpAll K H1 us (M.map g) → us.length = M.length := fun d => by rw [dps_length d, List.length_map]
    have ha' := ha.same e
    refine ⟨_, rfl, _, rfl, _, rfl, rIx_sq ha' (atI_nat hx) ?_⟩
    refine ⟨_, rfl, v, x, fb, c, bh, rfl, hB.same e, (Nd.of e).d dx, aB, sB, sA c hcm, hbh c (by rw [dr]; exact List.mem_cons_self), by omega, fun H2 e2 => ?_⟩
    have e12 := e.trans e2
    have hp2 := e2 _ _ hp
    refine ⟨fun σ' H'' => ∃ us' : List V, σ' = [some (.ref a), some (.ref b), some (.ref u), some (.ref v), some (.ref p), some (.int (bh : Int)), some (.int ((2 * i : Nat) : Int)), some (.int (cnt fb c : Int))] ∧ Same H1 H'' ∧ H'' p = some (.lst us') ∧ DpAll K H1 us' ((M ++ (if cnt fb c % 2 = 1 then [c] else [])).map g), ?_, ?_⟩
    · refine ⟨_, rfl, _, _, rfl, rfl, _, rfl, ?_⟩
      rw [bit1]
      by_cases h1 : cnt fb c % 2 = 1
      · rw [decide_eq_true h1]
        refine iteT ?_
        refine ⟨_, rfl, .inl ⟨rfl, _, SqL.of hp2⟩, _, rfl, _, rfl, rIx_sq (ha'.same e2) (atI_nat hx) ?_⟩
        refine ⟨p, us, x, rfl, rfl, hp2, ?_, us ++ [x], rfl, Same.mut e12 np, upd_same, ?_⟩
        · rw [lus dM]
          exact Nat.lt_of_le_of_lt (cap _ _ eq) (by decide)
        · rw [if_pos h1, List.map_append]
          exact dps_app dM (.cons dx .nil)
      · rw [decide_eq_false h1]
        refine iteF ⟨us, rfl, e12, hp2, ?_⟩
        rw [if_neg h1, List.append_nil]
        exact dM
    rintro σ' H3 ⟨us3, rfl, e3, hp3, d3⟩
    refine ⟨_, rfl, _, _, rfl, rfl, _, rfl, u, as, rfl, ha.same e3, rfl, _, rfl, ?_⟩
    refine iteD (fun cc => ?_) (fun cc => ?_)
    · have cc' : 2 * i + 1 = fa.length := by injection cc with cc; omega
      have nil1 : fa.drop (2 * i + 1) = [] := List.drop_of_length_le (by omega)
      rw [dr, nil1] at eq
      have eq : M ++ ((if cnt fb c % 2 = 1 then [c] else []) ++ fb.drop (cnt fb c)) = com fb fa := eq
      rw [← List.append_assoc] at eq
      have cn := cnt_le fb c
      refine ⟨_, rfl, .inl ⟨rfl, _, SqL.of hp3⟩, _, rfl, _, rfl, _, rfl, v, bs, rfl, hb.same e3, fun w1 H4 e4 _ hw1 => ?_⟩
      have ec : cutV bs (some (cnt fb c : Int)) none = bs.drop (cnt fb c) := cut_from (by omega)
      rw [ec] at hw1
      refine ⟨p, w1, us3, _, rfl, rfl, e4 _ _ hp3, hw1, ?_, us3 ++ bs.drop (cnt fb c), M ++ (if cnt fb c % 2 = 1 then [c] else []) ++ fb.drop (cnt fb c), bh, _, _, rfl, (fun t ht => by rw [show fa.drop (2 * (i + 1)) = [] from List.drop_of_length_le (by omega)] at ht; cases ht), Same.mut (e3.trans e4) np, upd_same, ?_, ?_⟩
      · have := cap (M ++ (if cnt fb c % 2 = 1 then [c] else []) ++ fb.drop (cnt fb c)) [] (by rw [List.append_nil]; exact eq)
        rw [List.length_append] at this
        rw [lus d3, List.length_drop, lb, ← List.length_drop]
        exact Nat.le_trans this (by decide)
      · rw [List.map_append, List.map_drop]
        exact dps_app d3 (dps_drop _ dB)
      · rw [show fa.drop (2 * (i + 1)) = [] from List.drop_of_length_le (by omega)]
        show _ ++ [] = _
        rw [List.append_nil]
        exact eq
    · have cc' : 2 * i + 1 < fa.length := by
        have : 2 * i + 1 ≠ fa.length := fun h => cc (by show V.int (((2 * i : Nat) : Int) + 1) = V.int (as.length : Int); rw [la, ← h]; rfl)
        omega
      obtain ⟨d, hd⟩ : ∃ d, fa[2 * i + 1]? = some d := ⟨_, List.getElem?_eq_getElem cc'⟩
      obtain ⟨y, hy, dy⟩ := atA _ d hd
      have hdm := List.mem_of_getElem? hd
      have dr2 : fa.drop (2 * i + 1) = d :: fa.drop (2 * (i + 1)) := by
        obtain ⟨h1, h2⟩ := List.getElem?_eq_some_iff.mp hd
        rw [List.drop_eq_getElem_cons h1, h2]
        rfl
      have hcd : c < d := by
        have := aA.sublist (List.drop_sublist (2 * i) fa)
        rw [dr, dr2] at this
        exact (List.pairwise_cons.mp this).1 d List.mem_cons_self
      rw [dr, dr2] at eq
      have eq : M ++ ((if cnt fb c % 2 = 1 then [c] else []) ++ ((fb.take (clt fb d)).drop (cnt fb c) ++ ((if clt fb d % 2 = 1 then [d] else []) ++ com fb (fa.drop (2 * (i + 1)))))) = com fb fa := eq
      rw [← List.append_assoc, ← List.append_assoc] at eq
      have cn := cnt_clt aB hcd
      have cl := clt_le fb d
      have up : ∀ t ∈ fa.drop (2 * (i + 1)), clt fb d ≤ clt fb t := fun t ht => by
        have h1 : d < t := by
          have := aA.sublist (List.drop_sublist (2 * i + 1) fa)
          rw [dr2] at this
          exact (List.pairwise_cons.mp this).1 t ht
        have h2 := cnt_clt aB h1
        have h3 := (split3 d aB).2.2.2
        have h4 : clt fb d ≤ cnt fb d := by split at h3 <;> omega
        omega
      have ek2 : ((2 * i : Nat) : Int) + 1 = ((2 * i + 1 : Nat) : Int) := by omega
      refine ⟨_, rfl, _, rfl, _, rfl, _, _, rfl, rfl, rIx_sq (v := y) (ha.same e3) (by rw [ek2]; exact atI_nat hy) ?_⟩
      refine ⟨_, rfl, v, y, fb, d, cnt fb c, rfl, hB.same e3, (Nd.of e3).d dy, aB, sB, sA d hdm, cn, by omega, fun H4 e4 => ?_⟩
      refine ⟨_, rfl, .inl ⟨rfl, _, SqL.of (e4 _ _ hp3)⟩, _, rfl, _, rfl, _, rfl, _, rfl, _, rfl, v, bs, rfl, (hb.same e3).same e4, fun w1 H5 e5 _ hw1 => ?_⟩
      have ec : cutV bs (some (cnt fb c : Int)) (some (clt fb d : Int)) = (bs.take (clt fb d)).drop (cnt fb c) := cut_nat (by omega) (by omega)
      rw [ec] at hw1
      have cp := cap _ _ eq
      rw [List.length_append, List.length_drop, List.length_take] at cp
      have fit : us3.length + ((bs.take (clt fb d)).drop (cnt fb c)).length ≤ 16012002 := by
        rw [lus d3, List.length_drop, List.length_take]
        omega
      refine ⟨p, w1, us3, _, rfl, rfl, e5 _ _ (e4 _ _ hp3), hw1, Nat.le_trans fit (by decide), ?_⟩
      have e6 : Same H1 (upd H5 p (.lst (us3 ++ (bs.take (clt fb d)).drop (cnt fb c)))) := Same.mut (e3.trans (e4.trans e5)) np
      have d6 : DpAll K H1 (us3 ++ (bs.take (clt fb d)).drop (cnt fb c)) ((M ++ (if cnt fb c % 2 = 1 then [c] else []) ++ (fb.take (clt fb d)).drop (cnt fb c)).map g) := by
        rw [List.map_append, List.map_drop, List.map_take]
        exact dps_app d3 (dps_drop _ (dps_take _ dB))
      have hp6 : upd H5 p (.lst (us3 ++ (bs.take (clt fb d)).drop (cnt fb c))) p = some (.lst (us3 ++ (bs.take (clt fb d)).drop (cnt fb c))) := upd_same
      have l6 : (us3 ++ (bs.take (clt fb d)).drop (cnt fb c)).length ≤ 16012002 := by rw [List.length_append]; exact fit
      generalize us3 ++ (bs.take (clt fb d)).drop (cnt fb c) = us6 at e6 d6 hp6 l6 ⊢
      generalize upd H5 p (.lst us6) = H6 at e6 hp6 ⊢
      refine ⟨_, rfl, _, _, rfl, rfl, _, rfl, ?_⟩
      rw [bit1]
      rw [← List.append_assoc] at eq
      by_cases h1 : clt fb d % 2 = 1
      · rw [decide_eq_true h1]
        rw [if_pos h1] at eq
        refine iteT ?_
        refine ⟨_, rfl, .inl ⟨rfl, _, SqL.of hp6⟩, _, rfl, _, rfl, _, _, rfl, rfl, rIx_sq (v := y) (ha.same e6) (by rw [ek2]; exact atI_nat hy) ?_⟩
        refine ⟨p, us6, y, rfl, rfl, hp6, Nat.lt_of_le_of_lt l6 (by decide), us6 ++ [y], _, clt fb d, _, _, rfl, up, Same.mut e6 np, upd_same, ?_, eq⟩
        rw [List.map_append]
        exact dps_app d6 (.cons dy .nil)
      · rw [decide_eq_false h1]
        rw [if_neg h1, List.append_nil] at eq
        refine iteF ⟨us6, _, clt fb d, _, _, rfl, up, e6, hp6, d6, eq⟩
  · obtain ⟨us, M, bh, z6, z7, rfl, _, e, hp, dM, eq⟩ := h
    rw [show fa.drop (2 * ((as.length + 1) / 2)) = [] from List.drop_of_length_le (by omega)] at eq
    have eq : M ++ [] = com fb fa := eq
    rw [List.append_nil] at eq
    rw [eq] at dM
    exact ⟨_, rfl, q p us _ (e1.trans e) hp ((Nd.of e).ds dM)⟩
end
end Fb
namespace Fb
open PySem L2
/-! ### numbers whose places are near ints -/
def mv (g : Int → PyData) (c : Int) : Int := match g c with
  | .int i => i
  | _ => 0
theorem mv_int {g : Int → PyData} {c i : Int} (h : g c = .int i) : mv g c = i := by unfold mv; rw [h]
/-- the places of z are ints, and not far -/
def Near (g : Int → PyData) (z : Int) : Prop := ∀ c ∈ Tl z, g c = .int (mv g c) ∧ 0 ≤ mv g c ∧ mv g c ≤ 520000
/-- no place beyond M -/
def NearB (g : Int → PyData) (M : Int) (z : Int) : Prop := ∀ c ∈ Tl z, mv g c ≤ M
/-- both so, or neither of them with many -/
def Lo2 (_ : Int → PyData) (x y : Int) : Prop := (Tl x).length + (Tl y).length ≤ 8000
def XN (g : Int → PyData) (z : Int) : Int := alt (-1) ((Tl z).map fun c => (mv g c).toNat)
theorem mv_mono {n : Nat} {g : Int → PyData} {S : Int → Prop} (o : OrdN n g S) {c d : Int} (sc : S c) (sd : S d) (hc : g c = .int (mv g c)) (hd : g d = .int (mv g d)) : mv g c < mv g d ↔ c < d := by
  have h := o.ord c d sc sd
  have ec : cmpD n (.int (mv g c)) (.int (mv g d)) = sgnI (mv g c) (mv g d) := by cases n <;> rfl
  rw [hc, hd, ec] at h
  rw [← sgn_lt, h, sgn_lt]
theorem tl_XN {n : Nat} {g : Int → PyData} {S : Int → Prop} (o : OrdN n g S) {z : Int} (hz : Num g S z) (hn : Near g z) : Tl (XN g z) = (Tl z).map (mv g) := by
  have asc : ((Tl z).map fun c => (mv g c).toNat).Pairwise (· < ·) := by
    rw [List.pairwise_map]
    refine (tl_asc z).imp_of_mem fun {a b} ha hb h => ?_
    have := (mv_mono o (hz.mem a ha) (hz.mem b hb) (hn a ha).1 (hn b hb).1).mpr h
    have := (hn a ha).2.1
    omega
  have e : ((Tl z).map fun c => (mv g c).toNat) = ((Tl z).map (mv g)).map Int.toNat := by rw [List.map_map]; rfl
  show zs (turnsN (alt (-1) ((Tl z).map fun c => (mv g c).toNat))) = _
  rw [turns_of_alt asc, e, zs_toNat]
  · intro a ha
    obtain ⟨c, hc, rfl⟩ := List.mem_map.mp ha
    exact (hn c hc).2.1
section
variable {m : Int → Int} {R : Int → Prop} (hm : ∀ c d, R c → R d → (m c < m d ↔ c < d))
include hm
theorem cnt_map {l : List Int} (hl : ∀ c ∈ l, R c) {c : Int} (hc : R c) : cnt (l.map m) (m c) = cnt l c := by
  unfold cnt
  rw [List.filter_map, List.length_map]
  congr 1
  refine List.filter_congr fun t ht => ?_
  show decide (m t ≤ m c) = decide (t ≤ c)
  have := hm c t hc (hl t ht)
  exact decide_eq_decide.mpr (by omega)
theorem clt_map {l : List Int} (hl : ∀ c ∈ l, R c) {c : Int} (hc : R c) : clt (l.map m) (m c) = clt l c := by
  unfold clt
  rw [List.filter_map, List.length_map]
  congr 1
  refine List.filter_congr fun t ht => ?_
  show decide (m t < m c) = decide (t < c)
  exact decide_eq_decide.mpr (hm t c (hl t ht) hc)
theorem mem_mapM {l : List Int} (hl : ∀ c ∈ l, R c) {c : Int} (hc : R c) : m c ∈ l.map m ↔ c ∈ l := by
  constructor
  · intro h
    obtain ⟨t, ht, e⟩ := List.mem_map.mp h
    have h1 := hm t c (hl t ht) hc
    have h2 := hm c t hc (hl t ht)
    have : t = c := by omega
    rw [← this]; exact ht
  · exact fun h => List.mem_map_of_mem h
theorem mrg_map : ∀ {A B : List Int}, (∀ c ∈ A, R c) → (∀ c ∈ B, R c) → mrg (A.map m) (B.map m) = (mrg A B).map m
  | [], B, _, _ => rfl
  | a :: A, B, hA, hB => by
    have ha := hA a List.mem_cons_self
    show (B.map m).take (clt (B.map m) (m a)) ++ ((if m a ∈ B.map m then [] else [m a]) ++ mrg (A.map m) ((B.map m).drop (cnt (B.map m) (m a)))) = (B.take (clt B a) ++ ((if a ∈ B then [] else [a]) ++ mrg A (B.drop (cnt B a)))).map m
    rw [cnt_map hm hB ha, clt_map hm hB ha, ← List.map_drop, mrg_map (fun c h => hA c (List.mem_cons_of_mem _ h)) (fun c h => hB c (List.mem_of_mem_drop h)), List.map_append, List.map_append, List.map_take]
    congr 2
    by_cases h : a ∈ B
    · rw [if_pos h, if_pos ((mem_mapM hm hB ha).mpr h)]; rfl
    · rw [if_neg h, if_neg (fun k => h ((mem_mapM hm hB ha).mp k))]; rfl
theorem com_map {B : List Int} (hB : ∀ c ∈ B, R c) : ∀ {A : List Int}, (∀ c ∈ A, R c) → com (B.map m) (A.map m) = (com B A).map m
  | [], _ => rfl
  | [u], hA => by
    have hu := hA u List.mem_cons_self
    show (if cnt (B.map m) (m u) % 2 = 1 then [m u] else []) ++ (B.map m).drop (cnt (B.map m) (m u)) = ((if cnt B u % 2 = 1 then [u] else []) ++ B.drop (cnt B u)).map m
    rw [cnt_map hm hB hu, List.map_append, List.map_drop]
    congr 1
    split <;> rfl
  | u :: v :: A, hA => by
    have hu := hA u List.mem_cons_self
    have hv := hA v (List.mem_cons_of_mem _ List.mem_cons_self)
    show (if cnt (B.map m) (m u) % 2 = 1 then [m u] else []) ++ (((B.map m).take (clt (B.map m) (m v))).drop (cnt (B.map m) (m u)) ++ ((if clt (B.map m) (m v) % 2 = 1 then [m v] else []) ++ com (B.map m) (A.map m))) = ((if cnt B u % 2 = 1 then [u] else []) ++ ((B.take (clt B v)).drop (cnt B u) ++ ((if clt B v % 2 = 1 then [v] else []) ++ com B A))).map m
    rw [cnt_map hm hB hu, clt_map hm hB hv, com_map hB (fun c h => hA c (List.mem_cons_of_mem _ (List.mem_cons_of_mem _ h))), List.map_append, List.map_append, List.map_append, List.map_drop, List.map_take]
    congr 1
    · split <;> rfl
    · congr 1
      congr 1
      split <;> rfl
end
theorem formD_num {z : Int} (hl : (Tl z).length ≤ 8500) : formD z = numD PyData.int z := by
  have hz : Num PyData.int (fun a => 0 ≤ a) z := ⟨tl_pos z, hl⟩
  rcases num_cases (ordN_int 0) hz with ⟨pl, e, _⟩ | ⟨npl, e, _⟩
  · rw [e]; unfold formD; rw [if_pos pl]
  · rw [e]
    unfold formD
    rw [if_neg npl]
    congr 1
    unfold Tl zs nD
    rw [List.map_map]
    rfl
theorem near_form {g : Int → PyData} {w W : Int} (e : Tl W = (Tl w).map (mv g)) (hl : (Tl w).length ≤ 8500) (hg : ∀ c ∈ Tl w, g c = .int (mv g c)) : formD W = numD g w := by
  rw [formD_num (by rw [e, List.length_map]; exact hl)]
  unfold numD rowF
  rw [e, List.map_map]
  congr 1
  exact List.map_congr_left fun c hc => (hg c hc).symm
theorem inB_tl {W : Int} {b : Nat} (hb : b ≤ 599998) (h : ∀ c ∈ Tl W, c ≤ (b : Int)) : InB W := by
  have hp : ∀ p ∈ turnsN W, p < b + 1 := fun p hp => by
    have := h ((p : Nat) : Int) (List.mem_map.mpr ⟨p, hp, rfl⟩)
    omega
  have := alt_lt (s := -1) (.inr rfl) (n := b + 1) (turns_asc W) hp
  rw [turns_alt] at this
  exact InB.of (n := b + 1) (Int.le_of_lt this.1) this.2 (by omega)
/-- the last place is an int: all are -/
theorem near_last {n : Nat} {g : Int → PyData} {S : Int → Prop} (o : OrdN n g S) (nn : ∀ c, S c → negD (g c) = false) {z : Int} (hz : Num g S z) {m : List Int} {p : Int} (el : Tl z = m ++ [p]) (hi : isI (g p) = true) : ∀ c ∈ Tl z, g c = .int (mv g c) ∧ 0 ≤ mv g c ∧ mv g c ≤ mv g p := by
  have sp : S p := hz.mem p (by rw [el]; simp)
  obtain ⟨ip, hp⟩ := fm_int (o.fm p sp) hi
  have ep : g p = .int (mv g p) := by rw [mv_int hp]; exact hp
  intro c hc
  have sc := hz.mem c hc
  have ge : ∀ i : Int, g c = .int i → 0 ≤ i := fun i h => by
    have := nn c sc
    rw [h] at this
    have := of_decide_eq_false (show decide (i < 0) = false from this)
    omega
  rw [el] at hc
  rcases List.mem_append.mp hc with h | h
  · have lt : c < p := (List.pairwise_append.mp (el ▸ tl_asc z)).2.2 c h p (List.mem_singleton.mpr rfl)
    have ic : isI (g c) = true := by
      cases hic : isI (g c) with
      | true => rfl
      | false =>
        exfalso
        have h1 := o.ord c p sc sp
        rw [sgnI_lt lt] at h1
        have fx := o.fm c sc
        have fy := o.fm p sp
        cases n with
        | zero =>
          obtain ⟨j, hj⟩ := fx
          rw [hj] at hic
          cases hic
        | succ k =>
          rw [cmp_iy fx fy (fun h => by rw [hic] at h; cases h.1) ((nn c sc).trans (nn p sp).symm) (by rw [hic]; decide) hi, if_neg (by rw [nn c sc]; decide)] at h1
          cases h1
    obtain ⟨i, hi'⟩ := fm_int (o.fm c sc) ic
    have ec : g c = .int (mv g c) := by rw [mv_int hi']; exact hi'
    exact ⟨ec, ge _ ec, Int.le_of_lt ((mv_mono o sc sp ec ep).mpr lt)⟩
  · have : c = p := List.mem_singleton.mp h
    subst this
    exact ⟨ep, ge _ ep, Int.le_refl _⟩
theorem near_plain {n : Nat} {g : Int → PyData} {S : Int → Prop} (o : OrdN n g S) {z : Int} (hz : Num g S z) (h : plain z) : Near g z ∧ XN g z = z := by
  have hc : ∀ c ∈ Tl z, g c = .int c := fun c hc => o.near c (hz.mem c hc) (tl_near.mp h c hc)
  constructor
  · intro c hm
    have e := hc c hm
    have := tl_near.mp h c hm
    have := tl_pos z c hm
    rw [mv_int e]
    exact ⟨e, by omega, by omega⟩
  · unfold XN
    have : ((Tl z).map fun c => (mv g c).toNat) = (Tl z).map Int.toNat := List.map_congr_left fun c hm => by rw [mv_int (hc c hm)]
    rw [this]
    unfold Tl
    rw [zs_nat, turns_alt]
section
variable {P : Program} {w : World} {K : PySem.W.Frag} {mg : Str → Option Value} {base : Heap} {f : Addr} {fd : FuncData}
abbrev S_is_short : Stmt := top 21
abbrev N_is_short : List Str := ["x"]
abbrev P_is_short : List Str := ["x"]
theorem sc_is_short : FnScope N_is_short P_is_short (defScope S_is_short) := ⟨rfl, rfl, rfl, by decide +kernel, rfl, by decide +kernel, by decide +kernel⟩
/-- a number that is no int: the answer says at most that its places are near -/
def spIsShort (K : PySem.W.Frag) (g : Int → PyData) (S : Int → Prop) : Sp := fun vs H Q _ => ∃ (v : V) (z : Int), vs = [v] ∧ Dp K H v (numD g z) ∧ Num g S z ∧ ¬ plain z ∧ ∀ (b : Bool), (b = true → Near g z ∧ NearB g 1000 z) → Q (.bl b) H
theorem ok_isshort {n : Nat} {g : Int → PyData} {S : Int → Prop} (o : OrdN n g S) (nn : ∀ c, S c → negD (g c) = false) {tk1 tk2 : Tok} (F : Fun K "is_short" "is_short" S_is_short f fd) (B : Blt mg) (MM : mg "MANY_TURNS" = some (.int 16 tk1)) (MN : mg "NEAR_PLACE" = some (.int 1000 tk2)) : FnOk P w K mg base CX0 1 f fd P_is_short (spIsShort K g S) := by
  have nd := sc_is_short.nd
  refine F.ok sc_is_short (fun vs H Q E h => ?_) (fun cdv A outer s H vs Q E hr h => ?_)
  · obtain ⟨v, z, rfl, _⟩ := h
    rfl
  obtain ⟨v, z, rfl, hd, hz, np, q⟩ := h
  refine ⟨_, (pss_one (ps_ret (pe_and (pe_cmpR op_le (pe_callB call_lenT (by rfl) B.len PySem.boot_len (pa_cons (pv 0) pa_nil)) (pe_glob (v := .int 16) rfl MM ⟨_, rfl⟩) (nomark _)) (pe_and (pe_callB (call_isiI K) (by rfl) B.isinstance (by decide +kernel) (pa_cons (pe_ix ix_tup (pv 0) (pe_un un_neg pe_int) (fun _ _ => rfl)) (pa_cons (pe_bltn (by rfl) B.int (by decide +kernel) (show RelV (.ty "int") (.type "int") from rfl)) pa_nil))) (pe_one (pe_cmpR op_le (pe_ix ix_tup (pv 0) (pe_un un_neg pe_int) (fun _ _ => rfl)) (pe_glob (v := .int 1000) rfl MN ⟨_, rfl⟩) (nomark _))))))), ?_⟩
  rcases num_cases o hz with ⟨pl, _⟩ | ⟨_, e, m, p, el, p64⟩
  · exact absurd pl np
  rw [e] at hd
  cases hd with
  | @tup a xs _ hs ha =>
  have hl : xs.length = (Tl z).length := by rw [dps_length ha, List.length_map]
  have ha' := ha
  rw [el, List.map_append] at ha'
  obtain ⟨x, hx, dx⟩ := dps_last ha'
  have sp : S p := hz.mem p (by rw [el]; simp)
  refine ⟨_, rfl, a, _, rfl, hs, _, _, rfl, rfl, ?_⟩
  refine ⟨_, rfl, iteD (fun c => ?_) (fun c => q false (fun h => by cases h))⟩
  refine ⟨_, rfl, _, rfl, a, _, _, _, rfl, rfl, hs, hx, x, g p, rfl, dx, ?_⟩
  cases hi : isI (g p) with
  | false => exact ⟨_, rfl, iteF (q false (fun h => by cases h))⟩
  | true =>
    refine ⟨_, rfl, iteT ?_⟩
    have nl := near_last o nn hz el hi
    have ep := (nl p (by rw [el]; simp)).1
    rw [ep] at dx
    cases dx
    refine ⟨_, rfl, _, rfl, a, _, _, _, rfl, rfl, hs, hx, _, _, rfl, rfl, q _ (fun h => ?_)⟩
    have h' := of_decide_eq_true h
    refine ⟨fun c hc => ?_, fun c hc => ?_⟩
    · obtain ⟨k1, k2, k3⟩ := nl c hc
      exact ⟨k1, k2, by omega⟩
    · obtain ⟨k1, k2, k3⟩ := nl c hc
      omega
abbrev S_are_near : Stmt := top 20
abbrev N_are_near : List Str := ["x", "y", "first", "second", "many", "most"]
abbrev P_are_near : List Str := ["x", "y"]
theorem sc_are_near : FnScope N_are_near P_are_near (defScope S_are_near) := ⟨rfl, rfl, rfl, by decide +kernel, rfl, by decide +kernel, by decide +kernel⟩
/-- how far are the places that are near -/
def nearM (x y : Int) : Int := 1000 + 64 * (((Tl x).length : Int) + ((Tl y).length : Int))
theorem nearM_1000 (x y : Int) : 1000 ≤ nearM x y := by unfold nearM; omega
theorem nearB_up {g : Int → PyData} {M M' z : Int} (h : NearB g M z) (e : M ≤ M') : NearB g M' z := fun c hc => Int.le_trans (h c hc) e
theorem nearB_plain {n : Nat} {g : Int → PyData} {S : Int → Prop} (o : OrdN n g S) {z : Int} (hz : Num g S z) (h : plain z) : NearB g 1000 z := fun c hm => by
  have e : g c = .int c := o.near c (hz.mem c hm) (tl_near.mp h c hm)
  rw [mv_int e]
  have := tl_near.mp h c hm
  omega
def spAreNear (K : PySem.W.Frag) (g : Int → PyData) (S : Int → Prop) : Sp := fun vs H Q _ => ∃ (v u : V) (x y : Int), vs = [v, u] ∧ Dp K H v (numD g x) ∧ Dp K H u (numD g y) ∧ Num g S x ∧ Num g S y ∧ Lo2 g x y ∧ ¬ (plain x ∧ plain y) ∧ ∀ (b : Bool), (b = true → Near g x ∧ Near g y ∧ NearB g (nearM x y) x ∧ NearB g (nearM x y) y) → Q (.bl b) H
theorem ok_arenear {n : Nat} {g : Int → PyData} {S : Int → Prop} (o : OrdN n g S) (nn : ∀ c, S c → negD (g c) = false) {tk1 tk2 tk3 : Tok} (F : Fun K "are_near" "are_near" S_are_near f fd) (B : Blt mg) (MM : mg "MANY_TURNS" = some (.int 16 tk1)) (MN : mg "NEAR_PLACE" = some (.int 1000 tk2)) (MBT : mg "BITS_FOR_A_TURN" = some (.int 64 tk3)) (Cis_short : Has P w K mg base 1 "is_short" P_is_short [] (spIsShort K g S)) : FnOk P w K mg base CX0 2 f fd P_are_near (spAreNear K g S) := by
  have nd := sc_are_near.nd
  refine F.ok sc_are_near (fun vs H Q E h => ?_) (fun cdv A outer s H vs Q E hr h => ?_)
  · obtain ⟨v, u, x, y, rfl, _⟩ := h
    rfl
  obtain ⟨v, u, x, y, rfl, hx, hy, nx, ny, lxy, nb, q⟩ := h
  refine ⟨_, (pss_cons (ps_if (pt_val (pe_callB (call_isiI K) (by rfl) B.isinstance (by decide +kernel) (pa_cons (pv 0) (pa_cons (pe_bltn (by rfl) B.int (by decide +kernel) (show RelV (.ty "int") (.type "int") from rfl)) pa_nil)))) (pss_one (ps_ret (pe_H Cis_short (hr.mono (by decide)) rfl (pa_cons (pv 1) pa_nil)))) pss_nil)
    (pss_cons (ps_if (pt_val (pe_callB (call_isiI K) (by rfl) B.isinstance (by decide +kernel) (pa_cons (pv 1) (pa_cons (pe_bltn (by rfl) B.int (by decide +kernel) (show RelV (.ty "int") (.type "int") from rfl)) pa_nil)))) (pss_one (ps_ret (pe_H Cis_short (hr.mono (by decide)) rfl (pa_cons (pv 0) pa_nil)))) pss_nil)
    (pss_cons (ps_par (i := 2) (j := 3) (by rfl) nd rfl rfl (by decide) rfl rfl (pa_cons (pe_ix ix_tup (pv 0) (pe_un un_neg pe_int) (fun _ _ => rfl)) (pa_cons (pe_ix ix_tup (pv 1) (pe_un un_neg pe_int) (fun _ _ => rfl)) pa_nil)) (by rfl))
    (pss_cons (ps_if (PW.pt (pw_or (pt_not (pt_val (pe_callB (call_isiI K) (by rfl) B.isinstance (by decide +kernel) (pa_cons (pv 2) (pa_cons (pe_bltn (by rfl) B.int (by decide +kernel) (show RelV (.ty "int") (.type "int") from rfl)) pa_nil))))) (pw_or1 (pt_not (pt_val (pe_callB (call_isiI K) (by rfl) B.isinstance (by decide +kernel) (pa_cons (pv 3) (pa_cons (pe_bltn (by rfl) B.int (by decide +kernel) (show RelV (.ty "int") (.type "int") from rfl)) pa_nil)))))))) (pss_one (ps_ret pe_bl)) pss_nil)
    (pss_cons (ps_set (i := 4) nd rfl (Or.inl rfl) (pe_op op_add (pe_callB call_lenT (by rfl) B.len PySem.boot_len (pa_cons (pv 0) pa_nil)) (pe_callB call_lenT (by rfl) B.len PySem.boot_len (pa_cons (pv 1) pa_nil))))
    (C8.pss_cut (ps_if (PW.pt (pw_and (pt_cmpR op_gt (pv 4) (pe_op op_mul pe_int (pe_glob (v := .int 16) rfl MM ⟨_, rfl⟩)) (nomark _)) (pw_and1 (PW.pt (pw_or (pt_cmpR op_lt (pe_callB call_lenT (by rfl) B.len PySem.boot_len (pa_cons (pv 0) pa_nil)) (pe_glob (v := .int 16) rfl MM ⟨_, rfl⟩) (nomark _)) (pw_or1 (pt_cmpR op_lt (pe_callB call_lenT (by rfl) B.len PySem.boot_len (pa_cons (pv 1) pa_nil)) (pe_glob (v := .int 16) rfl MM ⟨_, rfl⟩) (nomark _)))))))) (pss_one (ps_ret pe_bl)) pss_nil)
    (pss_cons (ps_set (i := 5) nd rfl (Or.inl rfl) (pe_op op_add (pe_glob (v := .int 1000) rfl MN ⟨_, rfl⟩) (pe_op op_mul (pe_glob (v := .int 64) rfl MBT ⟨_, rfl⟩) (pv 4))))
    (pss_one (ps_ret (pe_and (pe_cmpR op_le (pv 2) (pv 5) (nomark _)) (pe_one (pe_cmpR op_le (pv 3) (pv 5) (nomark _))))))))))))), ?_⟩
  refine ⟨_, rfl, v, _, rfl, hx, _, rfl, ?_⟩
  rcases num_cases o nx with ⟨px, ex, _⟩ | ⟨npx, ex, mx, qx, elx, _⟩
  · rw [show isI (numD g x) = true by rw [ex]; rfl]
    refine iteT ?_
    exact ⟨_, rfl, u, y, rfl, hy, ny, fun h => nb ⟨px, h⟩, fun b hb => q b fun h => ⟨(near_plain o nx px).1, (hb h).1, nearB_up (nearB_plain o nx px) (nearM_1000 x y), nearB_up (hb h).2 (nearM_1000 x y)⟩⟩
  rw [show isI (numD g x) = false by rw [ex]; rfl]
  refine iteF ?_
  refine ⟨_, rfl, u, _, rfl, hy, _, rfl, ?_⟩
  rcases num_cases o ny with ⟨py, ey, _⟩ | ⟨npy, ey, my, qy, ely, _⟩
  · rw [show isI (numD g y) = true by rw [ey]; rfl]
    refine iteT ?_
    exact ⟨_, rfl, v, x, rfl, hx, nx, npx, fun b hb => q b fun h => ⟨(hb h).1, (near_plain o ny py).1, nearB_up (hb h).2 (nearM_1000 x y), nearB_up (nearB_plain o ny py) (nearM_1000 x y)⟩⟩
  rw [show isI (numD g y) = false by rw [ey]; rfl]
  refine iteF ?_
  rw [ex] at hx
  rw [ey] at hy
  cases hx with
  | @tup a xs _ hs ha =>
  cases hy with
  | @tup b ys _ ht hb =>
  have hlx : xs.length = (Tl x).length := by rw [dps_length ha, List.length_map]
  have hly : ys.length = (Tl y).length := by rw [dps_length hb, List.length_map]
  have ha' := ha
  rw [elx, List.map_append] at ha'
  obtain ⟨lx1, hlx1, dx⟩ := dps_last ha'
  have hb' := hb
  rw [ely, List.map_append] at hb'
  obtain ⟨ly1, hly1, dy⟩ := dps_last hb'
  have l1 := nx.len
  have l2 := ny.len
  refine ⟨_, rfl, _, rfl, a, _, _, _, rfl, rfl, hs, hlx1, _, rfl, _, rfl, b, _, _, _, rfl, rfl, ht, hly1, _, _, rfl, ?_⟩
  refine ⟨_, rfl, lx1, g qx, rfl, dx, _, rfl, ?_⟩
  cases hi : isI (g qx) with
  | false => exact iteT (q false (fun h => by cases h))
  | true =>
  refine iteF ?_
  refine ⟨_, rfl, ly1, g qy, rfl, dy, _, rfl, ?_⟩
  cases hj : isI (g qy) with
  | false => exact iteT (q false (fun h => by cases h))
  | true =>
  refine iteF ?_
  have nlx := near_last o nn nx elx hi
  have nly := near_last o nn ny ely hj
  have epx := (nlx qx (by rw [elx]; simp)).1
  have epy := (nly qy (by rw [ely]; simp)).1
  rw [epx] at dx
  rw [epy] at dy
  cases dx
  cases dy
  refine ⟨_, rfl, a, _, rfl, hs, _, rfl, b, _, rfl, ht, _, _, rfl, rfl, ?_⟩
  refine ⟨fun σ H' => σ = [some (.ref a), some (.ref b), some (.int (mv g qx)), some (.int (mv g qy)), some (.int ((xs.length : Int) + (ys.length : Int))), none] ∧ H' = H ∧ (xs.length + ys.length ≤ 32 ∨ (16 ≤ xs.length ∧ 16 ≤ ys.length)), ?_, ?_⟩
  · refine ⟨_, rfl, _, _, rfl, rfl, .inl ⟨by decide, by decide⟩, _, _, rfl, rfl, _, rfl, ?_⟩
    refine iteD (fun c1 => ?_) (fun c1 => iteF ⟨rfl, rfl, .inl (by have : ¬ (2 * 16 : Int) < (xs.length : Int) + (ys.length : Int) := c1; omega)⟩)
    refine ⟨_, rfl, a, _, rfl, hs, _, _, rfl, rfl, _, rfl, ?_⟩
    refine iteD (fun c2 => iteT (q false (fun h => by cases h))) (fun c2 => ?_)
    refine ⟨_, rfl, b, _, rfl, ht, _, _, rfl, rfl, _, rfl, ?_⟩
    refine iteD (fun c3 => q false (fun h => by cases h)) (fun c3 => ⟨rfl, rfl, .inr (by omega)⟩)
  rintro σ H' ⟨rfl, rfl, hmany⟩
  refine ⟨_, rfl, _, _, rfl, rfl, .inl ⟨by decide, by decide⟩, _, _, rfl, rfl, ?_⟩
  refine ⟨_, rfl, _, rfl, _, _, rfl, rfl, ?_⟩
  have near1 : ∀ {z : Int} {m : List Int} {p : Int}, (∀ c ∈ Tl z, g c = .int (mv g c) ∧ 0 ≤ mv g c ∧ mv g c ≤ mv g p) → xs.length + ys.length ≤ 8000 → mv g p ≤ 1000 + 64 * ((xs.length : Int) + (ys.length : Int)) → Near g z := fun {z m p} nl lo hp c hc => by
    obtain ⟨k1, k2, k3⟩ := nl c hc
    exact ⟨k1, k2, by omega⟩
  have lx : xs.length + ys.length ≤ 8000 := by
    have : (Tl x).length + (Tl y).length ≤ 8000 := lxy
    omega
  refine ⟨_, rfl, iteD (fun c4 => ?_) (fun c4 => q false (fun h => by cases h))⟩
  refine ⟨_, rfl, _, rfl, _, _, rfl, rfl, q _ (fun h => ?_)⟩
  have c5 := of_decide_eq_true h
  have c4' : mv g qx ≤ 1000 + 64 * ((xs.length : Int) + (ys.length : Int)) := c4
  have c5' : mv g qy ≤ 1000 + 64 * ((xs.length : Int) + (ys.length : Int)) := c5
  refine ⟨near1 (m := mx) nlx lx c4', near1 (m := my) nly lx c5', fun c hc => ?_, fun c hc => ?_⟩
  · have := (nlx c hc).2.2
    unfold nearM
    rw [← hlx, ← hly]
    omega
  · have := (nly c hc).2.2
    unfold nearM
    rw [← hlx, ← hly]
    omega
abbrev S_int_of_form : Stmt := top 19
abbrev N_int_of_form : List Str := ["x"]
abbrev P_int_of_form : List Str := ["x"]
theorem sc_int_of_form : FnScope N_int_of_form P_int_of_form (defScope S_int_of_form) := ⟨rfl, rfl, rfl, by decide +kernel, rfl, by decide +kernel, by decide +kernel⟩
def spIof (K : PySem.W.Frag) (g : Int → PyData) (S : Int → Prop) : Sp := fun vs H Q _ => ∃ (v : V) (z : Int), vs = [v] ∧ Dp K H v (numD g z) ∧ Num g S z ∧ Near g z ∧ ∀ H' : Hp, Same H H' → Q (.int (XN g z)) H'
theorem ok_iof {n : Nat} {g : Int → PyData} {S : Int → Prop} (o : OrdN n g S) (F : Fun K "int_of_form" "int_of_form" S_int_of_form f fd) (B : Blt mg) (Cint_of_turns : Has P w K mg base 2 "int_of_turns" P_int_of_turns [] (spIoT K)) : FnOk P w K mg base CX0 3 f fd P_int_of_form (spIof K g S) := by
  have nd := sc_int_of_form.nd
  refine F.ok sc_int_of_form (fun vs H Q E h => ?_) (fun cdv A outer s H vs Q E hr h => ?_)
  · obtain ⟨v, z, rfl, _⟩ := h
    rfl
  obtain ⟨v, z, rfl, hd, hz, hn, q⟩ := h
  refine ⟨_, (pss_one (ps_ret (pe_ifExp (pt_val (pe_callB (call_isiI K) (by rfl) B.isinstance (by decide +kernel) (pa_cons (pv 0) (pa_cons (pe_bltn (by rfl) B.int (by decide +kernel) (show RelV (.ty "int") (.type "int") from rfl)) pa_nil)))) (pv 0) (pe_H Cint_of_turns (hr.mono (by decide)) rfl (pa_cons (pv 0) pa_nil))))), ?_⟩
  refine ⟨_, rfl, v, _, rfl, hd, _, rfl, ?_⟩
  rcases num_cases o hz with ⟨pl, e, _⟩ | ⟨npl, e, _⟩
  · rw [e] at hd ⊢
    cases hd
    refine iteT ?_
    have k := q H (Same.refl H)
    rw [(near_plain o hz pl).2] at k
    exact ⟨_, rfl, k⟩
  · rw [e] at hd ⊢
    cases hd with
    | @tup a xs _ hs ha =>
    refine iteF ?_
    have tx := tl_XN o hz hn
    have eg : (Tl z).map g = nD ((Tl z).map fun c => (mv g c).toNat) := by
      unfold nD
      rw [List.map_map]
      refine List.map_congr_left fun c hc => ?_
      rw [(hn c hc).1]
      show PyData.int (mv g c) = .int (((mv g c).toNat : Nat) : Int)
      rw [Int.toNat_of_nonneg (hn c hc).2.1]
    rw [eg] at ha
    have ev := dps_n_inv ha
    subst ev
    have asc : ((Tl z).map fun c => (mv g c).toNat).Pairwise (· < ·) := by
      rw [List.pairwise_map]
      refine (tl_asc z).imp_of_mem fun {a b} ha hb h => ?_
      have := (mv_mono o (hz.mem a ha) (hz.mem b hb) (hn a ha).1 (hn b hb).1).mpr h
      have := (hn a ha).2.1
      omega
    refine ⟨_, rfl, a, _, rfl, .inr hs, asc, (fun p hp => ?_), (fun h17 p hp => ?_), fun H' e' => q H' e'⟩
    · obtain ⟨c, hc, rfl⟩ := List.mem_map.mp hp
      have := (hn c hc).2.2
      omega
    · obtain ⟨c, hc, rfl⟩ := List.mem_map.mp hp
      have := (hn c hc).2.2
      omega
abbrev S_is_plain : Stmt := top 13
abbrev N_is_plain : List Str := ["value"]
abbrev P_is_plain : List Str := ["value"]
theorem sc_is_plain : FnScope N_is_plain P_is_plain (defScope S_is_plain) := ⟨rfl, rfl, rfl, by decide +kernel, rfl, by decide +kernel, by decide +kernel⟩
def spPlain : Sp := fun vs H Q _ => ∃ x : Int, vs = [.int x] ∧ Q (.bl (decide (plain x))) H
theorem ok_plain {tk : Tok} (F : Fun K "is_plain" "is_plain" S_is_plain f fd) (MS : mg "PLAIN_STOP" = some (.int 18446744073709551616 tk)) : FnOk P w K mg base CX0 1 f fd P_is_plain spPlain := by
  have nd := sc_is_plain.nd
  refine F.ok sc_is_plain (fun vs H Q E h => ?_) (fun cdv A outer s H vs Q E hr h => ?_)
  · obtain ⟨x, rfl, _⟩ := h
    rfl
  obtain ⟨x, rfl, q⟩ := h
  refine ⟨_, (pss_one (ps_ret (pe_chain op_le op_lt (pe_un un_neg (pe_glob (v := .int 18446744073709551616) rfl MS ⟨_, rfl⟩)) (pv 0) (pe_glob (v := .int 18446744073709551616) rfl MS ⟨_, rfl⟩)))), ?_⟩
  have P64 : (2 : Int) ^ 64 = 18446744073709551616 := by decide
  refine ⟨_, rfl, _, rfl, _, _, rfl, rfl, _, rfl, ?_⟩
  have fin : ∀ b : Bool, (b = true ↔ plain x) → Q (.bl b) H := fun b h => by
    have : b = decide (plain x) := by
      by_cases c : plain x
      · rw [decide_eq_true c]; exact h.mpr c
      · rw [decide_eq_false c]; exact Bool.eq_false_iff.mpr fun z => c (h.mp z)
    rw [this]
    exact q
  refine iteD (fun c1 => ?_) (fun c1 => ?_)
  · refine ⟨_, _, rfl, rfl, fin _ ?_⟩
    rw [decide_eq_true_eq]
    exact ⟨fun h => ⟨by rw [P64]; exact c1, by rw [P64]; exact h⟩, fun h => by have := h.2; rw [P64] at this; exact this⟩
  · refine fin false ⟨(fun h => by cases h), fun h => ?_⟩
    have := h.1
    rw [P64] at this
    exact absurd this c1
abbrev S_form_of_int : Stmt := top 22
abbrev N_form_of_int : List Str := ["value"]
abbrev P_form_of_int : List Str := ["value"]
theorem sc_form_of_int : FnScope N_form_of_int P_form_of_int (defScope S_form_of_int) := ⟨rfl, rfl, rfl, by decide +kernel, rfl, by decide +kernel, by decide +kernel⟩
def spFoi (K : PySem.W.Frag) : Sp := fun vs H Q _ => ∃ x : Int, vs = [.int x] ∧ InB x ∧ ∀ (v : V) (H' : Hp), Same H H' → Dp K H' v (formD x) → Q v H'
theorem ok_foi (F : Fun K "form_of_int" "form_of_int" S_form_of_int f fd) (B : Blt mg) (Cis_plain : Has P w K mg base 1 "is_plain" P_is_plain [] spPlain) (Cturns_of_int : Has P w K mg base 2 "turns_of_int" P_turns_of_int [] spTurns) : FnOk P w K mg base CX0 3 f fd P_form_of_int (spFoi K) := by
  have nd := sc_form_of_int.nd
  refine F.ok sc_form_of_int (fun vs H Q E h => ?_) (fun cdv A outer s H vs Q E hr h => ?_)
  · obtain ⟨x, rfl, _⟩ := h
    rfl
  obtain ⟨x, rfl, hx, q⟩ := h
  refine ⟨_, (pss_cons (ps_if (pt_val (pe_H Cis_plain (hr.mono (by decide)) rfl (pa_cons (pv 0) pa_nil))) (pss_one (ps_ret (pv 0))) pss_nil)
    (pss_one (ps_ret (pe_callTy (call_tupS K) (by rfl) B.tuple (by decide +kernel) (pa_cons (pe_H Cturns_of_int (hr.mono (by decide)) rfl (pa_cons (pv 0) pa_nil)) pa_nil))))), ?_⟩
  refine ⟨_, rfl, x, rfl, _, rfl, ?_⟩
  by_cases c : plain x
  · rw [decide_eq_true c]
    refine iteT ?_
    have k := q (.int x) H (Same.refl H)
    unfold formD at k
    rw [if_pos c] at k
    exact ⟨_, rfl, k (.int x)⟩
  · rw [decide_eq_false c]
    refine iteF ?_
    refine ⟨_, rfl, x, rfl, hx, fun p H' e np hp => ?_⟩
    refine ⟨p, _, rfl, .inl hp, fun t H2 e2 ht => ?_⟩
    have k := q (.ref t) H2 (e.trans e2)
    unfold formD at k
    rw [if_neg c] at k
    exact k (.tup ht (dps_n _))
end
end Fb
namespace Fb
open PySem L2
theorem bitk (n : Nat) : Builtin.bitAnd (n : Int) 1 = ((n % 2 : Nat) : Int) := by rw [PyProof.Rows.bitAnd_m1]; omega
section
variable {P : Program} {w : World} {K : PySem.W.Frag} {mg : Str → Option Value} {base : Heap} {f : Addr} {fd : FuncData}
/-- the next place -/
def spNext (K : PySem.W.Frag) (g : Int → PyData) (S : Int → Prop) : Sp := fun vs H Q _ => ∃ (v : V) (c : Int), vs = [v] ∧ Dp K H v (g c) ∧ S c ∧ S (c + 1) ∧ ∀ (v' : V) (H' : Hp), Same H H' → Dp K H' v' (g (c + 1)) → Q v' H'
abbrev S_carry_turns : Stmt := top 50
abbrev N_carry_turns : List Str := ["x", "y", "carry", "few", "many", "turns", "bit_in", "at", "k", "bit", "start", "place"]
abbrev P_carry_turns : List Str := ["x", "y", "carry"]
theorem sc_carry_turns : FnScope N_carry_turns P_carry_turns (defScope S_carry_turns) := ⟨rfl, rfl, rfl, by decide +kernel, rfl, by decide +kernel, by decide +kernel⟩
def spCarry (K : PySem.W.Frag) (g : Int → PyData) (S : Int → Prop) : Sp := fun vs H Q _ => ∃ (a b : Addr) (l m : List Int) (k : Nat), vs = [.ref a, .ref b, .int (k : Int)] ∧ Pls K H g a l ∧ Pls K H g b m ∧ l.Pairwise (· < ·) ∧ m.Pairwise (· < ·) ∧ (∀ t ∈ l, S t ∧ S (t + 1) ∧ 0 ≤ t) ∧ (∀ t ∈ m, S t ∧ S (t + 1) ∧ 0 ≤ t) ∧ l.length + m.length ≤ 30000 ∧ k ≤ 1 ∧
  ∀ (p : Addr) (us : List V) (H' : Hp), Same H H' → H' p = some (.lst us) → DpAll K H' us ((carT (fm2 l m).1 (fm2 l m).2 k).map g) → Q (.ref p) H'
theorem carL_len (B : List Int) : ∀ (A : List Int) (bit sta bin : Nat), (carL B A bit sta bin).length ≤ A.length + 1
  | [], bit, sta, bin => by
    unfold carL
    split
    · simp
    · split <;> simp
  | a :: A, bit, sta, bin => by
    have h1 := carL_len B A (1 - bit) a.toNat bin
    have h2 := carL_len B A (1 - bit) a.toNat bit
    unfold carL
    rw [List.length_cons]
    split
    · omega
    · split
      · omega
      · split
        · rw [List.length_cons]; omega
        · omega
def nxt (B A : List Int) (bit bin : Nat) : List Int := match A with
  | [] => []
  | a :: A => carL B A (1 - bit) a.toNat bin
theorem carL_same {B A : List Int} {bit sta bin : Nat} (h : bit = bin) : carL B A bit sta bin = nxt B A bit bin := by
  cases A <;> unfold carL <;> rw [if_pos h] <;> rfl
theorem carL_none {B A : List Int} {bit sta bin : Nat} (h : bit ≠ bin) (ht : turnAt B bit sta = none) : carL B A bit sta bin = nxt B A bit bin := by
  cases A <;> unfold carL <;> rw [if_neg h, ht] <;> rfl
theorem carL_turn {B A : List Int} {bit sta bin : Nat} {q : Int} (h : bit ≠ bin) (ht : turnAt B bit sta = some q) (hq : ∀ a, A.head? = some a → q < a) : carL B A bit sta bin = (q + 1) :: nxt B A bit bit := by
  cases A with
  | nil => unfold carL; rw [if_neg h, ht]; rfl
  | cons a A =>
    unfold carL
    rw [if_neg h, ht]
    show (if q < a then _ else _) = _
    rw [if_pos (hq a rfl)]
    rfl
theorem carL_late {B A : List Int} {bit sta bin : Nat} {q a : Int} (h : bit ≠ bin) (ht : turnAt B bit sta = some q) (ha : A.head? = some a) (hq : ¬ q < a) : carL B A bit sta bin = nxt B A bit bin := by
  cases A with
  | nil => cases ha
  | cons b A =>
    cases ha
    unfold carL
    rw [if_neg h, ht]
    show (if q < a then _ else _) = _
    rw [if_neg hq]
    rfl
/-- how far the second row has been looked through -/
def Go (fa fb : List Int) (i bin att : Nat) : Prop := (∀ c ∈ fa.drop i, att ≤ clt fb c) ∧ (∀ c, 1 ≤ i → fa[i - 1]? = some c → att ≤ clt fb c ∨ i % 2 = bin) ∧ (i = 0 → att = 0)
theorem Go.same {fa fb : List Int} {i bin att : Nat} (h : Go fa fb i bin att) : Go fa fb (i + 1) bin att := by
  refine ⟨fun c hc => h.1 c ?_, fun c _ hc => .inl (h.1 c ?_), fun e => by omega⟩
  · rw [← List.drop_drop] at hc
    exact List.mem_of_mem_drop hc
  · obtain ⟨hl, he⟩ := List.getElem?_eq_some_iff.mp hc
    have hl : i < fa.length := hl
    have he : fa[i] = c := he
    rw [List.drop_eq_getElem_cons hl, he]
    exact List.mem_cons_self
theorem Go.new {fa fb : List Int} (aA : fa.Pairwise (· < ·)) (aB : fb.Pairwise (· < ·)) (pA : ∀ c ∈ fa, 0 ≤ c) {i bin bin' sta : Nat} (hst : i = 0 ∧ sta = 0 ∨ 1 ≤ i ∧ fa[i - 1]? = some (sta : Int)) (hb : i % 2 ≠ bin) (b1 : bin ≤ 1) (hb' : bin' = bin ∨ ∀ c, fa[i]? = some c → (sta : Int) < c) :
    Go fa fb (i + 1) bin' (cnt fb (sta : Int)) := by
  have lt : ∀ j, i ≤ j → (i < j ∨ 1 ≤ i) → ∀ c, fa[j]? = some c → (sta : Int) < c := fun j hij h c hc => by
    obtain ⟨hl, he⟩ := List.getElem?_eq_some_iff.mp hc
    rcases hst with ⟨h0, h1⟩ | ⟨h0, h1⟩
    · subst h1
      have h00 : 0 < fa.length := by omega
      have := List.pairwise_iff_getElem.mp aA 0 j h00 hl (by omega)
      have := pA _ (List.getElem_mem h00)
      rw [← he]
      omega
    · obtain ⟨hl2, he2⟩ := List.getElem?_eq_some_iff.mp h1
      have := List.pairwise_iff_getElem.mp aA (i - 1) j hl2 hl (by omega)
      rw [← he, ← he2]
      exact this
  refine ⟨fun c hc => ?_, fun c _ hc => ?_, fun e => by omega⟩
  · obtain ⟨j, hj⟩ := List.mem_iff_getElem?.mp hc
    rw [List.getElem?_drop] at hj
    exact cnt_clt aB (lt (i + 1 + j) (by omega) (.inl (by omega)) c hj)
  · have hc : fa[i]? = some c := hc
    by_cases h1 : 1 ≤ i
    · exact .inl (cnt_clt aB (lt i (Nat.le_refl _) (.inr h1) c hc))
    · rcases hb' with h | h
      · right; omega
      · exact .inl (cnt_clt aB (h c hc))
theorem ok_carry {n kp : Nat} {g : Int → PyData} {S : Int → Prop} (o : OrdN n g S) (z0 : S 0) (z1 : S 1) (F : Fun K "carry_turns" "carry_turns" S_carry_turns f fd) (B : Blt mg) (Cshorter_first : Has P w K mg base 1 "shorter_first" P_shorter_first [] (spShort K)) (Cis_less : Has P w K mg base (2 * n + 2) "is_less" P_is_less [] (spLess K g S))
    (Cturns_up_to : Has P w K mg base (2 * n + 5) "turns_up_to" P_turns_up_to [] (spUpTo K g S)) (Cplus_one : Has P w K mg base kp "plus_one" ["x"] [] (spNext K g S)) : FnOk P w K mg base CX0 (2 * n + kp + 6) f fd P_carry_turns (spCarry K g S) := by
  have nd := sc_carry_turns.nd
  refine F.ok sc_carry_turns (fun vs H Q E h => ?_) (fun cdv A outer s H vs Q E hr h => ?_)
  · obtain ⟨a, b, l, m, k, rfl, _⟩ := h
    rfl
  obtain ⟨a, b, l, m, k0, rfl, hl, hm, al, am, sl, sm, l4, hk0, q⟩ := h
  refine ⟨_, (pss_cons (ps_asg (pe_H Cshorter_first (hr.mono (by omega)) rfl (pa_cons (pv 0) (pa_cons (pv 1) pa_nil))) (pg_tup rfl (pgs_cons (pg_name (i := 3) nd rfl (Or.inl rfl)) (pgs_cons (pg_name (i := 4) nd rfl (Or.inl rfl)) pgs_nil))))
    (pss_cons (ps_set (i := 5) nd rfl (Or.inl rfl) (pe_lst pa_nil))
    (C8.pss_cut (ps_if (pt_cmpR op_eq (pv 2) pe_int (nomark _)) (pss_one (ps_expr (pe_bm PySem.F.plainAttrs_list PySem.F.slot_list_append PySem.F.type_list_append mt_append (pv 5) (pa_cons pe_int pa_nil)))) pss_nil)
    (pss_cons (ps_set (i := 6) nd rfl (Or.inl rfl) (pv 2))
    (pss_cons (ps_set (i := 7) nd rfl (Or.inl rfl) pe_int)
    (pss_cons (ps_for PassesOwn.never rfl (pi_range1 (by rfl) B.range (pa_cons (pe_op op_add (pe_callB (call_lenS K) (by rfl) B.len PySem.boot_len (pa_cons (pv 3) pa_nil)) pe_int) pa_nil)) (pg_name (i := 8) nd rfl (Or.inl rfl)) (pss_cons (ps_set (i := 9) nd rfl (Or.inl rfl) (pe_op op_and (pv 8) pe_int))
    (pss_cons (ps_if (pt_cmpR op_eq (pv 9) (pv 6) (nomark _)) (pss_one ps_continue) pss_nil)
    (C8.pss_cut (ps_set (i := 10) nd rfl (Or.inl rfl) (pe_ifExp (pt_cmpR op_gt (pv 8) pe_int (nomark _)) (pe_ix (ix_seqK K) (pv 3) (pe_op op_sub (pv 8) pe_int) (fun _ _ => rfl)) pe_int))
    (pss_cons (ps_set (i := 7) nd rfl (Or.inl rfl) (pe_H Cturns_up_to (hr.mono (by omega)) rfl (pa_cons (pv 4) (pa_cons (pv 10) (pa_cons (pv 7) pa_nil)))))
    (C8.pss_cut (ps_if (PW.pt (pw_and (pt_cmpR op_ne (pe_op op_and (pv 7) pe_int) (pv 9) (nomark _)) (pw_and1 (pt_cmpR op_eq (pv 7) (pe_callB (call_lenS K) (by rfl) B.len PySem.boot_len (pa_cons (pv 4) pa_nil)) (nomark _))))) (pss_one ps_continue) pss_nil)
    (C8.pss_cut (ps_set (i := 11) nd rfl (Or.inl rfl) (pe_ifExp (pt_cmpR op_eq (pe_op op_and (pv 7) pe_int) (pv 9) (nomark _)) (pv 10) (pe_ix (ix_seqK K) (pv 4) (pv 7) (fun _ _ => rfl))))
    (pss_one (ps_if (PW.pt (pw_or (pt_cmpR op_eq (pv 8) (pe_callB (call_lenS K) (by rfl) B.len PySem.boot_len (pa_cons (pv 3) pa_nil)) (nomark _)) (pw_or1 (pt_val (pe_H Cis_less (hr.mono (by omega)) rfl (pa_cons (pv 11) (pa_cons (pe_ix (ix_seqK K) (pv 3) (pv 8) (fun _ _ => rfl)) pa_nil))))))) (pss_cons (ps_expr (pe_bm PySem.F.plainAttrs_list PySem.F.slot_list_append PySem.F.type_list_append mt_append (pv 5) (pa_cons (pe_H Cplus_one (hr.mono (by omega)) rfl (pa_cons (pv 11) pa_nil)) pa_nil)))
    (pss_one (ps_set (i := 6) nd rfl (Or.inl rfl) (pv 9)))) pss_nil)))))))))
    (pss_one (ps_ret (pv 5))))))))), ?_⟩
  obtain ⟨xs, hs, lxs, _, _⟩ := hl.at
  obtain ⟨ys, ht, lys, _, _⟩ := hm.at
  refine ⟨_, rfl, _, rfl, a, b, xs, ys, rfl, hs, ht, fun t H1 e1 hT => ?_⟩
  obtain ⟨u, v, fa, fb, ep, e2, hA, hB, aA, aB, sA, sB, lAB⟩ := two_pls (S := fun t => S t ∧ S (t + 1) ∧ 0 ≤ t) lxs lys (hl.same e1) (hm.same e1) al am sl sm
  rw [ep] at hT
  rw [e2] at q
  obtain ⟨as, ha, la, dA, atA⟩ := hA.at
  obtain ⟨bs, hb, lb, dB, atB⟩ := hB.at
  have g0 : g 0 = .int 0 := o.near 0 z0 (by decide)
  refine ⟨_, _, rfl, hT, rfl, _, _, rfl, _, _, rfl, rfl, ?_⟩
  refine ⟨(by show 0 ≤ sizeLine; decide), fun p np => ?_⟩
  refine ⟨fun σ H' => ∃ us : List V, σ = [some (.ref a), some (.ref b), some (.int (k0 : Int)), some (.ref u), some (.ref v), some (.ref p), none, none, none, none, none, none] ∧ Same H1 H' ∧ H' p = some (.lst us) ∧ DpAll K H' us ((if k0 = 1 then [0] else []).map g), ?_, ?_⟩
  · refine ⟨_, rfl, rfl, _, rfl, ?_⟩
    refine iteD (fun c => ?_) (fun c => ?_)
    · have c' : k0 = 1 := by injection c with c; omega
      refine ⟨_, rfl, .inl ⟨rfl, _, SqL.of upd_same⟩, p, [], .int 0, rfl, rfl, upd_same, (by decide), _, rfl, Same.mut (Same.new np) np, upd_same, ?_⟩
      rw [if_pos c']
      show DpAll K _ [.int 0] [g 0]
      rw [g0]
      exact .cons (.int 0) .nil
    · have c' : k0 ≠ 1 := fun h => c (by rw [h]; rfl)
      refine ⟨[], rfl, Same.new np, upd_same, ?_⟩
      rw [if_neg c']
      exact .nil
  rintro σ H2 ⟨us0, rfl, e2', hp2, d2⟩
  refine ⟨_, rfl, ?_⟩
  refine ⟨_, rfl, u, as, rfl, ha.same e2', _, _, rfl, rfl, _, rfl, (by omega), (by omega), ?_⟩
  rw [show ((as.length : Int) + 1).toNat = fa.length + 1 by omega]
  have sBS : ∀ t ∈ fb, S t := fun t h => (sB t h).1
  refine for_range (lo := 0) (n := fa.length + 1) (fun i σ H' => ∃ (us : List V) (M : List Int) (bin sta att : Nat) (z8 z9 z10 z11 : Option V), σ = [some (.ref a), some (.ref b), some (.int (k0 : Int)), some (.ref u), some (.ref v), some (.ref p), some (.int (bin : Int)), some (.int (att : Int)), z8, z9, z10, z11] ∧ Go fa fb i bin att ∧ Same H1 H' ∧ H' p = some (.lst us) ∧ DpAll K H' us (M.map g) ∧ (∀ t ∈ M, S t) ∧ bin ≤ 1 ∧ M.length ≤ i + 1 ∧
      (i ≤ fa.length → (i = 0 ∧ sta = 0 ∨ 1 ≤ i ∧ fa[i - 1]? = some (sta : Int)) ∧ M ++ carL fb (fa.drop i) (i % 2) sta bin = carT fa fb k0) ∧ (i = fa.length + 1 → M = carT fa fb k0))
    ⟨us0, _, k0, 0, 0, _, _, _, _, rfl, ⟨fun c _ => Nat.zero_le _, fun c h => by omega, fun _ => rfl⟩, e2', hp2, d2, (fun t ht => by split at ht <;> simp at ht; rw [ht]; exact z0), hk0, (by split <;> simp), fun _ => ⟨.inl ⟨rfl, rfl⟩, rfl⟩, fun h => by omega⟩ (fun i σ H' hi h => ?_) (fun σ H' h => ?_)
  · obtain ⟨us, M, bin, sta, att, z8, z9, z10, z11, rfl, go, e, hp, dM, sM, hbin, lM, here, _⟩ := h
    obtain ⟨hst, eq⟩ := here (by omega)
    have ei : (0 : Int) + (i : Nat) = ((i : Nat) : Int) := by omega
    rw [ei]
    have Ssta : S (sta : Int) ∧ S ((sta : Int) + 1) := by
      rcases hst with ⟨_, h⟩ | ⟨_, h⟩
      · subst h; exact ⟨z0, z1⟩
      · have := sA _ (List.mem_of_getElem? h)
        exact ⟨this.1, this.2.1⟩
    have fin : ∀ (us' : List V) (M' : List Int) (bin' att' : Nat) (H' : Hp) (y8 y9 y10 y11 : Option V), Go fa fb (i + 1) bin' att' → Same H1 H' → H' p = some (.lst us') → DpAll K H' us' (M'.map g) → (∀ t ∈ M', S t) → bin' ≤ 1 → M'.length ≤ i + 2 → M' ++ nxt fb (fa.drop i) (i % 2) bin' = carT fa fb k0 →
        ∃ (us : List V) (M : List Int) (bin sta att : Nat) (z8 z9 z10 z11 : Option V), ([some (.ref a), some (.ref b), some (.int (k0 : Int)), some (.ref u), some (.ref v), some (.ref p), some (.int (bin' : Int)), some (.int (att' : Int)), y8, y9, y10, y11] : L2.St) = [some (.ref a), some (.ref b), some (.int (k0 : Int)), some (.ref u), some (.ref v), some (.ref p), some (.int (bin : Int)), some (.int (att : Int)), z8, z9, z10, z11] ∧ Go fa fb (i + 1) bin att ∧ Same H1 H' ∧ H' p = some (.lst us) ∧ DpAll K H' us (M.map g) ∧ (∀ t ∈ M, S t) ∧ bin ≤ 1 ∧ M.length ≤ i + 1 + 1 ∧
          (i + 1 ≤ fa.length → (i + 1 = 0 ∧ sta = 0 ∨ 1 ≤ i + 1 ∧ fa[i + 1 - 1]? = some (sta : Int)) ∧ M ++ carL fb (fa.drop (i + 1)) ((i + 1) % 2) sta bin = carT fa fb k0) ∧ (i + 1 = fa.length + 1 → M = carT fa fb k0) := by
      intro us' M' bin' att' H' y8 y9 y10 y11 g0 g1 g2 g3 g4 g5 g6 g7
      by_cases hil : i < fa.length
      · obtain ⟨c, hc⟩ : ∃ c, fa[i]? = some c := ⟨_, List.getElem?_eq_getElem hil⟩
        have dr : fa.drop i = c :: fa.drop (i + 1) := by
          obtain ⟨h1, h2⟩ := List.getElem?_eq_some_iff.mp hc
          rw [List.drop_eq_getElem_cons h1, h2]
        have c0 := (sA c (List.mem_of_getElem? hc)).2.2
        refine ⟨us', M', bin', c.toNat, att', _, _, _, _, rfl, g0, g1, g2, g3, g4, g5, by omega, fun _ => ⟨.inr ⟨by omega, ?_⟩, ?_⟩, fun h => by omega⟩
        · rw [show ((c.toNat : Nat) : Int) = c by omega]; exact hc
        · rw [dr] at g7
          rw [show (i + 1) % 2 = 1 - i % 2 by omega]
          exact g7
      · refine ⟨us', M', bin', 0, att', _, _, _, _, rfl, g0, g1, g2, g3, g4, g5, by omega, fun h => by omega, fun _ => ?_⟩
        rw [List.drop_of_length_le (by omega)] at g7
        have g7 : M' ++ [] = carT fa fb k0 := g7
        rw [List.append_nil] at g7
        exact g7
    refine ⟨_, rfl, _, _, rfl, rfl, ?_⟩
    dsimp only
    rw [bitk]
    refine ⟨_, rfl, _, rfl, rfl, _, rfl, ?_⟩
    refine iteD (fun cc => ?_) (fun cc => ?_)
    · have hb1 : i % 2 = bin := by injection cc with cc; omega
      rw [carL_same hb1] at eq
      exact fin us M bin att H' _ _ _ _ go.same e hp dM sM hbin (by omega) eq
    have hb1 : i % 2 ≠ bin := fun h => cc (by rw [h])
    refine ⟨fun σ' H'' => ∃ w : V, σ' = [some (.ref a), some (.ref b), some (.int (k0 : Int)), some (.ref u), some (.ref v), some (.ref p), some (.int (bin : Int)), some (.int (att : Int)), some (.int (i : Int)), some (.int ((i % 2 : Nat) : Int)), some w, z11] ∧ H'' = H' ∧ Dp K H' w (g (sta : Int)), ?_, ?_⟩
    · refine ⟨_, rfl, _, _, rfl, rfl, _, rfl, ?_⟩
      refine iteD (fun c => ?_) (fun c => ?_)
      · rcases hst with ⟨h, _⟩ | ⟨h1, h⟩
        · omega
        · obtain ⟨w, hw, dw⟩ := atA _ _ h
          refine ⟨_, rfl, _, rfl, _, _, rfl, rfl, rIx_sq (v := w) (ha.same e) (by show atI as ((i : Int) - 1) = _; rw [show (i : Int) - 1 = ((i - 1 : Nat) : Int) by omega]; exact atI_nat hw) ?_⟩
          exact ⟨w, rfl, rfl, (Nd.of e).d dw⟩
      · rcases hst with ⟨h, h0⟩ | ⟨h1, h⟩
        · subst h0
          refine ⟨.int 0, rfl, rfl, ?_⟩
          show Dp K H' (.int 0) (g 0)
          rw [g0]
          exact .int 0
        · omega
    rintro σ' H'' ⟨w, rfl, rfl, dw⟩
    have hat : att ≤ clt fb (sta : Int) := by
      rcases hst with ⟨h, _⟩ | ⟨h1, h⟩
      · rw [go.2.2 h]; exact Nat.zero_le _
      · exact (go.2.1 _ h1 h).resolve_right hb1
    have pA : ∀ c ∈ fa, 0 ≤ c := fun c h => (sA c h).2.2
    refine ⟨_, rfl, _, rfl, _, rfl, v, w, fb, (sta : Int), att, rfl, hB.same e, dw, aB, sBS, Ssta.1, hat, by omega, fun H3 e3 => ?_⟩
    have e13 := e.trans e3
    have hp3 := e3 _ _ hp
    have cl := cnt_le fb (sta : Int)
    refine ⟨fun σ' H'' => (∃ q, turnAt fb (i % 2) sta = some q) ∧ σ' = [some (.ref a), some (.ref b), some (.int (k0 : Int)), some (.ref u), some (.ref v), some (.ref p), some (.int (bin : Int)), some (.int (cnt fb (sta : Int) : Int)), some (.int (i : Int)), some (.int ((i % 2 : Nat) : Int)), some w, z11] ∧ H'' = H3, ?_, ?_⟩
    · refine ⟨_, rfl, _, _, rfl, rfl, _, rfl, rfl, _, rfl, ?_⟩
      have bk := bitk (cnt fb (sta : Int))
      refine iteDN (fun c1 => ?_) (fun c1 => ?_)
      · have c1' : cnt fb (sta : Int) % 2 ≠ i % 2 := fun h => c1 (by rw [← h, ← bk])
        refine ⟨_, rfl, _, rfl, v, bs, rfl, hb.same e13, rfl, _, rfl, ?_⟩
        refine iteD (fun c2 => ?_) (fun c2 => ?_)
        · have c2' : cnt fb (sta : Int) = fb.length := by injection c2 with c2; omega
          have tn : turnAt fb (i % 2) sta = none := by
            unfold turnAt
            rw [if_neg c1']
            exact List.getElem?_eq_none_iff.mpr (by omega)
          rw [carL_none hb1 tn] at eq
          exact fin us M bin _ H3 _ _ _ _ (Go.new aA aB pA hst hb1 hbin (.inl rfl)) e13 hp3 ((Nd.of e3).ds dM) sM hbin (by omega) eq
        · have c2' : cnt fb (sta : Int) < fb.length := by
            have : cnt fb (sta : Int) ≠ fb.length := fun h => c2 (by rw [h, lb])
            omega
          have tq : ∃ q, turnAt fb (i % 2) sta = some q := by
            obtain ⟨q, hq⟩ : ∃ q, fb[cnt fb (sta : Int)]? = some q := ⟨_, List.getElem?_eq_getElem c2'⟩
            refine ⟨q, ?_⟩
            unfold turnAt
            rw [if_neg c1']
            exact hq
          exact ⟨tq, rfl, rfl⟩
      · have c1' : cnt fb (sta : Int) % 2 = i % 2 := by injection c1 with c1; rw [bk] at c1; omega
        refine iteF ⟨⟨(sta : Int), ?_⟩, rfl, rfl⟩
        unfold turnAt
        rw [if_pos c1']
    rintro σ' H'' ⟨⟨q0, hq⟩, rfl, he⟩
    rw [he]
    clear he
    obtain ⟨qge, qin⟩ := turn_ge aB hq
    have Sq0 : S q0 ∧ S (q0 + 1) := by
      rcases qin with h | h
      · rw [h]; exact Ssta
      · exact ⟨(sB q0 h).1, (sB q0 h).2.1⟩
    refine ⟨fun σ' H'' => ∃ w' : V, σ' = [some (.ref a), some (.ref b), some (.int (k0 : Int)), some (.ref u), some (.ref v), some (.ref p), some (.int (bin : Int)), some (.int (cnt fb (sta : Int) : Int)), some (.int (i : Int)), some (.int ((i % 2 : Nat) : Int)), some w, some w'] ∧ H'' = H3 ∧ Dp K H3 w' (g q0), ?_, ?_⟩
    · refine ⟨_, rfl, _, _, rfl, rfl, _, rfl, rfl, _, rfl, ?_⟩
      have bk := bitk (cnt fb (sta : Int))
      unfold turnAt at hq
      refine iteD (fun c1 => ?_) (fun c1 => ?_)
      · have c1' : cnt fb (sta : Int) % 2 = i % 2 := by injection c1 with c1; rw [bk] at c1; omega
        rw [if_pos c1'] at hq
        cases hq
        exact ⟨_, rfl, w, rfl, rfl, (Nd.of e3).d dw⟩
      · have c1' : cnt fb (sta : Int) % 2 ≠ i % 2 := fun h => c1 (by rw [← h, ← bk])
        rw [if_neg c1'] at hq
        obtain ⟨y, hy, dy⟩ := atB _ _ hq
        exact ⟨_, rfl, _, rfl, rIx_sq (v := y) (hb.same e13) (atI_nat hy) ⟨y, rfl, rfl, (Nd.of e13).d dy⟩⟩
    rintro σ' H'' ⟨w', rfl, he, dw'⟩
    rw [he]
    clear he
    have fin2 : ∀ (z : V) (H5 : Hp), Same H3 H5 → Dp K H5 z (g (q0 + 1)) → (∀ a', (fa.drop i).head? = some a' → q0 < a') → _ := fun z H5 g1 g2 g3 => by
      have hp5 := g1 _ _ hp3
      have dM5 : DpAll K H5 (us ++ [z]) ((M ++ [q0 + 1]).map g) := by
        rw [List.map_append]
        exact dps_app ((Nd.of (e3.trans g1)).ds dM) (.cons g2 .nil)
      have sM5 : ∀ t ∈ M ++ [q0 + 1], S t := fun t ht => by
        rcases List.mem_append.mp ht with h | h
        · exact sM t h
        · rw [List.mem_singleton.mp h]; exact Sq0.2
      rw [carL_turn hb1 hq g3] at eq
      exact fin (us ++ [z]) (M ++ [q0 + 1]) (i % 2) (cnt fb (sta : Int)) (upd H5 p (.lst (us ++ [z]))) (some (.int (i : Int))) (some (.int ((i % 2 : Nat) : Int))) (some w) (some w') (Go.new aA aB pA hst hb1 hbin (.inr fun c hc => by have := g3 c (by rw [List.head?_drop]; exact hc); omega)) (Same.mut (e13.trans g1) np) upd_same
        ((Td.lst hp5).ds (n := n) (fun x hx => by obtain ⟨t, ht, rfl⟩ := List.mem_map.mp hx; exact o.fm t (sM5 t ht)) dM5) sM5 (by omega) (by rw [List.length_append]; show M.length + 1 ≤ _; omega) (by rw [List.append_assoc]; exact eq)
    have lus : us.length < sizeLine := by
      rw [dps_length dM, List.length_map]
      exact Nat.lt_of_le_of_lt (show _ ≤ 40000 by omega) (by decide)
    refine ⟨_, rfl, _, rfl, u, as, rfl, ha.same e13, rfl, _, rfl, ?_⟩
    refine iteD (fun c1 => ?_) (fun c1 => ?_)
    · have c1' : i = fa.length := by injection c1 with c1; omega
      refine iteT ?_
      refine ⟨_, rfl, .inl ⟨rfl, _, SqL.of hp3⟩, _, rfl, w', q0, rfl, dw', Sq0.1, Sq0.2, fun z H5 g1 g2 => ?_⟩
      refine ⟨p, us, z, rfl, rfl, g1 _ _ hp3, lus, ?_⟩
      refine ⟨_, rfl, fin2 z H5 g1 g2 fun a' h' => ?_⟩
      rw [List.drop_of_length_le (by omega)] at h'
      cases h'
    · have c1' : i < fa.length := by
        have : i ≠ fa.length := fun h => c1 (by rw [la, ← h])
        omega
      obtain ⟨c, hc⟩ : ∃ c, fa[i]? = some c := ⟨_, List.getElem?_eq_getElem c1'⟩
      have hd : (fa.drop i).head? = some c := by rw [List.head?_drop]; exact hc
      obtain ⟨x, hx, dx⟩ := atA i c hc
      have Sc := (sA c (List.mem_of_getElem? hc)).1
      refine ⟨_, rfl, _, rfl, _, rfl, rIx_sq (v := x) (ha.same e13) (atI_nat hx) ?_⟩
      refine ⟨w', x, q0, c, rfl, dw', (Nd.of e13).d dx, Sq0.1, Sc, fun H4 e4 => ?_⟩
      refine ⟨_, rfl, ?_⟩
      have hp4 := e4 _ _ hp3
      refine iteD (fun c2 => ?_) (fun c2 => ?_)
      · refine ⟨_, rfl, .inl ⟨rfl, _, SqL.of hp4⟩, _, rfl, w', q0, rfl, (Nd.of e4).d dw', Sq0.1, Sq0.2, fun z H5 g1 g2 => ?_⟩
        refine ⟨p, us, z, rfl, rfl, g1 _ _ hp4, lus, ?_⟩
        refine ⟨_, rfl, fin2 z H5 (e4.trans g1) g2 fun a' h' => ?_⟩
        rw [hd] at h'
        cases h'
        exact c2
      · rw [carL_late hb1 hq hd c2] at eq
        exact fin us M bin _ H4 _ _ _ _ (Go.new aA aB pA hst hb1 hbin (.inl rfl)) (e13.trans e4) hp4 ((Nd.of (e3.trans e4)).ds dM) sM hbin (by omega) eq
  · obtain ⟨us, M, bin, sta, att, z8, z9, z10, z11, rfl, _, e, hp, dM, sM, hbin, lM, _, eq⟩ := h
    rw [eq rfl] at dM
    exact ⟨_, rfl, q p us _ (e1.trans e) hp dM⟩
end
end Fb
namespace Fb
open PySem L2
theorem form_num {n : Nat} {g : Int → PyData} {S : Int → Prop} (o : OrdN n g S) (n65 : g 65 = .int 65) {x : Int} (h0 : -(2 ^ 65) ≤ x) (h1 : x < 2 ^ 65) (hx : Num g S x) : formD x = numD g x := by
  have tl := turns_lt (x := x) (n := 65) h0 h1
  rcases num_cases o hx with ⟨pl, e, _⟩ | ⟨npl, e, _⟩
  · rw [e]
    unfold formD
    rw [if_pos pl]
  · rw [e]
    unfold formD
    rw [if_neg npl]
    congr 1
    unfold Tl zs nD
    rw [List.map_map]
    refine List.map_congr_left fun p hp => ?_
    show PyData.int ((p : Nat) : Int) = g ((p : Nat) : Int)
    have := tl p hp
    by_cases h : p ≤ 64
    · exact (o.near ((p : Nat) : Int) (hx.mem _ (List.mem_map.mpr ⟨p, hp, rfl⟩)) (by omega)).symm
    · have : p = 65 := by omega
      subst this
      exact n65.symm
theorem mrg_comm {A B : List Int} (hA : A.Pairwise (· < ·)) (pA : ∀ c ∈ A, 0 ≤ c) (hB : B.Pairwise (· < ·)) (pB : ∀ c ∈ B, 0 ≤ c) : mrg A B = mrg B A := by
  obtain ⟨a1, a2⟩ := mrg_ok hA hB
  obtain ⟨b1, b2⟩ := mrg_ok hB hA
  have q1 : ∀ c ∈ mrg A B, 0 ≤ c := fun c h => (mrg_mem h).elim (pA c) (pB c)
  have q2 : ∀ c ∈ mrg B A, 0 ≤ c := fun c h => (mrg_mem h).elim (pB c) (pA c)
  have t2 := asc_toNat q2 b1
  have k : ∀ p : Nat, (((cnt (mrg B A) (p : Int)) % 2 : Nat) : Int) = Bt p (alt (-1) ((mrg B A).map Int.toNat)) := fun p => by rw [bt_alt p _ t2, ← cnt_zs, zs_toNat q2]
  rw [tl_of b1 q2 k]
  refine tl_of a1 q1 fun p => ?_
  rw [← k p, a2, b2, Nat.add_comm]
theorem com_mem {x y t : Int} (h : t ∈ Tl (Builtin.bitAnd x y)) : t ∈ Tl x ∨ t ∈ Tl y := by
  rw [← com_tl] at h
  exact ((com_ok (tl_asc y) (tl_asc x)).2.1 t h).1
theorem xor_mem {x y t : Int} (h : t ∈ Tl (Builtin.bitXor x y)) : t ∈ Tl x ∨ t ∈ Tl y := by
  rw [← mrg_tl] at h
  exact mrg_mem h
theorem not_mem {x t : Int} (h : t ∈ Tl (-x - 1)) : t = 0 ∨ t ∈ Tl x := by
  rw [← flp_tl] at h
  unfold flp at h
  split at h
  · rename_i r e
    rw [e]
    exact .inr (List.mem_cons_of_mem _ h)
  · rcases List.mem_cons.mp h with h | h
    · exact .inl h
    · exact .inr h
theorem plain_and {x y : Int} (hx : plain x) (hy : plain y) : plain (Builtin.bitAnd x y) := tl_near.mpr fun c h => (com_mem h).elim (tl_near.mp hx c) (tl_near.mp hy c)
theorem plain_xor {x y : Int} (hx : plain x) (hy : plain y) : plain (Builtin.bitXor x y) := tl_near.mpr fun c h => (xor_mem h).elim (tl_near.mp hx c) (tl_near.mp hy c)
theorem num_pl {n : Nat} {g : Int → PyData} {S : Int → Prop} (o : OrdN n g S) {z : Int} (hz : Num g S z) (h : plain z) : numD g z = .int z := by
  rcases num_cases o hz with ⟨_, e, _⟩ | ⟨npl, _⟩
  · exact e
  · exact absurd h npl
theorem near_bin {n : Nat} {g : Int → PyData} {S : Int → Prop} (o : OrdN n g S) {x y w W : Int} (nx : Num g S x) (ny : Num g S y) (hx : Near g x) (hy : Near g y) (hw : ∀ t ∈ Tl w, t ∈ Tl x ∨ t ∈ Tl y) (e : Tl W = (Tl w).map (mv g)) :
    Tl W = (Tl w).map (mv g) ∧ InB W ∧ ∀ c ∈ Tl w, g c = .int (mv g c) := by
  have hg : ∀ c ∈ Tl w, g c = .int (mv g c) ∧ mv g c ≤ 520000 := fun c hc => (hw c hc).elim (fun h => ⟨(hx c h).1, (hx c h).2.2⟩) (fun h => ⟨(hy c h).1, (hy c h).2.2⟩)
  refine ⟨e, inB_tl (b := 520000) (by decide) fun c hc => ?_, fun c hc => (hg c hc).1⟩
  rw [e] at hc
  obtain ⟨t, ht, rfl⟩ := List.mem_map.mp hc
  exact (hg t ht).2
theorem near_R {n : Nat} {g : Int → PyData} {S : Int → Prop} (o : OrdN n g S) {x y : Int} (nx : Num g S x) (ny : Num g S y) (hx : Near g x) (hy : Near g y) : ∀ c d, (c ∈ Tl x ∨ c ∈ Tl y) → (d ∈ Tl x ∨ d ∈ Tl y) → (mv g c < mv g d ↔ c < d) := fun c d hc hd =>
  mv_mono o (hc.elim (nx.mem c) (ny.mem c)) (hd.elim (nx.mem d) (ny.mem d)) (hc.elim (fun h => (hx c h).1) (fun h => (hy c h).1)) (hd.elim (fun h => (hx d h).1) (fun h => (hy d h).1))
theorem near_bitAnd {n : Nat} {g : Int → PyData} {S : Int → Prop} (o : OrdN n g S) {x y : Int} (nx : Num g S x) (ny : Num g S y) (hx : Near g x) (hy : Near g y) :
    Tl (Builtin.bitAnd (XN g x) (XN g y)) = (Tl (Builtin.bitAnd x y)).map (mv g) ∧ InB (Builtin.bitAnd (XN g x) (XN g y)) ∧ ∀ c ∈ Tl (Builtin.bitAnd x y), g c = .int (mv g c) :=
  near_bin o nx ny hx hy (fun t => com_mem) (by
    rw [← com_tl, tl_XN o nx hx, tl_XN o ny hy, com_map (near_R o nx ny hx hy) (fun c h => .inr h) (fun c h => .inl h), com_tl])
theorem near_bitXor {n : Nat} {g : Int → PyData} {S : Int → Prop} (o : OrdN n g S) {x y : Int} (nx : Num g S x) (ny : Num g S y) (hx : Near g x) (hy : Near g y) :
    Tl (Builtin.bitXor (XN g x) (XN g y)) = (Tl (Builtin.bitXor x y)).map (mv g) ∧ InB (Builtin.bitXor (XN g x) (XN g y)) ∧ ∀ c ∈ Tl (Builtin.bitXor x y), g c = .int (mv g c) :=
  near_bin o nx ny hx hy (fun t => xor_mem) (by
    rw [← mrg_tl, tl_XN o nx hx, tl_XN o ny hy, mrg_map (near_R o nx ny hx hy) (fun c h => .inl h) (fun c h => .inr h), mrg_tl])
section
variable {P : Program} {w : World} {K : PySem.W.Frag} {mg : Str → Option Value} {base : Heap} {f : Addr} {fd : FuncData}
abbrev S_flip : Stmt := top 44
abbrev N_flip : List Str := ["x"]
abbrev P_flip : List Str := ["x"]
theorem sc_flip : FnScope N_flip P_flip (defScope S_flip) := ⟨rfl, rfl, rfl, by decide +kernel, rfl, by decide +kernel, by decide +kernel⟩
def spNum1 (K : PySem.W.Frag) (g : Int → PyData) (S : Int → Prop) (r : Int → Int) : Sp := fun vs H Q _ => ∃ (v : V) (z : Int), vs = [v] ∧ Dp K H v (numD g z) ∧ Num g S z ∧ Num g S (r z) ∧ ∀ (v' : V) (H' : Hp), Same H H' → Dp K H' v' (numD g (r z)) → Q v' H'
theorem ok_flipn {n : Nat} {g : Int → PyData} {S : Int → Prop} (o : OrdN n g S) (F : Fun K "flip" "flip" S_flip f fd) (B : Blt mg) (Cform_with : Has P w K mg base 3 "form_with" P_form_with [] (spWith K g S)) (Cflipped_turns : Has P w K mg base 1 "flipped_turns" P_flipped_turns [] (spFlip K g S)) : FnOk P w K mg base CX0 4 f fd P_flip (spNum1 K g S fun z => -z - 1) := by
  have nd := sc_flip.nd
  refine F.ok sc_flip (fun vs H Q E h => ?_) (fun cdv A outer s H vs Q E hr h => ?_)
  · obtain ⟨v, z, rfl, _⟩ := h
    rfl
  obtain ⟨v, z, rfl, hd, hz, hz', q⟩ := h
  refine ⟨_, (pss_cons (ps_if (pt_val (pe_callB (call_isiI K) (by rfl) B.isinstance (by decide +kernel) (pa_cons (pv 0) (pa_cons (pe_bltn (by rfl) B.int (by decide +kernel) (show RelV (.ty "int") (.type "int") from rfl)) pa_nil)))) (pss_one (ps_ret (pe_un un_inv (pv 0)))) pss_nil)
    (pss_one (ps_ret (pe_H Cform_with (hr.mono (by decide)) rfl (pa_cons (pe_H Cflipped_turns (hr.mono (by decide)) rfl (pa_cons (pv 0) pa_nil)) pa_nil))))), ?_⟩
  refine ⟨_, rfl, _, _, rfl, hd, _, rfl, ?_⟩
  rcases num_cases o hz with ⟨pl, e, ed⟩ | ⟨npl, e, _⟩
  · rw [e] at hd ⊢
    cases hd
    refine iteT ?_
    refine ⟨_, rfl, _, rfl, ?_⟩
    have eb : Builtin.bitNot z = -z - 1 := by unfold Builtin.bitNot; omega
    have pl' : plain (-z - 1) := ⟨by have := pl.2; omega, by have := pl.1; omega⟩
    have k := q (.int (-z - 1)) H (Same.refl H)
    rw [num_pl o hz' pl'] at k
    show Q (.int (Builtin.bitNot z)) H
    rw [eb]
    exact k (.int _)
  · rw [e] at hd ⊢
    cases hd with
    | tup hs ha =>
    refine iteF ?_
    refine ⟨_, rfl, _, Tl z, rfl, ⟨_, .inr hs, ha⟩, hz.mem, by have := hz.len; omega, fun p us H1 e1 hp dp => ?_⟩
    refine ⟨p, -z - 1, rfl, ⟨us, .inl hp, ?_⟩, hz', fun v' H2 e2 d2 => q v' H2 (e1.trans e2) d2⟩
    rw [← flp_tl]
    exact dp
abbrev S_both : Stmt := top 45
abbrev N_both : List Str := ["x", "y"]
abbrev P_both : List Str := ["x", "y"]
theorem sc_both : FnScope N_both P_both (defScope S_both) := ⟨rfl, rfl, rfl, by decide +kernel, rfl, by decide +kernel, by decide +kernel⟩
def spNum2 (K : PySem.W.Frag) (g : Int → PyData) (S : Int → Prop) (r : Int → Int → Int) : Sp := fun vs H Q _ => ∃ (v u : V) (x y : Int), vs = [v, u] ∧ Dp K H v (numD g x) ∧ Dp K H u (numD g y) ∧ Num g S x ∧ Num g S y ∧ Lo2 g x y ∧ Num g S (r x y) ∧ ∀ (v' : V) (H' : Hp), Same H H' → Dp K H' v' (numD g (r x y)) → Q v' H'
/-- which of two numbers are ints -/
theorem two_cases {n : Nat} {g : Int → PyData} {S : Int → Prop} (o : OrdN n g S) {x y : Int} (hx : Num g S x) (hy : Num g S y) :
    (plain x ∧ plain y ∧ numD g x = .int x ∧ numD g y = .int y) ∨ (isI (numD g x) && isI (numD g y)) = false := by
  rcases num_cases o hx with ⟨p1, e1, _⟩ | ⟨_, e1, _⟩ <;> rcases num_cases o hy with ⟨p2, e2, _⟩ | ⟨_, e2, _⟩
  · exact .inl ⟨p1, p2, e1, e2⟩
  · right; rw [e1, e2]; rfl
  · right; rw [e1, e2]; rfl
  · right; rw [e1, e2]; rfl
theorem fm2_tl (x y : Int) : mrg (fm2 (Tl x) (Tl y)).1 (fm2 (Tl x) (Tl y)).2 = Tl (Builtin.bitXor x y) := by
  unfold fm2
  split
  · exact mrg_tl x y
  · rw [bxor_comm]; exact mrg_tl y x
theorem fm2_com (x y : Int) : com (fm2 (Tl x) (Tl y)).2 (fm2 (Tl x) (Tl y)).1 = Tl (Builtin.bitAnd x y) := by
  unfold fm2
  split
  · exact com_tl x y
  · rw [PyProof.Rows.bitAnd_comm]; exact com_tl y x
def Lo4 (_ : Int → PyData) (x y : Int) : Prop := (Tl x).length + (Tl y).length ≤ 4000
/-- two numbers whose turns are few enough for the common ones -/
def spNumA (K : PySem.W.Frag) (g : Int → PyData) (S : Int → Prop) (r : Int → Int → Int) : Sp := fun vs H Q _ => ∃ (v u : V) (x y : Int), vs = [v, u] ∧ Dp K H v (numD g x) ∧ Dp K H u (numD g y) ∧ Num g S x ∧ Num g S y ∧ Lo4 g x y ∧ Num g S (r x y) ∧ ∀ (v' : V) (H' : Hp), Same H H' → Dp K H' v' (numD g (r x y)) → Q v' H'
theorem ok_both {n : Nat} {g : Int → PyData} {S : Int → Prop} (o : OrdN n g S) (F : Fun K "both" "both" S_both f fd) (B : Blt mg) (Cform_with : Has P w K mg base 3 "form_with" P_form_with [] (spWith K g S)) (Ccommon_turns : Has P w K mg base (2 * n + 6) "common_turns" P_common_turns [] (spCommon K g S))
    (Cturns_in : Has P w K mg base 3 "turns_in" P_turns_in [] (spTin K g S)) (Care_near : Has P w K mg base 2 "are_near" P_are_near [] (spAreNear K g S)) (Cint_of_form : Has P w K mg base 3 "int_of_form" P_int_of_form [] (spIof K g S)) (Cform_of_int : Has P w K mg base 3 "form_of_int" P_form_of_int [] (spFoi K)) : FnOk P w K mg base CX0 (2 * n + 7) f fd P_both (spNumA K g S Builtin.bitAnd) := by
  have nd := sc_both.nd
  refine F.ok sc_both (fun vs H Q E h => ?_) (fun cdv A outer s H vs Q E hr h => ?_)
  · obtain ⟨v, u, x, y, rfl, _⟩ := h
    rfl
  obtain ⟨v, u, x, y, rfl, hx, hy, nx, ny, l4, nr, q⟩ := h
  have l4' : (Tl x).length + (Tl y).length ≤ 4000 := l4
  have lxy : Lo2 g x y := by show _ ≤ 8000; omega
  refine ⟨_, (C8.pss_cut (ps_if (PW.pt (pw_and (pt_val (pe_callB (call_isiI K) (by rfl) B.isinstance (by decide +kernel) (pa_cons (pv 0) (pa_cons (pe_bltn (by rfl) B.int (by decide +kernel) (show RelV (.ty "int") (.type "int") from rfl)) pa_nil)))) (pw_and1 (pt_val (pe_callB (call_isiI K) (by rfl) B.isinstance (by decide +kernel) (pa_cons (pv 1) (pa_cons (pe_bltn (by rfl) B.int (by decide +kernel) (show RelV (.ty "int") (.type "int") from rfl)) pa_nil))))))) (pss_one (ps_ret (pe_op op_and (pv 0) (pv 1)))) pss_nil)
    (pss_cons (ps_if (pt_val (pe_H Care_near (hr.mono (by omega)) rfl (pa_cons (pv 0) (pa_cons (pv 1) pa_nil)))) (pss_one (ps_ret (pe_H Cform_of_int (hr.mono (by omega)) rfl (pa_cons (pe_op op_and (pe_H Cint_of_form (hr.mono (by omega)) rfl (pa_cons (pv 0) pa_nil)) (pe_H Cint_of_form (hr.mono (by omega)) rfl (pa_cons (pv 1) pa_nil))) pa_nil)))) pss_nil)
    (pss_one (ps_ret (pe_H Cform_with (hr.mono (by omega)) rfl (pa_cons (pe_H Ccommon_turns (hr.mono (by omega)) rfl (pa_cons (pe_H Cturns_in (hr.mono (by omega)) rfl (pa_cons (pv 0) pa_nil)) (pa_cons (pe_H Cturns_in (hr.mono (by omega)) rfl (pa_cons (pv 1) pa_nil)) pa_nil))) pa_nil)))))), ?_⟩
  refine ⟨fun σ H' => σ = [some v, some u] ∧ H' = H ∧ ¬ (plain x ∧ plain y), ?_, ?_⟩
  · refine ⟨_, rfl, _, _, rfl, hx, _, rfl, ?_⟩
    rcases num_cases o nx with ⟨p1, e1, _⟩ | ⟨np1, e1, _⟩
    · rcases num_cases o ny with ⟨p2, e2, _⟩ | ⟨np2, e2, _⟩
      · rw [e1] at hx ⊢
        rw [e2] at hy
        cases hx
        cases hy
        refine iteT ?_
        refine ⟨_, rfl, _, _, rfl, .int _, _, rfl, ?_⟩
        refine iteT ?_
        have k := q (.int (Builtin.bitAnd x y)) H (Same.refl H)
        rw [num_pl o nr (plain_and p1 p2)] at k
        exact ⟨_, rfl, _, rfl, _, _, rfl, rfl, k (.int _)⟩
      · rw [show isI (numD g x) = true by rw [e1]; rfl]
        refine iteT ?_
        refine ⟨_, rfl, _, _, rfl, hy, _, rfl, ?_⟩
        rw [show isI (numD g y) = false by rw [e2]; rfl]
        exact iteF ⟨rfl, rfl, fun h => np2 h.2⟩
    · rw [show isI (numD g x) = false by rw [e1]; rfl]
      exact iteF ⟨rfl, rfl, fun h => np1 h.1⟩
  rintro σ H' ⟨rfl, rfl, np⟩
  refine ⟨_, rfl, _, rfl, v, u, x, y, rfl, hx, hy, nx, ny, lxy, np, fun b hb => ?_⟩
  refine ⟨_, rfl, ?_⟩
  cases b with
  | true =>
    refine iteT ?_
    obtain ⟨hn1, hn2, _⟩ := hb rfl
    refine ⟨_, rfl, v, x, rfl, hx, nx, hn1, fun H1 e1 => ?_⟩
    refine ⟨_, rfl, u, y, rfl, (Nd.of e1).d hy, ny, hn2, fun H2 e2 => ?_⟩
    obtain ⟨k1, k2, k3⟩ := near_bitAnd o nx ny hn1 hn2
    refine ⟨_, _, rfl, rfl, _, rfl, k2, fun v' H3 e3 d3 => ?_⟩
    rw [near_form k1 nr.len k3] at d3
    exact q v' H3 (e1.trans (e2.trans e3)) d3
  | false =>
    refine iteF ?_
    refine ⟨_, rfl, v, x, rfl, hx, nx, fun a H1 e1 pa => ?_⟩
    refine ⟨_, rfl, u, y, rfl, (Nd.of e1).d hy, ny, fun b H2 e2 pb => ?_⟩
    refine ⟨a, b, Tl x, Tl y, rfl, pa.same e2, pb, tl_asc x, tl_asc y, nx.mem, ny.mem, by omega, fun p us H3 e3 hp dp => ?_⟩
    rw [fm2_com] at dp
    exact ⟨p, _, rfl, ⟨us, .inl hp, dp⟩, nr, fun v' H4 e4 d4 => q v' H4 (e1.trans (e2.trans (e3.trans e4))) d4⟩
abbrev S_differ : Stmt := top 47
abbrev N_differ : List Str := ["x", "y"]
abbrev P_differ : List Str := ["x", "y"]
theorem sc_differ : FnScope N_differ P_differ (defScope S_differ) := ⟨rfl, rfl, rfl, by decide +kernel, rfl, by decide +kernel, by decide +kernel⟩
theorem ok_differ {n : Nat} {g : Int → PyData} {S : Int → Prop} (o : OrdN n g S) (F : Fun K "differ" "differ" S_differ f fd) (B : Blt mg) (Cform_with : Has P w K mg base 3 "form_with" P_form_with [] (spWith K g S)) (Cmerged_turns : Has P w K mg base (2 * n + 5) "merged_turns" P_merged_turns [] (spMerged K g S))
    (Cturns_in : Has P w K mg base 3 "turns_in" P_turns_in [] (spTin K g S)) (Care_near : Has P w K mg base 2 "are_near" P_are_near [] (spAreNear K g S)) (Cint_of_form : Has P w K mg base 3 "int_of_form" P_int_of_form [] (spIof K g S)) (Cform_of_int : Has P w K mg base 3 "form_of_int" P_form_of_int [] (spFoi K)) : FnOk P w K mg base CX0 (2 * n + 7) f fd P_differ (spNum2 K g S Builtin.bitXor) := by
  have nd := sc_differ.nd
  refine F.ok sc_differ (fun vs H Q E h => ?_) (fun cdv A outer s H vs Q E hr h => ?_)
  · obtain ⟨v, u, x, y, rfl, _⟩ := h
    rfl
  obtain ⟨v, u, x, y, rfl, hx, hy, nx, ny, lxy, nr, q⟩ := h
  refine ⟨_, (C8.pss_cut (ps_if (PW.pt (pw_and (pt_val (pe_callB (call_isiI K) (by rfl) B.isinstance (by decide +kernel) (pa_cons (pv 0) (pa_cons (pe_bltn (by rfl) B.int (by decide +kernel) (show RelV (.ty "int") (.type "int") from rfl)) pa_nil)))) (pw_and1 (pt_val (pe_callB (call_isiI K) (by rfl) B.isinstance (by decide +kernel) (pa_cons (pv 1) (pa_cons (pe_bltn (by rfl) B.int (by decide +kernel) (show RelV (.ty "int") (.type "int") from rfl)) pa_nil))))))) (pss_one (ps_ret (pe_op op_xor (pv 0) (pv 1)))) pss_nil)
    (pss_cons (ps_if (pt_val (pe_H Care_near (hr.mono (by omega)) rfl (pa_cons (pv 0) (pa_cons (pv 1) pa_nil)))) (pss_one (ps_ret (pe_H Cform_of_int (hr.mono (by omega)) rfl (pa_cons (pe_op op_xor (pe_H Cint_of_form (hr.mono (by omega)) rfl (pa_cons (pv 0) pa_nil)) (pe_H Cint_of_form (hr.mono (by omega)) rfl (pa_cons (pv 1) pa_nil))) pa_nil)))) pss_nil)
    (pss_one (ps_ret (pe_H Cform_with (hr.mono (by omega)) rfl (pa_cons (pe_H Cmerged_turns (hr.mono (by omega)) rfl (pa_cons (pe_H Cturns_in (hr.mono (by omega)) rfl (pa_cons (pv 0) pa_nil)) (pa_cons (pe_H Cturns_in (hr.mono (by omega)) rfl (pa_cons (pv 1) pa_nil)) pa_nil))) pa_nil)))))), ?_⟩
  refine ⟨fun σ H' => σ = [some v, some u] ∧ H' = H ∧ ¬ (plain x ∧ plain y), ?_, ?_⟩
  · refine ⟨_, rfl, _, _, rfl, hx, _, rfl, ?_⟩
    rcases num_cases o nx with ⟨p1, e1, _⟩ | ⟨np1, e1, _⟩
    · rcases num_cases o ny with ⟨p2, e2, _⟩ | ⟨np2, e2, _⟩
      · rw [e1] at hx ⊢
        rw [e2] at hy
        cases hx
        cases hy
        refine iteT ?_
        refine ⟨_, rfl, _, _, rfl, .int _, _, rfl, ?_⟩
        refine iteT ?_
        have k := q (.int (Builtin.bitXor x y)) H (Same.refl H)
        rw [num_pl o nr (plain_xor p1 p2)] at k
        exact ⟨_, rfl, _, rfl, _, _, rfl, rfl, k (.int _)⟩
      · rw [show isI (numD g x) = true by rw [e1]; rfl]
        refine iteT ?_
        refine ⟨_, rfl, _, _, rfl, hy, _, rfl, ?_⟩
        rw [show isI (numD g y) = false by rw [e2]; rfl]
        exact iteF ⟨rfl, rfl, fun h => np2 h.2⟩
    · rw [show isI (numD g x) = false by rw [e1]; rfl]
      exact iteF ⟨rfl, rfl, fun h => np1 h.1⟩
  rintro σ H' ⟨rfl, rfl, np⟩
  refine ⟨_, rfl, _, rfl, v, u, x, y, rfl, hx, hy, nx, ny, lxy, np, fun b hb => ?_⟩
  refine ⟨_, rfl, ?_⟩
  cases b with
  | true =>
    refine iteT ?_
    obtain ⟨hn1, hn2, _⟩ := hb rfl
    refine ⟨_, rfl, v, x, rfl, hx, nx, hn1, fun H1 e1 => ?_⟩
    refine ⟨_, rfl, u, y, rfl, (Nd.of e1).d hy, ny, hn2, fun H2 e2 => ?_⟩
    obtain ⟨k1, k2, k3⟩ := near_bitXor o nx ny hn1 hn2
    refine ⟨_, _, rfl, rfl, _, rfl, k2, fun v' H3 e3 d3 => ?_⟩
    rw [near_form k1 nr.len k3] at d3
    exact q v' H3 (e1.trans (e2.trans e3)) d3
  | false =>
    refine iteF ?_
    refine ⟨_, rfl, v, x, rfl, hx, nx, fun a H1 e1 pa => ?_⟩
    refine ⟨_, rfl, u, y, rfl, (Nd.of e1).d hy, ny, fun b H2 e2 pb => ?_⟩
    refine ⟨a, b, Tl x, Tl y, rfl, pa.same e2, pb, tl_asc x, tl_asc y, nx.mem, ny.mem, by have := nx.len; have := ny.len; omega, fun p us H3 e3 hp dp => ?_⟩
    rw [fm2_tl] at dp
    exact ⟨p, _, rfl, ⟨us, .inl hp, dp⟩, nr, fun v' H4 e4 d4 => q v' H4 (e1.trans (e2.trans (e3.trans e4))) d4⟩
abbrev S_either : Stmt := top 46
abbrev N_either : List Str := ["x", "y"]
abbrev P_either : List Str := ["x", "y"]
theorem sc_either : FnScope N_either P_either (defScope S_either) := ⟨rfl, rfl, rfl, by decide +kernel, rfl, by decide +kernel, by decide +kernel⟩
def spOr (K : PySem.W.Frag) (g : Int → PyData) (S : Int → Prop) : Sp := fun vs H Q _ => ∃ (v u : V) (x y : Int), vs = [v, u] ∧ Dp K H v (numD g x) ∧ Dp K H u (numD g y) ∧ Num g S x ∧ Num g S y ∧ Num g S (-x - 1) ∧ Num g S (-y - 1) ∧ Lo4 g (-x - 1) (-y - 1) ∧ Num g S (Builtin.bitAnd (-x - 1) (-y - 1)) ∧ Num g S (Builtin.bitOr x y) ∧
  ∀ (v' : V) (H' : Hp), Same H H' → Dp K H' v' (numD g (Builtin.bitOr x y)) → Q v' H'
theorem or_eq (x y : Int) : -Builtin.bitAnd (-x - 1) (-y - 1) - 1 = Builtin.bitOr x y := by
  rw [PyProof.Rows.bitOr_and]
  have e1 := PyProof.Rows.bitAnd_not (-x - 1) y
  have e2 := PyProof.Rows.bitAnd_not y x
  unfold Builtin.bitNot at e1 e2
  rw [show (-y - 1 : Int) = -1 - y by omega] at *
  rw [show (-x - 1 : Int) = -1 - x by omega] at *
  rw [PyProof.Rows.bitAnd_comm x y, PyProof.Rows.bitAnd_comm (-1 - x) y] at *
  omega
theorem ok_either {n : Nat} {g : Int → PyData} {S : Int → Prop} (F : Fun K "either" "either" S_either f fd) (Cflip : Has P w K mg base 4 "flip" P_flip [] (spNum1 K g S fun z => -z - 1)) (Cboth : Has P w K mg base (2 * n + 7) "both" P_both [] (spNumA K g S Builtin.bitAnd)) :
    FnOk P w K mg base CX0 (2 * n + 8) f fd P_either (spOr K g S) := by
  have nd := sc_either.nd
  refine F.ok sc_either (fun vs H Q E h => ?_) (fun cdv A outer s H vs Q E hr h => ?_)
  · obtain ⟨v, u, x, y, rfl, _⟩ := h
    rfl
  obtain ⟨v, u, x, y, rfl, hx, hy, nx, ny, nx', ny', lxy', na, nr, q⟩ := h
  refine ⟨_, (pss_one (ps_ret (pe_H Cflip (hr.mono (by omega)) rfl (pa_cons (pe_H Cboth (hr.mono (by omega)) rfl (pa_cons (pe_H Cflip (hr.mono (by omega)) rfl (pa_cons (pv 0) pa_nil)) (pa_cons (pe_H Cflip (hr.mono (by omega)) rfl (pa_cons (pv 1) pa_nil)) pa_nil))) pa_nil)))), ?_⟩
  refine ⟨_, rfl, v, x, rfl, hx, nx, nx', fun v1 H1 e1 d1 => ?_⟩
  refine ⟨_, rfl, u, y, rfl, (Nd.of e1).d hy, ny, ny', fun v2 H2 e2 d2 => ?_⟩
  refine ⟨v1, v2, -x - 1, -y - 1, rfl, (Nd.of e2).d d1, d2, nx', ny', lxy', na, fun v3 H3 e3 d3 => ?_⟩
  refine ⟨v3, _, rfl, d3, na, by show Num g S (-Builtin.bitAnd (-x - 1) (-y - 1) - 1); rw [or_eq]; exact nr, fun v4 H4 e4 d4 => ?_⟩
  have d5 : Dp K H4 v4 (numD g (-Builtin.bitAnd (-x - 1) (-y - 1) - 1)) := d4
  rw [or_eq] at d5
  exact q v4 H4 (e1.trans (e2.trans (e3.trans e4))) d5
abbrev S_plus_one : Stmt := top 48
abbrev N_plus_one : List Str := ["x", "behind"]
abbrev P_plus_one : List Str := ["x"]
theorem sc_plus_one : FnScope N_plus_one P_plus_one (defScope S_plus_one) := ⟨rfl, rfl, rfl, by decide +kernel, rfl, by decide +kernel, by decide +kernel⟩
theorem b_mem {b : Int} {l : List Int} : b ∈ mrg [0, b] l ∨ b ∈ l := by
  show b ∈ l.take (clt l 0) ++ ((if (0 : Int) ∈ l then [] else [0]) ++ ((l.drop (cnt l 0)).take (clt (l.drop (cnt l 0)) b) ++ ((if b ∈ l.drop (cnt l 0) then [] else [b]) ++ mrg [] _))) ∨ b ∈ l
  by_cases h : b ∈ l.drop (cnt l 0)
  · exact .inr (List.mem_of_mem_drop h)
  · left
    rw [if_neg h]
    simp
/-- a place that is an int -/
theorem ok_next {g : Int → PyData} {S : Int → Prop} (hg : ∀ c, S c → g c = .int c ∧ -(2 ^ 64) ≤ c ∧ c < 2 ^ 64) (F : Fun K "plus_one" "plus_one" S_plus_one f fd) (B : Blt mg) (Cform_of_int : Has P w K mg base 3 "form_of_int" P_form_of_int [] (spFoi K)) {sp1 sp2 sp3 : Sp} {k : Nat}
    (Cplus_one : Has P w K mg base 1 "plus_one" P_plus_one [] sp1) (Cform_with : Has P w K mg base 1 "form_with" P_form_with [] sp2) (Cmerged_turns : Has P w K mg base 1 "merged_turns" P_merged_turns [] sp3) : FnOk P w K mg base CX0 4 f fd P_plus_one (spNext K g S) := by
  have nd := sc_plus_one.nd
  refine F.ok sc_plus_one (fun vs H Q E h => ?_) (fun cdv A outer s H vs Q E hr h => ?_)
  · obtain ⟨v, c, rfl, _⟩ := h
    rfl
  obtain ⟨v, c, rfl, hd, h0, h1, q⟩ := h
  refine ⟨_, (pss_cons (ps_if (pt_val (pe_callB (call_isiI K) (by rfl) B.isinstance (by decide +kernel) (pa_cons (pv 0) (pa_cons (pe_bltn (by rfl) B.int (by decide +kernel) (show RelV (.ty "int") (.type "int") from rfl)) pa_nil)))) (pss_one (ps_ret (pe_H Cform_of_int (hr.mono (by decide)) rfl (pa_cons (pe_op op_add (pv 0) pe_int) pa_nil)))) pss_nil)
    (C8.pss_cut (ps_set (i := 1) nd rfl (Or.inl rfl) (pe_ifExp (pt_cmpR (op_eqD hr.units) (pe_ix ix_tup (pv 0) pe_int (fun _ _ => rfl)) pe_int (nomark _)) (pe_H Cplus_one (hr.mono (by decide)) rfl (pa_cons (pe_ix ix_tup (pv 0) pe_int (fun _ _ => rfl)) pa_nil)) pe_int))
    (pss_one (ps_ret (pe_H Cform_with (hr.mono (by decide)) rfl (pa_cons (pe_H Cmerged_turns (hr.mono (by decide)) rfl (pa_cons (pe_tup (pa_cons pe_int (pa_cons (pv 1) pa_nil))) (pa_cons (pv 0) pa_nil))) pa_nil)))))), ?_⟩
  obtain ⟨g0, b0, b0'⟩ := hg c h0
  obtain ⟨g1, b1, b1'⟩ := hg (c + 1) h1
  rw [g0] at hd
  cases hd
  refine ⟨_, rfl, _, _, rfl, .int c, _, rfl, ?_⟩
  refine iteT ?_
  refine ⟨_, rfl, _, _, rfl, rfl, c + 1, rfl, InB.of (n := 64) b1 b1' (by decide), fun v' H' e d => ?_⟩
  refine q v' H' e ?_
  rw [g1]
  unfold formD at d
  rw [if_pos ⟨b1, b1'⟩] at d
  exact d
/-- a number and one -/
def spSucc (K : PySem.W.Frag) (g : Int → PyData) (S S' : Int → Prop) : Sp := fun vs H Q _ => ∃ (v : V) (z : Int), vs = [v] ∧ Dp K H v (numD g z) ∧ Num g S z ∧ Num g S (z + 1) ∧ (∀ t r, Tl z = 0 :: t :: r → S' t ∧ S' (t + 1)) ∧ ∀ (v' : V) (H' : Hp), Same H H' → Dp K H' v' (numD g (z + 1)) → Q v' H'
theorem ok_succN {n kp : Nat} (hn : n ≤ 40) {g : Int → PyData} {S S' : Int → Prop} (o : OrdN n g S) (n65 : g 65 = .int 65) (z0 : S 0) (F : Fun K "plus_one" "plus_one" S_plus_one f fd) (B : Blt mg) (Cform_of_int : Has P w K mg base 3 "form_of_int" P_form_of_int [] (spFoi K))
    (Cplus_one : Has P w K mg base kp "plus_one" P_plus_one [] (spNext K g S')) (Cform_with : Has P w K mg base 3 "form_with" P_form_with [] (spWith K g S)) (Cmerged_turns : Has P w K mg base (2 * n + 5) "merged_turns" P_merged_turns [] (spMerged K g S)) :
    FnOk P w K mg base CX0 (2 * n + kp + 6) f fd P_plus_one (spSucc K g S S') := by
  have nd := sc_plus_one.nd
  refine F.ok sc_plus_one (fun vs H Q E h => ?_) (fun cdv A outer s H vs Q E hr h => ?_)
  · obtain ⟨v, z, rfl, _⟩ := h
    rfl
  obtain ⟨v, z, rfl, hd, hz, hz', hnx, q⟩ := h
  refine ⟨_, (pss_cons (ps_if (pt_val (pe_callB (call_isiI K) (by rfl) B.isinstance (by decide +kernel) (pa_cons (pv 0) (pa_cons (pe_bltn (by rfl) B.int (by decide +kernel) (show RelV (.ty "int") (.type "int") from rfl)) pa_nil)))) (pss_one (ps_ret (pe_H Cform_of_int (hr.mono (by omega)) rfl (pa_cons (pe_op op_add (pv 0) pe_int) pa_nil)))) pss_nil)
    (C8.pss_cut (ps_set (i := 1) nd rfl (Or.inl rfl) (pe_ifExp (pt_cmpR (op_eqD hr.units) (pe_ix ix_tup (pv 0) pe_int (fun _ _ => rfl)) pe_int (nomark _)) (pe_H Cplus_one (hr.mono (by omega)) rfl (pa_cons (pe_ix ix_tup (pv 0) pe_int (fun _ _ => rfl)) pa_nil)) pe_int))
    (pss_one (ps_ret (pe_H Cform_with (hr.mono (by omega)) rfl (pa_cons (pe_H Cmerged_turns (hr.mono (by omega)) rfl (pa_cons (pe_tup (pa_cons pe_int (pa_cons (pv 1) pa_nil))) (pa_cons (pv 0) pa_nil))) pa_nil)))))), ?_⟩
  have g0 : g 0 = .int 0 := o.near 0 z0 (by decide)
  have g1 : S 1 → g 1 = .int 1 := fun h => o.near 1 h (by decide)
  refine ⟨_, rfl, _, _, rfl, hd, _, rfl, ?_⟩
  rcases num_cases o hz with ⟨pl, e, ed⟩ | ⟨npl, e, m, p, el, p64⟩
  · rw [e] at hd ⊢
    cases hd
    refine iteT ?_
    have b0 : -(2 ^ 65) ≤ z + 1 := by have := pl.1; omega
    have b1 : z + 1 < 2 ^ 65 := by have := pl.2; omega
    refine ⟨_, rfl, _, _, rfl, rfl, z + 1, rfl, InB.of (n := 65) b0 b1 (by decide), fun v' H' e1 d => q v' H' e1 ?_⟩
    rw [form_num o n65 b0 b1 hz'] at d
    exact d
  · rw [e] at hd ⊢
    cases hd with
    | @tup a xs _ hs ha =>
    refine iteF ?_
    have lxs : xs.length = (Tl z).length := by rw [dps_length ha, List.length_map]
    have hP : Pls K H g a (Tl z) := ⟨xs, .inr hs, ha⟩
    obtain ⟨_, hs', _, _, hat⟩ := hP.at
    have asc := tl_asc z
    have pos := tl_pos z
    have hSq : Sq K H a xs := .inr hs
    obtain ⟨t0, r0, er⟩ : ∃ t0 r0, Tl z = t0 :: r0 := by
      cases h : Tl z with
      | nil => rw [h] at el; simp at el
      | cons t r => exact ⟨t, r, rfl⟩
    -- the second place of the mask
    have key : ∀ b : Int, (∃ t r, Tl z = 0 :: t :: r ∧ b = t + 1) ∨ (Tl z).head? ≠ some 0 ∧ b = 1 → S b ∧ mrg [0, b] (Tl z) = Tl (z + 1) ∧ 0 < b := fun b hb => by
      have es := succ_tl hb
      refine ⟨?_, es, ?_⟩
      · rcases b_mem (b := b) (l := Tl z) with h | h
        · rw [es] at h; exact hz'.mem b h
        · exact hz.mem b h
      · rcases hb with ⟨t, r, e2, rfl⟩ | ⟨_, rfl⟩
        · have := pos t (by rw [e2]; simp); omega
        · decide
    refine ⟨fun σ' H' => ∃ (w : V) (b : Int), σ' = [some (.ref a), some w] ∧ Same H H' ∧ Dp K H' w (g b) ∧ S b ∧ mrg [0, b] (Tl z) = Tl (z + 1) ∧ 0 < b, ?_, ?_⟩
    · obtain ⟨x0, hx0, dx0⟩ : ∃ v, xs[0]? = some v ∧ Dp K H v (g t0) := by
        obtain ⟨v, hv⟩ : ∃ v, xs[0]? = some v := ⟨_, List.getElem?_eq_getElem (by rw [lxs, er]; simp)⟩
        obtain ⟨d', hd', dp⟩ := dps_get ha hv
        rw [er] at hd'
        cases hd'
        exact ⟨v, hv, dp⟩
      have S0 := hz.mem t0 (by rw [er]; simp)
      refine ⟨_, rfl, a, xs, (0 : Int), x0, rfl, rfl, hs, atI_nat hx0, _, _, dx0, .int 0, shaped_fm (o.fm t0 S0) hn, rfl, _, rfl, ?_⟩
      have ae := o.toOrd.eqv S0 z0
      rw [g0] at ae
      by_cases h0 : t0 = 0
      · rw [ae.mpr h0]
        subst h0
        refine iteT ?_
        obtain ⟨t1, r1, er1⟩ : ∃ t1 r1, r0 = t1 :: r1 := by
          cases h : r0 with
          | nil =>
            exfalso
            rw [er, h] at el
            have hl := congrArg List.length el
            rw [List.length_append] at hl
            have hm : m = [] := List.length_eq_zero_iff.mp (by simp at hl; simpa using hl)
            rw [hm] at el
            have := List.cons.inj el
            omega
          | cons t r => exact ⟨t, r, rfl⟩
        rw [er1] at er
        obtain ⟨x1, hx1, dx1⟩ : ∃ v, xs[1]? = some v ∧ Dp K H v (g t1) := by
          obtain ⟨v, hv⟩ : ∃ v, xs[1]? = some v := ⟨_, List.getElem?_eq_getElem (by rw [lxs, er]; simp)⟩
          obtain ⟨d', hd', dp⟩ := dps_get ha hv
          rw [er] at hd'
          cases hd'
          exact ⟨v, hv, dp⟩
        obtain ⟨k1, k2, k3⟩ := key (t1 + 1) (.inl ⟨t1, r1, er, rfl⟩)
        refine ⟨_, rfl, a, xs, (1 : Int), x1, rfl, rfl, hs, atI_nat hx1, x1, t1, rfl, dx1, (hnx t1 r1 er).1, (hnx t1 r1 er).2, fun w H1 e1 d1 => ?_⟩
        exact ⟨w, t1 + 1, rfl, e1, d1, k1, k2, k3⟩
      · have : PyData.eqv (g t0) (.int 0) = false := Bool.eq_false_iff.mpr fun h => h0 (ae.mp h)
        rw [this]
        refine iteF ?_
        obtain ⟨k1, k2, k3⟩ := key 1 (.inr ⟨by rw [er]; exact fun h => h0 (Option.some.inj h), rfl⟩)
        refine ⟨.int 1, 1, rfl, Same.refl H, ?_, k1, k2, k3⟩
        rw [g1 k1]
        exact .int 1
    rintro σ' H1 ⟨w, b, rfl, e1, dw, Sb, em, b0⟩
    have g0' : DpAll K H1 [.int 0, w] ([0, b].map g) := by
      show DpAll K H1 [.int 0, w] [g 0, g b]
      rw [g0]
      exact .cons (.int 0) (.cons dw .nil)
    refine ⟨_, rfl, (by show 2 ≤ sizeLine; decide), fun t nt => ?_⟩
    have e2 := Same.new (o := .tup [.int 0, w]) nt
    refine ⟨_, rfl, t, a, [0, b], Tl z, rfl, ⟨_, .inr (SqT.of upd_same), (Nd.of e2).ds g0'⟩, (hP.same e1).same e2, by simp; exact b0, asc, (fun c hc => by
        simp only [List.mem_cons, List.not_mem_nil, or_false] at hc
        rcases hc with rfl | rfl
        · exact z0
        · exact Sb), hz.mem, by have := hz.len; show 2 + _ ≤ _; omega, fun p2 us H3 e3 hp dp => ?_⟩
    have ef : mrg (fm2 [0, b] (Tl z)).1 (fm2 [0, b] (Tl z)).2 = Tl (z + 1) := by
      unfold fm2
      split
      · exact em
      · rename_i hl
        rw [← em]
        exact mrg_comm asc pos (by simp; exact b0) (fun c hc => by
          simp only [List.mem_cons, List.not_mem_nil, or_false] at hc
          rcases hc with rfl | rfl <;> omega)
    rw [ef] at dp
    exact ⟨p2, z + 1, rfl, ⟨us, .inl hp, dp⟩, hz', fun v' H4 e4 d4 => q v' H4 (e1.trans (e2.trans (e3.trans e4))) d4⟩
theorem ok_succ {n kp : Nat} (hn : n ≤ 40) {g : Int → PyData} {S : Int → Prop} (o : OrdN n g S) (n65 : g 65 = .int 65) (z0 : S 0) (F : Fun K "plus_one" "plus_one" S_plus_one f fd) (B : Blt mg) (Cform_of_int : Has P w K mg base 3 "form_of_int" P_form_of_int [] (spFoi K))
    (Cplus_one : Has P w K mg base kp "plus_one" P_plus_one [] (spNext K g S)) (Cform_with : Has P w K mg base 3 "form_with" P_form_with [] (spWith K g S)) (Cmerged_turns : Has P w K mg base (2 * n + 5) "merged_turns" P_merged_turns [] (spMerged K g S)) :
    FnOk P w K mg base CX0 (2 * n + kp + 6) f fd P_plus_one (spNum1 K g S fun z => z + 1) := by
  refine (ok_succN (S' := S) hn o n65 z0 F B Cform_of_int Cplus_one Cform_with Cmerged_turns).imp fun vs H Q E h => ?_
  obtain ⟨v, z, e, hd, hz, hz', q⟩ := h
  refine ⟨v, z, e, hd, hz, hz', fun t r et => ⟨hz.mem t (by rw [et]; simp), ?_⟩, q⟩
  rcases b_mem (b := t + 1) (l := Tl z) with h | h
  · rw [succ_tl (.inl ⟨t, r, et, rfl⟩)] at h
    exact hz'.mem _ h
  · exact hz.mem _ h
end
end Fb
namespace Fb
open PySem L2
/-- the carry of a sum, whichever is the shorter one -/
theorem fm2_car (x y : Int) {k : Nat} (hk : k ≤ 1) : ∃ c : Int, carT (fm2 (Tl x) (Tl y)).1 (fm2 (Tl x) (Tl y)).2 k = Tl c ∧ (∀ t ∈ Tl c, t = 0 ∨ t - 1 = 0 ∨ t - 1 ∈ Tl y ∨ t - 1 ∈ Tl x) ∧ Builtin.bitXor (Builtin.bitXor x c) y = x + y + k := by
  unfold fm2
  split
  · exact carT_ok x y hk
  · obtain ⟨c, h1, h2, h3⟩ := carT_ok y x hk
    refine ⟨c, h1, fun t ht => ?_, ?_⟩
    · rcases h2 t ht with h | h | h | h
      · exact .inl h
      · exact .inr (.inl h)
      · exact .inr (.inr (.inr h))
      · exact .inr (.inr (.inl h))
    · have e : Builtin.bitXor (Builtin.bitXor x c) y = Builtin.bitXor (Builtin.bitXor y c) x := bt_ext fun p => by
        rw [bt_xor, bt_xor, bt_xor, bt_xor]
        have := bt_01 p x
        have := bt_01 p y
        have := bt_01 p c
        omega
      rw [e, h3]
      omega
theorem tl_len_xor (x y : Int) : (Tl (Builtin.bitXor x y)).length ≤ (Tl x).length + (Tl y).length := by
  rw [← mrg_tl]
  exact mrg_len _ _
/-- places that are ints are what they stand for -/
structure NI (g : Int → PyData) (S : Int → Prop) : Prop where
  hid : ∀ c i, S c → g c = .int i → i = c
  low : ∀ c, S c → 0 ≤ c → c ≤ 520100 → g c = .int c
theorem near_bd {g : Int → PyData} {S : Int → Prop} (I : NI g S) {z : Int} (hz : Num g S z) (hn : Near g z) : XN g z = z ∧ -(2 ^ 520001) ≤ z ∧ z < 2 ^ 520001 := by
  have hm : ∀ c ∈ Tl z, mv g c = c := fun c hc => I.hid c _ (hz.mem c hc) (hn c hc).1
  refine ⟨?_, ?_⟩
  · unfold XN
    rw [show ((Tl z).map fun c => (mv g c).toNat) = turnsN z from ?_, turns_alt]
    unfold Tl zs
    rw [List.map_map]
    refine (List.map_congr_left (g := id) fun p hp => ?_).trans (List.map_id _)
    have := hm ((p : Nat) : Int) (List.mem_map.mpr ⟨p, hp, rfl⟩)
    show (mv g ((p : Nat) : Int)).toNat = p
    rw [this]
    rfl
  · have hp : ∀ p ∈ turnsN z, p < 520001 := fun p hp => by
      have hc : ((p : Nat) : Int) ∈ Tl z := List.mem_map.mpr ⟨p, hp, rfl⟩
      have h1 := hm _ hc
      have h2 := (hn _ hc).2.2
      rw [h1] at h2
      omega
    have := alt_lt (s := -1) (.inr rfl) (n := 520001) (turns_asc z) hp
    rw [turns_alt] at this
    exact ⟨Int.le_of_lt this.1, this.2⟩
theorem big_form {g : Int → PyData} {S : Int → Prop} (I : NI g S) {w : Int} (h0 : -(2 ^ 520002) ≤ w) (h1 : w < 2 ^ 520002) (hw : Num g S w) : InB w ∧ formD w = numD g w := by
  have lw : ∀ c ∈ Tl w, c ≤ 520002 := fun c hc => by
    obtain ⟨p, hp, rfl⟩ := List.mem_map.mp hc
    have := turns_lt (n := 520002) h0 h1 p hp
    show ((p : Nat) : Int) ≤ 520002
    clear h0 h1
    omega
  have hl : ∀ c ∈ Tl w, g c = .int c := fun c hc => I.low c (hw.mem c hc) (tl_pos w c hc) (by have := lw c hc; omega)
  refine ⟨InB.of (n := 520002) h0 h1 (by decide), near_form (w := w) ?_ hw.len fun c hc => by rw [mv_int (hl c hc)]; exact hl c hc⟩
  exact ((List.map_congr_left (g := id) fun c hc => mv_int (hl c hc)).trans (List.map_id _)).symm
theorem pow_4302 : (2 : Int) ^ 520002 = 2 ^ 520001 * 2 := Int.pow_succ _ _
section
variable {P : Program} {w : World} {K : PySem.W.Frag} {mg : Str → Option Value} {base : Heap} {f : Addr} {fd : FuncData}
abbrev S_opposite : Stmt := top 49
abbrev N_opposite : List Str := ["x"]
abbrev P_opposite : List Str := ["x"]
theorem sc_opposite : FnScope N_opposite P_opposite (defScope S_opposite) := ⟨rfl, rfl, rfl, by decide +kernel, rfl, by decide +kernel, by decide +kernel⟩
def spOpp (K : PySem.W.Frag) (g : Int → PyData) (S : Int → Prop) : Sp := fun vs H Q _ => ∃ (v : V) (z : Int), vs = [v] ∧ Dp K H v (numD g z) ∧ Num g S z ∧ Num g S (-z - 1) ∧ Num g S (-z) ∧ ∀ (v' : V) (H' : Hp), Same H H' → Dp K H' v' (numD g (-z)) → Q v' H'
theorem ok_opp {n kp : Nat} {g : Int → PyData} {S : Int → Prop} (o : OrdN n g S) (n65 : g 65 = .int 65) (F : Fun K "opposite" "opposite" S_opposite f fd) (B : Blt mg) (Cform_of_int : Has P w K mg base 3 "form_of_int" P_form_of_int [] (spFoi K)) (Cflip : Has P w K mg base 4 "flip" P_flip [] (spNum1 K g S fun z => -z - 1))
    (Cplus_one : Has P w K mg base (2 * n + kp + 6) "plus_one" P_plus_one [] (spNum1 K g S fun z => z + 1)) : FnOk P w K mg base CX0 (2 * n + kp + 7) f fd P_opposite (spOpp K g S) := by
  have nd := sc_opposite.nd
  refine F.ok sc_opposite (fun vs H Q E h => ?_) (fun cdv A outer s H vs Q E hr h => ?_)
  · obtain ⟨v, z, rfl, _⟩ := h
    rfl
  obtain ⟨v, z, rfl, hd, hz, hz1, hz', q⟩ := h
  refine ⟨_, (pss_cons (ps_if (pt_val (pe_callB (call_isiI K) (by rfl) B.isinstance (by decide +kernel) (pa_cons (pv 0) (pa_cons (pe_bltn (by rfl) B.int (by decide +kernel) (show RelV (.ty "int") (.type "int") from rfl)) pa_nil)))) (pss_one (ps_ret (pe_H Cform_of_int (hr.mono (by omega)) rfl (pa_cons (pe_un un_neg (pv 0)) pa_nil)))) pss_nil)
    (pss_one (ps_ret (pe_H Cplus_one (hr.mono (by omega)) rfl (pa_cons (pe_H Cflip (hr.mono (by omega)) rfl (pa_cons (pv 0) pa_nil)) pa_nil))))), ?_⟩
  refine ⟨_, rfl, _, _, rfl, hd, _, rfl, ?_⟩
  rcases num_cases o hz with ⟨pl, e, ed⟩ | ⟨npl, e, _⟩
  · rw [e] at hd ⊢
    cases hd
    refine iteT ?_
    have b0 : -(2 ^ 65) ≤ -z := by have := pl.2; omega
    have b1 : -z < 2 ^ 65 := by have := pl.1; omega
    refine ⟨_, rfl, _, rfl, -z, rfl, InB.of (n := 65) b0 b1 (by decide), fun v' H' e1 d => q v' H' e1 ?_⟩
    rw [form_num o n65 b0 b1 hz'] at d
    exact d
  · have hi : isI (numD g z) = false := by rw [e]; rfl
    rw [hi]
    refine iteF ?_
    refine ⟨_, rfl, v, z, rfl, hd, hz, hz1, fun v1 H1 e1 d1 => ?_⟩
    have ez : -z - 1 + 1 = -z := by omega
    refine ⟨v1, -z - 1, rfl, d1, hz1, by show Num g S (-z - 1 + 1); rw [ez]; exact hz', fun v2 H2 e2 d2 => ?_⟩
    have d3 : Dp K H2 v2 (numD g (-z - 1 + 1)) := d2
    rw [ez] at d3
    exact q v2 H2 (e1.trans e2) d3
abbrev S_summed_turns : Stmt := top 51
abbrev N_summed_turns : List Str := ["x", "y", "carry", "few", "many"]
abbrev P_summed_turns : List Str := ["x", "y", "carry"]
theorem sc_summed_turns : FnScope N_summed_turns P_summed_turns (defScope S_summed_turns) := ⟨rfl, rfl, rfl, by decide +kernel, rfl, by decide +kernel, by decide +kernel⟩
def spSummed2 (K : PySem.W.Frag) (g : Int → PyData) (S : Int → Prop) : Sp := fun vs H Q _ => ∃ (a b : Addr) (x y : Int) (k : Nat), vs = [.ref a, .ref b, .int (k : Int)] ∧ Pls K H g a (Tl x) ∧ Pls K H g b (Tl y) ∧ (∀ t ∈ Tl x, S t ∧ S (t + 1)) ∧ (∀ t ∈ Tl y, S t ∧ S (t + 1)) ∧ (Tl x).length + (Tl y).length ≤ 7001 ∧ k ≤ 1 ∧
  ∀ (p : Addr) (us : List V) (H' : Hp), Same H H' → H' p = some (.lst us) → DpAll K H' us ((Tl (x + y + k)).map g) → Q (.ref p) H'
theorem ok_summed2 {n kp : Nat} {g : Int → PyData} {S : Int → Prop} (z0 : S 0) (z1 : S 1) (F : Fun K "summed_turns" "summed_turns" S_summed_turns f fd) (B : Blt mg) (Cshorter_first : Has P w K mg base 1 "shorter_first" P_shorter_first [] (spShort K)) (Cmerged_turns : Has P w K mg base (2 * n + 5) "merged_turns" P_merged_turns [] (spMerged K g S))
    (Ccarry_turns : Has P w K mg base (2 * n + kp + 6) "carry_turns" P_carry_turns [] (spCarry K g S)) : FnOk P w K mg base CX0 (2 * n + kp + 7) f fd P_summed_turns (spSummed2 K g S) := by
  have nd := sc_summed_turns.nd
  refine F.ok sc_summed_turns (fun vs H Q E h => ?_) (fun cdv A outer s H vs Q E hr h => ?_)
  · obtain ⟨a, b, x, y, k, rfl, _⟩ := h
    rfl
  obtain ⟨a, b, x, y, k, rfl, hx, hy, sx, sy, l13, hk, q⟩ := h
  refine ⟨_, (pss_cons (ps_asg (pe_H Cshorter_first (hr.mono (by omega)) rfl (pa_cons (pv 0) (pa_cons (pv 1) pa_nil))) (pg_tup rfl (pgs_cons (pg_name (i := 3) nd rfl (Or.inl rfl)) (pgs_cons (pg_name (i := 4) nd rfl (Or.inl rfl)) pgs_nil))))
    (pss_one (ps_ret (pe_H Cmerged_turns (hr.mono (by omega)) rfl (pa_cons (pe_H Cmerged_turns (hr.mono (by omega)) rfl (pa_cons (pv 3) (pa_cons (pe_H Ccarry_turns (hr.mono (by omega)) rfl (pa_cons (pv 3) (pa_cons (pv 4) (pa_cons (pv 2) pa_nil)))) pa_nil))) (pa_cons (pv 4) pa_nil)))))), ?_⟩
  obtain ⟨xs, hs, lxs, _, _⟩ := hx.at
  obtain ⟨ys, ht, lys, _, _⟩ := hy.at
  refine ⟨_, rfl, _, rfl, a, b, xs, ys, rfl, hs, ht, fun t H1 e1 hT => ?_⟩
  -- the shorter one is u, of fx, the longer one v, of fy
  obtain ⟨u, v, fx, fy, ep, e2, hA, hB, sA, sB, lAB, esum⟩ : ∃ (u v : Addr) (fx fy : Int), (if xs.length ≤ ys.length then [V.ref a, .ref b] else [.ref b, .ref a]) = [.ref u, .ref v] ∧ (Tl fx).length ≤ (Tl fy).length ∧ Pls K H1 g u (Tl fx) ∧ Pls K H1 g v (Tl fy) ∧ (∀ t ∈ Tl fx, S t ∧ S (t + 1)) ∧ (∀ t ∈ Tl fy, S t ∧ S (t + 1)) ∧
      (Tl fx).length + (Tl fy).length ≤ 7001 ∧ fx + fy = x + y := by
    rw [lxs, lys]
    split
    · exact ⟨a, b, x, y, rfl, by assumption, hx.same e1, hy.same e1, sx, sy, l13, rfl⟩
    · exact ⟨b, a, y, x, rfl, by omega, hy.same e1, hx.same e1, sy, sx, by omega, Int.add_comm _ _⟩
  rw [ep] at hT
  rw [← esum] at q
  refine ⟨_, _, rfl, hT, rfl, _, _, rfl, _, _, rfl, rfl, ?_⟩
  obtain ⟨c, c1, c2, c3⟩ := carT_ok fx fy hk
  have ef : fm2 (Tl fx) (Tl fy) = (Tl fx, Tl fy) := by unfold fm2; rw [if_pos e2]
  have lc : (Tl c).length ≤ (Tl fx).length + 2 := by
    rw [← c1]
    unfold carT
    rw [List.length_append]
    have := carL_len (Tl fy) (Tl fx) 0 0 k
    split <;> simp <;> omega
  have sc : ∀ t ∈ Tl c, S t := fun t ht => by
    rcases c2 t ht with h | h | h | h
    · rw [h]; exact z0
    · rw [show t = 1 by omega]; exact z1
    · have := (sB _ h).2
      rw [show t - 1 + 1 = t by omega] at this
      exact this
    · have := (sA _ h).2
      rw [show t - 1 + 1 = t by omega] at this
      exact this
  refine ⟨_, rfl, _, rfl, _, rfl, _, rfl, u, v, Tl fx, Tl fy, k, rfl, hA, hB, tl_asc fx, tl_asc fy, (fun t h => ⟨(sA t h).1, (sA t h).2, tl_pos fx t h⟩), (fun t h => ⟨(sB t h).1, (sB t h).2, tl_pos fy t h⟩), by omega, hk, fun p1 us1 H2 e3 hp1 d1 => ?_⟩
  rw [ef] at d1
  have d1' : DpAll K H2 us1 ((Tl c).map g) := by rw [← c1]; exact d1
  refine ⟨u, p1, Tl fx, Tl c, rfl, hA.same e3, ⟨us1, .inl hp1, d1'⟩, tl_asc fx, tl_asc c, (fun t h => (sA t h).1), sc, by omega, fun p2 us2 H3 e4 hp2 d2 => ?_⟩
  rw [fm2_tl] at d2
  refine ⟨_, rfl, p2, v, Tl (Builtin.bitXor fx c), Tl fy, rfl, ⟨us2, .inl hp2, d2⟩, hB.same (e3.trans e4), tl_asc _, tl_asc _, (fun t h => (xor_mem h).elim (fun h => (sA t h).1) (sc t)), (fun t h => (sB t h).1), ?_, fun p3 us3 H4 e5 hp3 d3 => ?_⟩
  · have := tl_len_xor fx c
    omega
  · rw [fm2_tl, c3] at d3
    exact q p3 us3 H4 (e1.trans (e3.trans (e4.trans e5))) hp3 d3
abbrev S_plus : Stmt := top 52
abbrev N_plus : List Str := ["x", "y"]
abbrev P_plus : List Str := ["x", "y"]
theorem sc_plus : FnScope N_plus P_plus (defScope S_plus) := ⟨rfl, rfl, rfl, by decide +kernel, rfl, by decide +kernel, by decide +kernel⟩
def spSum (K : PySem.W.Frag) (g : Int → PyData) (S : Int → Prop) (r : Int → Int → Int) : Sp := fun vs H Q _ => ∃ (v u : V) (x y : Int), vs = [v, u] ∧ Dp K H v (numD g x) ∧ Dp K H u (numD g y) ∧ Num g S x ∧ Num g S y ∧ (∀ t ∈ Tl x, S (t + 1)) ∧ (∀ t ∈ Tl y, S (t + 1)) ∧ (Tl x).length + (Tl y).length ≤ 7000 ∧ Lo2 g x y ∧ Num g S (r x y) ∧
  ∀ (v' : V) (H' : Hp), Same H H' → Dp K H' v' (numD g (r x y)) → Q v' H'
theorem ok_plus {n kp : Nat} {g : Int → PyData} {S : Int → Prop} (o : OrdN n g S) (I : NI g S) (n65 : g 65 = .int 65) (F : Fun K "plus" "plus" S_plus f fd) (B : Blt mg) (Cform_of_int : Has P w K mg base 3 "form_of_int" P_form_of_int [] (spFoi K)) (Cform_with : Has P w K mg base 3 "form_with" P_form_with [] (spWith K g S)) (Cturns_in : Has P w K mg base 3 "turns_in" P_turns_in [] (spTin K g S))
    (Csummed_turns : Has P w K mg base (2 * n + kp + 7) "summed_turns" P_summed_turns [] (spSummed2 K g S))
    (Care_near : Has P w K mg base 2 "are_near" P_are_near [] (spAreNear K g S)) (Cint_of_form : Has P w K mg base 3 "int_of_form" P_int_of_form [] (spIof K g S)) : FnOk P w K mg base CX0 (2 * n + kp + 8) f fd P_plus (spSum K g S fun x y => x + y) := by
  have nd := sc_plus.nd
  refine F.ok sc_plus (fun vs H Q E h => ?_) (fun cdv A outer s H vs Q E hr h => ?_)
  · obtain ⟨v, u, x, y, rfl, _⟩ := h
    rfl
  obtain ⟨v, u, x, y, rfl, hx, hy, nx, ny, sx, sy, l13, lxy, nr, q⟩ := h
  refine ⟨_, (C8.pss_cut (ps_if (PW.pt (pw_and (pt_val (pe_callB (call_isiI K) (by rfl) B.isinstance (by decide +kernel) (pa_cons (pv 0) (pa_cons (pe_bltn (by rfl) B.int (by decide +kernel) (show RelV (.ty "int") (.type "int") from rfl)) pa_nil)))) (pw_and1 (pt_val (pe_callB (call_isiI K) (by rfl) B.isinstance (by decide +kernel) (pa_cons (pv 1) (pa_cons (pe_bltn (by rfl) B.int (by decide +kernel) (show RelV (.ty "int") (.type "int") from rfl)) pa_nil))))))) (pss_one (ps_ret (pe_H Cform_of_int (hr.mono (by omega)) rfl (pa_cons (pe_op op_add (pv 0) (pv 1)) pa_nil)))) pss_nil)
    (pss_cons (ps_if (pt_val (pe_H Care_near (hr.mono (by omega)) rfl (pa_cons (pv 0) (pa_cons (pv 1) pa_nil)))) (pss_one (ps_ret (pe_H Cform_of_int (hr.mono (by omega)) rfl (pa_cons (pe_op op_add (pe_H Cint_of_form (hr.mono (by omega)) rfl (pa_cons (pv 0) pa_nil)) (pe_H Cint_of_form (hr.mono (by omega)) rfl (pa_cons (pv 1) pa_nil))) pa_nil)))) pss_nil)
    (pss_one (ps_ret (pe_H Cform_with (hr.mono (by omega)) rfl (pa_cons (pe_H Csummed_turns (hr.mono (by omega)) rfl (pa_cons (pe_H Cturns_in (hr.mono (by omega)) rfl (pa_cons (pv 0) pa_nil)) (pa_cons (pe_H Cturns_in (hr.mono (by omega)) rfl (pa_cons (pv 1) pa_nil)) (pa_cons pe_int pa_nil)))) pa_nil)))))), ?_⟩
  refine ⟨fun σ H' => σ = [some v, some u] ∧ H' = H ∧ ¬ (plain x ∧ plain y), ?_, ?_⟩
  · refine ⟨_, rfl, _, _, rfl, hx, _, rfl, ?_⟩
    rcases num_cases o nx with ⟨p1, e1, _⟩ | ⟨np1, e1, _⟩
    · rcases num_cases o ny with ⟨p2, e2, _⟩ | ⟨np2, e2, _⟩
      · rw [e1] at hx ⊢
        rw [e2] at hy
        cases hx
        cases hy
        refine iteT ?_
        refine ⟨_, rfl, _, _, rfl, .int _, _, rfl, ?_⟩
        refine iteT ?_
        have b0 : -(2 ^ 65) ≤ x + y := by have := p1.1; have := p1.2; have := p2.1; have := p2.2; omega
        have b1 : x + y < 2 ^ 65 := by have := p1.1; have := p1.2; have := p2.1; have := p2.2; omega
        refine ⟨_, rfl, _, rfl, _, _, rfl, rfl, x + y, rfl, InB.of (n := 65) b0 b1 (by decide), fun v' H' e d => q v' H' e ?_⟩
        rw [form_num o n65 b0 b1 nr] at d
        exact d
      · rw [show isI (numD g x) = true by rw [e1]; rfl]
        refine iteT ?_
        refine ⟨_, rfl, _, _, rfl, hy, _, rfl, ?_⟩
        rw [show isI (numD g y) = false by rw [e2]; rfl]
        exact iteF ⟨rfl, rfl, fun h => np2 h.2⟩
    · rw [show isI (numD g x) = false by rw [e1]; rfl]
      exact iteF ⟨rfl, rfl, fun h => np1 h.1⟩
  rintro σ H' ⟨rfl, rfl, np⟩
  refine ⟨_, rfl, _, rfl, v, u, x, y, rfl, hx, hy, nx, ny, lxy, np, fun b hb => ?_⟩
  refine ⟨_, rfl, ?_⟩
  cases b with
  | true =>
    refine iteT ?_
    obtain ⟨hn1, hn2, _, _⟩ := hb rfl
    refine ⟨_, rfl, v, x, rfl, hx, nx, hn1, fun H1 e1 => ?_⟩
    refine ⟨_, rfl, u, y, rfl, (Nd.of e1).d hy, ny, hn2, fun H2 e2 => ?_⟩
    obtain ⟨k1, k2, k3⟩ := near_bd I nx hn1
    obtain ⟨m1, m2, m3⟩ := near_bd I ny hn2
    rw [k1, m1]
    have e := pow_4302
    have b0 : -(2 ^ 520002) ≤ x + y := by rw [e]; clear e; generalize (2 : Int) ^ 520001 = M at *; omega
    have b1 : x + y < 2 ^ 520002 := by rw [e]; clear e; generalize (2 : Int) ^ 520001 = M at *; omega
    obtain ⟨ib, ef⟩ := big_form I b0 b1 nr
    refine ⟨_, _, rfl, rfl, _, rfl, ib, fun v' H3 e3 d3 => ?_⟩
    rw [ef] at d3
    exact q v' H3 (e1.trans (e2.trans e3)) d3
  | false =>
    refine iteF ?_
    refine ⟨_, rfl, v, x, rfl, hx, nx, fun a H1 e1 pa => ?_⟩
    refine ⟨_, rfl, u, y, rfl, (Nd.of e1).d hy, ny, fun b H2 e2 pb => ?_⟩
    refine ⟨a, b, x, y, 0, rfl, pa.same e2, pb, (fun t h => ⟨nx.mem t h, sx t h⟩), (fun t h => ⟨ny.mem t h, sy t h⟩), by omega, by omega, fun p us H3 e3 hp dp => ?_⟩
    rw [show x + y + ((0 : Nat) : Int) = x + y by omega] at dp
    exact ⟨p, _, rfl, ⟨us, .inl hp, dp⟩, nr, fun v' H4 e4 d4 => q v' H4 (e1.trans (e2.trans (e3.trans e4))) d4⟩
abbrev S_minus : Stmt := top 53
abbrev N_minus : List Str := ["x", "y"]
abbrev P_minus : List Str := ["x", "y"]
theorem sc_minus : FnScope N_minus P_minus (defScope S_minus) := ⟨rfl, rfl, rfl, by decide +kernel, rfl, by decide +kernel, by decide +kernel⟩
theorem flp_len (l : List Int) : (flp l).length ≤ l.length + 1 := by
  unfold flp
  split
  · rw [List.length_cons]; omega
  · rw [List.length_cons]; omega
theorem ok_minus {n kp : Nat} {g : Int → PyData} {S : Int → Prop} (o : OrdN n g S) (I : NI g S) (n65 : g 65 = .int 65) (z0 : S 0) (z1 : S 1) (F : Fun K "minus" "minus" S_minus f fd) (B : Blt mg) (Cform_of_int : Has P w K mg base 3 "form_of_int" P_form_of_int [] (spFoi K)) (Cform_with : Has P w K mg base 3 "form_with" P_form_with [] (spWith K g S)) (Cturns_in : Has P w K mg base 3 "turns_in" P_turns_in [] (spTin K g S))
    (Csummed_turns : Has P w K mg base (2 * n + kp + 7) "summed_turns" P_summed_turns [] (spSummed2 K g S)) (Cflipped_turns : Has P w K mg base 1 "flipped_turns" P_flipped_turns [] (spFlip K g S))
    (Care_near : Has P w K mg base 2 "are_near" P_are_near [] (spAreNear K g S)) (Cint_of_form : Has P w K mg base 3 "int_of_form" P_int_of_form [] (spIof K g S)) : FnOk P w K mg base CX0 (2 * n + kp + 8) f fd P_minus (spSum K g S fun x y => x - y) := by
  have nd := sc_minus.nd
  refine F.ok sc_minus (fun vs H Q E h => ?_) (fun cdv A outer s H vs Q E hr h => ?_)
  · obtain ⟨v, u, x, y, rfl, _⟩ := h
    rfl
  obtain ⟨v, u, x, y, rfl, hx, hy, nx, ny, sx, sy, l13, lxy, nr, q⟩ := h
  refine ⟨_, (C8.pss_cut (ps_if (PW.pt (pw_and (pt_val (pe_callB (call_isiI K) (by rfl) B.isinstance (by decide +kernel) (pa_cons (pv 0) (pa_cons (pe_bltn (by rfl) B.int (by decide +kernel) (show RelV (.ty "int") (.type "int") from rfl)) pa_nil)))) (pw_and1 (pt_val (pe_callB (call_isiI K) (by rfl) B.isinstance (by decide +kernel) (pa_cons (pv 1) (pa_cons (pe_bltn (by rfl) B.int (by decide +kernel) (show RelV (.ty "int") (.type "int") from rfl)) pa_nil))))))) (pss_one (ps_ret (pe_H Cform_of_int (hr.mono (by omega)) rfl (pa_cons (pe_op op_sub (pv 0) (pv 1)) pa_nil)))) pss_nil)
    (pss_cons (ps_if (pt_val (pe_H Care_near (hr.mono (by omega)) rfl (pa_cons (pv 0) (pa_cons (pv 1) pa_nil)))) (pss_one (ps_ret (pe_H Cform_of_int (hr.mono (by omega)) rfl (pa_cons (pe_op op_sub (pe_H Cint_of_form (hr.mono (by omega)) rfl (pa_cons (pv 0) pa_nil)) (pe_H Cint_of_form (hr.mono (by omega)) rfl (pa_cons (pv 1) pa_nil))) pa_nil)))) pss_nil)
    (pss_one (ps_ret (pe_H Cform_with (hr.mono (by omega)) rfl (pa_cons (pe_H Csummed_turns (hr.mono (by omega)) rfl (pa_cons (pe_H Cturns_in (hr.mono (by omega)) rfl (pa_cons (pv 0) pa_nil)) (pa_cons (pe_H Cflipped_turns (hr.mono (by omega)) rfl (pa_cons (pe_H Cturns_in (hr.mono (by omega)) rfl (pa_cons (pv 1) pa_nil)) pa_nil)) (pa_cons pe_int pa_nil)))) pa_nil)))))), ?_⟩
  refine ⟨fun σ H' => σ = [some v, some u] ∧ H' = H ∧ ¬ (plain x ∧ plain y), ?_, ?_⟩
  · refine ⟨_, rfl, _, _, rfl, hx, _, rfl, ?_⟩
    rcases num_cases o nx with ⟨p1, e1, _⟩ | ⟨np1, e1, _⟩
    · rcases num_cases o ny with ⟨p2, e2, _⟩ | ⟨np2, e2, _⟩
      · rw [e1] at hx ⊢
        rw [e2] at hy
        cases hx
        cases hy
        refine iteT ?_
        refine ⟨_, rfl, _, _, rfl, .int _, _, rfl, ?_⟩
        refine iteT ?_
        have b0 : -(2 ^ 65) ≤ x - y := by have := p1.1; have := p1.2; have := p2.1; have := p2.2; omega
        have b1 : x - y < 2 ^ 65 := by have := p1.1; have := p1.2; have := p2.1; have := p2.2; omega
        refine ⟨_, rfl, _, rfl, _, _, rfl, rfl, x - y, rfl, InB.of (n := 65) b0 b1 (by decide), fun v' H' e d => q v' H' e ?_⟩
        rw [form_num o n65 b0 b1 nr] at d
        exact d
      · rw [show isI (numD g x) = true by rw [e1]; rfl]
        refine iteT ?_
        refine ⟨_, rfl, _, _, rfl, hy, _, rfl, ?_⟩
        rw [show isI (numD g y) = false by rw [e2]; rfl]
        exact iteF ⟨rfl, rfl, fun h => np2 h.2⟩
    · rw [show isI (numD g x) = false by rw [e1]; rfl]
      exact iteF ⟨rfl, rfl, fun h => np1 h.1⟩
  rintro σ H' ⟨rfl, rfl, np⟩
  refine ⟨_, rfl, _, rfl, v, u, x, y, rfl, hx, hy, nx, ny, lxy, np, fun b hb => ?_⟩
  refine ⟨_, rfl, ?_⟩
  cases b with
  | true =>
    refine iteT ?_
    obtain ⟨hn1, hn2, _, _⟩ := hb rfl
    refine ⟨_, rfl, v, x, rfl, hx, nx, hn1, fun H1 e1 => ?_⟩
    refine ⟨_, rfl, u, y, rfl, (Nd.of e1).d hy, ny, hn2, fun H2 e2 => ?_⟩
    obtain ⟨k1, k2, k3⟩ := near_bd I nx hn1
    obtain ⟨m1, m2, m3⟩ := near_bd I ny hn2
    rw [k1, m1]
    have e := pow_4302
    have b0 : -(2 ^ 520002) ≤ x - y := by rw [e]; clear e; generalize (2 : Int) ^ 520001 = M at *; omega
    have b1 : x - y < 2 ^ 520002 := by rw [e]; clear e; generalize (2 : Int) ^ 520001 = M at *; omega
    obtain ⟨ib, ef⟩ := big_form I b0 b1 nr
    refine ⟨_, _, rfl, rfl, _, rfl, ib, fun v' H3 e3 d3 => ?_⟩
    rw [ef] at d3
    exact q v' H3 (e1.trans (e2.trans e3)) d3
  | false =>
    refine iteF ?_
    refine ⟨_, rfl, v, x, rfl, hx, nx, fun a H1 e1 pa => ?_⟩
    refine ⟨_, rfl, u, y, rfl, (Nd.of e1).d hy, ny, fun b H2 e2 pb => ?_⟩
    refine ⟨b, Tl y, rfl, pb, ny.mem, by omega, fun p0 us0 H3 e3 hp0 d0 => ?_⟩
    rw [flp_tl] at d0
    have lf : (Tl (-y - 1)).length ≤ (Tl y).length + 1 := by rw [← flp_tl]; exact flp_len _
    refine ⟨a, p0, x, -y - 1, 1, rfl, pa.same (e2.trans e3), ⟨us0, .inl hp0, d0⟩, (fun t h => ⟨nx.mem t h, sx t h⟩), (fun t h => ?_), by omega, by omega, fun p us H4 e4 hp dp => ?_⟩
    · rcases not_mem h with h | h
      · subst h; exact ⟨z0, z1⟩
      · exact ⟨ny.mem t h, sy t h⟩
    rw [show x + (-y - 1) + ((1 : Nat) : Int) = x - y by omega] at dp
    exact ⟨p, _, rfl, ⟨us, .inl hp, dp⟩, nr, fun v' H5 e5 d5 => q v' H5 (e1.trans (e2.trans (e3.trans (e4.trans e5)))) d5⟩
end
end Fb
namespace Fb
open PySem L2
/-! ### how many turns sums have -/
theorem mk_nn {b x : Int} (h0 : 0 ≤ b) (h1 : b < 2) : 0 ≤ mk b x := by
  obtain ⟨n, l, r⟩ := marks_cast (x := x)
  exact (mk_all n b x h0 h1 l r).1
/-- turns of x above a bit b -/
def tc (b x : Int) : Nat := (ones (mk b x).toNat).length
theorem tc_step {b : Int} (x : Int) (h0 : 0 ≤ b) (h1 : b < 2) : tc b x = ((x + b) % 2).toNat + tc (x % 2) (x / 2) := by
  unfold tc
  have m := mk_nn (b := x % 2) (x := x / 2) (by omega) (by omega)
  rw [mk_step h0 h1]
  generalize mk (x % 2) (x / 2) = k at m ⊢
  have hr : (x + b) % 2 = 0 ∨ (x + b) % 2 = 1 := by omega
  rcases hr with h | h
  · rw [h, show (2 * k + 0).toNat = 2 * k.toNat by omega, ones_even, List.length_map]
    simp
  · rw [h, show (2 * k + 1).toNat = 2 * k.toNat + 1 by omega, ones_odd, List.length_cons, List.length_map]
    show _ = 1 + _
    omega
def T (x : Int) : Nat := (turnsN x).length
theorem T_tc (x : Int) : T x = tc 0 x := by
  unfold T turnsN tc marks
  rw [marks_eq]
theorem tc_diff (x : Int) : tc 0 x ≤ tc 1 x + 1 ∧ tc 1 x ≤ tc 0 x + 1 := by
  rw [tc_step (b := 0) x (by decide) (by decide), tc_step (b := 1) x (by decide) (by decide)]
  omega
theorem tc_up (n : Nat) : ∀ h : Int, 0 ≤ h → h < n → tc 0 (h + 1) ≤ tc 1 h + 1 ∧ tc 1 h ≤ tc 0 (h + 1) + 1 := by
  induction n with
  | zero => intro h h0 h1; omega
  | succ n ih =>
    intro h h0 h1
    rw [tc_step (b := 0) (h + 1) (by decide) (by decide), tc_step (b := 1) h (by decide) (by decide)]
    have p : h % 2 = 0 ∨ h % 2 = 1 := by omega
    rcases p with p | p
    · have d := tc_diff (h / 2)
      rw [show (h + 1) / 2 = h / 2 by omega, show (h + 1) % 2 = 1 by omega, p, show (h + 1 + 0) % 2 = 1 by omega]
      omega
    · have d := ih (h / 2) (by omega) (by omega)
      rw [show (h + 1) / 2 = h / 2 + 1 by omega, show (h + 1) % 2 = 0 by omega, p, show (h + 1 + 0) % 2 = 0 by omega]
      show 0 + _ ≤ 0 + _ + 1 ∧ 0 + _ ≤ 0 + _ + 1
      omega
theorem tc_one {b x : Int} (h0 : 0 ≤ b) (h1 : b < 2) (hx : 0 ≤ x) : tc b (x + 1) ≤ tc b x + 2 ∧ tc b x ≤ tc b (x + 1) + 2 := by
  rw [tc_step (x + 1) h0 h1, tc_step x h0 h1]
  have p : x % 2 = 0 ∨ x % 2 = 1 := by omega
  rcases p with p | p
  · have d := tc_diff (x / 2)
    rw [show (x + 1) / 2 = x / 2 by omega, show (x + 1) % 2 = 1 by omega, p]
    omega
  · have d := tc_up ((x / 2).toNat + 1) (x / 2) (by omega) (by omega)
    rw [show (x + 1) / 2 = x / 2 + 1 by omega, show (x + 1) % 2 = 0 by omega, p]
    omega
theorem tc_pow (p : Nat) : ∀ b x : Int, 0 ≤ b → b < 2 → 0 ≤ x → tc b (x + 2 ^ p) ≤ tc b x + 2 ∧ tc b x ≤ tc b (x + 2 ^ p) + 2 := by
  induction p with
  | zero => intro b x h0 h1 hx; exact tc_one h0 h1 hx
  | succ p ih =>
    intro b x h0 h1 hx
    have e : (2 : Int) ^ (p + 1) = 2 * 2 ^ p := by rw [Int.pow_succ, Int.mul_comm]
    rw [e]
    have d := ih (x % 2) (x / 2) (by omega) (by omega) (by omega)
    generalize (2 : Int) ^ p = q at d ⊢
    rw [tc_step (x + 2 * q) h0 h1, tc_step x h0 h1, show (x + 2 * q + b) % 2 = (x + b) % 2 by omega, show (x + 2 * q) % 2 = x % 2 by omega, show (x + 2 * q) / 2 = x / 2 + q by omega]
    omega
theorem T_pow {x : Int} (p : Nat) (hx : 0 ≤ x) : T (x + 2 ^ p) ≤ T x + 2 ∧ T x ≤ T (x + 2 ^ p) + 2 := by
  rw [T_tc, T_tc]
  exact tc_pow p 0 x (by decide) (by decide) hx
theorem T_le {x : Int} {n : Nat} (h0 : 0 ≤ x) (h1 : x < 2 ^ n) : T x ≤ n + 1 := turns_len (by have := Int.pow_pos (n := 2) (m := n) (by decide); omega) h1
/-- a piece adds at most four turns -/
def Pc (z : Int) : Prop := ∀ (x : Int) (s : Nat), 0 ≤ x → T (x + z * 2 ^ s) ≤ T x + 4
theorem pc_1 : Pc 1 := fun x s hx => by
  have := T_pow s hx
  rw [Int.one_mul]; omega
theorem pc_5 : Pc 5 := fun x s hx => by
  have a := T_pow s hx
  have hs : (0 : Int) < 2 ^ s := Int.pow_pos (by decide)
  have b := T_pow (x := x + 2 ^ s) (s + 2) (by omega)
  have e : x + 5 * 2 ^ s = x + 2 ^ s + 2 ^ (s + 2) := by rw [Int.pow_add]; omega
  rw [e]; omega
theorem pc_pow (k : Nat) : Pc (2 ^ k - 1) := fun x s hx => by
  have hs : (0 : Int) < 2 ^ s := Int.pow_pos (by decide)
  have hk : (0 : Int) < 2 ^ k := Int.pow_pos (by decide)
  have a := T_pow (x := x) (k + s) hx
  have nn : 0 ≤ x + (2 ^ k - 1) * 2 ^ s := by
    have : 0 ≤ (2 ^ k - 1) * (2 : Int) ^ s := Int.mul_nonneg (by omega) (by omega)
    omega
  have b := T_pow (x := x + (2 ^ k - 1) * 2 ^ s) s nn
  have e : x + (2 ^ k - 1) * 2 ^ s + 2 ^ s = x + 2 ^ (k + s) := by rw [Int.sub_mul, Int.one_mul, Int.pow_add]; omega
  rw [e] at b
  omega
theorem pc_3 : Pc 3 := pc_pow 2
/-- turns in the lowest group, and above it -/
def Sz (A B : Nat) (c : Int) : Prop := T (c % 2 ^ 200) ≤ A ∧ T (c / 2 ^ 200) ≤ B
theorem Sz.mono {A B A' B' : Nat} {c : Int} (h : Sz A B c) (a : A ≤ A') (b : B ≤ B') : Sz A' B' c := ⟨Nat.le_trans h.1 a, Nat.le_trans h.2 b⟩
theorem sz_first {c : Int} (h0 : 0 ≤ c) (h1 : c < 128) : Sz 8 0 c := by
  unfold Sz
  rw [show c % 2 ^ 200 = c by omega, show c / 2 ^ 200 = 0 by omega]
  refine ⟨T_le (n := 7) h0 h1, ?_⟩
  unfold T turnsN
  rw [show marks 0 = 0 by decide +kernel, ones_zero]
  exact Nat.le_refl _
theorem low_of_code {m : Nat} {b c : Int} (h : CodeB m b c) (hb : b ≤ 2 ^ 60) : 0 ≤ c ∧ c % 2 ^ 200 < 2 ^ 60 := by
  obtain ⟨d, rfl, h2, _⟩ := h
  have a0 := h2 0; have a1 := h2 1; have a2 := h2 2; have a3 := h2 3
  unfold val4
  omega
theorem sz_add {m : Nat} {b c e : Int} {A B : Nat} (h : CodeB m b c) (hb : b ≤ 2 ^ 60) (s : Sz A B c) (h0 : 0 ≤ e) (h1 : e < 4) : Sz (A + 4) B (c + e) := by
  obtain ⟨l0, l1⟩ := low_of_code h hb
  unfold Sz at *
  rw [show (c + e) % 2 ^ 200 = c % 2 ^ 200 + e by omega, show (c + e) / 2 ^ 200 = c / 2 ^ 200 by omega]
  have y0 : 0 ≤ c % 2 ^ 200 := by omega
  generalize c % 2 ^ 200 = y at *
  refine ⟨?_, s.2⟩
  have p3 := pc_3 y 0 y0
  have q1 := T_pow 0 y0
  have q2 := T_pow 1 y0
  have : e = 0 ∨ e = 1 ∨ e = 2 ∨ e = 3 := by omega
  rcases this with rfl | rfl | rfl | rfl
  · rw [Int.add_zero]; omega
  · have : T (y + 1) ≤ T y + 2 := q1.1
    omega
  · have : T (y + 2) ≤ T y + 2 := q2.1
    omega
  · have : T (y + 3) ≤ T y + 4 := p3
    omega
theorem sz_piece {m : Nat} {b c pc : Int} {k s A B : Nat} (h : CodeB m b c) (hb : b ≤ 2 ^ 60) (hk : k < 4) (p0 : 0 ≤ pc) (p1 : pc < 2 ^ 40) (hs : s < 15) (hp : Pc pc) (z : Sz A B c) : Sz (A + 4) (B + 4) (c + pc * 2 ^ (200 * k + s)) := by
  obtain ⟨l0, l1⟩ := low_of_code h hb
  unfold Sz at *
  have hs2 : (2 : Int) ^ s ≤ 2 ^ 14 := p_le (by omega)
  have hs1 : (0 : Int) < 2 ^ s := Int.pow_pos (by decide)
  rcases Nat.eq_zero_or_pos k with rfl | kp
  · rw [Nat.mul_zero, Nat.zero_add]
    have t := hp (c % 2 ^ 200) s (by omega)
    have q0 : 0 ≤ pc * 2 ^ s := Int.mul_nonneg p0 (by omega)
    have q1 : pc * 2 ^ s < 2 ^ 55 := by
      have a : pc * 2 ^ s ≤ pc * 2 ^ 14 := Int.mul_le_mul_of_nonneg_left hs2 p0
      omega
    generalize pc * 2 ^ s = w at *
    rw [show (c + w) % 2 ^ 200 = c % 2 ^ 200 + w by omega, show (c + w) / 2 ^ 200 = c / 2 ^ 200 by omega]
    omega
  · have t := hp (c / 2 ^ 200) (200 * (k - 1) + s) (by omega)
    have e : pc * 2 ^ (200 * k + s) = 2 ^ 200 * (pc * 2 ^ (200 * (k - 1) + s)) := by
      rw [show 200 * k + s = 200 + (200 * (k - 1) + s) by omega, Int.pow_add, Int.mul_left_comm]
    rw [e]
    generalize pc * 2 ^ (200 * (k - 1) + s) = w at *
    rw [show (c + 2 ^ 200 * w) % 2 ^ 200 = c % 2 ^ 200 by omega, show (c + 2 ^ 200 * w) / 2 ^ 200 = c / 2 ^ 200 + w by omega]
    omega
end Fb
namespace Fb
open PySem L2
/-! ### one more floor changes nothing -/
theorem lexD_congr {c c' : PyData → PyData → Int} : ∀ (xs ys : List PyData), (∀ x ∈ xs, ∀ y ∈ ys, c x y = c' x y) → lexD c xs ys = lexD c' xs ys
  | [], [], _ => rfl
  | [], _ :: _, _ => rfl
  | _ :: _, [], _ => rfl
  | x :: xs, y :: ys, h => by
    show (if PyData.eqv x y = true then lexD c xs ys else par (xs.length + 1) (c x y)) = if PyData.eqv x y = true then lexD c' xs ys else par (xs.length + 1) (c' x y)
    rw [lexD_congr xs ys fun a ha b hb => h a (List.mem_cons_of_mem _ ha) b (List.mem_cons_of_mem _ hb), h x List.mem_cons_self y List.mem_cons_self]
theorem cmpD_succ : ∀ (n : Nat) (x y : PyData), Fm n x → Fm n y → cmpD (n + 1) x y = cmpD n x y
  | 0, x, y, hx, hy => by
    obtain ⟨i, rfl⟩ := hx
    obtain ⟨j, rfl⟩ := hy
    rfl
  | n + 1, x, y, hx, hy => by
    rcases hx with ⟨i, rfl⟩ | ⟨xs, rfl, _, fx⟩ <;> rcases hy with ⟨j, rfl⟩ | ⟨ys, rfl, _, fy⟩
    · rfl
    · rfl
    · rfl
    · show (if negD (.tuple xs) = negD (.tuple ys) then lexD (cmpD (n + 1)) xs.reverse ys.reverse else _) = if negD (.tuple xs) = negD (.tuple ys) then lexD (cmpD n) xs.reverse ys.reverse else _
      rw [lexD_congr xs.reverse ys.reverse fun a ha b hb => cmpD_succ n a b (fx a (List.mem_reverse.mp ha)) (fy b (List.mem_reverse.mp hb))]
theorem OrdN.up {n : Nat} {g : Int → PyData} {S : Int → Prop} (o : OrdN n g S) : OrdN (n + 1) g S :=
  { fm := fun a h => (o.fm a h).succ, ord := fun a b ha hb => by rw [cmpD_succ n _ _ (o.fm a ha) (o.fm b hb)]; exact o.ord a b ha hb, pos := o.pos, near := o.near, far := o.far }
theorem sz_succ : ∀ (n : Nat) (d : PyData), Fm n d → sz (n + 1) d = sz n d
  | 0, d, h => by
    obtain ⟨i, rfl⟩ := h
    rw [sz_int, sz_int]
  | n + 1, d, h => by
    rcases h with ⟨i, rfl⟩ | ⟨ds, rfl, _, f⟩
    · rw [sz_int, sz_int]
    · show 1 + (ds.map (sz (n + 1))).sum = 1 + (ds.map (sz n)).sum
      rw [List.map_congr_left fun d hd => sz_succ n d (f d hd)]
theorem Fm.up {n : Nat} {d : PyData} (h : Fm n d) : ∀ k, Fm (n + k) d
  | 0 => h
  | k + 1 => (Fm.up h k).succ
end Fb
namespace Fb
open PySem L2
/-! ### the one form of each integer, by its height -/
theorem OrdN.sub {n : Nat} {g : Int → PyData} {S S' : Int → Prop} (o : OrdN n g S) (h : ∀ c, S' c → S c) : OrdN n g S' :=
  { fm := fun c k => o.fm c (h c k), ord := fun a b ha hb => o.ord a b (h a ha) (h b hb), pos := fun c k => o.pos c (h c k), near := fun c k => o.near c (h c k), far := fun c k => o.far c (h c k) }
theorem num_ord {n : Nat} {g : Int → PyData} {S : Int → Prop} (o : OrdN n g S) {x y : Int} (hx : Num g S x) (hy : Num g S y) : cmpD (n + 1) (numD g x) (numD g y) = sgnI x y := by
  unfold numD
  rw [row_ord o hx.mem hy.mem (tl_asc x) (tl_asc y) (by have := hx.len; omega) (by have := hy.len; omega)]
  exact cmpS_turns x y
theorem num_negD {n : Nat} {g : Int → PyData} {S : Int → Prop} (o : OrdN n g S) {z : Int} (hz : Num g S z) : negD (numD g z) = decide (z < 0) := by
  have h := alt_par (turns_asc z)
  rw [turns_alt] at h
  have e : negD (numD g z) = decide ((Tl z).length % 2 = 1) := row_neg o hz.mem (tl_asc z)
  rw [e]
  refine decide_eq_decide.mpr ?_
  unfold Tl
  rw [len_zs]
  constructor
  · exact h.1
  · intro k
    rcases Nat.mod_two_eq_zero_or_one (turnsN z).length with e | e
    · have := h.2 e; omega
    · exact e
theorem ordN_num {n : Nat} {g : Int → PyData} {S : Int → Prop} (o : OrdN n g S) : OrdN (n + 1) (numD g) fun z => 0 ≤ z ∧ Num g S z := by
  refine { fm := fun c h => num_fm o h.2, ord := fun a b ha hb => num_ord o ha.2 hb.2, pos := fun c h => h.1, near := fun c h h64 => ?_, far := fun c h h64 => ?_ }
  · exact num_pl o h.2 ⟨by have := h.1; omega, by omega⟩
  · rcases num_cases o h.2 with ⟨pl, e, _⟩ | ⟨npl, e, _⟩
    · rw [e]; exact decide_eq_false (by omega)
    · rw [e]; rfl
def gU : Nat → Int → PyData
  | 0 => PyData.int
  | n + 1 => numD (gU n)
/-- heights up to n, at most L turns everywhere -/
def UU (L : Nat) : Nat → Int → Prop
  | 0, z => plain z
  | n + 1, z => (Tl z).length ≤ L ∧ ∀ t ∈ Tl z, UU L n t
def SU (L n : Nat) (t : Int) : Prop := 0 ≤ t ∧ UU L n t
theorem plain_tl {z : Int} (h : plain z) : (Tl z).length ≤ 66 ∧ ∀ t ∈ Tl z, plain t := by
  refine ⟨?_, fun t ht => ?_⟩
  · unfold Tl
    rw [len_zs]
    have := turns_len (n := 64) h.1 h.2
    omega
  · have := tl_near.mp h t ht
    have := tl_pos z t ht
    exact ⟨by omega, by omega⟩
theorem uu_plain {L : Nat} (hL : 66 ≤ L) : ∀ {n : Nat} {z : Int}, plain z → UU L n z
  | 0, _, h => h
  | n + 1, z, h => by
    have k := plain_tl h
    exact ⟨by omega, fun t ht => uu_plain hL (k.2 t ht)⟩
theorem uu_up {L : Nat} (hL : 66 ≤ L) : ∀ {n : Nat} {z : Int}, UU L n z → UU L (n + 1) z
  | 0, _, h => uu_plain hL h
  | _ + 1, _, h => ⟨h.1, fun t ht => uu_up hL (h.2 t ht)⟩
theorem uu_le {L n m : Nat} (hL : 66 ≤ L) (e : n ≤ m) {z : Int} (h : UU L n z) : UU L m z := by
  induction e with
  | refl => exact h
  | step _ ih => exact uu_up hL ih
theorem uu_wide {L L' : Nat} (e : L ≤ L') : ∀ {n : Nat} {z : Int}, UU L n z → UU L' n z
  | 0, _, h => h
  | _ + 1, _, h => ⟨Nat.le_trans h.1 e, fun t ht => uu_wide e (h.2 t ht)⟩
theorem uu_num {L n : Nat} (hL : L ≤ 8500) {z : Int} (h : UU L (n + 1) z) : Num (gU n) (SU L n) z := ⟨fun c hc => ⟨tl_pos z c hc, h.2 c hc⟩, by have := h.1; omega⟩
theorem ordU {L : Nat} (hL : L ≤ 8500) : ∀ n : Nat, OrdN n (gU n) (SU L n)
  | 0 => (ordN_int 0).sub fun _ h => h.1
  | n + 1 => (ordN_num (ordU hL n)).sub fun _ h => ⟨h.1, uu_num hL h.2⟩
theorem gU_plain {n : Nat} {z : Int} (h : plain z) : gU n z = .int z := by
  cases n with
  | zero => rfl
  | succ n => exact num_pl (ordU (L := 66) (by decide) n) (uu_num (by decide) (uu_plain (Nat.le_refl _) h)) h
theorem gU_up {L : Nat} (h66 : 66 ≤ L) (hL : L ≤ 8500) : ∀ {n : Nat} {z : Int}, UU L n z → gU (n + 1) z = gU n z
  | 0, _, h => gU_plain (n := 1) h
  | n + 1, z, h => by
    show rowD ((Tl z).map (gU (n + 1))) = rowD ((Tl z).map (gU n))
    rw [List.map_congr_left fun t ht => gU_up h66 hL (h.2 t ht)]
theorem gU_le {L n m : Nat} (h66 : 66 ≤ L) (hL : L ≤ 8500) (e : n ≤ m) {z : Int} (h : UU L n z) : gU m z = gU n z := by
  induction e with
  | refl => rfl
  | step k ih => rw [gU_up h66 hL (uu_le h66 k h), ih]
theorem niU {L n : Nat} (hL : L ≤ 8500) : NI (gU n) (SU L n) := by
  refine ⟨fun c i h e => ?_, fun c h h0 h1 => gU_plain ⟨by omega, by omega⟩⟩
  cases n with
  | zero => injection e with e; exact e.symm
  | succ n =>
    rcases num_cases (ordU hL n) (uu_num hL h.2) with ⟨pl, e2, _⟩ | ⟨npl, e2, _⟩
    · have e3 : gU (n + 1) c = .int c := e2
      rw [e3] at e
      injection e with e
      exact e.symm
    · have e3 : gU (n + 1) c = .tuple ((Tl c).map (gU n)) := e2
      rw [e3] at e
      cases e
theorem nnU {L n : Nat} (hL : L ≤ 8500) : ∀ c, SU L n c → negD (gU n c) = false := fun c h => by
  cases n with
  | zero => exact decide_eq_false (by have := h.1; omega)
  | succ n =>
    have e : negD (gU (n + 1) c) = decide (c < 0) := num_negD (ordU hL n) (uu_num hL h.2)
    rw [e]
    exact decide_eq_false (by have := h.1; omega)
theorem su_small {L n : Nat} (hL : 66 ≤ L) {c : Int} (h0 : 0 ≤ c) (h1 : c < 2 ^ 64) : SU L n c := ⟨h0, uu_plain hL ⟨by omega, h1⟩⟩
/-! ### sums -/
theorem carT_len (x y : Int) {k : Nat} : (carT (fm2 (Tl x) (Tl y)).1 (fm2 (Tl x) (Tl y)).2 k).length ≤ min (Tl x).length (Tl y).length + 2 := by
  unfold carT
  rw [List.length_append]
  have h := carL_len (fm2 (Tl x) (Tl y)).2 (fm2 (Tl x) (Tl y)).1 0 0 k
  have e : (fm2 (Tl x) (Tl y)).1.length = min (Tl x).length (Tl y).length := by
    unfold fm2
    split
    · show (Tl x).length = _; omega
    · show (Tl y).length = _; omega
  rw [e] at h
  split <;> simp <;> omega
theorem sum_turns (x y : Int) {k : Nat} (hk : k ≤ 1) : (∀ t ∈ Tl (x + y + k), t ∈ Tl x ∨ t ∈ Tl y ∨ t = 0 ∨ t = 1 ∨ t - 1 ∈ Tl x ∨ t - 1 ∈ Tl y) ∧ (Tl (x + y + k)).length ≤ (Tl x).length + (Tl y).length + min (Tl x).length (Tl y).length + 2 := by
  obtain ⟨c, c1, c2, c3⟩ := fm2_car x y hk
  have lc := carT_len x y (k := k)
  rw [c1] at lc
  rw [← c3]
  refine ⟨fun t ht => ?_, ?_⟩
  · rcases xor_mem ht with h | h
    · rcases xor_mem h with h | h
      · exact .inl h
      · rcases c2 t h with h | h | h | h
        · exact .inr (.inr (.inl h))
        · exact .inr (.inr (.inr (.inl (by omega))))
        · exact .inr (.inr (.inr (.inr (.inr h))))
        · exact .inr (.inr (.inr (.inr (.inl h))))
    · exact .inr (.inl h)
  · have a := tl_len_xor (Builtin.bitXor x c) y
    have b := tl_len_xor x c
    omega
theorem tl_zero : Tl 0 = [] := by
  unfold Tl turnsN
  rw [show marks 0 = 0 by decide +kernel, ones_zero]
  rfl
theorem uu_01 {L n : Nat} (hL : 66 ≤ L) {t : Int} (h : t = 0 ∨ t = 1) : UU L n t := uu_plain hL (by rcases h with rfl | rfl <;> decide)
theorem uu_succ {L : Nat} (hL : 66 ≤ L) : ∀ {n : Nat} {z : Int}, UU L n z → UU (L + 2) (n + 1) (z + 1)
  | 0, z, h => by
    have h : plain z := h
    have b0 : -(2 ^ 65) ≤ z + 1 := by have := h.1; omega
    have b1 : z + 1 < 2 ^ 65 := by have := h.2; omega
    refine ⟨?_, fun t ht => ?_⟩
    · unfold Tl
      rw [len_zs]
      have := turns_len (n := 65) b0 b1
      omega
    · have p := tl_pos _ t ht
      obtain ⟨q, hq, rfl⟩ := List.mem_map.mp ht
      have := turns_lt (n := 65) b0 b1 q hq
      show plain ((q : Nat) : Int)
      exact ⟨by omega, by omega⟩
  | n + 1, z, h => by
    have e : z + 0 + ((1 : Nat) : Int) = z + 1 := by omega
    obtain ⟨m, l⟩ := sum_turns z 0 (k := 1) (by decide)
    rw [e, tl_zero] at m l
    have l' : (Tl (z + 1)).length ≤ (Tl z).length + 2 := by simp at l; omega
    have h1 := h.1
    refine ⟨by omega, fun t ht => ?_⟩
    rcases m t ht with k | k | k | k | k | k
    · exact uu_up (by omega) (uu_wide (by omega) (h.2 t k))
    · cases k
    · exact uu_01 (by omega) (.inl k)
    · exact uu_01 (by omega) (.inr k)
    · have := uu_succ hL (h.2 _ k)
      rw [show t - 1 + 1 = t by omega] at this
      exact this
    · cases k
theorem su_succ {L n : Nat} (hL : 66 ≤ L) {z : Int} (h : SU L n z) : SU (L + 2) (n + 1) (z + 1) := ⟨by have := h.1; omega, uu_succ hL h.2⟩
theorem uu_sum {L n : Nat} (hL : 66 ≤ L) {x y : Int} {k : Nat} (hk : k ≤ 1) (hx : UU L (n + 1) x) (hy : UU L (n + 1) y) : UU (3 * L + 2) (n + 2) (x + y + k) := by
  obtain ⟨m, l⟩ := sum_turns x y hk
  have h1 := hx.1
  have h2 := hy.1
  refine ⟨by omega, fun t ht => ?_⟩
  rcases m t ht with k | k | k | k | k | k
  · exact uu_up (by omega) (uu_wide (by omega) (hx.2 t k))
  · exact uu_up (by omega) (uu_wide (by omega) (hy.2 t k))
  · exact uu_01 (by omega) (.inl k)
  · exact uu_01 (by omega) (.inr k)
  · have := uu_succ hL (hx.2 _ k)
    rw [show t - 1 + 1 = t by omega] at this
    exact uu_wide (by omega) this
  · have := uu_succ hL (hy.2 _ k)
    rw [show t - 1 + 1 = t by omega] at this
    exact uu_wide (by omega) this
theorem uu_not {L n : Nat} (hL : 66 ≤ L) {z : Int} (h : UU L (n + 1) z) : UU (L + 1) (n + 1) (-z - 1) := by
  have l : (Tl (-z - 1)).length ≤ (Tl z).length + 1 := by
    rw [← flp_tl]
    exact flp_len _
  have h1 := h.1
  refine ⟨by omega, fun t ht => ?_⟩
  rcases not_mem ht with k | k
  · exact uu_01 (by omega) (.inl k)
  · exact uu_wide (by omega) (h.2 t k)
theorem uu_sub {L n : Nat} (hL : 66 ≤ L) {x y : Int} (hx : UU L (n + 1) x) (hy : UU L (n + 1) y) : UU (3 * L + 5) (n + 2) (x - y) := by
  have := uu_sum (L := L + 1) (by omega) (k := 1) (by decide) (uu_wide (by omega) hx) (uu_not hL hy)
  rw [show x + (-y - 1) + ((1 : Nat) : Int) = x - y by omega] at this
  exact uu_wide (by omega) this
end Fb
namespace Fb
open PySem L2
/-! ### the arithmetic of forms, every height at once -/
structure DefAt (K : PySem.W.Frag) (mg : Str → Option Value) (x : Str) (st : Stmt) (ps : List Str) : Prop where
  ex : ∃ f fd, Fun K x x st f fd ∧ Binds K fd ps [] ∧ mg x = some (.ref f)
structure DefUp (K : PySem.W.Frag) (mg : Str → Option Value) : Prop where
  ex : ∃ f fd dvs kws ds dsx, FunD K "turns_up_to" "turns_up_to" (defArgs S_turns_up_to) (defBody S_turns_up_to) (defScope S_turns_up_to) dvs kws f fd ∧ mg "turns_up_to" = some (.ref f) ∧ Vals [.int 0] ds ∧ Binds K fd P_turns_up_to ds ∧ Vals [] dsx ∧ Binds K fd P_turns_up_to dsx
structure Core (K : PySem.W.Frag) (mg : Str → Option Value) : Prop where
  B : Blt mg
  hk : PySem.W.nsIn K cStatics "sys.int_max_str_digits" = some none
  LP : ∃ tk, mg "LAST_PLAIN_TURN" = some (.int 64 tk)
  FT : ∃ tk, mg "FEW_TURNS" = some (.int 8 tk)
  MT : ∃ tk, mg "MANY_TURNS" = some (.int 16 tk)
  BI : ∃ tk, mg "BITS" = some (.str "01" tk)
  PS : ∃ tk, mg "PLAIN_STOP" = some (.int 18446744073709551616 tk)
  NP : ∃ tk, mg "NEAR_PLACE" = some (.int 1000 tk)
  BT : ∃ tk, mg "BITS_FOR_A_TURN" = some (.int 64 tk)
  is_near : DefAt K mg "is_near" S_is_near P_is_near
  int_of_rows : DefAt K mg "int_of_rows" S_int_of_rows P_int_of_rows
  int_of_turns : DefAt K mg "int_of_turns" S_int_of_turns P_int_of_turns
  is_negative : DefAt K mg "is_negative" S_is_negative P_is_negative
  ones_of_text : DefAt K mg "ones_of_text" S_ones_of_text P_ones_of_text
  turns_of_int : DefAt K mg "turns_of_int" S_turns_of_int P_turns_of_int
  is_plain : DefAt K mg "is_plain" S_is_plain P_is_plain
  form_of_int : DefAt K mg "form_of_int" S_form_of_int P_form_of_int
  form_with : DefAt K mg "form_with" S_form_with P_form_with
  turns_in : DefAt K mg "turns_in" S_turns_in P_turns_in
  compare : DefAt K mg "compare" S_compare P_compare
  compare_far : DefAt K mg "compare_far" S_compare_far P_compare_far
  common_tail : DefAt K mg "common_tail" S_common_tail P_common_tail
  is_less : DefAt K mg "is_less" S_is_less P_is_less
  turns_between : DefAt K mg "turns_between" S_turns_between P_turns_between
  turns_before : DefAt K mg "turns_before" S_turns_before P_turns_before
  up : DefUp K mg
  shorter_first : DefAt K mg "shorter_first" S_shorter_first P_shorter_first
  merged_turns : DefAt K mg "merged_turns" S_merged_turns P_merged_turns
  flipped_turns : DefAt K mg "flipped_turns" S_flipped_turns P_flipped_turns
  is_short : DefAt K mg "is_short" S_is_short P_is_short
  are_near : DefAt K mg "are_near" S_are_near P_are_near
  int_of_form : DefAt K mg "int_of_form" S_int_of_form P_int_of_form
  plus_one : DefAt K mg "plus_one" S_plus_one P_plus_one
  carry_turns : DefAt K mg "carry_turns" S_carry_turns P_carry_turns
  summed_turns : DefAt K mg "summed_turns" S_summed_turns P_summed_turns
section
variable {P : Program} {w : World} {K : PySem.W.Frag} {mg : Str → Option Value} {base : Heap}
theorem DefAt.has {x : Str} {st : Stmt} {ps : List Str} {k : Nat} {sp : Sp} (D : DefAt K mg x st ps) (h : ∀ f fd, Fun K x x st f fd → FnOk P w K mg base CX0 k f fd ps sp) : Has P w K mg base k x ps [] sp := by
  obtain ⟨f, fd, F, b, m⟩ := D.ex
  exact ⟨f, fd, [], h f fd F, F.kp, m, .nil, b⟩
theorem DefAt.hasX {x : Str} {st : Stmt} {ps : List Str} {k : Nat} {sp : Sp} (D : DefAt K mg x st ps) (h : ∀ f fd, Fun K x x st f fd → FnOk P w K mg base (L2.CX P w) k f fd ps sp) : HasX P w K mg base k x ps sp := by
  obtain ⟨f, fd, F, b, m⟩ := D.ex
  exact ⟨f, fd, h f fd F, F.kp, m, b⟩
theorem Has.weak {x : Str} {ps : List Str} {dvs : List V} {k : Nat} {sp sp' : Sp} (C : Has P w K mg base k x ps dvs sp) (h : ∀ vs H Q E, sp' vs H Q E → sp vs H Q E) : Has P w K mg base k x ps dvs sp' := by
  obtain ⟨f, fd, ds, F, r⟩ := C.ex
  exact ⟨f, fd, ds, ⟨fun a b c d h' => F.1 a b c d (h _ _ _ _ h'), fun a1 a2 a3 a4 a5 a6 a7 a8 a9 b1 b2 b3 b4 h' => F.2 a1 a2 a3 a4 a5 a6 a7 a8 a9 b1 b2 b3 b4 (h _ _ _ _ h')⟩, r⟩
def lev : Nat → Nat
  | 0 => 4
  | n + 1 => 2 * n + lev n + 6
variable (c : Core K mg)
abbrev oU (n : Nat) : OrdN n (gU n) (SU 8500 n) := ordU (Nat.le_refl _) n
abbrev nU (n : Nat) : ∀ c, SU 8500 n c → negD (gU n c) = false := nnU (Nat.le_refl _)
abbrev sU (n : Nat) : SU 8500 n 0 := su_small (by decide) (by decide) (by decide)
abbrev sU1 (n : Nat) : SU 8500 n 1 := su_small (by decide) (by decide) (by decide)
abbrev g65 (n : Nat) : gU n 65 = .int 65 := gU_plain (by decide)
include c
theorem Core.c_near : Has P w K mg base 1 "is_near" P_is_near [] (spNear K) := c.is_near.has fun _ _ F => ok_near F c.B c.LP.choose_spec
theorem Core.c_rows : Has P w K mg base 1 "int_of_rows" P_int_of_rows [] (spRows K) := c.int_of_rows.has fun _ _ F => ok_rows F c.B c.BI.choose_spec c.hk
theorem Core.c_iot : Has P w K mg base 2 "int_of_turns" P_int_of_turns [] (spIoT K) := c.int_of_turns.has fun _ _ F => ok_iot F c.B c.MT.choose_spec c.c_rows
theorem Core.c_neg : Has P w K mg base 1 "is_negative" P_is_negative [] (spNeg K) := c.is_negative.has fun _ _ F => ok_neg F c.B
theorem Core.c_onest : Has P w K mg base 1 "ones_of_text" P_ones_of_text [] spOnesT := c.ones_of_text.has fun _ _ F => ok_onest F c.B
theorem Core.c_tint : Has P w K mg base 2 "turns_of_int" P_turns_of_int [] spTurns := c.turns_of_int.has fun _ _ F => ok_tint F c.B c.FT.choose_spec c.c_onest
theorem Core.c_plain : Has P w K mg base 1 "is_plain" P_is_plain [] spPlain := c.is_plain.has fun _ _ F => ok_plain F c.PS.choose_spec
theorem Core.c_foi : Has P w K mg base 3 "form_of_int" P_form_of_int [] (spFoi K) := c.form_of_int.has fun _ _ F => ok_foi F c.B c.c_plain c.c_tint
theorem Core.c_with (n : Nat) : Has P w K mg base 3 "form_with" P_form_with [] (spWith K (gU n) (SU 8500 n)) := c.form_with.has fun _ _ F => ok_with (oU n) F c.B c.c_near c.c_iot
theorem Core.c_tin (n : Nat) : Has P w K mg base 3 "turns_in" P_turns_in [] (spTin K (gU n) (SU 8500 n)) := c.turns_in.has fun _ _ F => ok_tin (oU n) F c.B c.c_tint
theorem Core.c_order (n : Nat) (hn : n ≤ 40) : Has P w K mg base (2 * n + 2) "compare" P_compare [] (spCmp K n) := by
  obtain ⟨f, fd, F, b, m⟩ := c.compare.ex
  obtain ⟨g, gd, G, bg, mg'⟩ := c.compare_far.ex
  obtain ⟨t, td, T, bt, mt⟩ := c.common_tail.ex
  exact ⟨f, fd, [], ok_order F b m G bg mg' c.B c.c_neg T bt mt c.FT.choose_spec hn, F.kp, m, .nil, b⟩
theorem Core.c_far (n : Nat) (hn : n ≤ 40) : Has P w K mg base (2 * n + 3) "compare_far" P_compare_far [] (spFar K n) := by
  obtain ⟨f, fd, F, b, m⟩ := c.compare.ex
  obtain ⟨g, gd, G, bg, mg'⟩ := c.compare_far.ex
  obtain ⟨t, td, T, bt, mt⟩ := c.common_tail.ex
  exact ⟨g, gd, [], ok_compare_far F b m G bg mg' c.B c.c_neg T bt mt c.FT.choose_spec hn, G.kp, mg', .nil, bg⟩
theorem Core.c_less (n : Nat) (hn : n ≤ 40) : Has P w K mg base (2 * n + 2) "is_less" P_is_less [] (spLess K (gU n) (SU 8500 n)) := by
  cases n with
  | zero => exact c.is_less.has fun _ _ F => ok_less (oU 0) (nU 0) (spF := fun _ _ _ _ => False) (fun m h => nomatch h) F c.B (c.compare_far.has fun _ _ _ => fnok_no)
  | succ m => exact c.is_less.has fun _ _ F => ok_less (oU (m + 1)) (nU (m + 1)) (spF := spFar K m) (fun k h vs H Q E x => by cases h; exact x) F c.B (c.c_far m (by omega))
theorem Core.c_between (n : Nat) (hn : n ≤ 40) : Has P w K mg base (2 * n + 3) "turns_between" P_turns_between [] (spBetween K (gU n) (SU 8500 n)) := c.turns_between.has fun _ _ F => ok_between F (c.c_less n hn)
theorem Core.c_before (n : Nat) (hn : n ≤ 40) : Has P w K mg base (2 * n + 4) "turns_before" P_turns_before [] (spBefore K (gU n) (SU 8500 n)) := c.turns_before.has fun _ _ F => ok_before F c.B (c.c_less n hn) (c.c_between n hn)
theorem Core.c_upto (n : Nat) (hn : n ≤ 40) : Has P w K mg base (2 * n + 5) "turns_up_to" P_turns_up_to [] (spUpTo K (gU n) (SU 8500 n)) := by
  obtain ⟨f, fd, dvs, kws, ds, dsx, F, m, v, b, vx, bx⟩ := c.up.ex
  exact ⟨f, fd, dsx, ok_upto hn (oU n) F c.B (c.c_between n hn) (c.c_before n hn), F.kp, m, vx, bx⟩
theorem Core.c_upto0 (n : Nat) (hn : n ≤ 40) : Has P w K mg base (2 * n + 5) "turns_up_to" P_turns_up_to [.int 0] (spUpTo K (gU n) (SU 8500 n)) := by
  obtain ⟨f, fd, dvs, kws, ds, dsx, F, m, v, b, vx, bx⟩ := c.up.ex
  exact ⟨f, fd, ds, ok_upto hn (oU n) F c.B (c.c_between n hn) (c.c_before n hn), F.kp, m, v, b⟩
theorem Core.c_short : Has P w K mg base 1 "shorter_first" P_shorter_first [] (spShort K) := c.shorter_first.has fun _ _ F => ok_short F c.B
theorem Core.c_merged (n : Nat) (hn : n ≤ 40) : Has P w K mg base (2 * n + 5) "merged_turns" P_merged_turns [] (spMerged K (gU n) (SU 8500 n)) := c.merged_turns.has fun _ _ F => ok_merged hn (oU n) F c.B c.c_short (c.c_before n hn)
theorem Core.c_flip (n : Nat) (hn : n ≤ 40) : Has P w K mg base 1 "flipped_turns" P_flipped_turns [] (spFlip K (gU n) (SU 8500 n)) := c.flipped_turns.has fun _ _ F => ok_flip hn (oU n) (sU n) F c.B
theorem Core.c_isshort (n : Nat) : Has P w K mg base 1 "is_short" P_is_short [] (spIsShort K (gU n) (SU 8500 n)) := c.is_short.has fun _ _ F => ok_isshort (oU n) (nU n) F c.B c.MT.choose_spec c.NP.choose_spec
theorem Core.c_arenear (n : Nat) : Has P w K mg base 2 "are_near" P_are_near [] (spAreNear K (gU n) (SU 8500 n)) := c.are_near.has fun _ _ F => ok_arenear (oU n) (nU n) F c.B c.MT.choose_spec c.NP.choose_spec c.BT.choose_spec (c.c_isshort n)
theorem Core.c_iof (n : Nat) : Has P w K mg base 3 "int_of_form" P_int_of_form [] (spIof K (gU n) (SU 8500 n)) := c.int_of_form.has fun _ _ F => ok_iof (oU n) F c.B c.c_iot
theorem Core.c_next (n : Nat) (hn : n ≤ 40) : Has P w K mg base (lev n) "plus_one" P_plus_one [] (spNext K (gU n) (SU 8500 n)) := by
  induction n with
  | zero => exact c.plus_one.has fun _ _ F => ok_next (k := 0) (g := gU 0) (fun x hx => ⟨rfl, hx.2.1, hx.2.2⟩) F c.B c.c_foi (c.plus_one.has fun _ _ _ => fnok_no) (c.form_with.has fun _ _ _ => fnok_no) (c.merged_turns.has fun _ _ _ => fnok_no)
  | succ n ih =>
    refine Has.weak (c.plus_one.has fun _ _ F => ok_succ (n := n) (by omega) (oU n) (g65 n) (sU n) F c.B c.c_foi (ih (by omega)) (c.c_with n) (c.c_merged n (by omega))) fun vs H Q E h => ?_
    obtain ⟨v, z, e, hd, hz, hz', q⟩ := h
    exact ⟨v, z, e, hd, uu_num (Nat.le_refl _) hz.2, uu_num (Nat.le_refl _) hz'.2, q⟩
theorem Core.c_succ (n : Nat) (hn : n ≤ 40) : Has P w K mg base (lev (n + 1)) "plus_one" P_plus_one [] (spNum1 K (gU n) (SU 8500 n) fun z => z + 1) := c.plus_one.has fun _ _ F => ok_succ (n := n) hn (oU n) (g65 n) (sU n) F c.B c.c_foi (c.c_next n hn) (c.c_with n) (c.c_merged n hn)
theorem Core.c_carry (n : Nat) (hn : n ≤ 40) : Has P w K mg base (2 * n + lev n + 6) "carry_turns" P_carry_turns [] (spCarry K (gU n) (SU 8500 n)) := c.carry_turns.has fun _ _ F => ok_carry (oU n) (sU n) (sU1 n) F c.B c.c_short (c.c_less n hn) (c.c_upto n hn) (c.c_next n hn)
theorem Core.c_summed (n : Nat) (hn : n ≤ 40) : Has P w K mg base (2 * n + lev n + 7) "summed_turns" P_summed_turns [] (spSummed2 K (gU n) (SU 8500 n)) := c.summed_turns.has fun _ _ F => ok_summed2 (sU n) (sU1 n) F c.B c.c_short (c.c_merged n hn) (c.c_carry n hn)
theorem Core.c_plus (D : DefAt K mg "plus" S_plus P_plus) (n : Nat) (hn : n ≤ 40) : Has P w K mg base (2 * n + lev n + 8) "plus" P_plus [] (spSum K (gU n) (SU 8500 n) fun x y => x + y) := D.has fun _ _ F => ok_plus (oU n) (niU (Nat.le_refl _)) (g65 n) F c.B c.c_foi (c.c_with n) (c.c_tin n) (c.c_summed n hn) (c.c_arenear n) (c.c_iof n)
theorem Core.c_minus (D : DefAt K mg "minus" S_minus P_minus) (n : Nat) (hn : n ≤ 40) : Has P w K mg base (2 * n + lev n + 8) "minus" P_minus [] (spSum K (gU n) (SU 8500 n) fun x y => x - y) := D.has fun _ _ F => ok_minus (oU n) (niU (Nat.le_refl _)) (g65 n) (sU n) (sU1 n) F c.B c.c_foi (c.c_with n) (c.c_tin n) (c.c_summed n hn) (c.c_flip n hn) (c.c_arenear n) (c.c_iof n)
end
end Fb
namespace Fb
open PySem L2
/-! ### every canonical form is sound: its last place is the highest one -/
theorem gdU {L : Nat} (hL : L ≤ 8500) : ∀ n : Nat, (∀ z, UU L n z → ∃ h, Gd n h (gU n z)) ∧ ∀ a b : Int, 0 ≤ a → a ≤ b → UU L n a → UU L n b → ht n (gU n a) ≤ ht n (gU n b)
  | 0 => ⟨fun z _ => ⟨0, gd_int 0 z⟩, fun a b _ _ _ _ => by
      show ht 0 (.int a) ≤ ht 0 (.int b)
      rw [ht_int, ht_int]
      exact Int.le_refl 0⟩
  | n + 1 => by
    obtain ⟨g, mo⟩ := gdU hL n
    have far : ∀ z, UU L (n + 1) z → ¬ plain z → ∃ (l : List Nat) (p : Nat), turnsN z = l ++ [p] ∧ UU L n (p : Int) ∧ Gd (n + 1) (ht n (gU n (p : Int)) + 1) (gU (n + 1) z) := fun z u np => by
      obtain ⟨l, p, e⟩ : ∃ (l : List Nat) (p : Nat), turnsN z = l ++ [p] := by
        by_cases c : turnsN z = []
        · exact absurd (tl_near.mpr fun t ht => by unfold Tl at ht; rw [c] at ht; cases ht) np
        · exact ⟨_, _, (List.dropLast_concat_getLast c).symm⟩
      have eT : Tl z = zs l ++ [(p : Int)] := by
        unfold Tl
        rw [e]
        unfold zs
        rw [List.map_append]
        rfl
      have mp : (p : Int) ∈ Tl z := by rw [eT]; simp
      refine ⟨l, p, e, u.2 _ mp, ?_⟩
      have el : gU (n + 1) z = .tuple ((Tl z).map (gU n)) := by
        rcases num_cases (ordU hL n) (uu_num hL u) with ⟨pl, _, _⟩ | ⟨_, h, _⟩
        · exact absurd pl np
        · exact h
      rw [el]
      obtain ⟨hp, gp⟩ := g _ (u.2 _ mp)
      have ehp := gp.ht
      refine gd_tup (dl := gU n (p : Int)) (by rw [List.length_map]; have := u.1; omega) (by rw [eT, List.map_append]; simp) (by rw [ehp]; exact gp) fun x hx => ?_
      obtain ⟨t, ht, rfl⟩ := List.mem_map.mp hx
      obtain ⟨h1, g1⟩ := g _ (u.2 _ ht)
      refine ⟨h1, ?_, g1⟩
      rw [← g1.ht]
      refine mo t p (tl_pos z t ht) ?_ (u.2 _ ht) (u.2 _ mp)
      have asc := tl_asc z
      rw [eT] at asc ht
      rcases List.mem_append.mp ht with h | h
      · exact Int.le_of_lt ((List.pairwise_append.mp asc).2.2 t h p (by simp))
      · simp at h
        omega
    refine ⟨fun z u => ?_, fun a b a0 ab ua ub => ?_⟩
    · by_cases pl : plain z
      · rw [gU_plain pl]
        exact ⟨0, gd_int _ z⟩
      · obtain ⟨_, _, _, _, h⟩ := far z u pl
        exact ⟨_, h⟩
    · by_cases pa : plain a
      · rw [gU_plain pa, ht_int]
        exact ht_nonneg _ _
      · by_cases pb : plain b
        · exact absurd ⟨by omega, by have := pb.2; omega⟩ pa
        · obtain ⟨la, p, ea, up, ga⟩ := far a ua pa
          obtain ⟨lb, q, eb, uq, gb⟩ := far b ub pb
          rw [ga.ht, gb.ht]
          have := mo p q (by omega) (by have := last_mono a0 ab ea eb; omega) up uq
          omega
theorem gU_gd {L n : Nat} (hL : L ≤ 8500) {z : Int} (h : UU L n z) : ∃ hh, Gd n hh (gU n z) := (gdU hL n).1 z h
end Fb
namespace Fb
open PySem L2 Bx
/-! ### lists made item by item -/
/-- a slice: of a list a list, of a tuple a tuple -/
def rSlD2 (K : PySem.W.Frag) : V → Option Int → Option Int → Hp → VK → Prop := fun x lo hi H Q => ∃ a xs, x = .ref a ∧ ((H a = some (.lst xs) ∧ ∀ b H', Same H H' → H' b = some (.lst (cutV xs lo hi)) → Q (.ref b) H') ∨ (SqT K H a xs ∧ ∀ b H', Same H H' → SqT K H' b (cutV xs lo hi) → Q (.ref b) H'))
theorem sl_seqD {X : Cx} (K : PySem.W.Frag) (hK : X.K = K := by rfl) : SlR X (rSlD2 K) := by
  subst hK
  intro pins s σ H x v vl vu lo hi sl Q I rx hs pl pu ⟨a, xs, e, h⟩
  refine (sl_list.or sl_tupA) pins s σ H x v vl vu lo hi sl Q I rx hs pl pu (h.imp (fun ⟨h, q⟩ => ⟨a, xs, e, SqL.of h, fun p np => q p _ (Same.new np) upd_same⟩) fun ⟨h, q⟩ => ⟨a, xs, e, h, fun hw => ?_, fun _ p np => q p _ (Same.new np) (SqT.of upd_same)⟩)
  refine q a H (Same.refl H) ?_
  unfold cutV
  rw [hw.1, hw.2, List.drop_zero, Nat.sub_zero, List.take_length]
  exact h
/-- where the items come from -/
def Src (K : PySem.W.Frag) (t0 : TE) (σ : L2.St) (H : Hp) (xs : List V) : Prop := (∀ Q' : VK, (∀ a H1, Same H H1 → H1 a = some (.lst xs) → Q' (.ref a) H1) → t0 σ H Q') ∨ (∀ Q' : VK, (∀ a H1, Same H H1 → SqT K H1 a xs → Q' (.ref a) H1) → t0 σ H Q')
theorem src_var {K : PySem.W.Frag} {σ : L2.St} {H : Hp} {j : Nat} {a : Addr} {xs : List V} (h : Sq K H a xs) (hj : σ[j]? = some (some (.ref a))) : Src K (tVar j) σ H xs :=
  h.imp (fun h Q' q => ⟨_, hj, q a H (Same.refl H) h⟩) fun h Q' q => ⟨_, hj, q a H (Same.refl H) h⟩
theorem src_from {K : PySem.W.Frag} {σ : L2.St} {H : Hp} {i j : Nat} {a : Addr} {k : Nat} {xs : List V} (h : Sq K H a xs) (hj : σ[j]? = some (some (.ref a))) (hi : σ[i]? = some (some (.int (k : Int)))) (hk : k ≤ xs.length) : Src K (tSl (rSlD2 K) (tVar j) (tPart (tVar i)) tNoPart) σ H (xs.drop k) := by
  rw [← cut_from hk]
  exact h.imp (fun h Q' q => ⟨_, hj, _, hi, _, rfl, a, xs, rfl, .inl ⟨h, fun b H' e r => q b H' e r⟩⟩) fun h Q' q => ⟨_, hj, _, hi, _, rfl, a, xs, rfl, .inr ⟨h, fun b H' e r => q b H' e r⟩⟩
theorem wipe_one (σ : L2.St) (s : Nat) (x : Option V) : wipe ((wipe σ [s]).set s x) [s] = wipe σ [s] := by
  show (((σ.set s none).set s x).set s none) = σ.set s none
  rw [List.set_set, List.set_set]
theorem map_src {K : PySem.W.Frag} {t0 : TE} {σ : L2.St} {H : Hp} {xs : List V} {s n : Nat} {te : TE} {Q : VK} {ds : List PyData} (src : Src K t0 σ H xs) (hl : xs.length = ds.length) (lt : xs.length < sizeLine) (hfm : ∀ d ∈ ds, Fm n d)
    (step : ∀ (i : Nat) (x : V) (d : PyData), xs[i]? = some x → ds[i]? = some d → ∀ H', Same H H' → ∀ Q' : VK, (∀ y H4, Same H' H4 → Dp K H4 y d → Q' y H4) → te ((wipe σ [s]).set s (some x)) H' Q')
    (fin : ∀ (D : Addr) (ys : List V) (H' : Hp), Same H H' → H' D = some (.lst ys) → DpAll K H' ys ds → Q (.ref D) H') : tLc (iSeq K t0) (gName s) tYes te [s] σ H Q := by
  have turn : ∀ (H1 : Hp) (D : Addr), Same H H1 → H1 D = none → ∀ (i : Nat) (x : V) (H' : Hp), xs[i]? = some x → (∃ ys : List V, Same H1 H' ∧ H' D = some (.lst ys) ∧ DpAll K H' ys (ds.take i)) →
      te ((wipe σ [s]).set s (some x)) H' fun y H4 => ∃ acc, H4 D = some (.lst acc) ∧ acc.length < sizeLine ∧ ∃ ys : List V, Same H1 (upd H4 D (.lst (acc ++ [y]))) ∧ upd H4 D (.lst (acc ++ [y])) D = some (.lst ys) ∧ DpAll K (upd H4 D (.lst (acc ++ [y]))) ys (ds.take (i + 1)) := fun H1 D e1 nD i x H' hx ⟨ys, e, hD, hy⟩ => by
    have hi : i < xs.length := (List.getElem?_eq_some_iff.mp hx).1
    have hd : ds[i]? = some ds[i] := List.getElem?_eq_getElem (by omega)
    refine step i x _ hx hd H' (e1.trans e) _ fun y H4 e4 dy => ⟨ys, e4 _ _ hD, ?_, ys ++ [y], Same.mut (e.trans e4) nD, upd_same, ?_⟩
    · rw [dps_length hy, List.length_take]
      omega
    · have td : Td H4 (upd H4 D (.lst (ys ++ [y]))) := Td.lst (e4 _ _ hD)
      rw [show ds.take (i + 1) = ds.take i ++ [ds[i]] by rw [List.take_add_one, hd]; rfl]
      refine dps_app (((Td.of (Nd.of e4)).trans td).ds (n := n) (fun z hz => hfm z (List.mem_of_mem_take hz)) hy) (.cons (td.d (hfm _ (List.mem_of_getElem? hd)) dy) .nil)
  rcases src with h | h
  · refine .inl (h _ fun a H1 e1 hL => ⟨a, rfl, ⟨_, SqL.of hL⟩, fun D nD => ?_⟩)
    refine lc_list (xs := xs) (fun i H' => ∃ ys : List V, Same H1 H' ∧ H' D = some (.lst ys) ∧ DpAll K H' ys (ds.take i)) ⟨[], Same.new nD, upd_same, .nil⟩ (fun i H' _ h => h.elim fun _ h => h.1.seq (SqL.of hL)) (fun i x H' hx h => ⟨wipe_one _ _ _, lcT (turn H1 D e1 nD i x H' hx h)⟩) (fun H' h => ?_)
    obtain ⟨ys, e, hD, hy⟩ := h
    rw [hl, List.take_length] at hy
    exact fin D ys H' (e1.trans e) hD hy
  · refine .inr (h _ fun a H1 e1 hL => ⟨a, rfl, ⟨_, hL⟩, fun D nD => ?_⟩)
    refine lc_tup (xs := xs) (fun i H' => ∃ ys : List V, Same H1 H' ∧ H' D = some (.lst ys) ∧ DpAll K H' ys (ds.take i)) ⟨[], Same.new nD, upd_same, .nil⟩ (fun i H' _ h => h.elim fun _ h => (Nd.of h.1).sqt hL) (fun i x H' hx h => ⟨wipe_one _ _ _, lcT (turn H1 D e1 nD i x H' hx h)⟩) (fun H' h => ?_)
    obtain ⟨ys, e, hD, hy⟩ := h
    rw [hl, List.take_length] at hy
    exact fin D ys H' (e1.trans e) hD hy
/-! ### shifts of integers -/
theorem tl_shl (x : Int) (k : Nat) : Tl (x * 2 ^ k) = (Tl x).map (· + (k : Int)) := by
  have asc : ((turnsN x).map (· + k)).Pairwise (· < ·) := List.pairwise_map.mpr ((turns_asc x).imp fun h => by omega)
  have e : alt (-1) ((turnsN x).map (· + k)) = x * 2 ^ k := by rw [alt_shift, turns_alt, Int.mul_comm]
  unfold Tl
  rw [← e, turns_of_alt asc]
  unfold zs
  rw [List.map_map, List.map_map]
  rfl
theorem bt_shr (p k : Nat) (x : Int) : Bt p (x / 2 ^ k) = Bt (p + k) x := by
  unfold Bt
  rw [Nat.add_comm, Int.pow_add, ← Int.ediv_ediv_of_nonneg (Int.le_of_lt (Int.pow_pos (by decide)))]
theorem cnt_sub (l : List Int) (k p : Int) : cnt (l.map (· - k)) p = cnt l (p + k) := by
  unfold cnt
  rw [List.filter_map, List.length_map]
  congr 1
  refine List.filter_congr fun t _ => ?_
  show decide (t - k ≤ p) = decide (t ≤ p + k)
  exact decide_eq_decide.mpr (by omega)
theorem tl_shr (x : Int) (k : Nat) : Tl (x / 2 ^ k) = (if cnt (Tl x) (k : Int) % 2 = 1 then [0] else []) ++ ((Tl x).drop (cnt (Tl x) (k : Int))).map (· - (k : Int)) := by
  have gt : ∀ t ∈ (Tl x).drop (cnt (Tl x) (k : Int)), (k : Int) < t := fun t ht => by
    obtain ⟨s1, s2, s3, s4⟩ := split3 (k : Int) (tl_asc x)
    exact s3 t ht
  symm
  refine tl_of ?_ ?_ fun p => ?_
  · refine List.pairwise_append.mpr ⟨by split <;> simp, List.pairwise_map.mpr (((tl_asc x).sublist (List.drop_sublist _ _)).imp fun h => by omega), fun a ha b hb => ?_⟩
    obtain ⟨t, ht, rfl⟩ := List.mem_map.mp hb
    have := gt t ht
    split at ha
    · rw [List.mem_singleton.mp ha]; omega
    · cases ha
  · intro c hc
    rcases List.mem_append.mp hc with h | h
    · split at h
      · rw [List.mem_singleton.mp h]; decide
      · cases h
    · obtain ⟨t, ht, rfl⟩ := List.mem_map.mp h
      have := gt t ht
      omega
  · rw [bt_shr, bt_tl, cnt_app, cnt_sub]
    have d := (drop_cnt (tl_asc x) (u := (k : Int)) (c := (p : Int) + (k : Int)) (by omega))
    have z : cnt (if cnt (Tl x) (k : Int) % 2 = 1 then [(0 : Int)] else []) (p : Int) = cnt (Tl x) (k : Int) % 2 := by
      split
      · rename_i h
        rw [h, cnt_cons, if_pos (by omega), cnt_nil]
      · rw [cnt_nil]; omega
    rw [z, d.1]
    have e : ((p + k : Nat) : Int) = (p : Int) + (k : Int) := by omega
    rw [e]
    omega
theorem uu_shl {L n : Nat} (hL : 66 ≤ L) {x s : Int} (hx : UU L (n + 2) x) (hs : UU L (n + 1) s) (s0 : 0 ≤ s) : UU (3 * L + 2) (n + 3) (x * 2 ^ s.toNat) := by
  have h1 := hx.1
  refine ⟨by rw [tl_shl, List.length_map]; omega, fun t ht => ?_⟩
  rw [tl_shl] at ht
  obtain ⟨u, hu, rfl⟩ := List.mem_map.mp ht
  have e : u + ((s.toNat : Nat) : Int) = u + s + ((0 : Nat) : Int) := by omega
  rw [e]
  exact uu_sum (n := n) hL (by decide) (hx.2 u hu) hs
theorem uu_shr {L n : Nat} (hL : 66 ≤ L) {x s : Int} (hx : UU L (n + 2) x) (hs : UU L (n + 1) s) (s0 : 0 ≤ s) : UU (3 * L + 5) (n + 3) (x / 2 ^ s.toNat) := by
  have h1 := hx.1
  refine ⟨?_, fun t ht => ?_⟩
  · rw [tl_shr, List.length_append, List.length_map, List.length_drop]
    split <;> simp <;> omega
  rw [tl_shr] at ht
  rcases List.mem_append.mp ht with h | h
  · split at h
    · exact uu_01 (by omega) (.inl (List.mem_singleton.mp h))
    · cases h
  · obtain ⟨u, hu, rfl⟩ := List.mem_map.mp h
    have e : u - ((s.toNat : Nat) : Int) = u - s := by omega
    rw [e]
    exact uu_sub (n := n) hL (hx.2 u (List.mem_of_mem_drop hu)) hs
section
variable {P : Program} {w : World} {K : PySem.W.Frag} {mg : Str → Option Value} {base : Heap} {f : Addr} {fd : FuncData}
/-- two numbers, their sum or difference -/
def spPU (K : PySem.W.Frag) (n L : Nat) (r : Int → Int → Int) : Sp := fun vs H Q _ => ∃ (v u : V) (x y : Int), vs = [v, u] ∧ Dp K H v (gU n x) ∧ Dp K H u (gU n y) ∧ UU L n x ∧ UU L n y ∧ ∀ (v' : V) (H' : Hp), Same H H' → Dp K H' v' (gU (n + 1) (r x y)) → Q v' H'
theorem sum_pu {n L : Nat} (h66 : 66 ≤ L) (hL : L ≤ 2500) {r : Int → Int → Int} (hr : ∀ x y, UU L (n + 1) x → UU L (n + 1) y → UU 8500 (n + 2) (r x y)) : ∀ vs H Q E, spPU K (n + 1) L r vs H Q E → spSum K (gU (n + 1)) (SU 8500 (n + 1)) r vs H Q E := fun vs H Q E h => by
  obtain ⟨v, u, x, y, rfl, hx, hy, ux, uy, q⟩ := h
  have e8 : L ≤ 8500 := by omega
  have up : ∀ z, UU L (n + 1) z → Num (gU (n + 1)) (SU 8500 (n + 1)) z ∧ numD (gU (n + 1)) z = gU (n + 1) z := fun z hz =>
    ⟨uu_num (Nat.le_refl _) (uu_wide e8 (uu_up h66 hz)), gU_up h66 e8 hz⟩
  have nx : ∀ z, UU L (n + 1) z → ∀ t ∈ Tl z, SU 8500 (n + 1) (t + 1) := fun z hz t ht => by
    have := su_succ (L := L) h66 (z := t) ⟨tl_pos z t ht, hz.2 t ht⟩
    exact ⟨this.1, uu_wide (by omega) this.2⟩
  have h1 := ux.1
  have h2 := uy.1
  refine ⟨v, u, x, y, rfl, by rw [(up x ux).2]; exact hx, by rw [(up y uy).2]; exact hy, (up x ux).1, (up y uy).1, nx x ux, nx y uy, by omega, ?_, uu_num (Nat.le_refl _) (hr x y ux uy), q⟩
  show (Tl x).length + (Tl y).length ≤ 8000
  omega
theorem Core.plusU (c : Core K mg) (D : DefAt K mg "plus" S_plus P_plus) (n L : Nat) (hn : n + 1 ≤ 40) (h66 : 66 ≤ L) (hL : L ≤ 2500) : Has P w K mg base (2 * (n + 1) + lev (n + 1) + 8) "plus" P_plus [] (spPU K (n + 1) L fun x y => x + y) :=
  (c.c_plus D (n + 1) hn).weak (sum_pu h66 hL fun x y hx hy => uu_wide (L := 3 * L + 2) (by omega) (by have := uu_sum h66 (k := 0) (by decide) hx hy; rw [show x + y + ((0 : Nat) : Int) = x + y by omega] at this; exact this))
theorem Core.minusU (c : Core K mg) (D : DefAt K mg "minus" S_minus P_minus) (n L : Nat) (hn : n + 1 ≤ 40) (h66 : 66 ≤ L) (hL : L ≤ 2500) : Has P w K mg base (2 * (n + 1) + lev (n + 1) + 8) "minus" P_minus [] (spPU K (n + 1) L fun x y => x - y) :=
  (c.c_minus D (n + 1) hn).weak (sum_pu h66 hL fun x y hx hy => uu_wide (L := 3 * L + 5) (by omega) (uu_sub h66 hx hy))
abbrev S_are_movable : Stmt := top 55
abbrev N_are_movable : List Str := ["turns", "amount"]
abbrev P_are_movable : List Str := ["turns", "amount"]
theorem sc_are_movable : FnScope N_are_movable P_are_movable (defScope S_are_movable) := ⟨rfl, rfl, rfl, by decide +kernel, rfl, by decide +kernel, by decide +kernel⟩
def spMov (K : PySem.W.Frag) (n : Nat) : Sp := fun vs H Q _ => ∃ (a : Addr) (u : V) (l : List Int) (s : Int), vs = [.ref a, u] ∧ Pls K H (gU n) a l ∧ Dp K H u (gU n s) ∧ l.Pairwise (· < ·) ∧ (∀ t ∈ l, SU 8500 n t) ∧ SU 8500 n s ∧
  ∀ b : Bool, (b = true → gU n s = .int s ∧ ∀ t ∈ l, gU n t = .int t ∧ t + s < 2 ^ 64) → Q (.bl b) H
theorem isI_gU {n : Nat} {c : Int} (h : SU 8500 n c) (hi : isI (gU n c) = true) : gU n c = .int c := by
  obtain ⟨i, e⟩ := fm_int ((ordU (Nat.le_refl _) n).fm c h) hi
  have := (niU (Nat.le_refl _)).hid c i h e
  rw [e, this]
theorem gU_lt {n : Nat} {c : Int} (h : SU 8500 n c) (e : gU n c = .int c) : c < 2 ^ 64 := by
  cases n with
  | zero => exact h.2.2
  | succ n =>
    rcases num_cases (ordU (Nat.le_refl _) n) (uu_num (Nat.le_refl _) h.2) with ⟨pl, _, _⟩ | ⟨npl, e2, _⟩
    · exact pl.2
    · have e3 : gU (n + 1) c = .tuple _ := e2
      rw [e] at e3
      cases e3
theorem ok_movable {n : Nat} {tk : Tok} (F : Fun K "are_movable" "are_movable" S_are_movable f fd) (B : Blt mg) (MS : mg "PLAIN_STOP" = some (.int 18446744073709551616 tk)) : FnOk P w K mg base CX0 1 f fd P_are_movable (spMov K n) := by
  have nd := sc_are_movable.nd
  refine F.ok sc_are_movable (fun vs H Q E h => ?_) (fun cdv A outer s H vs Q E hr h => ?_)
  · obtain ⟨a, u, l, s, rfl, _⟩ := h
    rfl
  obtain ⟨a, u, l, s, rfl, hp, hu, asc, hS, ss, q⟩ := h
  refine ⟨_, (pss_cons (ps_if (PW.pt (pw_or (pt_not (pt_val (pe_callB (call_isiI K) (by rfl) B.isinstance (by decide +kernel) (pa_cons (pv 1) (pa_cons (pe_bltn (by rfl) B.int (by decide +kernel) (show RelV (.ty "int") (.type "int") from rfl)) pa_nil))))) (pw_or (pt_cmpR op_eq (pe_callB (call_lenS K) (by rfl) B.len PySem.boot_len (pa_cons (pv 0) pa_nil)) pe_int (nomark _)) (pw_or1 (pt_not (pt_val (pe_callB (call_isiI K) (by rfl) B.isinstance (by decide +kernel) (pa_cons (pe_ix (ix_seqK K) (pv 0) (pe_un un_neg pe_int) (fun _ _ => rfl)) (pa_cons (pe_bltn (by rfl) B.int (by decide +kernel) (show RelV (.ty "int") (.type "int") from rfl)) pa_nil))))))))) (pss_one (ps_ret pe_bl)) pss_nil)
    (pss_one (ps_ret (pe_cmpR op_lt (pe_op op_add (pe_ix (ix_seqK K) (pv 0) (pe_un un_neg pe_int) (fun _ _ => rfl)) (pv 1)) (pe_glob (v := .int 18446744073709551616) rfl MS ⟨_, rfl⟩) (nomark _))))), ?_⟩
  obtain ⟨vs, hs, hl, hd, hat⟩ := hp.at
  have no : Q (.bl false) H := q false fun h => nomatch h
  refine ⟨_, rfl, u, gU n s, rfl, hu, _, rfl, ?_⟩
  cases hi : isI (gU n s) with
  | false => exact iteT no
  | true =>
  refine iteF ?_
  have es := isI_gU ss hi
  rw [es] at hu
  cases hu
  refine ⟨_, rfl, a, vs, rfl, hs, rfl, _, rfl, ?_⟩
  refine iteD (fun c => iteT no) (fun c => ?_)
  rcases List.eq_nil_or_concat l with rfl | ⟨m, p, rfl⟩
  · exact absurd (congrArg V.int (by simpa using hl)) c
  rw [List.concat_eq_append] at *
  rw [List.map_append] at hd
  obtain ⟨x, hx, dx⟩ := dps_last hd
  have sp := hS p (by simp)
  refine ⟨_, rfl, _, rfl, rIx_sq hs hx ⟨x, gU n p, rfl, dx, _, rfl, ?_⟩⟩
  cases hj : isI (gU n p) with
  | false => exact iteT no
  | true =>
  refine iteF ?_
  have ep := isI_gU sp hj
  rw [ep] at dx
  cases dx
  refine ⟨_, rfl, _, rfl, rIx_sq hs hx ⟨_, rfl, _, _, rfl, rfl, _, _, rfl, rfl, q _ fun h => ⟨es, fun t ht => ?_⟩⟩⟩
  have h' := of_decide_eq_true h
  have lt : t ≤ p := by
    rcases List.mem_append.mp ht with k | k
    · exact Int.le_of_lt ((List.pairwise_append.mp asc).2.2 t k p (by simp))
    · rw [List.mem_singleton.mp k]; exact Int.le_refl _
  have p64 := gU_lt sp ep
  have st := hS t ht
  have e64 : (2 : Int) ^ 64 = 18446744073709551616 := by decide
  refine ⟨gU_plain ⟨by have := st.1; omega, by omega⟩, by rw [e64]; omega⟩
abbrev S_shifted_up : Stmt := top 54
abbrev N_shifted_up : List Str := ["x", "amount", "turns", "turn"]
abbrev P_shifted_up : List Str := ["x", "amount"]
theorem sc_shifted_up : FnScope N_shifted_up P_shifted_up (defScope S_shifted_up) := ⟨rfl, rfl, rfl, by decide +kernel, rfl, by decide +kernel, by decide +kernel⟩
def spShU (K : PySem.W.Frag) (n L : Nat) : Sp := fun vs H Q _ => ∃ (v u : V) (x s : Int), vs = [v, u] ∧ Dp K H v (gU (n + 2) x) ∧ UU L (n + 2) x ∧ Dp K H u (gU (n + 1) s) ∧ UU L (n + 1) s ∧ 0 ≤ s ∧ ∀ (v' : V) (H' : Hp), Same H H' → Dp K H' v' (gU (n + 3) (x * 2 ^ s.toNat)) → Q v' H'
theorem ok_shup {n L k : Nat} (h66 : 66 ≤ L) (hL : L ≤ 2500) (k3 : 3 ≤ k) (F : Fun K "shifted_up" "shifted_up" S_shifted_up f fd) (Cturns_in : Has P w K mg base 3 "turns_in" P_turns_in [] (spTin K (gU (n + 1)) (SU 8500 (n + 1)))) (Care_movable : Has P w K mg base 1 "are_movable" P_are_movable [] (spMov K (n + 1)))
    (Cform_with : Has P w K mg base 3 "form_with" P_form_with [] (spWith K (gU (n + 2)) (SU 8500 (n + 2)))) (Cplus : Has P w K mg base k "plus" P_plus [] (spPU K (n + 1) L fun x y => x + y)) : FnOk P w K mg base CX0 (k + 1) f fd P_shifted_up (spShU K n L) := by
  have nd := sc_shifted_up.nd
  refine F.ok sc_shifted_up (fun vs H Q E h => ?_) (fun cdv A outer s H vs Q E hr h => ?_)
  · obtain ⟨v, u, x, s, rfl, _⟩ := h
    rfl
  obtain ⟨v, u, x, s, rfl, hx, ux, hs, us, s0, q⟩ := h
  refine ⟨_, (pss_cons (ps_set (i := 2) nd rfl (Or.inl rfl) (pe_H Cturns_in (hr.mono (by omega)) rfl (pa_cons (pv 0) pa_nil)))
    (pss_cons (ps_if (pt_val (pe_H Care_movable (hr.mono (by omega)) rfl (pa_cons (pv 2) (pa_cons (pv 1) pa_nil)))) (pss_one (ps_ret (pe_H Cform_with (hr.mono (by omega)) rfl (pa_cons (pe_lc (own := [("turn", 3)]) (g := gName 3) (tt := tYes) rfl nd (pi_seq K (pv 2)) (blkOk_by (own := [("turn", 3)]) (N := N_shifted_up) (sc := defScope S_shifted_up) (by decide +kernel)) (fun _ _ _ _ _ => pg_name (i := 3) nd rfl (Or.inl rfl)) (fun _ _ _ _ _ => pts_nil) (fun _ _ _ _ _ => (pe_op op_add (pv 3) (pv 1)))) pa_nil)))) pss_nil)
    (pss_one (ps_ret (pe_H Cform_with (hr.mono (by omega)) rfl (pa_cons (pe_lc (own := [("turn", 3)]) (g := gName 3) (tt := tYes) rfl nd (pi_seq K (pv 2)) (blkOk_by (own := [("turn", 3)]) (N := N_shifted_up) (sc := defScope S_shifted_up) (by decide +kernel)) (fun _ _ _ _ _ => pg_name (i := 3) nd rfl (Or.inl rfl)) (fun _ _ _ _ _ => pts_nil) (fun _ _ _ _ _ => (pe_H Cplus (hr.mono (by omega)) rfl (pa_cons (pv 3) (pa_cons (pv 1) pa_nil))))) pa_nil)))))), ?_⟩
  have e8 : L ≤ 8500 := by omega
  have w8 : UU 8500 (n + 2) x := uu_wide e8 ux
  have ur := uu_shl h66 ux us s0
  have ur8 : UU 8500 (n + 3) (x * 2 ^ s.toNat) := uu_wide (by omega) ur
  have ex : (s.toNat : Int) = s := by omega
  have l1 := ux.1
  refine ⟨_, rfl, v, x, rfl, hx, uu_num (Nat.le_refl _) w8, fun a H1 e1 hp => ?_⟩
  obtain ⟨vs, hsq, hl, hd, hat⟩ := hp.at
  refine ⟨_, rfl, _, rfl, a, u, Tl x, s, rfl, hp, (Nd.of e1).d hs, tl_asc x, (fun t ht => ⟨tl_pos x t ht, w8.2 t ht⟩), ⟨s0, uu_wide e8 us⟩, fun b hb => ?_⟩
  have eds : (Tl x).map (fun t => gU (n + 2) (t + s)) = (Tl (x * 2 ^ s.toNat)).map (gU (n + 2)) := by
    rw [tl_shl, List.map_map, ex]
    rfl
  have fm : ∀ d ∈ (Tl x).map (fun t => gU (n + 2) (t + s)), Fm (n + 2) d := fun d hd => by
    rw [eds] at hd
    obtain ⟨t, ht, rfl⟩ := List.mem_map.mp hd
    exact (ordU (Nat.le_refl _) (n + 2)).fm t ⟨tl_pos _ t ht, ur8.2 t ht⟩
  have ll : vs.length = ((Tl x).map (fun t => gU (n + 2) (t + s))).length := by rw [List.length_map]; exact hl
  have lt : vs.length < sizeLine := by rw [hl]; exact Nat.lt_of_le_of_lt (show _ ≤ 2500 by omega) (by decide)
  have fin : ∀ (D : Addr) (ys : List V) (H' : Hp), Same H1 H' → H' D = some (.lst ys) → DpAll K H' ys ((Tl x).map (fun t => gU (n + 2) (t + s))) → spWith K (gU (n + 2)) (SU 8500 (n + 2)) [.ref D] H' (fun x H' => Q x H') E0 := fun D ys H' e' hD hy =>
    ⟨D, x * 2 ^ s.toNat, rfl, ⟨ys, .inl hD, by rw [← eds]; exact hy⟩, uu_num (Nat.le_refl _) ur8, fun v' H2 e2 d2 => q v' H2 (e1.trans (e'.trans e2)) d2⟩
  have item : ∀ (i : Nat) (y : V) (d : PyData), vs[i]? = some y → ((Tl x).map (fun t => gU (n + 2) (t + s)))[i]? = some d → ∃ t ∈ Tl x, d = gU (n + 2) (t + s) ∧ Dp K H1 y (gU (n + 1) t) := fun i y d hy hd' => by
    rw [List.getElem?_map] at hd'
    obtain ⟨t, ht, rfl⟩ := Option.map_eq_some_iff.mp hd'
    obtain ⟨y', hy', dy⟩ := hat i t ht
    rw [hy] at hy'
    cases hy'
    exact ⟨t, List.mem_of_getElem? ht, rfl, dy⟩
  refine ⟨_, rfl, ?_⟩
  cases b with
  | true =>
    refine iteT ?_
    obtain ⟨es, et⟩ := hb rfl
    rw [es] at hs
    cases hs
    dsimp only [tNext, tRet, tCall, tCons]
    refine map_src (s := 3) (by exact src_var hsq rfl) ll lt fm (fun i y d hy hd' H' e' Q' hq => ?_) (fun D ys H' e' hD hy => ?_)
    · obtain ⟨t, ht, rfl, dy⟩ := item i y d hy hd'
      rw [(et t ht).1] at dy
      cases dy
      refine ⟨_, rfl, _, rfl, _, _, rfl, rfl, hq _ _ (Same.refl _) ?_⟩
      rw [gU_plain ⟨by have := tl_pos x t ht; omega, (et t ht).2⟩]
      exact .int _
    · exact fin D ys H' e' hD hy
  | false =>
    refine iteF ?_
    dsimp only [tNext, tRet, tCall, tCons]
    refine map_src (s := 3) (by exact src_var hsq rfl) ll lt fm (fun i y d hy hd' H' e' Q' hq => ?_) (fun D ys H' e' hD hy => ?_)
    · obtain ⟨t, ht, rfl, dy⟩ := item i y d hy hd'
      exact ⟨_, rfl, _, rfl, y, u, t, s, rfl, (Nd.of e').d dy, (Nd.of (e1.trans e')).d hs, ux.2 t ht, us, fun v' H4 e4 d4 => hq v' H4 e4 d4⟩
    · exact fin D ys H' e' hD hy
def spShD (K : PySem.W.Frag) (n L : Nat) : Sp := fun vs H Q _ => ∃ (v u : V) (x s : Int), vs = [v, u] ∧ Dp K H v (gU (n + 2) x) ∧ UU L (n + 2) x ∧ Dp K H u (gU (n + 1) s) ∧ UU L (n + 1) s ∧ 0 ≤ s ∧ ∀ (v' : V) (H' : Hp), Same H H' → Dp K H' v' (gU (n + 3) (x / 2 ^ s.toNat)) → Q v' H'
end
end Fb
namespace Fb
open PySem L2
/-! ### what codes and fields stand for -/
/-- the integer with these turns -/
def av (l : List Int) : Int := alt (-1) (l.map Int.toNat)
theorem tl_av {l : List Int} (asc : l.Pairwise (· < ·)) (pos : ∀ t ∈ l, 0 ≤ t) : Tl (av l) = l := by
  unfold Tl av
  rw [turns_of_alt (asc_toNat pos asc), zs_toNat pos]
theorem av_tl (z : Int) : av (Tl z) = z := by
  unfold av Tl
  rw [zs_nat, turns_alt]
theorem av_nn {l : List Int} (asc : l.Pairwise (· < ·)) (pos : ∀ t ∈ l, 0 ≤ t) (ev : l.length % 2 = 0) : 0 ≤ av l :=
  (alt_par (asc_toNat pos asc)).2 (by rw [List.length_map]; exact ev)
/-- a form told by its turns -/
theorem mk_gU {n : Nat} {l : List Int} (asc : l.Pairwise (· < ·)) (pos : ∀ t ∈ l, 0 ≤ t) (far : ∃ t ∈ l, 64 < t) (ll : l.length ≤ 66) (u : ∀ t ∈ l, UU 66 n t) : gU (n + 1) (av l) = .tuple (l.map (gU n)) ∧ UU 66 (n + 1) (av l) ∧ ¬ plain (av l) := by
  have et := tl_av asc pos
  have uu : UU 66 (n + 1) (av l) := by
    show (Tl (av l)).length ≤ 66 ∧ ∀ t ∈ Tl (av l), UU 66 n t
    rw [et]
    exact ⟨ll, u⟩
  rcases num_cases (ordU (L := 66) (by decide) n) (uu_num (by decide) uu) with ⟨pl, _, _⟩ | ⟨npl, e, _⟩
  · obtain ⟨t, ht, t64⟩ := far
    have := tl_near.mp pl t (by rw [et]; exact ht)
    omega
  · refine ⟨?_, uu, npl⟩
    have e' : gU (n + 1) (av l) = .tuple ((Tl (av l)).map (gU n)) := e
    rw [e', et]
/-- a small number and turns behind it -/
theorem av_step {s : Int} {l : List Int} (s0 : 0 ≤ s) : av (Tl s ++ l) = s + av l := by
  have ev : ((Tl s).map Int.toNat).length % 2 = 0 := by
    rw [List.length_map]
    unfold Tl
    rw [len_zs]
    exact even_turns s0
  unfold av
  rw [List.map_append, alt_append, flip_even ev]
  have e : alt (-1) ((Tl s).map Int.toNat) = s := av_tl s
  rw [e]
theorem small_tl {s : Int} (s0 : 0 ≤ s) (s1 : s < 64) : (Tl s).length ≤ 7 ∧ ∀ t ∈ Tl s, 0 ≤ t ∧ t ≤ 6 := by
  have b0 : -(2 ^ 6) ≤ s := by omega
  have b1 : s < 2 ^ 6 := by omega
  refine ⟨?_, fun t ht => ⟨tl_pos s t ht, ?_⟩⟩
  · unfold Tl
    rw [len_zs]
    exact turns_len b0 b1
  · obtain ⟨p, hp, rfl⟩ := List.mem_map.mp ht
    have := turns_lt b0 b1 p hp
    show ((p : Nat) : Int) ≤ 6
    omega
end Fb
namespace Fb
open PySem L2
/-! ### sums of many -/
def pairI (zs : List Int) : List Int := ((List.range (zs.length / 2)).map fun i => zs.getD (2 * i) 0 + zs.getD (2 * i + 1) 0) ++ (if zs.length % 2 = 1 then [zs.getD (zs.length - 1) 0] else [])
theorem pairI_step (x y : Int) (r : List Int) : pairI (x :: y :: r) = (x + y) :: pairI r := by
  unfold pairI
  have h1 : (x :: y :: r).length / 2 = r.length / 2 + 1 := by rw [List.length_cons, List.length_cons]; omega
  have h2 : (x :: y :: r).length % 2 = r.length % 2 := by rw [List.length_cons, List.length_cons]; omega
  rw [h1, h2, List.range_succ_eq_map, List.map_cons, List.map_map, List.cons_append]
  congr 1
  congr 1
  by_cases o : r.length % 2 = 1
  · rw [if_pos o, if_pos o]
    congr 1
    have e : (x :: y :: r).length - 1 = (r.length - 1) + 1 + 1 := by rw [List.length_cons, List.length_cons]; omega
    rw [e]
    rfl
  · rw [if_neg o, if_neg o]
theorem pairI_sum : ∀ zs : List Int, (pairI zs).sum = zs.sum
  | [] => rfl
  | [x] => by simp [pairI]
  | x :: y :: r => by
    rw [pairI_step, List.sum_cons, List.sum_cons, List.sum_cons, pairI_sum r]
    omega
theorem pairI_len (zs : List Int) : (pairI zs).length = (zs.length + 1) / 2 := by
  unfold pairI
  rw [List.length_append, List.length_map, List.length_range]
  split
  · rw [List.length_singleton]; omega
  · rw [List.length_nil]; omega
theorem pairI_mem {zs : List Int} {z : Int} (h : z ∈ pairI zs) : (∃ i, 2 * i + 1 < zs.length ∧ z = zs.getD (2 * i) 0 + zs.getD (2 * i + 1) 0) ∨ z ∈ zs := by
  unfold pairI at h
  rcases List.mem_append.mp h with h | h
  · obtain ⟨i, hi, rfl⟩ := List.mem_map.mp h
    have := List.mem_range.mp hi
    exact .inl ⟨i, by omega, rfl⟩
  · right
    split at h
    · have e := List.mem_singleton.mp h
      have hp : zs.length - 1 < zs.length := by omega
      rw [e, List.getD_eq_getElem?_getD, List.getElem?_eq_getElem hp]
      exact List.getElem_mem hp
    · cases h
theorem rg12 (n : Nat) (h : n ≤ 10000) : RgC 1 (n : Int) 2 (n / 2) := by
  have e : Builtin.Range.rangeSize 1 (n : Int) 2 = ((n / 2 : Nat) : Int) := by
    unfold Builtin.Range.rangeSize
    rw [if_pos (by decide)]
    split <;> omega
  refine ⟨by decide, by decide, ?_, e⟩
  unfold Builtin.Range.small
  rw [e]
  generalize hm' : n / 2 = m
  have hm : m ≤ 10000 := by omega
  have fits : ∀ i : Int, -20000 ≤ i → i ≤ 20000 → Builtin.Range.rangeFitsLong i = true := fun i h1 h2 => by
    unfold Builtin.Range.rangeFitsLong
    rw [decide_eq_true (show -(2 ^ 63) ≤ i by omega), decide_eq_true (show i < 2 ^ 63 by omega)]
    rfl
  simp [fits (n : Int) (by omega) (by omega), fits (m : Int) (by omega) (by omega), fits 1 (by decide) (by decide), fits 2 (by decide) (by decide), fits ((n : Int) + 1) (by omega) (by omega)]
/-- two numbers whose sum is told -/
structure SumOk (g : Int → PyData) (S : Int → Prop) (x y : Int) : Prop where
  nx : Num g S x
  ny : Num g S y
  x1 : ∀ t ∈ Tl x, S (t + 1)
  y1 : ∀ t ∈ Tl y, S (t + 1)
  len : (Tl x).length + (Tl y).length ≤ 7000
  r : Num g S (x + y)
/-- numbers that are summed by pairs -/
structure TotOk (g : Int → PyData) (S : Int → Prop) (R : Nat) (zs : List Int) : Prop where
  ex : ∃ Lv : Nat → Int → Prop, (∀ z ∈ zs, Lv 0 z) ∧ (∀ r x y, r < R → Lv r x → Lv r y → Lv (r + 1) (x + y) ∧ SumOk g S x y) ∧ ∀ r x, r < R → Lv r x → Lv (r + 1) x
section
variable {P : Program} {w : World} {K : PySem.W.Frag} {mg : Str → Option Value} {base : Heap} {f : Addr} {fd : FuncData}
abbrev S_pair_sums : Stmt := top 57
abbrev N_pair_sums : List Str := ["forms", "sums", "k"]
abbrev P_pair_sums : List Str := ["forms"]
theorem sc_pair_sums : FnScope N_pair_sums P_pair_sums (defScope S_pair_sums) := ⟨rfl, rfl, rfl, by decide +kernel, rfl, by decide +kernel, by decide +kernel⟩
def spPairs (K : PySem.W.Frag) (g : Int → PyData) (S : Int → Prop) : Sp := fun vs H Q _ => ∃ (a : Addr) (xs : List V) (zs : List Int), vs = [.ref a] ∧ SqL K H a xs ∧ DpAll K H xs (zs.map (numD g)) ∧ zs.length ≤ 1000 ∧ (∀ z ∈ zs, Num g S z) ∧ (∀ i, 2 * i + 1 < zs.length → SumOk g S (zs.getD (2 * i) 0) (zs.getD (2 * i + 1) 0)) ∧
  ∀ (b : Addr) (ys : List V) (H' : Hp), Same H H' → H' b = some (.lst ys) → DpAll K H' ys ((pairI zs).map (numD g)) → Q (.ref b) H'
theorem ok_pairs {n : Nat} {g : Int → PyData} {S : Int → Prop} {k : Nat} (o : OrdN n g S) (F : Fun K "pair_sums" "pair_sums" S_pair_sums f fd) (B : Blt mg) (Cplus : Has P w K mg base k "plus" P_plus [] (spSum K g S fun x y => x + y)) : FnOk P w K mg base CX0 (k + 1) f fd P_pair_sums (spPairs K g S) := by
  have nd := sc_pair_sums.nd
  refine F.ok sc_pair_sums (fun vs H Q E h => ?_) (fun cdv A outer s H vs Q E hr h => ?_)
  · obtain ⟨a, xs, zs, rfl, _⟩ := h
    rfl
  obtain ⟨a, xs, zs, rfl, hS, hd, l1, nz, ok, q⟩ := h
  refine ⟨_, (pss_cons (ps_setLc (i := 1) (own := [("k", 2)]) (g := gName 2) (tt := tYes) rfl nd rfl rfl (sw_true rfl rfl rfl (by decide +kernel)) (pi_range3 (by rfl) B.range (pa_cons pe_int (pa_cons (pe_callB (call_lenLK K) (by rfl) B.len PySem.boot_len (pa_cons (pv 0) pa_nil)) (pa_cons pe_int pa_nil)))) (blkOk_by (own := [("k", 2)]) (N := N_pair_sums) (sc := defScope S_pair_sums) (by decide +kernel)) (fun _ _ _ _ _ => pg_name (i := 2) nd rfl (Or.inl rfl)) (fun _ _ _ _ _ => pts_nil) (fun _ _ _ _ _ => (pe_H Cplus (hr.mono (by omega)) rfl (pa_cons (pe_ix (ix_listK K) (pv 0) (pe_op op_sub (pv 2) pe_int) (fun _ _ => rfl)) (pa_cons (pe_ix (ix_listK K) (pv 0) (pv 2) (fun _ _ => rfl)) pa_nil)))))
    (C8.pss_cut (ps_if (pt_truth (pe_op op_and (pe_callB (call_lenLK K) (by rfl) B.len PySem.boot_len (pa_cons (pv 0) pa_nil)) pe_int) (by intro _; rfl)) (pss_one (ps_expr (pe_bm PySem.F.plainAttrs_list PySem.F.slot_list_append PySem.F.type_list_append mt_append (pv 1) (pa_cons (pe_ix (ix_listK K) (pv 0) (pe_un un_neg pe_int) (fun _ _ => rfl)) pa_nil)))) pss_nil)
    (pss_one (ps_ret (pv 1))))), ?_⟩
  have lx : xs.length = zs.length := by rw [dps_length hd, List.length_map]
  have item : ∀ (H' : Hp), Same H H' → ∀ i, i < zs.length → ∃ x, xs[i]? = some x ∧ Dp K H' x (numD g (zs.getD i 0)) := fun H' e i hi => by
    have hx : xs[i]? = some (xs[i]'(by omega)) := List.getElem?_eq_getElem (by omega)
    obtain ⟨d, h1, h2⟩ := dps_get ((Nd.of e).ds hd) hx
    rw [List.getElem?_map, List.getElem?_eq_getElem hi] at h1
    refine ⟨_, hx, ?_⟩
    rw [List.getD_eq_getElem?_getD, List.getElem?_eq_getElem hi]
    cases h1
    exact h2
  refine ⟨_, rfl, _, _, rfl, hS, _, _, _, _, rfl, rg12 xs.length (by omega), fun D nD => ?_⟩
  have inS : ∀ x, Num g S x → Fm (n + 1) (numD g x) := fun x h => num_fm o h
  have fmp : ∀ i d, d ∈ ((List.range i).map fun j => zs.getD (2 * j) 0 + zs.getD (2 * j + 1) 0).map (numD g) → i ≤ xs.length / 2 → Fm (n + 1) d := fun i d hd hi => by
    obtain ⟨z, hz, rfl⟩ := List.mem_map.mp hd
    obtain ⟨j, hj, rfl⟩ := List.mem_map.mp hz
    have := List.mem_range.mp hj
    exact inS _ (ok j (by omega)).r
  refine lc_rangeC (fun i H' => ∃ ys : List V, ys.length = i ∧ Same H H' ∧ H' D = some (.lst ys) ∧ DpAll K H' ys (((List.range i).map fun j => zs.getD (2 * j) 0 + zs.getD (2 * j + 1) 0).map (numD g))) ⟨[], rfl, Same.new nD, upd_same, .nil⟩ (fun i H' hi h => ?_) (fun H' h => ?_)
  · obtain ⟨ys, ly, e, hD, hy⟩ := h
    obtain ⟨x1, h1, d1⟩ := item H' e (2 * i) (by omega)
    obtain ⟨x2, h2, d2⟩ := item H' e (2 * i + 1) (by omega)
    have a1 : atI xs (1 + (i : Nat) * 2 - 1) = some x1 := by
      rw [show (1 + (i : Nat) * 2 - 1 : Int) = ((2 * i : Nat) : Int) by omega]
      exact atI_nat h1
    have a2 : atI xs (1 + (i : Nat) * 2) = some x2 := by
      rw [show (1 + (i : Nat) * 2 : Int) = ((2 * i + 1 : Nat) : Int) by omega]
      exact atI_nat h2
    have k := ok i (by omega)
    have hS' := e.seq hS
    refine ⟨rfl, lcT ?_⟩
    refine ⟨_, rfl, _, rfl, _, _, rfl, rfl, _, _, _, _, rfl, rfl, hS', a1, _, rfl, _, rfl, _, _, _, _, rfl, rfl, hS', a2, x1, x2, _, _, rfl, d1, d2, k.nx, k.ny, k.x1, k.y1, k.len, (by show _ ≤ 8000; have := k.len; omega), k.r, fun v' H2 e2 d => ?_⟩
    have hD2 := e2 _ _ hD
    refine ⟨ys, hD2, by rw [ly]; exact Nat.lt_of_le_of_lt (show _ ≤ 1000 by omega) (by decide), ys ++ [v'], by rw [List.length_append, ly]; rfl, Same.mut (e.trans e2) nD, upd_same, ?_⟩
    have td : Td H2 (upd H2 D (.lst (ys ++ [v']))) := Td.lst hD2
    rw [List.range_succ, List.map_append, List.map_append]
    exact dps_app (td.ds (n := n + 1) (fun d hd => fmp i d hd (by omega)) ((Nd.of e2).ds hy)) (.cons (td.d (inS _ k.r) d) .nil)
  obtain ⟨ys, ly, e, hD, hy⟩ := h
  have hS' := e.seq hS
  refine ⟨fun σ H' => ∃ (z2 : Option V) (ys : List V), σ = [some (.ref a), some (.ref D), z2] ∧ Same H H' ∧ H' D = some (.lst ys) ∧ DpAll K H' ys ((pairI zs).map (numD g)), ?_, ?_⟩
  · refine ⟨_, rfl, _, _, rfl, hS', _, _, rfl, rfl, _, rfl, ?_⟩
    by_cases od : xs.length % 2 = 1
    · have hb : (Builtin.bitAnd (xs.length : Int) 1 != 0) = true := by
        rw [PyProof.Rows.bitAnd_m1, show ((xs.length : Nat) : Int) % 2 = 1 by omega]
        rfl
      rw [hb]
      refine iteT ?_
      obtain ⟨xl, hxl, dl⟩ := item H' e (zs.length - 1) (by omega)
      have al : atI xs (-1) = some xl := by
        have h := atI_end (xs := xs) (s := 0) (v := xl) (by
          rw [List.getElem?_reverse (by omega), show xs.length - 1 - 0 = zs.length - 1 by omega]
          exact hxl)
        exact h
      refine ⟨_, rfl, .inl ⟨rfl, _, SqL.of hD⟩, _, rfl, _, rfl, _, _, _, _, rfl, rfl, hS', al, _, _, _, rfl, rfl, hD, ?_, ?_⟩
      · rw [ly]
        exact Nat.lt_of_le_of_lt (show _ ≤ 1000 by omega) (by decide)
      · have td : Td H' (upd H' D (.lst (ys ++ [xl]))) := Td.lst hD
        have nl : Num g S (zs.getD (zs.length - 1) 0) := by
          have hp : zs.length - 1 < zs.length := by omega
          rw [List.getD_eq_getElem?_getD, List.getElem?_eq_getElem hp]
          exact nz _ (List.getElem_mem hp)
        refine ⟨_, ys ++ [xl], rfl, Same.mut e nD, upd_same, ?_⟩
        unfold pairI
        rw [if_pos (by omega), List.map_append, ← lx]
        refine dps_app (td.ds (n := n + 1) (fun d hd => fmp _ d hd (Nat.le_refl _)) hy) (.cons ?_ .nil)
        rw [lx]
        exact td.d (inS _ nl) dl
    · have hb : (Builtin.bitAnd (xs.length : Int) 1 != 0) = false := by
        rw [PyProof.Rows.bitAnd_m1, show ((xs.length : Nat) : Int) % 2 = 0 by omega]
        rfl
      rw [hb]
      refine iteF ⟨_, ys, rfl, e, hD, ?_⟩
      unfold pairI
      rw [if_neg (by omega), List.append_nil, ← lx]
      exact hy
  · rintro σ H2 ⟨z2, ys, rfl, e2, hD2, hy2⟩
    exact ⟨_, rfl, q D ys H2 e2 hD2 hy2⟩
abbrev S_total : Stmt := top 56
abbrev N_total : List Str := ["forms", "level"]
abbrev P_total : List Str := ["forms"]
theorem sc_total : FnScope N_total P_total (defScope S_total) := ⟨rfl, rfl, rfl, by decide +kernel, rfl, by decide +kernel, by decide +kernel⟩
def spTotal (K : PySem.W.Frag) (g : Int → PyData) (S : Int → Prop) : Sp := fun vs H Q _ => ∃ (a : Addr) (xs : List V) (zs : List Int) (R : Nat), vs = [.ref a] ∧ SqL K H a xs ∧ DpAll K H xs (zs.map (numD g)) ∧ zs.length ≤ 2 ^ R ∧ zs.length ≤ 1000 ∧ (∀ z ∈ zs, Num g S z) ∧ TotOk g S R zs ∧
  ∀ (v : V) (H' : Hp), Same H H' → Dp K H' v (numD g zs.sum) → Q v H'
theorem ok_total {n : Nat} {g : Int → PyData} {S : Int → Prop} {k : Nat} (o : OrdN n g S) (F : Fun K "total" "total" S_total f fd) (B : Blt mg) (Cpair_sums : Has P w K mg base k "pair_sums" P_pair_sums [] (spPairs K g S)) : FnOk P w K mg base CX0 (k + 1) f fd P_total (spTotal K g S) := by
  have nd := sc_total.nd
  refine F.ok sc_total (fun vs H Q E h => ?_) (fun cdv A outer s H vs Q E hr h => ?_)
  · obtain ⟨a, xs, zs, R, rfl, _⟩ := h
    rfl
  obtain ⟨a, xs, zs, R, rfl, hS, hd, lR, l1, nz, ok, q⟩ := h
  obtain ⟨Lv, lv0, lvS, lvU⟩ := ok.ex
  refine ⟨_, (pss_cons (ps_if (pt_not (pt_truth (pv 0) (by intro _; rfl))) (pss_one (ps_ret pe_int)) pss_nil)
    (pss_cons (ps_set (i := 1) nd rfl (Or.inl rfl) (pv 0))
    (pss_cons (ps_while PassesOwn.never (pt_cmpR op_gt (pe_callB (call_lenLK K) (by rfl) B.len PySem.boot_len (pa_cons (pv 1) pa_nil)) pe_int (nomark _)) (pss_one (ps_set (i := 1) nd rfl (Or.inl rfl) (pe_H Cpair_sums (hr.mono (by omega)) rfl (pa_cons (pv 1) pa_nil)))))
    (pss_one (ps_ret (pe_ix (ix_listK K) (pv 1) pe_int (fun _ _ => rfl))))))), ?_⟩
  have lx : xs.length = zs.length := by rw [dps_length hd, List.length_map]
  refine ⟨_, rfl, (!xs.isEmpty), .inl ⟨_, hS, rfl⟩, ?_⟩
  cases xs with
  | nil =>
    refine iteT ?_
    have z0 : zs = [] := List.length_eq_zero_iff.mp lx.symm
    subst z0
    refine q _ H (Same.refl _) ?_
    show Dp K H (.int 0) (numD g 0)
    unfold numD rowF
    rw [tl_zero]
    exact .int 0
  | cons x0 xr =>
    refine iteF ?_
    refine ⟨_, rfl, ?_⟩
    refine ⟨fun m σ H' => ∃ (r : Nat) (b : Addr) (ys : List V) (ws : List Int), m = ws.length ∧ σ = [some (.ref a), some (.ref b)] ∧ Same H H' ∧ SqL K H' b ys ∧ DpAll K H' ys (ws.map (numD g)) ∧ ws.sum = zs.sum ∧ 1 ≤ ws.length ∧ ws.length ≤ 1000 ∧ r ≤ R ∧ ws.length ≤ 2 ^ (R - r) ∧ (∀ z ∈ ws, Lv r z) ∧ (∀ z ∈ ws, Num g S z), ⟨_, 0, a, _, zs, rfl, rfl, Same.refl _, hS, hd, rfl, by rw [← lx]; exact Nat.succ_le_succ (Nat.zero_le _), l1, Nat.zero_le _, lR, lv0, nz⟩, ?_⟩
    rintro m σ H' ⟨r, b, ys, ws, rfl, rfl, e, hb, hy, es, w1, w2, rR, wR, lv, nw⟩
    have ly : ys.length = ws.length := by rw [dps_length hy, List.length_map]
    refine ⟨_, rfl, _, _, rfl, hb, _, _, rfl, rfl, _, rfl, ?_⟩
    refine iteD (fun c => ?_) (fun c => ?_)
    · have c2 : 2 ≤ ws.length := by omega
      have rl : r < R := by
        rcases Nat.lt_or_ge r R with h | h
        · exact h
        · have : R - r = 0 := by omega
          rw [this] at wR
          have : (2 : Nat) ^ 0 = 1 := rfl
          omega
      have gm : ∀ i, i < ws.length → ws.getD i 0 ∈ ws := fun i hi => by
        rw [List.getD_eq_getElem?_getD, List.getElem?_eq_getElem hi]
        exact List.getElem_mem hi
      refine ⟨fun σ' H1 => ∃ (b' : Addr) (ys' : List V), σ' = [some (.ref a), some (.ref b')] ∧ Same H' H1 ∧ H1 b' = some (.lst ys') ∧ DpAll K H1 ys' ((pairI ws).map (numD g)), fun σ' H1 h => ?_, ?_⟩
      · obtain ⟨b', ys', rfl, e1, hb', hy'⟩ := h
        have lp := pairI_len ws
        have pw : (2 : Nat) ^ (R - r) = 2 * 2 ^ (R - (r + 1)) := by
          rw [show R - r = (R - (r + 1)) + 1 by omega, Nat.pow_succ]
          omega
        refine ⟨(pairI ws).length, by omega, r + 1, b', ys', pairI ws, rfl, rfl, e.trans e1, SqL.of hb', hy', by rw [pairI_sum]; exact es, by omega, by omega, rl, ?_, fun z hz => ?_, fun z hz => ?_⟩
        · rw [pw] at wR
          omega
        · rcases pairI_mem hz with ⟨i, hi, rfl⟩ | hz
          · exact (lvS r _ _ rl (lv _ (gm _ (by omega))) (lv _ (gm _ hi))).1
          · exact lvU r z rl (lv z hz)
        · rcases pairI_mem hz with ⟨i, hi, rfl⟩ | hz
          · exact (lvS r _ _ rl (lv _ (gm _ (by omega))) (lv _ (gm _ hi))).2.r
          · exact nw z hz
      · exact ⟨_, rfl, b, ys, ws, rfl, hb, hy, w2, nw, fun i hi => (lvS r _ _ rl (lv _ (gm _ (by omega))) (lv _ (gm _ hi))).2, fun b' ys' H1 e1 hb' hy' => ⟨b', ys', rfl, e1, hb', hy'⟩⟩
    · have c1 : ws.length = 1 := by omega
      obtain ⟨w0, ew⟩ : ∃ w0, ws = [w0] := by
        match ws, c1 with
        | [w0], _ => exact ⟨w0, rfl⟩
      subst ew
      cases hy with
      | @cons v _ _ _ d0 dn =>
        refine ⟨_, rfl, _, _, _, _, rfl, rfl, hb, atI_nat (j := 0) rfl, q v H' e ?_⟩
        have e0 : zs.sum = w0 := by
          rw [← es]
          show w0 + 0 = w0
          omega
        rw [e0]
        exact d0
end
end Fb
namespace Fb
open PySem
/-! ### a sum of few powers of two, its places put nearer: gaps of more than 120 are made 120 -/
theorem alt_app (s : Int) (l m : List Nat) : alt s (l ++ m) = alt s l + alt (flip s l.length) m := by
  induction l generalizing s with
  | nil => show alt s m = 0 + alt s m; omega
  | cons q l ih =>
    show s * 2 ^ q + alt (-s) (l ++ m) = s * 2 ^ q + alt (-s) l + alt (flip (-s) l.length) m
    rw [ih]; omega
theorem alt_up_k (s : Int) (k : Nat) (l : List Nat) : alt s (l.map (· + k)) = 2 ^ k * alt s l := by
  induction l generalizing s with
  | nil => show (0 : Int) = 2 ^ k * 0; omega
  | cons q l ih =>
    show s * 2 ^ (q + k) + alt (-s) (l.map (· + k)) = 2 ^ k * (s * 2 ^ q + alt (-s) l)
    rw [ih, Int.pow_add, Int.mul_add, Int.mul_comm (2 ^ q) (2 ^ k), Int.mul_left_comm]
/-- no more than its last place -/
theorem alt_le {s : Int} (h : s = 1 ∨ s = -1) {l : List Nat} {n : Nat} (hp : l.Pairwise (· < ·)) (hb : ∀ p ∈ l, p ≤ n) : -(2 ^ n) ≤ alt s l ∧ alt s l ≤ 2 ^ n := by
  have pn : (0 : Int) < 2 ^ n := Int.pow_pos (by decide)
  rcases List.eq_nil_or_concat l with rfl | ⟨m, p, rfl⟩
  · show -(2 ^ n) ≤ (0 : Int) ∧ (0 : Int) ≤ 2 ^ n
    omega
  · rw [List.concat_eq_append] at hp hb ⊢
    have hpn := hb p (by simp)
    have pp : (2 : Int) ^ p ≤ 2 ^ n := by
      have := Nat.pow_le_pow_right (n := 2) (by decide) hpn
      have h1 : ((2 ^ p : Nat) : Int) = 2 ^ p := Int.natCast_pow 2 p
      have h2 : ((2 ^ n : Nat) : Int) = 2 ^ n := Int.natCast_pow 2 n
      omega
    obtain ⟨h1, _, h3⟩ := List.pairwise_append.mp hp
    have hm := alt_lt h (n := p) h1 fun q hq => h3 q hq p List.mem_cons_self
    have sg := alt_sign h hp
    -- the sign of what comes before the last place
    have sm : (flip s m.length = 1 → alt s m ≤ 0) ∧ (flip s m.length = -1 → 0 ≤ alt s m) := by
      rcases List.eq_nil_or_concat m with rfl | ⟨m', p', rfl⟩
      · exact ⟨fun _ => Int.le_refl 0, fun _ => Int.le_refl 0⟩
      · rw [List.concat_eq_append] at h1 ⊢
        have := alt_sign h h1
        have e : flip s (m' ++ [p']).length = -flip s m'.length := by rw [List.length_append]; exact flip_succ s _
        rw [e]
        exact ⟨fun q => Int.le_of_lt (this.2 (by omega)), fun q => Int.le_of_lt (this.1 (by omega))⟩
    rw [alt_snoc] at sg ⊢
    rcases flip_pm h m.length with e | e
    · have a := sg.1 e
      have b := sm.1 e
      rw [e] at a ⊢
      omega
    · have a := sg.2 e
      have b := sm.2 e
      rw [e] at a ⊢
      omega
/-- place put nearer, code, how often -/
def led : List (Nat × Nat × Int) → Nat → Nat
  | [], t => t
  | [e], t => e.2.1 + (t - e.1)
  | e :: e1 :: r, t => if e1.1 ≤ t then led (e1 :: r) t else e.2.1 + (t - e.1)
def sumQ (E : List (Nat × Nat × Int)) : Int := (E.map fun e => e.2.2 * 2 ^ e.1).sum
def sumC (E : List (Nat × Nat × Int)) : Int := (E.map fun e => e.2.2 * 2 ^ e.2.1).sum
def OkE : List (Nat × Nat × Int) → Prop
  | [] => True
  | [_] => True
  | e :: e1 :: r => ((∃ g, e1.1 = e.1 + g ∧ e1.2.1 = e.2.1 + g) ∨ (e1.1 = e.1 + 120 ∧ e.2.1 + 120 ≤ e1.2.1)) ∧ OkE (e1 :: r)
theorem OkE.low : ∀ {E : List (Nat × Nat × Int)} {e : Nat × Nat × Int}, OkE (e :: E) → ∀ x ∈ e :: E, e.1 ≤ x.1 ∧ e.2.1 ≤ x.2.1
  | [], e, _, x, hx => by simp at hx; subst hx; exact ⟨Nat.le_refl _, Nat.le_refl _⟩
  | e1 :: r, e, h, x, hx => by
    rcases List.mem_cons.mp hx with rfl | hx
    · exact ⟨Nat.le_refl _, Nat.le_refl _⟩
    · have := OkE.low h.2 x hx
      rcases h.1 with ⟨g, a, b⟩ | ⟨a, b⟩ <;> omega
theorem led_ge : ∀ {E : List (Nat × Nat × Int)} {e : Nat × Nat × Int} {t : Nat}, OkE (e :: E) → e.1 ≤ t → e.2.1 ≤ led (e :: E) t
  | [], e, t, _, _ => by show e.2.1 ≤ e.2.1 + (t - e.1); omega
  | e1 :: r, e, t, h, ht => by
    show e.2.1 ≤ if e1.1 ≤ t then led (e1 :: r) t else e.2.1 + (t - e.1)
    split
    · have := led_ge h.2 (by assumption)
      rcases h.1 with ⟨g, a, b⟩ | ⟨a, b⟩ <;> omega
    · omega
theorem led_mono : ∀ {E : List (Nat × Nat × Int)} {e : Nat × Nat × Int} {t u : Nat}, OkE (e :: E) → e.1 ≤ t → t < u → led (e :: E) t < led (e :: E) u
  | [], e, t, u, _, ht, hu => by show e.2.1 + (t - e.1) < e.2.1 + (u - e.1); omega
  | e1 :: r, e, t, u, h, ht, hu => by
    show (if e1.1 ≤ t then led (e1 :: r) t else e.2.1 + (t - e.1)) < if e1.1 ≤ u then led (e1 :: r) u else e.2.1 + (u - e.1)
    by_cases c : e1.1 ≤ t
    · rw [if_pos c, if_pos (by omega)]
      exact led_mono h.2 c hu
    · rw [if_neg c]
      by_cases c2 : e1.1 ≤ u
      · rw [if_pos c2]
        have := led_ge h.2 c2
        rcases h.1 with ⟨g, a, b⟩ | ⟨a, b⟩ <;> omega
      · rw [if_neg c2]; omega
/-- the places from q on lie behind those below -/
theorem cut_at : ∀ {l : List Nat}, l.Pairwise (· < ·) → ∀ q : Nat, ∃ l1 l2, l = l1 ++ l2 ∧ (∀ t ∈ l1, t < q) ∧ ∀ t ∈ l2, q ≤ t
  | [], _, q => ⟨[], [], rfl, (fun t h => by cases h), fun t h => by cases h⟩
  | x :: l, hp, q => by
    obtain ⟨h1, h2⟩ := List.pairwise_cons.mp hp
    by_cases c : x < q
    · obtain ⟨l1, l2, rfl, a, b⟩ := cut_at h2 q
      exact ⟨x :: l1, l2, rfl, fun t h => (List.mem_cons.mp h).elim (fun e => e ▸ c) (a t), b⟩
    · exact ⟨[], x :: l, rfl, (fun t h => by cases h), fun t h => (List.mem_cons.mp h).elim (fun e => by omega) fun h => by have := h1 t h; omega⟩
theorem sumQ_dvd : ∀ (E : List (Nat × Nat × Int)) (q : Nat), (∀ e ∈ E, q ≤ e.1) → ∃ k, sumQ E = 2 ^ q * k
  | [], q, _ => ⟨0, by show (0 : Int) = _; omega⟩
  | e :: E, q, h => by
    obtain ⟨k, hk⟩ := sumQ_dvd E q fun x hx => h x (List.mem_cons_of_mem _ hx)
    refine ⟨e.2.2 * 2 ^ (e.1 - q) + k, ?_⟩
    show e.2.2 * 2 ^ e.1 + sumQ E = _
    have : (2 : Int) ^ e.1 = 2 ^ q * 2 ^ (e.1 - q) := by rw [← Int.pow_add]; congr 1; have := h e List.mem_cons_self; omega
    rw [hk, this, Int.mul_add, Int.mul_left_comm]
theorem map_sub_add {l : List Nat} {q : Nat} (h : ∀ t ∈ l, q ≤ t) : (l.map (· - q)).map (· + q) = l := by
  rw [List.map_map]
  refine (List.map_congr_left (g := id) fun t ht => ?_).trans (List.map_id _)
  have := h t ht
  show t - q + q = t
  omega
theorem map_pair_sub {l : List Nat} {q : Nat} (hp : l.Pairwise (· < ·)) (h : ∀ t ∈ l, q ≤ t) : (l.map (· - q)).Pairwise (· < ·) := by
  rw [List.pairwise_map]
  refine hp.imp_of_mem fun {a b} ha hb hab => ?_
  have := h a ha
  have := h b hb
  omega
theorem led_alt : ∀ (E : List (Nat × Nat × Int)) (e : Nat × Nat × Int) (l : List Nat) (s b : Int), OkE (e :: E) → (s = 1 ∨ s = -1) → l.Pairwise (· < ·) → (∀ t ∈ l, e.1 ≤ t) → (∀ x ∈ e :: E, -2 ≤ x.2.2 ∧ x.2.2 ≤ 2) →
    (-(1000 - 2 * (E.length : Int)) ≤ b ∧ b ≤ 1000 - 2 * (E.length : Int)) → alt s l = sumQ (e :: E) + b * 2 ^ e.1 → alt s (l.map (led (e :: E))) = sumC (e :: E) + b * 2 ^ e.2.1
  | [], e, l, s, b, _, _, hp, hl, _, _, eq => by
    have e1 : l.map (led [e]) = (l.map (· - e.1)).map (· + e.2.1) := by
      rw [List.map_map]
      exact List.map_congr_left fun t _ => Nat.add_comm _ _
    rw [e1, alt_up_k]
    rw [← map_sub_add hl, alt_up_k] at eq
    have q0 : (0 : Int) < 2 ^ e.1 := Int.pow_pos (by decide)
    have : alt s (l.map (· - e.1)) = e.2.2 + b := by
      refine Int.eq_of_mul_eq_mul_left (Int.ne_of_gt q0) ?_
      rw [eq]
      show e.2.2 * 2 ^ e.1 + 0 + b * 2 ^ e.1 = _
      rw [Int.mul_add, Int.mul_comm (2 ^ e.1), Int.mul_comm (2 ^ e.1)]
      omega
    rw [this]
    show _ = e.2.2 * 2 ^ e.2.1 + 0 + b * 2 ^ e.2.1
    rw [Int.mul_add, Int.mul_comm (2 ^ e.2.1), Int.mul_comm (2 ^ e.2.1)]
    omega
  | e1 :: r, e, l, s, b, ok, hs, hp, hl, hm, hb, eq => by
    have hq : e.1 ≤ e1.1 := by rcases ok.1 with ⟨g, a, b⟩ | ⟨a, b⟩ <;> omega
    obtain ⟨l1, l2, rfl, h1, h2⟩ := cut_at hp e1.1
    obtain ⟨p1, p2, p3⟩ := List.pairwise_append.mp hp
    have hl1 : ∀ t ∈ l1, e.1 ≤ t := fun t h => hl t (List.mem_append_left _ h)
    have m1 : l1.map (led (e :: e1 :: r)) = (l1.map (· - e.1)).map (· + e.2.1) := by
      rw [List.map_map]
      refine List.map_congr_left fun t ht => ?_
      show (if e1.1 ≤ t then led (e1 :: r) t else e.2.1 + (t - e.1)) = _
      rw [if_neg (by have := h1 t ht; omega)]
      exact Nat.add_comm _ _
    have m2 : l2.map (led (e :: e1 :: r)) = l2.map (led (e1 :: r)) := List.map_congr_left fun t ht => by
      show (if e1.1 ≤ t then led (e1 :: r) t else e.2.1 + (t - e.1)) = _
      rw [if_pos (h2 t ht)]
    rw [List.map_append, alt_app, List.length_map, m1, m2, alt_up_k]
    have q0 : (0 : Int) < 2 ^ e.1 := Int.pow_pos (by decide)
    have el1 : alt s l1 = 2 ^ e.1 * alt s (l1.map (· - e.1)) := by
      rw [← alt_up_k, map_sub_add hl1]
    rw [alt_app, el1] at eq
    have hs' := flip_pm hs l1.length
    have bdA := fun n => alt_le (n := n) hs (map_pair_sub p1 hl1)
    have lowA : ∀ n, (∀ p ∈ l1.map (· - e.1), p ≤ n) → -(2 ^ n) ≤ alt s (l1.map (· - e.1)) ∧ alt s (l1.map (· - e.1)) ≤ 2 ^ n := bdA
    have hdA : ∀ p ∈ l1.map (· - e.1), e.1 + p < e1.1 := fun p hp' => by
      obtain ⟨t, ht, rfl⟩ := List.mem_map.mp hp'
      have := h1 t ht
      have := hl1 t ht
      omega
    have hnil : e1.1 = e.1 → alt s (l1.map (· - e.1)) = 0 := fun h => by
      cases l1 with
      | nil => rfl
      | cons x l => have := h1 x List.mem_cons_self; have := hl1 x List.mem_cons_self; omega
    generalize alt s (l1.map (· - e.1)) = A at *
    have hrest : ∀ x ∈ e1 :: r, e1.1 ≤ x.1 := fun x hx => (ok.2.low x hx).1
    obtain ⟨kq, hkq⟩ := sumQ_dvd (e1 :: r) e1.1 hrest
    obtain ⟨kl, hkl⟩ := alt_dvd l2 (flip s l1.length) e1.1 h2
    have es : sumQ (e :: e1 :: r) = e.2.2 * 2 ^ e.1 + sumQ (e1 :: r) := rfl
    have ec : sumC (e :: e1 :: r) = e.2.2 * 2 ^ e.2.1 + sumC (e1 :: r) := rfl
    obtain ⟨g, hg⟩ : ∃ g, e1.1 = e.1 + g := ⟨e1.1 - e.1, by omega⟩
    have pg : (2 : Int) ^ e1.1 = 2 ^ e.1 * 2 ^ g := by rw [hg, Int.pow_add]
    -- what is carried over
    have hcar : e.2.2 + b - A = (kl - kq) * 2 ^ g := by
      refine Int.eq_of_mul_eq_mul_left (Int.ne_of_gt q0) ?_
      have : 2 ^ e.1 * ((kl - kq) * 2 ^ g) = (2 : Int) ^ e1.1 * kl - 2 ^ e1.1 * kq := by
        rw [pg, Int.sub_mul, Int.mul_sub, Int.mul_comm kl, Int.mul_comm kq, Int.mul_assoc, Int.mul_assoc]
      rw [this, ← hkl, ← hkq, Int.mul_sub, Int.mul_add, Int.mul_comm (2 ^ e.1) e.2.2, Int.mul_comm (2 ^ e.1) b]
      rw [es] at eq
      omega
    have g0 : (0 : Int) < 2 ^ g := Int.pow_pos (by decide)
    have hme := hm e List.mem_cons_self
    have hlen : ((e1 :: r).length : Int) = r.length + 1 := by rw [List.length_cons]; omega
    rw [hlen] at hb
    have hA : (g = 0 ∧ A = 0) ∨ ∃ j, g = j + 1 ∧ -(2 ^ j) ≤ A ∧ A ≤ 2 ^ j := by
      cases g with
      | zero => exact .inl ⟨rfl, hnil (by omega)⟩
      | succ j => exact .inr ⟨j, rfl, lowA j fun p hp' => by have := hdA p hp'; omega⟩
    -- it is no more than before
    have hcb : -(1000 - 2 * (r.length : Int)) ≤ kl - kq ∧ kl - kq ≤ 1000 - 2 * (r.length : Int) := by
      rcases hA with ⟨rfl, rfl⟩ | ⟨j, rfl, a1, a2⟩
      · rw [Int.pow_zero, Int.mul_one] at hcar
        omega
      · have j0 : (0 : Int) < 2 ^ j := Int.pow_pos (by decide)
        have e2 : (2 : Int) ^ (j + 1) = 2 * 2 ^ j := by rw [Int.pow_succ]; omega
        rw [e2] at hcar
        generalize kl - kq = z at *
        generalize (2 : Int) ^ j = J at *
        have hJ1 : 1 ≤ J := by omega
        generalize hM : (1000 - 2 * (r.length : Int)) = M at *
        have M0 : 0 ≤ M := by omega
        have hx : -M ≤ e.2.2 + b ∧ e.2.2 + b ≤ M := by omega
        generalize e.2.2 + b = x at *
        constructor
        · refine Int.not_lt.mp fun hz => ?_
          have h1 : z + 1 ≤ -M := by omega
          have h2 : (z + 1) * J ≤ (-M) * J := Int.mul_le_mul_of_nonneg_right h1 (by omega)
          have h3 : M * 1 ≤ M * J := Int.mul_le_mul_of_nonneg_left hJ1 M0
          have h4 : z * (2 * J) = 2 * (z * J) := by rw [Int.mul_left_comm]
          rw [Int.add_mul, Int.one_mul, Int.neg_mul] at h2
          omega
        · refine Int.not_lt.mp fun hz => ?_
          have h1 : M ≤ z - 1 := by omega
          have h2 : M * J ≤ (z - 1) * J := Int.mul_le_mul_of_nonneg_right h1 (by omega)
          have h3 : M * 1 ≤ M * J := Int.mul_le_mul_of_nonneg_left hJ1 M0
          have h4 : z * (2 * J) = 2 * (z * J) := by rw [Int.mul_left_comm]
          rw [Int.sub_mul, Int.one_mul] at h2
          omega
    have ih := led_alt r e1 l2 (flip s l1.length) (kl - kq) ok.2 hs' p2 h2 (fun x hx => hm x (List.mem_cons_of_mem _ hx)) hcb (by
      rw [hkl, hkq, Int.sub_mul, Int.mul_comm kl, Int.mul_comm kq]; omega)
    rw [ih, ec]
    -- the step
    have key : (kl - kq) * 2 ^ e1.2.1 = (e.2.2 + b - A) * 2 ^ e.2.1 := by
      rcases ok.1 with ⟨g', x1, x2⟩ | ⟨x1, x2⟩
      · have : g' = g := by omega
        subst this
        rw [hcar, x2, Int.pow_add, Int.mul_assoc, Int.mul_comm (2 ^ g')]
      · have eg : g = 120 := by omega
        subst eg
        have z0 : kl - kq = 0 := by
          rcases hA with ⟨h, _⟩ | ⟨j, hj, a1, a2⟩
          · cases h
          · have : j = 119 := by omega
            subst this
            have n1 : (2 : Int) ^ 119 = 664613997892457936451903530140172288 := by decide +kernel
            have n2 : (2 : Int) ^ 120 = 1329227995784915872903807060280344576 := by decide +kernel
            rw [n1] at a1 a2
            rw [n2] at hcar
            omega
        rw [z0, Int.zero_mul] at hcar ⊢
        rw [hcar, Int.zero_mul]
    rw [key, Int.sub_mul, Int.add_mul, Int.mul_comm (2 ^ e.2.1) A]
    omega
/-- the turns of the sum are those of the sum put nearer, led back -/
theorem led_turns {E : List (Nat × Nat × Int)} {e : Nat × Nat × Int} (ok : OkE (e :: E)) (h0 : e.1 = 0) (hm : ∀ x ∈ e :: E, -2 ≤ x.2.2 ∧ x.2.2 ≤ 2) (hl : E.length ≤ 400) : (turnsN (sumQ (e :: E))).map (led (e :: E)) = turnsN (sumC (e :: E)) := by
  have asc := turns_asc (sumQ (e :: E))
  have k := led_alt E e (turnsN (sumQ (e :: E))) (-1) 0 ok (.inr rfl) asc (fun t _ => by omega) hm (by omega) (by rw [turns_alt]; omega)
  rw [Int.zero_mul, Int.add_zero] at k
  rw [← k, turns_of_alt]
  rw [List.pairwise_map]
  exact asc.imp fun {a b} h => led_mono ok (by omega) h
/-- what the walk over the places finds -/
theorem led_at : ∀ {E : List (Nat × Nat × Int)} {e : Nat × Nat × Int} {t k : Nat} {x : Nat × Nat × Int}, OkE (e :: E) → (e :: E)[k]? = some x → x.1 ≤ t → (∀ y, (e :: E)[k + 1]? = some y → t < y.1) → led (e :: E) t = x.2.1 + (t - x.1)
  | [], e, t, k, x, _, hx, _, _ => by
    cases k with
    | zero => cases hx; rfl
    | succ k => simp at hx
  | e1 :: r, e, t, 0, x, _, hx, ht, hy => by
    cases hx
    show (if e1.1 ≤ t then led (e1 :: r) t else e.2.1 + (t - e.1)) = _
    rw [if_neg (by have := hy e1 rfl; omega)]
  | e1 :: r, e, t, k + 1, x, ok, hx, ht, hy => by
    have hx' : (e1 :: r)[k]? = some x := hx
    have h1 := (ok.2.low x (List.mem_of_getElem? hx')).1
    show (if e1.1 ≤ t then led (e1 :: r) t else e.2.1 + (t - e.1)) = _
    rw [if_pos (by omega)]
    exact led_at ok.2 hx' ht fun y h => hy y h
end Fb
namespace Fb
open PySem L2
theorem pt_truthK {X : Cx} (K : PySem.W.Frag) {a : Expr} {ta : TE} (ha : PE X a ta) (he : ∀ whole, isTrue a X.env whole = (do let v ← whole; standAt a.pos; holding [v] (truthy v))) (hK : X.K = K := by rfl) :
    PT X a (fun σ H Q => ta σ H fun x H' => ∃ k, TruV K x H' k ∧ Q k H') := by
  subst hK
  exact pt_truth ha he
/-! ### products -/
theorem near_le {g : Int → PyData} {S : Int → Prop} (I : NI g S) {z : Int} (hz : Num g S z) (hn : Near g z) {M : Nat} (hb : NearB g (M : Int) z) : XN g z = z ∧ -(2 ^ M) ≤ z ∧ z ≤ 2 ^ M := by
  have b := near_bd I hz hn
  refine ⟨b.1, ?_⟩
  have hp : ∀ p ∈ turnsN z, p ≤ M := fun p hp => by
    have hc : ((p : Nat) : Int) ∈ Tl z := List.mem_map.mpr ⟨p, hp, rfl⟩
    have h1 := hb _ hc
    have h2 := (hn _ hc).1
    have h3 : ((mv g ((p : Nat) : Int)) : Int) = (p : Nat) := I.hid _ _ (hz.mem _ hc) h2
    rw [h3] at h1
    omega
  have k := alt_le (s := -1) (.inr rfl) (n := M) (turns_asc z) hp
  rw [turns_alt] at k
  exact k
theorem prod_form {g : Int → PyData} {S : Int → Prop} (I : NI g S) {a b : Nat} {z : Int} (hab : a + b ≤ 520000) (h : z.natAbs ≤ 2 ^ a * 2 ^ b) (hz : Num g S z) : InB z ∧ formD z = numD g z := by
  have e : (2 : Nat) ^ a * 2 ^ b = 2 ^ (a + b) := (Nat.pow_add 2 a b).symm
  rw [e] at h
  have l : (2 : Nat) ^ (a + b) < 2 ^ 520002 := Nat.pow_lt_pow_right (by decide) (by omega)
  have c : ((2 : Int) ^ 520002) = ((2 ^ 520002 : Nat) : Int) := by rw [Int.natCast_pow]; rfl
  refine big_form I ?_ ?_ hz
  · rw [c]; generalize (2 : Nat) ^ 520002 = M at *; omega
  · rw [c]; generalize (2 : Nat) ^ 520002 = M at *; omega
/-- what is added up: one factor, moved to each turn of the other one, taken with its sign -/
def partsL (w : Int) (l : List Int) : List Int := (List.range l.length).map fun k => (if k % 2 = 1 then w else -w) * 2 ^ (l.getD k 0).toNat
theorem parts_rec (w a : Int) (l : List Int) : partsL w (a :: l) = (-w * 2 ^ a.toNat) :: partsL (-w) l := by
  unfold partsL
  rw [List.length_cons, List.range_succ_eq_map, List.map_cons, List.map_map]
  congr 1
  refine List.map_congr_left fun k _ => ?_
  show (if (k + 1) % 2 = 1 then w else -w) * 2 ^ (l.getD k 0).toNat = (if k % 2 = 1 then -w else - -w) * 2 ^ (l.getD k 0).toNat
  by_cases o : k % 2 = 1
  · rw [if_neg (by omega), if_pos o]
  · rw [if_pos (by omega), if_neg o, Int.neg_neg]
theorem parts_sum : ∀ (l : List Int) (w : Int), (partsL w l).sum = w * av l
  | [], w => by
    show (0 : Int) = w * 0
    omega
  | a :: l, w => by
    rw [parts_rec, List.sum_cons, parts_sum l (-w)]
    show -w * 2 ^ a.toNat + -w * alt (-1) (l.map Int.toNat) = w * (-1 * 2 ^ a.toNat + alt (- -1) (l.map Int.toNat))
    rw [alt_neg (l.map Int.toNat) (-1), Int.mul_add, Int.neg_mul, Int.neg_mul, Int.mul_neg, Int.neg_one_mul, Int.mul_neg]
theorem parts_len (w : Int) (l : List Int) : (partsL w l).length = l.length := by unfold partsL; rw [List.length_map, List.length_range]
theorem parts_get (w : Int) (l : List Int) {i : Nat} (h : i < l.length) : (partsL w l)[i]? = some ((if i % 2 = 1 then w else -w) * 2 ^ (l.getD i 0).toNat) := by
  unfold partsL
  rw [List.getElem?_map, List.getElem?_range h]
  rfl
structure TimesOk (n : Nat) (few w : Int) : Prop where
  uw : UU 2003 (n + 2) w
  nw : UU 2003 (n + 2) (-w)
  ok : ∃ R, (Tl few).length ≤ 2 ^ R ∧ TotOk (gU (n + 1)) (SU 8500 (n + 1)) R (partsL w (Tl few))
  us : ∀ z ∈ partsL w (Tl few), UU 8500 (n + 2) z
  len : (Tl few).length ≤ 600
section
variable {P : Program} {w : World} {K : PySem.W.Frag} {mg : Str → Option Value} {base : Heap} {f : Addr} {fd : FuncData}
abbrev S_times : Stmt := top 58
abbrev N_times : List Str := ["x", "y", "few", "many", "factor", "against", "k"]
abbrev P_times : List Str := ["x", "y"]
theorem sc_times : FnScope N_times P_times (defScope S_times) := ⟨rfl, rfl, rfl, by decide +kernel, rfl, by decide +kernel, by decide +kernel⟩
def spTimes (K : PySem.W.Frag) (n : Nat) : Sp := fun vs H Q _ => ∃ (v u : V) (x y : Int), vs = [v, u] ∧ Dp K H v (gU (n + 2) x) ∧ Dp K H u (gU (n + 2) y) ∧ UU 2003 (n + 2) x ∧ UU 2003 (n + 2) y ∧ UU 8500 (n + 2) (x * y) ∧
  (¬ (plain x ∧ plain y) → (if (Tl x).length ≤ (Tl y).length then TimesOk n x y else TimesOk n y x)) ∧ ∀ (v' : V) (H' : Hp), Same H H' → Dp K H' v' (gU (n + 2) (x * y)) → Q v' H'
theorem ok_times {n k : Nat} (hn : n ≤ 30) (k4 : 4 ≤ k) (F : Fun K "times" "times" S_times f fd) (B : Blt mg) (Cform_of_int : Has P w K mg base 3 "form_of_int" P_form_of_int [] (spFoi K)) (Care_near : Has P w K mg base 2 "are_near" P_are_near [] (spAreNear K (gU (n + 1)) (SU 8500 (n + 1)))) (Cint_of_form : Has P w K mg base 3 "int_of_form" P_int_of_form [] (spIof K (gU (n + 1)) (SU 8500 (n + 1))))
    (Cturns_in : Has P w K mg base 3 "turns_in" P_turns_in [] (spTin K (gU (n + 1)) (SU 8500 (n + 1)))) (Cshorter_first : Has P w K mg base 1 "shorter_first" P_shorter_first [] (spShort K)) (Cform_with : Has P w K mg base 3 "form_with" P_form_with [] (spWith K (gU (n + 1)) (SU 8500 (n + 1)))) (Copposite : Has P w K mg base k "opposite" P_opposite [] (spOpp K (gU (n + 1)) (SU 8500 (n + 1))))
    (Cshifted_up : Has P w K mg base k "shifted_up" P_shifted_up [] (spShU K n 2003)) (Ctotal : Has P w K mg base k "total" P_total [] (spTotal K (gU (n + 1)) (SU 8500 (n + 1)))) : FnOk P w K mg base CX0 (k + 1) f fd P_times (spTimes K n) := by
  have nd := sc_times.nd
  refine F.ok sc_times (fun vs H Q E h => ?_) (fun cdv A outer s H vs Q E hr h => ?_)
  · obtain ⟨v, u, x, y, rfl, _⟩ := h
    rfl
  obtain ⟨v, u, x, y, rfl, hx, hy, ux, uy, uz, tok, q⟩ := h
  refine ⟨_, (C8.pss_cut (ps_if (PW.pt (pw_and (pt_val (pe_callB (call_isiI K) (by rfl) B.isinstance (by decide +kernel) (pa_cons (pv 0) (pa_cons (pe_bltn (by rfl) B.int (by decide +kernel) (show RelV (.ty "int") (.type "int") from rfl)) pa_nil)))) (pw_and1 (pt_val (pe_callB (call_isiI K) (by rfl) B.isinstance (by decide +kernel) (pa_cons (pv 1) (pa_cons (pe_bltn (by rfl) B.int (by decide +kernel) (show RelV (.ty "int") (.type "int") from rfl)) pa_nil))))))) (pss_one (ps_ret (pe_H Cform_of_int (hr.mono (by omega)) rfl (pa_cons (pe_op op_mulW (pv 0) (pv 1)) pa_nil)))) pss_nil)
    (pss_cons (ps_if (pt_val (pe_H Care_near (hr.mono (by omega)) rfl (pa_cons (pv 0) (pa_cons (pv 1) pa_nil)))) (pss_one (ps_ret (pe_H Cform_of_int (hr.mono (by omega)) rfl (pa_cons (pe_op op_mulW (pe_H Cint_of_form (hr.mono (by omega)) rfl (pa_cons (pv 0) pa_nil)) (pe_H Cint_of_form (hr.mono (by omega)) rfl (pa_cons (pv 1) pa_nil))) pa_nil)))) pss_nil)
    (pss_cons (ps_asg (pe_H Cshorter_first (hr.mono (by omega)) rfl (pa_cons (pe_H Cturns_in (hr.mono (by omega)) rfl (pa_cons (pv 0) pa_nil)) (pa_cons (pe_H Cturns_in (hr.mono (by omega)) rfl (pa_cons (pv 1) pa_nil)) pa_nil))) (pg_tup rfl (pgs_cons (pg_name (i := 2) nd rfl (Or.inr rfl)) (pgs_cons (pg_name (i := 3) nd rfl (Or.inl rfl)) pgs_nil))))
    (pss_cons (ps_set (i := 4) nd rfl (Or.inr rfl) (pe_H Cform_with (hr.mono (by omega)) rfl (pa_cons (pv 3) pa_nil)))
    (pss_cons (ps_set (i := 5) nd rfl (Or.inr rfl) (pe_H Copposite (hr.mono (by omega)) rfl (pa_cons (pv 4) pa_nil)))
    (pss_one (ps_ret (pe_H Ctotal (hr.mono (by omega)) rfl (pa_cons (pe_lc (own := [("k", 6)]) (g := gName 6) (tt := tYes) rfl nd (pi_range1 (by rfl) B.range (pa_cons (pe_callB (call_lenS K) (by rfl) B.len PySem.boot_len (pa_cons (pv 2) pa_nil)) pa_nil)) (blkOk_by (own := [("k", 6)]) (N := N_times) (sc := defScope S_times) (by decide +kernel)) (fun _ _ _ _ _ => pg_name (i := 6) nd rfl (Or.inl rfl)) (fun _ _ _ _ _ => pts_nil) (fun _ _ _ _ _ => (pe_H Cshifted_up (hr.mono (by omega)) rfl (pa_cons (pe_ifExp (pt_truthK K (pe_op op_and (pv 6) pe_int) (by intro _; rfl)) (pv 4) (pv 5)) (pa_cons (pe_ix (ix_seqK K) (pv 2) (pv 6) (fun _ _ => rfl)) pa_nil))))) pa_nil))))))))), ?_⟩
  have o := oU (n + 1)
  have I := niU (L := 8500) (n := n + 1) (Nat.le_refl _)
  have nx : Num (gU (n + 1)) (SU 8500 (n + 1)) x := uu_num (Nat.le_refl _) (uu_wide (by decide) ux)
  have ny : Num (gU (n + 1)) (SU 8500 (n + 1)) y := uu_num (Nat.le_refl _) (uu_wide (by decide) uy)
  have nz : Num (gU (n + 1)) (SU 8500 (n + 1)) (x * y) := uu_num (Nat.le_refl _) uz
  have lx := ux.1
  have ly := uy.1
  refine ⟨fun σ H' => σ = [some v, some u, none, none, none, none, none] ∧ H' = H ∧ ¬ (plain x ∧ plain y), ?_, ?_⟩
  · refine ⟨_, rfl, _, _, rfl, hx, _, rfl, ?_⟩
    have hx' : Dp K H v (numD (gU (n + 1)) x) := hx
    have hy' : Dp K H u (numD (gU (n + 1)) y) := hy
    rcases num_cases o nx with ⟨p1, e1, _⟩ | ⟨np1, e1, _⟩
    · rcases num_cases o ny with ⟨p2, e2, _⟩ | ⟨np2, e2, _⟩
      · rw [e1] at hx'
        rw [e2] at hy'
        cases hx'
        cases hy'
        rw [show isI (gU (n + 2) x) = true by show isI (numD (gU (n + 1)) x) = true; rw [e1]; rfl]
        refine iteT ?_
        refine ⟨_, rfl, _, _, rfl, hy, _, rfl, ?_⟩
        rw [show isI (gU (n + 2) y) = true by show isI (numD (gU (n + 1)) y) = true; rw [e2]; rfl]
        refine iteT ?_
        have xb : x.natAbs < 2 ^ 65 := by have := p1.1; have := p1.2; omega
        have yb : y.natAbs < 2 ^ 65 := by have := p2.1; have := p2.2; omega
        have zb : (x * y).natAbs ≤ 2 ^ 65 * 2 ^ 65 := by
          rw [Int.natAbs_mul]
          exact Nat.mul_le_mul (Nat.le_of_lt xb) (Nat.le_of_lt yb)
        obtain ⟨ib, ef⟩ := prod_form I (a := 65) (b := 65) (by decide) zb nz
        refine ⟨_, rfl, _, rfl, _, _, rfl, rfl, wide_mul xb yb (by decide) (by decide) (by decide), x * y, rfl, ib, fun v' H' e d => q v' H' e ?_⟩
        rw [ef] at d
        exact d
      · rw [show isI (gU (n + 2) x) = true by show isI (numD (gU (n + 1)) x) = true; rw [e1]; rfl]
        refine iteT ?_
        refine ⟨_, rfl, _, _, rfl, hy, _, rfl, ?_⟩
        rw [show isI (gU (n + 2) y) = false by show isI (numD (gU (n + 1)) y) = false; rw [e2]; rfl]
        exact iteF ⟨rfl, rfl, fun h => np2 h.2⟩
    · rw [show isI (gU (n + 2) x) = false by show isI (numD (gU (n + 1)) x) = false; rw [e1]; rfl]
      exact iteF ⟨rfl, rfl, fun h => np1 h.1⟩
  rintro σ H' ⟨rfl, rfl, np⟩
  have tok := tok np
  refine ⟨_, rfl, _, rfl, v, u, x, y, rfl, hx, hy, nx, ny, (by show _ ≤ 8000; omega), np, fun b hb => ?_⟩
  refine ⟨_, rfl, ?_⟩
  cases b with
  | true =>
    refine iteT ?_
    obtain ⟨hn1, hn2, b1, b2⟩ := hb rfl
    have eM : nearM x y = ((1000 + 64 * ((Tl x).length + (Tl y).length) : Nat) : Int) := by unfold nearM; omega
    rw [eM] at b1 b2
    have hM : 1000 + 64 * ((Tl x).length + (Tl y).length) ≤ 258000 := by omega
    generalize 1000 + 64 * ((Tl x).length + (Tl y).length) = M at b1 b2 hM
    obtain ⟨k1, k2, k3⟩ := near_le I nx hn1 b1
    obtain ⟨m1, m2, m3⟩ := near_le I ny hn2 b2
    refine ⟨_, rfl, v, x, rfl, hx, nx, hn1, fun H1 e1 => ?_⟩
    refine ⟨_, rfl, u, y, rfl, (Nd.of e1).d hy, ny, hn2, fun H2 e2 => ?_⟩
    rw [k1, m1]
    have pm : (2 : Nat) ^ M < 2 ^ (M + 1) := Nat.pow_lt_pow_right (by decide) (by omega)
    have cM : ((2 : Int) ^ M) = ((2 ^ M : Nat) : Int) := by rw [Int.natCast_pow]; rfl
    have xb : x.natAbs < 2 ^ (M + 1) := by rw [cM] at k2 k3; omega
    have yb : y.natAbs < 2 ^ (M + 1) := by rw [cM] at m2 m3; omega
    have zb : (x * y).natAbs ≤ 2 ^ (M + 1) * 2 ^ (M + 1) := by
      rw [Int.natAbs_mul]
      exact Nat.mul_le_mul (Nat.le_of_lt xb) (Nat.le_of_lt yb)
    obtain ⟨ib, ef⟩ := prod_form I (a := M + 1) (b := M + 1) (by omega) zb nz
    refine ⟨_, _, rfl, rfl, wide_mul xb yb (by omega) (by omega) (by omega), x * y, rfl, ib, fun v' H3 e3 d => q v' H3 (e1.trans (e2.trans e3)) ?_⟩
    rw [ef] at d
    exact d
  | false =>
    refine iteF ?_
    refine ⟨_, rfl, v, x, rfl, hx, nx, fun a H1 e1 pa => ?_⟩
    refine ⟨_, rfl, u, y, rfl, (Nd.of e1).d hy, ny, fun b H2 e2 pb => ?_⟩
    obtain ⟨xs, sa, da⟩ := pa.same e2
    obtain ⟨ys, sb, db⟩ := pb
    have lxs : xs.length = (Tl x).length := by rw [dps_length da, List.length_map]
    have lys : ys.length = (Tl y).length := by rw [dps_length db, List.length_map]
    refine ⟨a, b, xs, ys, rfl, sa, sb, fun t H3 e3 ht => ?_⟩
    obtain ⟨pf, pm, few, w, gs, ms, ht, sf, df, sm, dm, uf, T, ez⟩ : ∃ (pf pm : Addr) (few w : Int) (gs ms : List V), SqT K H3 t [.ref pf, .ref pm] ∧ Sq K H3 pf gs ∧ DpAll K H3 gs ((Tl few).map (gU (n + 1))) ∧ Sq K H3 pm ms ∧ DpAll K H3 ms ((Tl w).map (gU (n + 1))) ∧ UU 2003 (n + 2) few ∧ TimesOk n few w ∧ x * y = w * few := by
      by_cases c : (Tl x).length ≤ (Tl y).length
      · rw [if_pos c] at tok
        rw [if_pos (by omega)] at ht
        exact ⟨a, b, x, y, xs, ys, ht, sa.same e3, (Nd.of e3).ds da, sb.same e3, (Nd.of e3).ds db, ux, tok, Int.mul_comm x y⟩
      · rw [if_neg c] at tok
        rw [if_neg (by omega)] at ht
        exact ⟨b, a, y, x, ys, xs, ht, sb.same e3, (Nd.of e3).ds db, sa.same e3, (Nd.of e3).ds da, uy, tok, rfl⟩
    have lg : gs.length = (Tl few).length := by rw [dps_length df, List.length_map]
    have nw : Num (gU (n + 1)) (SU 8500 (n + 1)) w := uu_num (Nat.le_refl _) (uu_wide (by decide) T.uw)
    refine ⟨_, _, rfl, ht, rfl, _, _, rfl, _, _, rfl, rfl, ?_⟩
    refine ⟨_, rfl, pm, w, rfl, ⟨ms, sm, dm⟩, nw, fun vf H4 e4 d4 => ?_⟩
    refine ⟨_, rfl, vf, w, rfl, d4, nw, uu_num (Nat.le_refl _) (uu_wide (L := 2004) (by decide) (uu_not (by decide) T.uw)), uu_num (Nat.le_refl _) (uu_wide (by decide) T.nw), fun va H5 e5 d5 => ?_⟩
    have sf5 := (sf.same e4).same e5
    have df5 := (Nd.of (e4.trans e5)).ds df
    have d45 := (Nd.of e5).d d4
    refine ⟨_, rfl, _, _, rfl, sf5, _, rfl, (by have := T.len; omega), (by have := T.len; omega), fun D nD => ?_⟩
    have lp := parts_len w (Tl few)
    have nzs : ∀ z ∈ partsL w (Tl few), Num (gU (n + 1)) (SU 8500 (n + 1)) z := fun z hz => uu_num (Nat.le_refl _) (T.us z hz)
    refine lc_range (lo := 0) (n := ((gs.length : Nat) : Int).toNat) (fun i H' => ∃ ws : List V, ws.length = i ∧ Same H5 H' ∧ H' D = some (.lst ws) ∧ DpAll K H' ws (((partsL w (Tl few)).take i).map (numD (gU (n + 1))))) ⟨[], rfl, Same.new nD, upd_same, .nil⟩ (fun i H6 hi h => ?_) (fun H6 h => ?_)
    · obtain ⟨ws, lws, e6, hD, hw⟩ := h
      have hi' : i < (Tl few).length := by omega
      have hz := parts_get w (Tl few) hi'
      have ft : (Tl few)[i]? = some (Tl few)[i] := List.getElem?_eq_getElem hi'
      have fg : (Tl few).getD i 0 = (Tl few)[i] := by rw [List.getD_eq_getElem?_getD, ft]; rfl
      have fm : (Tl few)[i] ∈ Tl few := List.getElem_mem hi'
      have hg : gs[i]? = some (gs[i]'(by omega)) := List.getElem?_eq_getElem (by omega)
      obtain ⟨d, hd1, hd2⟩ := dps_get ((Nd.of e6).ds df5) hg
      rw [List.getElem?_map, ft] at hd1
      have hd1 := Option.some.inj hd1
      subst hd1
      have at_ : atI gs (i : Int) = some (gs[i]'(by omega)) := atI_nat hg
      have us := T.us _ (List.mem_of_getElem? hz)
      have step : ∀ (vz : V) (z : Int), Dp K H6 vz (gU (n + 2) z) → UU 2003 (n + 2) z → (if i % 2 = 1 then w else -w) = z → spShU K n 2003 [vz, gs[i]'(by omega)] H6 (fun v' H7 => ∃ acc, H7 D = some (.lst acc) ∧ acc.length < sizeLine ∧ ∃ ws : List V, ws.length = i + 1 ∧ Same H5 (upd H7 D (.lst (acc ++ [v']))) ∧ upd H7 D (.lst (acc ++ [v'])) D = some (.lst ws) ∧ DpAll K (upd H7 D (.lst (acc ++ [v']))) ws (((partsL w (Tl few)).take (i + 1)).map (numD (gU (n + 1))))) fun _ _ _ => False := fun vz z dz uz ez' => by
        rw [ez', fg] at us
        rw [ez', fg] at hz
        refine ⟨vz, _, z, (Tl few)[i], rfl, dz, uz, hd2, uf.2 _ fm, tl_pos few _ fm, fun v' H7 e7 d7 => ?_⟩
        have hD7 := e7 _ _ hD
        refine ⟨ws, hD7, by rw [lws]; exact Nat.lt_of_le_of_lt (show _ ≤ 1000 by have := T.len; omega) (by decide), ws ++ [v'], by rw [List.length_append, lws]; rfl, Same.mut (e6.trans e7) nD, upd_same, ?_⟩
        have td : Td H7 (upd H7 D (.lst (ws ++ [v']))) := Td.lst hD7
        rw [List.take_add_one, hz, List.map_append]
        refine dps_app (td.ds (n := n + 2) (fun d hd => ?_) ((Nd.of e7).ds hw)) (.cons (td.d (num_fm o (nzs _ (List.mem_of_getElem? hz))) ?_) .nil)
        · obtain ⟨z', hz', rfl⟩ := List.mem_map.mp hd
          exact num_fm o (nzs z' (List.mem_of_mem_take hz'))
        · have d7' : Dp K H7 v' (gU (n + 3) (z * 2 ^ ((Tl few)[i]).toNat)) := d7
          rw [gU_up (L := 8500) (by decide) (Nat.le_refl _) us] at d7'
          exact d7'
      refine ⟨rfl, lcT ?_⟩
      refine ⟨_, rfl, _, _, rfl, rfl, _, rfl, ?_⟩
      rw [show (0 + (i : Int)) = (i : Int) by omega]
      by_cases od : i % 2 = 1
      · rw [show (Builtin.bitAnd (i : Int) 1 != 0) = true by rw [PyProof.Rows.bitAnd_m1, show ((i : Nat) : Int) % 2 = 1 by omega]; rfl]
        refine iteT ?_
        exact ⟨_, rfl, _, rfl, _, rfl, rIx_sq (sf5.same e6) at_ (step vf w ((Nd.of e6).d d45) T.uw (if_pos od))⟩
      · rw [show (Builtin.bitAnd (i : Int) 1 != 0) = false by rw [PyProof.Rows.bitAnd_m1, show ((i : Nat) : Int) % 2 = 0 by omega]; rfl]
        refine iteF ?_
        exact ⟨_, rfl, _, rfl, _, rfl, rIx_sq (sf5.same e6) at_ (step va (-w) ((Nd.of e6).d d5) T.nw (if_neg od))⟩
    · obtain ⟨ws, lws, e6, hD, hw⟩ := h
      rw [List.take_of_length_le (by omega)] at hw
      obtain ⟨R, lR, tR⟩ := T.ok
      refine ⟨D, ws, partsL w (Tl few), R, rfl, SqL.of hD, hw, by rw [lp]; exact lR, by rw [lp]; have := T.len; omega, nzs, tR, fun v' H7 e7 d7 => q v' H7 (e1.trans (e2.trans (e3.trans (e4.trans (e5.trans (e6.trans e7)))))) ?_⟩
      rw [parts_sum, av_tl, ← ez] at d7
      exact d7
end
end Fb
namespace Fb
open PySem L2 NdefX LamX PySem.Spec PyProof.Rows
abbrev S_TooManyTerms : Stmt := (clsBody (top 3)).getD 0 (.Pass ⟨0, 0, 0, 0⟩)
def oneInt (vs : List V) : Prop := ∃ i : Int, vs = [.int i] ∧ i.natAbs < 10 ^ 40
section
variable {P : Program} {w : World} {K : PySem.W.Frag} {mg : Str → Option Value} {base : Heap}
theorem ok_TooManyTerms {C f cc cda : Addr} {oc : Value} {od : Option Addr} {osl : Array (Option Value)} {kV doc pm ct : Value} {an : Option Addr} (T : SxF P K mg C cc cda "TooManyTerms.__init__")
    (lk : K.lookup f = some ⟨oc, od, .func (sxFd "TooManyTerms.__init__" S_TooManyTerms cc cda kV doc pm an ct), osl⟩) (no : PySem.W.findIn K (.ref C) "terms" = some none) :
    FnOk P w K mg base CX0 1 f (sxFd "TooManyTerms.__init__" S_TooManyTerms cc cda kV doc pm an ct) ["self", "terms"] (spErr C ["terms"] oneInt) := by
  have S : NScope ["self", "terms", "__class__"] ["self", "terms"] ["__class__"] (defScope S_TooManyTerms) := nscope_by (by decide +kernel)
  refine err1_ok T lk S ⟨⟨_, _, _, _, _, _, rfl, fun _ => rfl, fun _ => rfl, fun _ => rfl, fun _ => rfl⟩, rfl, ⟨_, rfl, rfl⟩⟩ no rfl rfl (fun _ => rfl) (fun A outer s H E => ⟨_, pa_cons (pe_joined (.cons pe_str (.cons (pe_fmt (pe_var (i := 1) rfl (.inl (S.par _ (by simp))))) .nil))) pa_nil, fun a v H Q hg q => ?_⟩)
  obtain ⟨i, e, hi⟩ := hg
  cases e
  have li := small_txtW hi
  refine ⟨_, rfl, ?_, _, rfl, .inr ⟨i, rfl, small_logW hi, _, rfl, ?_, q _⟩⟩
  all_goals
    simp only [PySem.Str.length_append]
    have a0 : PySem.Str.empty.length = 0 := rfl
    have a1 : ("too many terms: " : Str).length = 16 := by decide +kernel
    rw [PySem.sizeLine_eq]
    omega
end
/-- a result's size, within the limits -/
def Fits (n : Nat) (d : PyData) : Prop := sz n d ≤ 2000 ∧ lv n d ≤ 6
section
variable {P : Program} {w : World} {K : PySem.W.Frag} {mg : Str → Option Value} {base : Heap} {f : Addr} {fd : FuncData}
abbrev S_multiply : Stmt := top 62
abbrev N_multiply : List Str := ["x", "y", "terms"]
abbrev P_multiply : List Str := ["x", "y"]
theorem sc_multiply : FnScope N_multiply P_multiply (defScope S_multiply) := ⟨rfl, rfl, rfl, by decide +kernel, rfl, by decide +kernel, by decide +kernel⟩
def spMulX (K : PySem.W.Frag) (C CT : Addr) (n m : Nat) : Sp := fun vs H Q E => ∃ (v u : V) (x y : Int), vs = [v, u] ∧ Dp K H v (gU (n + 2) x) ∧ Dp K H u (gU (n + 2) y) ∧ UU 2003 (n + 2) x ∧ UU 2003 (n + 2) y ∧
  ((600 < (Tl x).length * (Tl y).length ∧ ¬ (plain x ∧ plain y) ∧ ∀ (H' : Hp) (a : Addr), Same H H' → H' a = none → E (.ref CT) (some a) (upd H' a (.xd [("terms", .int ((Tl x).length * (Tl y).length : Nat))]))) ∨
   (((Tl x).length * (Tl y).length ≤ 600 ∨ (plain x ∧ plain y)) ∧ UU 8500 (n + 2) (x * y) ∧ (¬ (plain x ∧ plain y) → (if (Tl x).length ≤ (Tl y).length then TimesOk n x y else TimesOk n y x)) ∧ ∃ D : PyData, gU (n + 2) (x * y) = D ∧ Fm m D ∧ Sp_ m D ∧ ((sz m D).natAbs < 10 ^ 40 ∧ (lv m D).natAbs < 10 ^ 40) ∧
    (Fits m D → ∀ (v' : V) (H' : Hp), Same H H' → Dp K H' v' D → Q v' H') ∧
    (¬ Fits m D → ∀ (H' : Hp) (a : Addr), Same H H' → H' a = none → E (.ref C) (some a) (upd H' a (.xd [("levels", .int (lv m D)), ("parts", .int (sz m D))])))))
theorem ok_multiply {n m k : Nat} {C CT : Addr} {tk : Tok} (hk : m + 3 ≤ k) (k3 : 3 ≤ k) (F : Fun K "multiply" "multiply" S_multiply f fd) (B : Blt mg) (MT : mg "MOST_TERMS" = some (.int 600 tk)) (Cturns_in : Has P w K mg base 3 "turns_in" P_turns_in [] (spTin K (gU (n + 1)) (SU 8500 (n + 1)))) (Ctimes : Has P w K mg base k "times" P_times [] (spTimes K n))
    (Cjudged : HasX P w K mg base (m + 3) "judged" P_judged (spJudgedX K m C)) (TN : Err P w K mg base "TooManyTerms" CT ["terms"] oneInt) : FnOk P w K mg base (L2.CX P w) (k + 1) f fd P_multiply (spMulX K C CT n m) := by
  have nd := sc_multiply.nd
  refine F.okX sc_multiply (fun vs H Q E h => ?_) (fun cdv A outer s H vs Q E hr h => ?_)
  · obtain ⟨v, u, x, y, rfl, _⟩ := h
    rfl
  obtain ⟨v, u, x, y, rfl, hx, hy, ux, uy, q⟩ := h
  refine ⟨_, (pss_cons (ps_set (i := 2) nd rfl (Or.inl rfl) (pe_op op_mul (pe_callB (call_lenS K) (by rfl) B.len PySem.boot_len (pa_cons (pe_H Cturns_in (hr.mono (by omega)) rfl (pa_cons (pv 0) pa_nil)) pa_nil)) (pe_callB (call_lenS K) (by rfl) B.len PySem.boot_len (pa_cons (pe_H Cturns_in (hr.mono (by omega)) rfl (pa_cons (pv 1) pa_nil)) pa_nil))))
    (C8.pss_cut (ps_if (PW.pt (pw_and (pt_cmpR op_gt (pv 2) (pe_glob (v := .int 600) rfl MT ⟨_, rfl⟩) (nomark _)) (pw_and1 (pt_not (PW.pt (pw_and (pt_val (pe_callB (call_isiI K) (by rfl) B.isinstance (by decide +kernel) (pa_cons (pv 0) (pa_cons (pe_bltn (by rfl) B.int (by decide +kernel) (show RelV (.ty "int") (.type "int") from rfl)) pa_nil)))) (pw_and1 (pt_val (pe_callB (call_isiI K) (by rfl) B.isinstance (by decide +kernel) (pa_cons (pv 1) (pa_cons (pe_bltn (by rfl) B.int (by decide +kernel) (show RelV (.ty "int") (.type "int") from rfl)) pa_nil))))))))))) (pss_one (ps_raise rfl (takes_of rfl rfl rfl rfl) (pmk_err TN (hr.mono (by omega)) rfl (pa_cons (pv 2) pa_nil)))) pss_nil)
    (pss_one (ps_ret (pe_HX Cjudged (takes_of rfl rfl rfl rfl) (hr.mono (by omega)) rfl (pa_cons (pe_H Ctimes (hr.mono (by omega)) rfl (pa_cons (pv 0) (pa_cons (pv 1) pa_nil))) pa_nil)))))), ?_⟩
  have o := oU (n + 1)
  have nx : Num (gU (n + 1)) (SU 8500 (n + 1)) x := uu_num (Nat.le_refl _) (uu_wide (by decide) ux)
  have ny : Num (gU (n + 1)) (SU 8500 (n + 1)) y := uu_num (Nat.le_refl _) (uu_wide (by decide) uy)
  have lx := ux.1
  have ly := uy.1
  have kx : isI (gU (n + 2) x) = true ↔ plain x := by
    show isI (numD (gU (n + 1)) x) = true ↔ _
    rcases num_cases o nx with ⟨p, e, _⟩ | ⟨p, e, _⟩ <;> rw [e]
    · exact ⟨fun _ => p, fun _ => rfl⟩
    · exact ⟨fun h => absurd (show false = true from h) (by decide), fun h => absurd h p⟩
  have ky : isI (gU (n + 2) y) = true ↔ plain y := by
    show isI (numD (gU (n + 1)) y) = true ↔ _
    rcases num_cases o ny with ⟨p, e, _⟩ | ⟨p, e, _⟩ <;> rw [e]
    · exact ⟨fun _ => p, fun _ => rfl⟩
    · exact ⟨fun h => absurd (show false = true from h) (by decide), fun h => absurd h p⟩
  refine ⟨_, rfl, v, x, rfl, hx, nx, fun a H1 e1 pa => ?_⟩
  obtain ⟨xs, sa, da⟩ := pa
  have lxs : xs.length = (Tl x).length := by rw [dps_length da, List.length_map]
  refine ⟨_, _, rfl, sa, _, rfl, u, y, rfl, (Nd.of e1).d hy, ny, fun b H2 e2 pb => ?_⟩
  obtain ⟨ys, sb, db⟩ := pb
  have lys : ys.length = (Tl y).length := by rw [dps_length db, List.length_map]
  refine ⟨_, _, rfl, sb, _, _, rfl, rfl, .inl ⟨by omega, by omega⟩, ?_⟩
  have e12 := e1.trans e2
  have ep : ((xs.length : Int) * (ys.length : Int)) = (((Tl x).length * (Tl y).length : Nat) : Int) := by rw [lxs, lys, Int.natCast_mul]
  refine ⟨fun σ H' => σ = [some v, some u, some (.int (((Tl x).length * (Tl y).length : Nat) : Int))] ∧ H' = H2 ∧ ((Tl x).length * (Tl y).length ≤ 600 ∨ (plain x ∧ plain y)), ?_, ?_⟩
  · refine ⟨_, rfl, _, _, rfl, rfl, _, rfl, ?_⟩
    show if decide ((600 : Int) < (xs.length : Int) * (ys.length : Int)) = true then _ else _
    rw [ep]
    have e3 : ([v, u].map some ++ [some (V.int ((xs.length : Int) * (ys.length : Int)))]) = [some v, some u, some (.int (((Tl x).length * (Tl y).length : Nat) : Int))] := by rw [ep]; rfl
    have raise : ¬ (plain x ∧ plain y) → (600 : Int) < (((Tl x).length * (Tl y).length : Nat) : Int) → (fun (_ : L2.Ends) σ H => tMkO CT (spErr CT ["terms"] oneInt) [] (tCons (tVar 2) tNil) σ H fun cls d H' => E cls d H') ({ nx := fun _ _ => True, rt := Q } : L2.Ends) ((L2.start N_multiply [v, u]).set 2 (some (.int ((xs.length : Int) * (ys.length : Int))))) H2 := fun np c => by
      rcases q with ⟨h6, _, q⟩ | ⟨few, _⟩
      · rw [ep]
        exact ⟨_, rfl, err_mk rfl (by decide) ⟨_, rfl, by
          have : (Tl x).length * (Tl y).length ≤ 2003 * 2003 := Nat.mul_le_mul lx ly
          omega⟩ fun dd hdd => q H2 dd e12 hdd⟩
      · rcases few with h | h
        · omega
        · exact absurd h np
    refine iteD (fun c => ?_) (fun c => ?_)
    · refine ⟨_, rfl, _, _, rfl, (Nd.of e12).d hx, _, rfl, ?_⟩
      cases hi : isI (gU (n + 2) x) with
      | false =>
        have np : ¬ plain x := fun h => by rw [kx.mpr h] at hi; cases hi
        refine iteF ?_
        refine iteT ?_
        exact raise (fun h => np h.1) c
      | true =>
        refine iteT ?_
        refine ⟨_, rfl, _, _, rfl, (Nd.of e12).d hy, _, rfl, ?_⟩
        cases hj : isI (gU (n + 2) y) with
        | false =>
          have np : ¬ plain y := fun h => by rw [ky.mpr h] at hj; cases hj
          refine iteT ?_
          exact raise (fun h => np h.2) c
        | true =>
          exact iteF ⟨e3, rfl, .inr ⟨kx.mp hi, ky.mp hj⟩⟩
    · exact iteF ⟨e3, rfl, .inl (by omega)⟩
  rintro σ H3 ⟨rfl, rfl, few⟩
  rcases q with ⟨h6, np, _⟩ | ⟨_, uz, tok, D, eD, f1, f2, f3, q1, q2⟩
  · rcases few with h | h
    · exact absurd h6 (by omega)
    · exact absurd h np
  refine ⟨_, rfl, _, rfl, v, u, x, y, rfl, (Nd.of e12).d hx, (Nd.of e12).d hy, ux, uy, uz, tok, fun v3 H4 e4 d4 => ?_⟩
  rw [eD] at d4
  exact ⟨v3, D, rfl, d4, f1, f2, f3, fun ok H5 e5 => q1 ok v3 H5 (e12.trans (e4.trans e5)) ((Nd.of e5).d d4), fun no H5 a e5 ha => q2 no H5 a (e12.trans (e4.trans e5)) ha⟩
end
end Fb
namespace Fb
open PySem L2 NdefX LamX PySem.Spec PyProof.Rows
abbrev S_NegativeShift : Stmt := (clsBody (top 4)).getD 0 (.Pass ⟨0, 0, 0, 0⟩)
section
variable {P : Program} {w : World} {K : PySem.W.Frag} {mg : Str → Option Value} {base : Heap} {f : Addr} {fd : FuncData}
theorem ok_NegativeShift {C f cc cda : Addr} {oc : Value} {od : Option Addr} {osl : Array (Option Value)} {kV doc pm ct : Value} {an : Option Addr} (T : SxF P K mg C cc cda "NegativeShift.__init__")
    (lk : K.lookup f = some ⟨oc, od, .func (sxFd "NegativeShift.__init__" S_NegativeShift cc cda kV doc pm an ct), osl⟩) (no : PySem.W.findIn K (.ref C) "amount" = some none) :
    FnOk P w K mg base CX0 1 f (sxFd "NegativeShift.__init__" S_NegativeShift cc cda kV doc pm an ct) ["self", "amount"] (spErr C ["amount"] (fun _ => True)) := by
  exact err1_ok T lk (nscope_by (by decide +kernel)) ⟨⟨_, _, _, _, _, _, rfl, fun _ => rfl, fun _ => rfl, fun _ => rfl, fun _ => rfl⟩, rfl, ⟨_, rfl, rfl⟩⟩ no rfl rfl (fun _ => rfl) (fun A outer s H E => ⟨_, pa_cons pe_str pa_nil, fun a v H Q _ h => h _⟩)
def spShx (K : PySem.W.Frag) (C CN : Addr) (n L m : Nat) (r : Int → Int → Int) : Sp := fun vs H Q E => ∃ (v u : V) (d : PyData), vs = [v, u] ∧ Dp K H u d ∧ (isI d = true ∨ isT d = true) ∧ (∀ b, d ≠ .bool b) ∧
  ((negD d = true ∧ ∀ (H' : Hp) (a : Addr), Same H H' → H' a = none → E (.ref CN) (some a) (upd H' a (.xd [("amount", u)]))) ∨
   (negD d = false ∧ ∃ (x s : Int) (D : PyData), d = gU (n + 1) s ∧ Dp K H v (gU (n + 2) x) ∧ UU L (n + 2) x ∧ UU L (n + 1) s ∧ 0 ≤ s ∧ gU (n + 3) (r x s) = D ∧ Fm m D ∧ Sp_ m D ∧ ((sz m D).natAbs < 10 ^ 40 ∧ (lv m D).natAbs < 10 ^ 40) ∧
    (Fits m D → ∀ (v' : V) (H' : Hp), Same H H' → Dp K H' v' D → Q v' H') ∧
    (¬ Fits m D → ∀ (H' : Hp) (a : Addr), Same H H' → H' a = none → E (.ref C) (some a) (upd H' a (.xd [("levels", .int (lv m D)), ("parts", .int (sz m D))])))))
abbrev S_shift_left : Stmt := top 61
abbrev N_shift_left : List Str := ["x", "s"]
abbrev P_shift_left : List Str := ["x", "s"]
theorem sc_shift_left : FnScope N_shift_left P_shift_left (defScope S_shift_left) := ⟨rfl, rfl, rfl, by decide +kernel, rfl, by decide +kernel, by decide +kernel⟩
theorem ok_shl {n L m k : Nat} {C CN : Addr} (hk : m + 3 ≤ k) (F : Fun K "shift_left" "shift_left" S_shift_left f fd) (Cis_negative : Has P w K mg base 1 "is_negative" P_is_negative [] (spNeg K)) (Cshifted_up : Has P w K mg base k "shifted_up" P_shifted_up [] (spShU K n L))
    (Cjudged : HasX P w K mg base (m + 3) "judged" P_judged (spJudgedX K m C)) (TN : Err P w K mg base "NegativeShift" CN ["amount"] (fun _ => True)) : FnOk P w K mg base (L2.CX P w) (k + 1) f fd P_shift_left (spShx K C CN n L m fun x s => x * 2 ^ s.toNat) := by
  have nd := sc_shift_left.nd
  refine F.okX sc_shift_left (fun vs H Q E h => ?_) (fun cdv A outer s H vs Q E hr h => ?_)
  · obtain ⟨v, u, d, rfl, _⟩ := h
    rfl
  obtain ⟨v, u, d, rfl, hu, k1, k2, q⟩ := h
  refine ⟨_, (pss_cons (ps_if (pt_val (pe_H Cis_negative (hr.mono (by omega)) rfl (pa_cons (pv 1) pa_nil))) (pss_one (ps_raise rfl (takes_of rfl rfl rfl rfl) (pmk_err TN (hr.mono (by omega)) rfl (pa_cons (pv 1) pa_nil)))) pss_nil)
    (pss_one (ps_ret (pe_HX Cjudged (takes_of rfl rfl rfl rfl) (hr.mono (by omega)) rfl (pa_cons (pe_H Cshifted_up (hr.mono (by omega)) rfl (pa_cons (pv 0) (pa_cons (pv 1) pa_nil))) pa_nil))))), ?_⟩
  refine ⟨_, rfl, u, d, rfl, hu, k1, k2, fun H1 e1 => ?_⟩
  refine ⟨_, rfl, ?_⟩
  rcases q with ⟨h1, q⟩ | ⟨h1, x, s, D, rfl, hx, ux, us, s0, eD, f1, f2, f3, q1, q2⟩
  · rw [h1]
    refine iteT ?_
    exact ⟨_, rfl, err_mk rfl (by decide) trivial fun dd hdd => q H1 dd e1 hdd⟩
  · rw [h1]
    refine iteF ?_
    refine ⟨_, rfl, _, rfl, v, u, x, s, rfl, (Nd.of e1).d hx, ux, (Nd.of e1).d hu, us, s0, fun v2 H2 e2 d2 => ?_⟩
    have d2' : Dp K H2 v2 (gU (n + 3) (x * 2 ^ s.toNat)) := d2
    have eD' : gU (n + 3) (x * 2 ^ s.toNat) = D := eD
    rw [eD'] at d2'
    exact ⟨v2, D, rfl, d2', f1, f2, f3, fun ok H3 e3 => q1 ok v2 H3 (e1.trans (e2.trans e3)) ((Nd.of e3).d d2'), fun no H3 a e3 ha => q2 no H3 a (e1.trans (e2.trans e3)) ha⟩
end
end Fb
namespace Fb
open PySem L2 PySem.Spec PyProof.Rows LamX
/-! ### the first call of a law's def that makes lambdas: no guards, and its table of code objects is empty -/
abbrev tab0 : Obj := { cls := .none, data := .fields #[] }
theorem callGT {P : Program} {w : World} {K : PySem.W.Frag} {mg mb : Str → Option Value} {k : Nat} {fa a c T : Addr} {fd : FuncData} {x : Str} {sp : Sp} {s1 : Shared} {us : List Value} {zs : List Int}
    (kx : K.In s1.heap) (nm : s1.heap.Ns mainGlobals mg) (nb : s1.heap.Ns builtinsNs mb) (bb : ∀ y : Str, y ≠ "__name__" → mb y = bootBuiltins y) (nl : s1.heap.NoLimit) (ng : s1.gens = #[])
    (tT : s1.heap.get? T = some tab0) (kT : K.lookup T = none) (cT : PySem.W.CodeHd s1.heap c T) (bmn : ∃ (bm : Addr) (ob : Obj), mg "__builtins__" = some (.ref bm) ∧ bm ≠ builtinsNs ∧ s1.heap.get? bm = some ob ∧ ob.cls = .type "module" ∧ ob.dict = some builtinsNs ∧ ob.data = .plain)
    (at_ : s1.heap.get? a = some { cls := .type "list", data := .seq us.toArray }) (iz : IntsAre us zs) (short : zs.length ≤ sizeLine) (room : Room k callerA)
    (F : ∀ base : Heap, K.In base → base.Ns mainGlobals mg → TabB base mg c T → FnG P w K mg base k fa fd [x] sp) (bd : ∀ (s : Shared) (u : Value), BindsTo s fd ⟨[u], []⟩ [(x, u)])
    (spec : ∀ H : Hp, H T = some (.tbl #[]) → SqL K H a (zs.map V.int) → sp [.ref a] H (fun v _ => v = .bl true) fun _ _ _ => False) :
    codeAny (model P w) callerA (.call (.ref fa) ⟨[.ref a], []⟩) (fun r s2 => r = .ok (.ret (.bool true)) ∧ OldK s1.heap s2.heap ∧ s2.os = s1.os ∧ AllBare s2.gens) s1 := by
  have rv := vals_ints iz
  have lz := iz.length
  have aT : a ≠ T := fun e => by
    rw [e, tT] at at_
    cases at_
  obtain ⟨H, hH, hn, hs, hT⟩ : ∃ H : Hp, (∀ b u, H b = some u → (b = a ∧ u = .frz { cls := .type "list", data := .seq us.toArray } (.lst (zs.map V.int))) ∨ (b = T ∧ u = .tbl #[])) ∧ (∀ o, K.lookup a = some o → H a = none) ∧ SqL K H a (zs.map V.int) ∧ H T = some (.tbl #[]) := by
    cases hk : K.lookup a with
    | none =>
      refine ⟨fun b => if b = T then some (.tbl #[]) else if b = a then some (.frz { cls := .type "list", data := .seq us.toArray } (.lst (zs.map V.int))) else none, fun b u z => ?_, (fun o z => by cases z), .inl (.inr ⟨_, (if_neg aT).trans (if_pos rfl)⟩), if_pos rfl⟩
      by_cases e : b = T
      · exact .inr ⟨e, (Option.some.inj ((if_pos e).symm.trans z)).symm⟩
      · have z := (if_neg e).symm.trans z
        by_cases e2 : b = a
        · exact .inl ⟨e2, (Option.some.inj ((if_pos e2).symm.trans z)).symm⟩
        · exact nomatch (if_neg e2).symm.trans z
    | some o =>
      have e := at_.symm.trans (kx a o hk)
      cases e
      refine ⟨fun b => if b = T then some (.tbl #[]) else none, fun b u z => ?_, (fun _ _ => if_neg aT), .inr ⟨_, us.toArray, _, hk, rfl, rfl, rfl, by rw [List.size_toArray, lz]; exact short, by simpa using rv⟩, if_pos rfl⟩
      by_cases e : b = T
      · exact .inr ⟨e, (Option.some.inj ((if_pos e).symm.trans z)).symm⟩
      · exact nomatch (if_neg e).symm.trans z
  -- what is neither the script nor the table is in the ground
  have ground : ∀ (b : Addr) (o : Obj), s1.heap.get? b = some o → o.data ≠ .seq us.toArray → o ≠ tab0 → H b = none := fun b o e d1 d2 => by
    cases q : H b with
    | none => rfl
    | some u =>
      rcases hH b u q with ⟨rfl, _⟩ | ⟨rfl, _⟩
      · exact absurd (congrArg Obj.data (Option.some.inj (at_.symm.trans e))).symm d1
      · exact absurd (Option.some.inj (tT.symm.trans e)).symm d2
  have dict : ∀ (b : Addr) (o : Obj) (es : Array DictEntry) (ep : Nat), s1.heap.get? b = some o → o.data = .dict es ep → H b = none := fun b o es ep e d =>
    ground b o e (by rw [d]; exact fun z => nomatch z) (fun z => by rw [z] at d; cases d)
  have names : ∀ (b : Addr) (m : Str → Option Value), s1.heap.Ns b m → (hidT s1.heap H).Ns b m := by
    rintro b m ⟨o, es, ep, e, d, r⟩
    exact ⟨o, es, ep, hidT_get e (dict b o es ep e d), d, r⟩
  have kb : K.In (hidT s1.heap H) := fun b o e => hidT_get (kx b o e) <| by
    cases q : H b with
    | none => rfl
    | some u =>
      rcases hH b u q with ⟨rfl, _⟩ | ⟨rfl, _⟩
      · rw [hn o e] at q
        cases q
      · rw [kT] at e
        cases e
  have lim : (hidT s1.heap H).NoLimit := by
    obtain ⟨m, q1, q2⟩ := nl
    exact ⟨m, names _ _ q1, q2⟩
  have ok : HOk P w H s1.heap := fun b u q => by
    rcases hH b u q with ⟨rfl, rfl⟩ | ⟨rfl, rfl⟩
    · exact ⟨at_, by rw [List.length_map]; exact short, us, _, rv, at_⟩
    · exact tT
  have env : Env0 P w K mg (hidT s1.heap H) callerA [] s1 H := by
    refine ⟨rfl, ⟨kb, names _ _ nm, ⟨mb, names _ _ nb, bb⟩, lim⟩, fun b o e => of_hidT e, Nat.le_of_eq (hidT_size _ _), trivial, fun b q => ?_, ok, .of_eq ng⟩
    cases q
  have TB : TabB (hidT s1.heap H) mg c T := by
    refine ⟨?_, ?_, fun z => ?_⟩
    · obtain ⟨o, vs, file, tf, flags, tg, inF, text, tt, e1, e2, e3, rest⟩ := cT
      exact ⟨o, vs, file, tf, flags, tg, inF, text, tt, hidT_get e1 (ground c o e1 (by rw [e3]; exact fun z => nomatch z) (fun z => by rw [z] at e2; cases e2)), e2, e3, rest⟩
    · obtain ⟨bm, ob, q1, q2, q3, q4, q5, q6⟩ := bmn
      have nG : bm ≠ mainGlobals := fun e => by
        obtain ⟨o, es, ep, g1, g2, _⟩ := nm
        rw [e, g1] at q3
        cases q3
        rw [g2] at q6
        cases q6
      have nT : bm ≠ T := fun e => by
        rw [e, tT] at q3
        cases q3
        cases q6
      exact ⟨bm, ob, q1, q2, nG, nT, hidT_get q3 (ground bm ob q3 (by rw [q6]; exact fun z => nomatch z) (fun z => by rw [z] at q4; cases q4)), q4, q5, q6⟩
    · obtain ⟨o, es, ep, g1, g2, _⟩ := nm
      rw [z, tT] at g1
      cases g1
      cases g2
  have main := F _ kb (names _ _ nm) TB callerA [] s1 H ⟨[.ref a], []⟩ [.ref a] [.ref a] _ _ room rfl env (bd s1 (.ref a)) (.cons rfl .nil) (spec H hT hs)
  apply codeAny_mono main
  intro r s2 z
  match r, z with
  | .ok (.ret u), ⟨v, H2, os, bare, un, ok2, rel, q⟩ =>
    have qv : v = .bl true := q
    subst qv
    have ru : u = Value.bool true := rel
    have kept : ∀ (b : Addr) (o : Obj), b ≠ T → s1.heap.get? b = some o → s2.heap.get? b = some o := fun b o nb e => by
      cases q2 : H b with
      | none => exact un.keep b o e q2 (fun y => by cases y) (by simp)
      | some t =>
        rcases hH b t q2 with ⟨rfl, rfl⟩ | ⟨rfl, _⟩
        · have o1 := (ok b _ q2).1
          have o2 := (ok2 b _ (un.frzs b _ _ q2)).1
          exact o2.trans (o1.symm.trans e)
        · exact absurd rfl nb
    obtain ⟨more, hm⟩ := un.tbls T #[] hT
    have grown : s2.heap.get? T = some { cls := .none, data := .fields (#[] ++ more) } := ok2 T _ hm
    refine ⟨by rw [ru], ⟨fun b o e => ?_, fun b o e => ?_⟩, os, bare⟩
    · by_cases hb : b = T
      · subst hb
        cases tT.symm.trans e
        exact .inr (.inl ⟨(cT.tab tT).isCodeTable, rfl, #[], more, rfl, grown⟩)
      · exact .inl (kept b o hb e)
    · by_cases hb : b = T
      · subst hb
        exact ⟨_, grown⟩
      · exact ⟨o, kept b o hb e⟩
  | .ok .next, z => exact z.elim
  | .ok .brk, z => exact z.elim
  | .ok .cont, z => exact z.elim
  | .error e, z => exact z.elim
theorem walkGT {l : PySem.W.OpenLaw} {n k : Nat} {q : Program} {loose : List Str} {XP : (Str → Option Value) → Heap → Prop} {YP : World → Heap → Prop} {d : DefRec} {K : Params → PySem.W.Frag} {x : Str}
    (most : l.most = some n) (nz : n ≤ sizeLine) (df : d.params.defaults = []) (room : Room k callerA) (rec_ : ((recsOf q).any fun e => e.name == d.name) = true) (inK : ∀ (w : World) (h : Heap), YP w h → (K w.params).In h)
    (F : ∀ (w : World) (mg : Str → Option Value) (fa : Addr) (h : Heap), (K w.params).In h → h.Ns mainGlobals mg → mg d.name = some (.ref fa) → OwnTab (K w.params) fa h →
      ∃ (fd : FuncData) (c T : Addr) (sp : Sp), h.get? T = some tab0 ∧ (K w.params).lookup T = none ∧ PySem.W.CodeHd h c T ∧ (∀ (s : Shared) (u : Value), BindsTo s fd ⟨[u], []⟩ [(x, u)]) ∧
        (∀ (H : Hp) (a : Addr) (zs : List Int), zs.length ≤ n → H T = some (.tbl #[]) → SqL (K w.params) H a (zs.map V.int) → sp [.ref a] H (fun v _ => v = .bl true) fun _ _ _ => False) ∧
        ∀ base : Heap, (K w.params).In base → base.Ns mainGlobals mg → TabB base mg c T → FnG l.prog w (K w.params) mg base k fa fd [x] sp) :
    PySem.W.WalkO q loose XP YP l.row.toRowW d [] (fun f vs => PySem.call f vs) := by
  apply Att.attach_callB most df
  intro w s0 s1 mg mb fa o pm cd doc a us zs G Y _ _ _ hmg at_ iz len _ ng
  have kx := inK w _ Y
  have own : OwnTab (K w.params) fa s1.heap := by
    intro c T o1 fd1 e dd vs1 sl k1 k2 k3 k4 k5
    obtain ⟨dL, hm, hq⟩ := List.any_eq_true.mp rec_
    obtain ⟨a2, o2, fd2, c2, T2, h1, h2, h3, h4, h5, h6⟩ := G.T.tab dL hm
    have hq2 : dL.name = d.name := beq_iff_eq.mp hq
    rw [hq2] at h1
    cases hmg.symm.trans h1
    cases (kx _ _ k1).symm.trans h2
    cases k2.symm.trans h3
    cases k3.symm.trans h4
    obtain ⟨⟨oc, vc, e1, _, e3, e4⟩, hP⟩ := h6
    cases (kx _ _ k4).symm.trans e1
    cases e3
    cases k5.symm.trans e4
    exact hP
  obtain ⟨fd, c, T, sp, t1, t2, t3, bd, spec, go⟩ := F w mg fa _ kx G.T.g hmg own
  exact callGT kx G.T.g G.T.b G.T.builtins G.T.nolimit ng t1 t2 t3 G.T.bmain at_ iz (Nat.le_trans len nz) room go bd fun H => spec H a zs len
end Fb
namespace Fb
open PySem L2 PySem.Spec PyProof.Rows LamX
/-- fng_of, the code object known -/
theorem fng_ofC {P : Program} {w : World} {K : PySem.W.Frag} {mg : Str → Option Value} {base : Heap} {x qual : Str} {st : Stmt} {f : Addr} {oc kV doc pm cdv ct : Value} {od an : Option Addr} {osl : Array (Option Value)} {N ps : List Str} {k : Nat} {sp : Sp}
    (at_ : K.lookup f = some ⟨oc, od, .func (PySem.W.fnOf x qual (defArgs st) (defBody st) (defScope st) .none kV doc pm an cdv ct), osl⟩) (code : PySem.W.codeIn K cdv qual = true) (S : FnScope N ps (defScope st)) (len : ∀ vs H R T, sp vs H R T → vs.length = ps.length)
    (go : ∀ (B : Around) (os : List Env) (s : Shared) (H : Hp) (vs : List V) (R : VK) (T : XK), Room k (B.deeper (envOfC qual (defScope st) s.heap.objs.size f cdv)) → B.guards = some [] → sp vs H R T →
      ∃ t, PSs (cxOf CX0 P w K mg base N qual (defScope st) f cdv B os s H T).nox (defBody st) t ∧ t { nx := fun _ H1 => R .non H1, rt := R } (L2.start N vs) H) : FnG P w K mg base (k + 1) f (PySem.W.fnOf x qual (defArgs st) (defBody st) (defScope st) .none kV doc pm an cdv ct) ps sp := by
  intro B os s H ar us vs R T room ng e0 bd rv hs
  have old : ∀ b o, base.get? b = some o → s.heap.get? b = some o := fun b o z => (e0.bs b o z).1
  have kin := e0.mod.kin.keeps old
  have vis : ∀ y ∈ ps.zip us, (defScope st).names.lookup y.1 = some .local ∨ ((defScope st).names.lookup y.1 = some .cell ∧ ((cellsFrom (s.heap.objs.size + 1) (defScope st).names []).lookup y.1).isSome = true) := by
    rintro ⟨nm, u⟩ hy
    exact (S.par nm (List.of_mem_zip hy).1).imp id fun q => ⟨q, PySem.W.cellsFrom_some _ _ _ (.inl q)⟩
  apply codeAny_call_function room.depth (kin _ _ at_) rfl S.co S.gen rfl (PySem.W.codeRec_of kin code)
  apply bd
  apply wpAny_newFunctionEnv_cells S.kind vis
  rintro env rfl s2 inc
  have lim := (e0.mod.nolimit.keeps old).keeps inc.toInCall.keep
  refine ⟨lim, codeAny_func ?_⟩
  obtain ⟨t, pt, ht⟩ := go B os s H vs R T (room.deeper _) ng hs
  have J := inv_start (CX := CX0) (E := T) S room.hd e0 (len _ _ _ _ hs) rv inc
  apply wpAny_mono (pt.nox.run [] s2 (L2.start N vs) H _ J ht)
  · intro fl s3 h3
    match fl, h3 with
    | .ret u, ⟨v, _, H3, J3, r3, q3⟩ => exact ⟨v, H3, J3.os, J3.bare, J3.base, J3.hok, r3, q3⟩
    | .next, ⟨_, H3, J3, q3⟩ => exact ⟨V.non, H3, J3.os, J3.bare, J3.base, J3.hok, rfl, q3⟩
    | .brk, ⟨_, _, _, q3⟩ => exact q3.elim
    | .cont, ⟨_, _, _, q3⟩ => exact q3.elim
  · intro _ _ z
    exact z
/-! ### all but tables and the tape's dict stays -/
theorem ExtN.td {H H' : Hp} (e : ExtN H H') : Td H H' := fun a xs h => by
  rcases h with h | ⟨o, h⟩
  · exact .inl (e _ _ h fun _ z => nomatch z)
  · exact .inr ⟨o, e _ _ h fun _ z => nomatch z⟩
theorem ExtN.sql {K : PySem.W.Frag} {H H' : Hp} {a : Addr} {xs : List V} (e : ExtN H H') (h : SqL K H a xs) : SqL K H' a xs := by
  rcases h with h | h
  · rcases h with h | ⟨o, h⟩
    · exact .inl (.inl (e _ _ h fun _ z => nomatch z))
    · exact .inl (.inr ⟨o, e _ _ h fun _ z => nomatch z⟩)
  · exact .inr h
theorem Tape.ext {K : PySem.W.Frag} {τ : Tp} {n : Nat} {H H' : Hp} (h : Tape K τ n H) (e : ExtN H H') : Tape K τ n H' := by
  obtain ⟨a, r, h1, h3⟩ := h
  exact ⟨a, r, ⟨e _ _ h1.d (fun _ z => nomatch z), ExtN.sql e h1.s⟩, h3⟩
theorem Tabs.nd {T : List (Addr × Str)} {H H' : Hp} (t : Tabs T H) (e : Nd H H') : Tabs T H' := fun p hp => by
  obtain ⟨ps, h1, h2, h3⟩ := t p hp
  refine ⟨ps, e.k _ _ h1 (fun _ z => nomatch z), h2, fun pos cv hc => ?_⟩
  obtain ⟨c, e1, e2⟩ := h3 pos cv hc
  exact ⟨c, e1, e.k _ _ e2 (fun _ z => nomatch z)⟩
end Fb
namespace Fb
open PySem L2 LamX
/-! ### all but dicts and tables stays -/
def Ld (H H' : Hp) : Prop := ∀ b o, H b = some o → (∀ kv, o ≠ .dK kv) → (∀ ps, o ≠ .tbl ps) → H' b = some o
theorem Ld.refl (H : Hp) : Ld H H := fun _ _ h _ _ => h
theorem Ld.trans {H H1 H2 : Hp} (a : Ld H H1) (b : Ld H1 H2) : Ld H H2 := fun x o h n m => b x o (a x o h n m) n m
theorem Ld.nd {H H' : Hp} (e : Nd H H') : Ld H H' := fun x o h n _ => e.k x o h n
theorem Ld.same {H H' : Hp} (e : Same H H') : Ld H H' := fun x o h _ _ => e x o h
theorem Ld.ext {H H' : Hp} (e : ExtN H H') : Ld H H' := fun x o h _ m => e x o h m
theorem Ld.lst {a : Addr} {H H' : Hp} {xs : List V} (e : Ld H H') (h : H a = some (.lst xs)) : H' a = some (.lst xs) := e _ _ h (fun _ z => nomatch z) fun _ z => nomatch z
theorem Ld.sql {K : PySem.W.Frag} {c : Addr} {H H' : Hp} {xs : List V} (e : Ld H H') (h : SqL K H c xs) : SqL K H' c xs := by
  rcases h with (h | ⟨o, h⟩) | h
  · exact .inl (.inl (e _ _ h (fun _ z => nomatch z) fun _ z => nomatch z))
  · exact .inl (.inr ⟨o, e _ _ h (fun _ z => nomatch z) fun _ z => nomatch z⟩)
  · exact .inr h
theorem Ld.sqt {K : PySem.W.Frag} {c : Addr} {H H' : Hp} {xs : List V} (e : Ld H H') (h : SqT K H c xs) : SqT K H' c xs := by
  rcases h with (h | ⟨o, h⟩) | h
  · exact .inl (.inl (e _ _ h (fun _ z => nomatch z) fun _ z => nomatch z))
  · exact .inl (.inr ⟨o, e _ _ h (fun _ z => nomatch z) fun _ z => nomatch z⟩)
  · exact .inr h
mutual
theorem Ld.dp {K : PySem.W.Frag} {H H' : Hp} (e : Ld H H') : ∀ (d : PyData) (v : V), Dp K H v d → Dp K H' v d
  | .none, _, h => by cases h; exact .non
  | .bool b, _, h => by cases h; exact .bl b
  | .int i, _, h => by cases h; exact .int i
  | .str x, _, h => by cases h; exact .str x
  | .list ds, _, h => by
    cases h with
    | lst hs ha => exact .lst (e.sql hs) (Ld.dps e ds _ ha)
  | .tuple ds, _, h => by
    cases h with
    | tup hs ha => exact .tup (e.sqt hs) (Ld.dps e ds _ ha)
  | .dict _, _, h => by cases h
theorem Ld.dps {K : PySem.W.Frag} {H H' : Hp} (e : Ld H H') : ∀ (ds : List PyData) (vs : List V), DpAll K H vs ds → DpAll K H' vs ds
  | [], _, h => by cases h; exact .nil
  | d :: ds, _, h => by
    cases h with
    | cons h1 h2 => exact .cons (Ld.dp e d _ h1) (Ld.dps e ds _ h2)
end
theorem Ld.d {K : PySem.W.Frag} {H H' : Hp} {d : PyData} {v : V} (e : Ld H H') (h : Dp K H v d) : Dp K H' v d := Ld.dp e d v h
theorem Ld.ds {K : PySem.W.Frag} {H H' : Hp} {ds : List PyData} {vs : List V} (e : Ld H H') (h : DpAll K H vs ds) : DpAll K H' vs ds := Ld.dps e ds vs h
end Fb
namespace Fb
open PySem L2 NdefX LamX
abbrev S__law_told : Stmt := top 78
abbrev N__law_told : List Str := ["_law_call", "_law_found", "e"]
abbrev P__law_told : List Str := ["_law_call"]
theorem sc__law_told : FnScope N__law_told P__law_told (defScope S__law_told) := ⟨rfl, rfl, rfl, by decide +kernel, rfl, by decide +kernel, by decide +kernel⟩
/-- what is told of a call: the form, or the error's fields -/
def TTold (_ : PySem.W.Frag) (C : Addr) : (XK → Hp → VK → Prop) → Hp → VK → Prop := fun tl H Q => ∀ Q' : VK, (∀ v H', (∀ t, H' t = none → Q (.ref t) (upd H' t (.tup [.str "form", v]))) → Q' v H') →
  tl (fun cls d H' => cls = .ref C ∧ ∃ (dd : Addr) (p l : V), d = some dd ∧ H' dd = some (.xd [("levels", l), ("parts", p)]) ∧ ∀ t, H' t = none → Q (.ref t) (upd H' t (.tup [.str "TooLarge", p, l]))) H Q'
theorem takes_len {X : Cx} {W : WX} (t : Takes X W) : Takes X (fun c d σ H => σ.length = X.N.length → W c d σ H) := fun u s' ⟨a, B, sI, pins, σ, H, cls, d, e, I, nb, up, sky, na, os, ag, w⟩ =>
  t u s' ⟨a, B, sI, pins, σ, H, cls, d, e, I, nb, up, sky, na, os, ag, w I.len⟩
theorem told_gives {X : Cx} {q : Str} {g C : Addr} {cdg : Value} (T : Err X.prog X.w X.K X.mg X.base "TooLarge" C ["parts", "levels"] twoW) (noP : PySem.W.findIn X.K (.ref C) "parts" = some none) (noL : PySem.W.findIn X.K (.ref C) "levels" = some none) :
    GivesTo X N__law_told "_law_told" (defScope S__law_told) g cdg (defBody S__law_told) "_law_call" q (TTold X.K C) := by
  intro f c' s H Q tl act hc h
  have nd := sc__law_told.nd
  refine ⟨_, pss_cons (ps_try_as (X := (cxOf C8.CX0 X.prog X.w X.K X.mg X.base N__law_told "_law_told" (defScope S__law_told) g cdg X.A X.stack s H C8.E0).nox) (i := 2) (c := .ref C)
      (tb := fun W D σ H => ∃ Ech : XK, (∀ cls d σ' H', Ech cls d H' → σ'.length = 3 → W cls d σ' H') ∧ σ[0]? = some (some (.ref f)) ∧ H c' = some (CodeO c' q) ∧ tl Ech H (fun v H' => 2 ≤ sizeLine ∧ ∀ t, H' t = none → D.nx (σ.set 1 (some (.ref t))) (upd H' t (.tup [.str "form", v]))))
      rfl rfl nd rfl rfl ⟨rfl, by decide, .inl T.gC⟩ LamX.takes0
      (fun W pn xe tk _ => ?_)
      (fun a oe cls d pn hz hf => pss_one (ps_set (i := 1) nd rfl (Or.inl rfl) (pe_tup (pa_cons pe_str (pa_cons (pe_xf T.xf noP hz hf (pv 2)) (pa_cons (pe_xf T.xf noL hz hf (pv 2)) pa_nil))))))) (pss_one (ps_ret (pv 1))), ?_⟩
  · refine ⟨fun pins s' σ H' D I h' => ?_⟩
    obtain ⟨Ech, hW, h1, h2, h3⟩ := h'
    exact (pss_one (ps_set (i := 1) nd rfl (Or.inl rfl) (pe_tup (pa_cons pe_str (pa_cons (act _ pn xe Ech _ _ (takes_len tk) hW) pa_nil))))).run pins s' σ H' D I ⟨h1, h2, h3⟩
  · refine ⟨fun cls d H' => cls = .ref C ∧ ∃ (dd : Addr) (p l : V), d = some dd ∧ H' dd = some (.xd [("levels", l), ("parts", p)]) ∧ ∀ t, H' t = none → Q (.ref t) (upd H' t (.tup [.str "TooLarge", p, l])), fun cls d σ' H' h' hl => ?_, rfl, hc, ?_⟩
    · obtain ⟨rfl, dd, p, l, rfl, hd, k⟩ := h'
      obtain ⟨x0, x1, x2, rfl⟩ : ∃ x0 x1 x2, σ' = [x0, x1, x2] := by
        match σ', hl with
        | [a, b, c], _ => exact ⟨a, b, c, rfl⟩
      refine ⟨true, T.te, fun _ x hx => ?_, fun q => nomatch q⟩
      exact ⟨_, rfl, rfl, rfl, _, _, _, rfl, hd, rfl, _, rfl, rfl, rfl, _, _, _, rfl, hd, rfl, (by show 3 ≤ sizeLine; decide), fun t nt => ⟨_, rfl, k t nt⟩⟩
    · exact h _ fun v H' k => ⟨by decide, fun t nt => ⟨_, rfl, k t nt⟩⟩
section
variable {P : Program} {w : World} {K : PySem.W.Frag} {mg : Str → Option Value} {base : Heap} {f : Addr} {fd : FuncData}
/-- the def that is told -/
structure Told (K : PySem.W.Frag) (mg : Str → Option Value) : Prop where
  ex : ∃ (g : Addr) (oc kV doc pm cdv ct : Value) (od an : Option Addr) (osl : Array (Option Value)), mg "_law_told" = some (.ref g) ∧ PySem.W.keepIn K (.ref g) = true ∧ K.lookup g = some ⟨oc, od, .func (PySem.W.fnOf "_law_told" "_law_told" (defArgs S__law_told) (defBody S__law_told) (defScope S__law_told) .none kV doc pm an cdv ct), osl⟩ ∧ PySem.W.codeIn K cdv "_law_told" = true ∧
    L2.Binds K (PySem.W.fnOf "_law_told" "_law_told" (defArgs S__law_told) (defBody S__law_told) (defScope S__law_told) .none kV doc pm an cdv ct) ["_law_call"] []
/-- a call of a lambda, told -/
theorem pe_told {X : Cx} {T : List (Addr × Str)} {c TA C : Addr} {k : Nat} {params : Arguments} {body : Expr} {scope : Scope} {t : XK → TE} {p lpos pos : Pos} (hg : Gl X "_law_told") (D : Told X.K X.mg) (E : Err X.prog X.w X.K X.mg X.base "TooLarge" C ["parts", "levels"] twoW) (noP : PySem.W.findIn X.K (.ref C) "parts" = some none) (noL : PySem.W.findIn X.K (.ref C) "levels" = some none)
    (TB : TabB X.base X.mg c TA) (hcode : X.env.code = .ref c) (hT : T = [(TA, X.env.qual ++ "<lambda>")]) (hr : Room (k + 2) X.A) (L : LamS X.env.scope scope) (hdef : defaultsOf params X.env = ([], []))
    (hbind : ∀ (q : Str) (cl : List (Str × Addr)) (pm cv ctv : Value), bindArgs (PySem.W.kla_fn "<lambda>" q params body scope cl pm cv ctv) ⟨[], []⟩ = pure [])
    (hbody : ∀ (A : Around) (outer : List Env) (s : Shared) (H : Hp) (E : XK) (f c' : Addr), Room k (A.deeper (lamEnv X scope s.heap.objs.size f c')) → PE (lamCx X A outer s H E scope f c') body (t E)) :
    PE X (.Call (.Name "_law_told" p) [.Lambda params body scope lpos] [] pos) (tLam T (TTold X.K C) t) := by
  obtain ⟨g, oc, kV, doc, pm, cdv, ct, od, an, osl, m, kp, lk, code, bd⟩ := D.ex
  subst hT
  exact pe_lamcall hg m kp lk code bd sc__law_told rfl (by first | exact .inl rfl | exact rfl | decide) (told_gives E noP noL) TB hcode (by simp) (fun p hp _ => by simp at hp; rw [hp]) hr L hdef hbind hbody
end
end Fb
namespace Fb
open PySem L2
/-! ### what the size of a form says of its integer -/
theorem szq_one (n : Nat) (d : PyData) : 1 ≤ sz n d := by
  induction n generalizing d with
  | zero => cases d <;> exact Int.le_refl 1
  | succ n ih =>
    cases d with
    | tuple ds =>
      have e : sz (n + 1) (.tuple ds) = 1 + (ds.map (sz n)).sum := rfl
      rw [e]
      have : ∀ l : List PyData, 0 ≤ (l.map (sz n)).sum := fun l => by
        induction l with
        | nil => exact Int.le_refl 0
        | cons d l ihl =>
          have := ih d
          rw [List.map_cons, List.sum_cons]
          omega
      have := this ds
      omega
    | _ => exact Int.le_refl 1
theorem sum_szs (n : Nat) : ∀ ds : List PyData, (ds.length : Int) ≤ (ds.map (sz n)).sum ∧ ∀ d ∈ ds, sz n d ≤ (ds.map (sz n)).sum
  | [] => ⟨Int.le_refl 0, fun d h => nomatch h⟩
  | a :: ds => by
    obtain ⟨k1, k2⟩ := sum_szs n ds
    have o := szq_one n a
    rw [List.map_cons, List.sum_cons, List.length_cons]
    refine ⟨by omega, fun d h => ?_⟩
    rcases List.mem_cons.mp h with rfl | h
    · omega
    · have := k2 d h; omega
theorem maxI_nn : ∀ {l : List Int}, (∀ x ∈ l, 0 ≤ x) → 0 ≤ maxI l
  | [], _ => Int.le_refl 0
  | x :: xs, h => by
    have := h x List.mem_cons_self
    show 0 ≤ max x (maxI xs)
    omega
theorem fit_uu {L : Nat} (hL : L ≤ 8500) : ∀ (n m : Nat) {z : Int}, UU L n z → sz n (gU n z) ≤ 2000 → ht n (gU n z) ≤ m → UU 1999 m z
  | 0, m, z, h, _, _ => uu_plain (by decide) h
  | n + 1, m, z, h, h1, h2 => by
    rcases num_cases (ordU hL n) (uu_num hL h) with ⟨pl, e, _⟩ | ⟨_, e, _⟩
    · exact uu_plain (by decide) pl
    · have e : gU (n + 1) z = .tuple ((Tl z).map (gU n)) := e
      rw [e] at h1 h2
      have s1 : sz (n + 1) (.tuple ((Tl z).map (gU n))) = 1 + (((Tl z).map (gU n)).map (sz n)).sum := rfl
      have s2 : ht (n + 1) (.tuple ((Tl z).map (gU n))) = 1 + maxI (((Tl z).map (gU n)).map (ht n)) := rfl
      rw [s1] at h1
      rw [s2] at h2
      obtain ⟨k1, k2⟩ := sum_szs n ((Tl z).map (gU n))
      rw [List.length_map] at k1
      have nn := maxI_nn (l := ((Tl z).map (gU n)).map (ht n)) fun x hx => by
        obtain ⟨y, _, rfl⟩ := List.mem_map.mp hx
        exact ht_nonneg n y
      cases m with
      | zero => omega
      | succ m =>
        refine ⟨by omega, fun t ht => ?_⟩
        have mt : gU n t ∈ (Tl z).map (gU n) := List.mem_map.mpr ⟨t, ht, rfl⟩
        have a := k2 _ mt
        have b := maxI_le (List.mem_map.mpr ⟨_, mt, rfl⟩ : Fb.ht n (gU n t) ∈ ((Tl z).map (gU n)).map (Fb.ht n))
        exact fit_uu hL n m (h.2 t ht) (by omega) (by omega)
/-! ### sums of few signed powers -/
theorem tl_pow2 {s : Int} (h : s = 1 ∨ s = -1) (k : Nat) : (Tl (s * 2 ^ k)).length ≤ 2 ∧ ∀ t ∈ Tl (s * 2 ^ k), t = k ∨ t = (k : Int) + 1 := by
  rw [tl_shl, List.length_map]
  have e1 : Tl 1 = [0, 1] := by decide +kernel
  have e2 : Tl (-1) = [0] := by decide +kernel
  rcases h with rfl | rfl
  · rw [e1]
    refine ⟨by decide, fun t ht => ?_⟩
    simp at ht
    omega
  · rw [e2]
    refine ⟨by decide, fun t ht => ?_⟩
    simp at ht
    omega
inductive SumOf (A : Int → Prop) : Nat → Int → Prop
  | nil : SumOf A 0 0
  | add {k : Nat} {x a s : Int} : SumOf A k x → A a → 0 ≤ a → (s = 1 ∨ s = -1) → SumOf A (k + 1) (x + s * 2 ^ a.toNat)
theorem SumOf.plus {A : Int → Prop} {k j : Nat} {x y : Int} (h : SumOf A k x) (g : SumOf A j y) : SumOf A (k + j) (x + y) := by
  induction g with
  | nil => rw [Int.add_zero]; exact h
  | add g ha h0 hs ih =>
    have := SumOf.add ih ha h0 hs
    rw [Int.add_assoc] at this
    exact this
theorem SumOf.neg {A : Int → Prop} {k : Nat} {x : Int} (h : SumOf A k x) : SumOf A k (-x) := by
  induction h with
  | nil => exact .nil
  | @add k x a s h ha h0 hs ih =>
    have := SumOf.add (s := -s) ih ha h0 (by omega)
    rw [Int.neg_add, ← Int.neg_mul]
    exact this
theorem SumOf.shl {A B : Int → Prop} {k : Nat} {x p : Int} (p0 : 0 ≤ p) (h : SumOf A k x) (f : ∀ a, A a → B (a + p)) : SumOf B k (x * 2 ^ p.toNat) := by
  induction h with
  | nil => rw [Int.zero_mul]; exact .nil
  | @add k x a s h ha h0 hs ih =>
    have := SumOf.add ih (f a ha) (by omega) hs
    rw [Int.add_mul, Int.mul_assoc, ← Int.pow_add, ← Int.toNat_add h0 p0]
    exact this
theorem SumOf.alt {A : Int → Prop} : ∀ (l : List Int) (s : Int), (s = 1 ∨ s = -1) → (∀ c ∈ l, A c ∧ 0 ≤ c) → SumOf A l.length (Fb.alt s (l.map Int.toNat))
  | [], _, _, _ => .nil
  | a :: l, s, hs, h => by
    have ih := SumOf.alt l (-s) (by omega) fun c hc => h c (List.mem_cons_of_mem _ hc)
    have k := h a List.mem_cons_self
    have := SumOf.add ih k.1 k.2 hs
    have e : Fb.alt s ((a :: l).map Int.toNat) = Fb.alt (-s) (l.map Int.toNat) + s * 2 ^ a.toNat := by
      show s * 2 ^ a.toNat + Fb.alt (-s) (l.map Int.toNat) = _
      omega
    rw [e]
    exact this
theorem SumOf.tl (z : Int) : SumOf (fun c => c ∈ Tl z) (Tl z).length z := by
  have := SumOf.alt (A := fun c => c ∈ Tl z) (Tl z) (-1) (.inr rfl) fun c hc => ⟨hc, tl_pos z c hc⟩
  have e : Fb.alt (-1) ((Tl z).map Int.toNat) = z := av_tl z
  rw [e] at this
  exact this
theorem SumOf.turns {A : Int → Prop} {k : Nat} {x : Int} (h : SumOf A k x) : (Tl x).length ≤ 6 * k ∧ ∀ t ∈ Tl x, (∃ a, A a ∧ 0 ≤ a ∧ a ≤ t ∧ t ≤ a + k + 1) ∨ t ≤ k := by
  induction h with
  | nil => rw [tl_zero]; exact ⟨Nat.le_refl 0, fun t ht => nomatch ht⟩
  | @add k x a s h ha h0 hs ih =>
    obtain ⟨l1, m1⟩ := tl_pow2 hs a.toNat
    obtain ⟨m, l⟩ := sum_turns x (s * 2 ^ a.toNat) (k := 0) (by decide)
    rw [show x + s * 2 ^ a.toNat + ((0 : Nat) : Int) = x + s * 2 ^ a.toNat by omega] at m l
    obtain ⟨i1, i2⟩ := ih
    refine ⟨?_, fun t ht => ?_⟩
    · have := Nat.min_le_right (Tl x).length (Tl (s * 2 ^ a.toNat)).length
      omega
    · have pw : ∀ u ∈ Tl (s * 2 ^ a.toNat), u = a ∨ u = a + 1 := fun u hu => by have := m1 u hu; omega
      rcases m t ht with c | c | c | c | c | c
      · rcases i2 t c with ⟨b, b1, b2, b3, b4⟩ | b
        · exact .inl ⟨b, b1, b2, b3, by omega⟩
        · exact .inr (by omega)
      · have := pw t c
        exact .inl ⟨a, ha, h0, by omega, by omega⟩
      · exact .inr (by omega)
      · exact .inr (by omega)
      · rcases i2 _ c with ⟨b, b1, b2, b3, b4⟩ | b
        · exact .inl ⟨b, b1, b2, by omega, by omega⟩
        · exact .inr (by omega)
      · have := pw _ c
        exact .inl ⟨a, ha, h0, by omega, by omega⟩
/-! ### one a little greater -/
theorem uu_few {L n : Nat} (hL : 66 ≤ L) {z j : Int} (h : UU L (n + 1) z) (j0 : 0 ≤ j) (j1 : j < 2 ^ 10) : UU (L + 24) (n + 2) (z + j) := by
  obtain ⟨m, l⟩ := sum_turns z j (k := 0) (by decide)
  rw [show z + j + ((0 : Nat) : Int) = z + j by omega] at m l
  have lj : (Tl j).length ≤ 11 := by
    unfold Tl
    rw [len_zs]
    exact turns_len (n := 10) (by omega) j1
  have pj : ∀ t ∈ Tl j, t ≤ 64 := tl_near.mp ⟨by omega, by omega⟩
  have h1 := h.1
  have mn := Nat.min_le_right (Tl z).length (Tl j).length
  refine ⟨by omega, fun t ht => ?_⟩
  have t0 := tl_pos _ t ht
  rcases m t ht with c | c | c | c | c | c
  · exact uu_up (by omega) (uu_wide (by omega) (h.2 t c))
  · exact uu_plain (by omega) ⟨by omega, by have := pj t c; omega⟩
  · exact uu_01 (by omega) (.inl c)
  · exact uu_01 (by omega) (.inr c)
  · have := uu_succ hL (h.2 _ c)
    rw [show t - 1 + 1 = t by omega] at this
    exact uu_wide (by omega) this
  · exact uu_plain (by omega) ⟨by omega, by have := pj _ c; omega⟩
/-! ### products of numbers with few pairs of turns -/
/-- a number as a form that is told -/
abbrev Nu (z : Int) : Prop := UU 1999 6 z
abbrev Pr (x y : Int) : Int → Prop := fun c => ∃ a ∈ Tl x, ∃ b ∈ Tl y, c = a + b
theorem pr_uu {x y : Int} (hx : Nu x) (hy : Nu y) {c j : Int} (h : Pr x y c) (j0 : 0 ≤ j) (j1 : j < 2 ^ 10) : UU 6023 7 (c + j) := by
  obtain ⟨a, ha, b, hb, rfl⟩ := h
  have e : a + b = a + b + ((0 : Nat) : Int) := by omega
  have s := uu_sum (L := 1999) (n := 4) (k := 0) (by decide) (by decide) (hx.2 a ha) (hy.2 b hb)
  rw [← e] at s
  exact uu_few (L := 5999) (n := 5) (by decide) s j0 j1
theorem pr_sum {x y : Int} (hx : Nu x) (hy : Nu y) {k : Nat} {z : Int} (k1 : k ≤ 128) (h : SumOf (Pr x y) k z) : UU 8500 8 z ∧ (Tl z).length ≤ 768 ∧ ∀ t ∈ Tl z, SU 8500 7 (t + 1) := by
  obtain ⟨l, m⟩ := h.turns
  have one : ∀ t ∈ Tl z, ∀ i : Int, 0 ≤ i → i ≤ 1 → UU 8500 7 (t + i) := fun t ht i i0 i1 => by
    have t0 := tl_pos z t ht
    rcases m t ht with ⟨a, a1, a2, a3, a4⟩ | c
    · have := pr_uu hx hy (j := t + i - a) a1 (by omega) (by omega)
      rw [show a + (t + i - a) = t + i by omega] at this
      exact uu_wide (by decide) this
    · exact uu_plain (by decide) ⟨by omega, by omega⟩
  refine ⟨⟨by omega, fun t ht => ?_⟩, by omega, fun t ht => ⟨by have := tl_pos z t ht; omega, one t ht 1 (by decide) (by decide)⟩⟩
  have := one t ht 0 (by decide) (by decide)
  rw [Int.add_zero] at this
  exact this
theorem pr_ok {x y : Int} (hx : Nu x) (hy : Nu y) {k j : Nat} {u v : Int} (kj : k + j ≤ 128) (hu : SumOf (Pr x y) k u) (hv : SumOf (Pr x y) j v) : SumOk (gU 7) (SU 8500 7) u v := by
  have a := pr_sum hx hy (by omega) hu
  have b := pr_sum hx hy (by omega) hv
  have c := pr_sum hx hy kj (hu.plus hv)
  exact ⟨uu_num (Nat.le_refl _) a.1, uu_num (Nat.le_refl _) b.1, a.2.2, b.2.2, by have := a.2.1; have := b.2.1; omega, uu_num (Nat.le_refl _) c.1⟩
theorem pow_near : ∀ n : Nat, 1 ≤ n → ∃ R, n ≤ 2 ^ R ∧ 2 ^ R ≤ 2 * n := fun n hn => by
  induction n with
  | zero => omega
  | succ n ih =>
    cases n with
    | zero => exact ⟨0, by decide, by decide⟩
    | succ n =>
      obtain ⟨R, h1, h2⟩ := ih (by omega)
      by_cases c : n + 1 + 1 ≤ 2 ^ R
      · exact ⟨R, c, by omega⟩
      · refine ⟨R + 1, ?_, ?_⟩
        · rw [Nat.pow_succ]; omega
        · rw [Nat.pow_succ]; omega
theorem sums_of {A : Int → Prop} {m : Nat} : ∀ l : List Int, (∀ z ∈ l, SumOf A m z) → SumOf A (l.length * m) l.sum
  | [], _ => by rw [List.length_nil, Nat.zero_mul]; exact .nil
  | z :: l, h => by
    have ih := sums_of l fun w hw => h w (List.mem_cons_of_mem _ hw)
    have := ih.plus (h z List.mem_cons_self)
    rw [List.length_cons, List.sum_cons, Nat.succ_mul, Int.add_comm]
    exact this
theorem part_of {few w : Int} {z : Int} (h : z ∈ partsL w (Tl few)) : SumOf (Pr few w) (Tl w).length z := by
  unfold partsL at h
  obtain ⟨k, hk, rfl⟩ := List.mem_map.mp h
  have hk := List.mem_range.mp hk
  have hg : (Tl few).getD k 0 = (Tl few)[k] := by rw [List.getD_eq_getElem?_getD, List.getElem?_eq_getElem hk]; rfl
  rw [hg]
  have mem : (Tl few)[k] ∈ Tl few := List.getElem_mem hk
  have p0 := tl_pos few _ mem
  generalize (Tl few)[k] = p at mem p0
  have base : SumOf (Pr few w) (Tl w).length (w * 2 ^ p.toNat) := SumOf.shl p0 (SumOf.tl w) fun a ha => ⟨p, mem, a, ha, by omega⟩
  split
  · exact base
  · rw [Int.neg_mul]
    exact base.neg
theorem uu_neg {z : Int} (h : Nu z) : UU 2002 7 (-z) := by
  have a := uu_not (L := 1999) (n := 5) (by decide) h
  have b := uu_succ (L := 2000) (by decide) a
  rw [show -z - 1 + 1 = -z by omega] at b
  exact b
theorem times_few {few w : Int} (hf : Nu few) (hw : Nu w) (le : (Tl few).length ≤ (Tl w).length) (h : (Tl few).length * (Tl w).length ≤ 60) : TimesOk 6 few w ∧ UU 8500 8 (w * few) := by
  rcases Nat.eq_zero_or_pos (Tl few).length with z | pos
  · have fz : few = 0 := by
      have e := av_tl few
      rw [List.length_eq_zero_iff.mp z] at e
      exact e.symm
    subst fz
    refine ⟨⟨uu_le (by decide) (by decide : 6 ≤ 8) (uu_wide (by decide) hw), uu_le (by decide) (by decide : 7 ≤ 8) (uu_wide (by decide) (uu_neg hw)), ⟨0, by rw [z]; decide, ⟨fun _ _ => False, ?_, fun r x y hr => absurd hr (Nat.not_lt_zero _), fun r x hr => absurd hr (Nat.not_lt_zero _)⟩⟩, ?_, by omega⟩, by rw [Int.mul_zero]; exact uu_plain (by decide) (by decide)⟩
    · rw [List.length_eq_zero_iff.mp z]
      intro y hy
      exact absurd hy (by simp [partsL])
    · rw [List.length_eq_zero_iff.mp z]
      intro y hy
      exact absurd hy (by simp [partsL])
  · have lw : (Tl w).length ≤ 60 := Nat.le_trans (by have := Nat.mul_le_mul_right (Tl w).length pos; omega) h
    obtain ⟨R, r1, r2⟩ := pow_near (Tl few).length pos
    have rb : 2 ^ R * (Tl w).length ≤ 120 := by
      have := Nat.mul_le_mul_right (Tl w).length r2
      rw [Nat.mul_assoc] at this
      omega
    have bd : ∀ r, r ≤ R → 2 ^ r * (Tl w).length ≤ 120 := fun r hr => Nat.le_trans (Nat.mul_le_mul_right _ (Nat.pow_le_pow_right (by decide) hr)) rb
    refine ⟨⟨uu_le (by decide) (by decide : 6 ≤ 8) (uu_wide (by decide) hw), uu_le (by decide) (by decide : 7 ≤ 8) (uu_wide (by decide) (uu_neg hw)), ⟨R, r1, ⟨fun r x => ∃ k, k ≤ 2 ^ r * (Tl w).length ∧ SumOf (Pr few w) k x, fun z hz => ⟨_, by rw [Nat.pow_zero, Nat.one_mul]; exact Nat.le_refl _, part_of hz⟩, fun r x y hr hx hy => ?_, fun r x hr hx => ?_⟩⟩, fun z hz => (pr_sum hf hw (by omega) (part_of hz)).1, by omega⟩, ?_⟩
    · obtain ⟨k, k1, k2⟩ := hx
      obtain ⟨j, j1, j2⟩ := hy
      have b := bd (r + 1) hr
      have e : 2 ^ (r + 1) * (Tl w).length = 2 ^ r * (Tl w).length + 2 ^ r * (Tl w).length := by rw [Nat.pow_succ, Nat.mul_assoc, Nat.mul_comm 2, ← Nat.mul_assoc]; omega
      exact ⟨⟨k + j, by omega, k2.plus j2⟩, pr_ok hf hw (by omega) k2 j2⟩
    · obtain ⟨k, k1, k2⟩ := hx
      exact ⟨k, Nat.le_trans k1 (Nat.mul_le_mul_right _ (Nat.pow_le_pow_right (by decide) (Nat.le_succ r))), k2⟩
    · have s := sums_of (partsL w (Tl few)) fun z hz => part_of hz
      rw [parts_len, parts_sum, av_tl] at s
      exact (pr_sum hf hw (by omega) s).1
theorem times_two {x y : Int} (hx : Nu x) (hy : Nu y) (h : (Tl x).length * (Tl y).length ≤ 60) : UU 8500 8 (x * y) ∧ (if (Tl x).length ≤ (Tl y).length then TimesOk 6 x y else TimesOk 6 y x) := by
  by_cases c : (Tl x).length ≤ (Tl y).length
  · have k := times_few hx hy c h
    rw [if_pos c]
    exact ⟨by rw [Int.mul_comm]; exact k.2, k.1⟩
  · have k := times_few hy hx (by omega) (by rw [Nat.mul_comm]; exact h)
    rw [if_neg c]
    exact ⟨k.2, k.1⟩
/-! ### the other results -/
theorem nodup_le : ∀ (l m : List Int), l.Nodup → (∀ x ∈ l, x ∈ m) → l.length ≤ m.length
  | [], _, _, _ => Nat.zero_le _
  | x :: l, m, h, s => by
    obtain ⟨h1, h2⟩ := List.nodup_cons.mp h
    have k := nodup_le l (m.erase x) h2 fun y hy => (List.mem_erase_of_ne (by rintro rfl; exact h1 hy)).mpr (s y (List.mem_cons_of_mem _ hy))
    rw [List.length_erase_of_mem (s x List.mem_cons_self)] at k
    have := List.length_pos_of_mem (s x List.mem_cons_self)
    rw [List.length_cons]
    omega
theorem sub_le {z x y : Int} (h : ∀ c ∈ Tl z, c = 0 ∨ c ∈ Tl x ∨ c ∈ Tl y) : (Tl z).length ≤ (Tl x).length + (Tl y).length + 1 := by
  have := nodup_le (Tl z) (0 :: (Tl x ++ Tl y)) ((tl_asc z).imp fun h => by omega) fun c hc => by
    rcases h c hc with rfl | h | h
    · exact List.mem_cons_self
    · exact List.mem_cons_of_mem _ (List.mem_append_left _ h)
    · exact List.mem_cons_of_mem _ (List.mem_append_right _ h)
  rw [List.length_cons, List.length_append] at this
  omega
theorem nu_and {L : Nat} (hL : 66 ≤ L) {x y : Int} (hx : UU L 6 x) (hy : UU L 6 y) : UU (2 * L + 1) 6 (Builtin.bitAnd x y) := by
  have h1 := hx.1
  have h2 := hy.1
  refine ⟨by have := sub_le (z := Builtin.bitAnd x y) (x := x) (y := y) fun c h => .inr (com_mem h); omega, fun t ht => ?_⟩
  rcases com_mem ht with h | h
  · exact uu_wide (by omega) (hx.2 t h)
  · exact uu_wide (by omega) (hy.2 t h)
theorem nu_xor {x y : Int} (hx : Nu x) (hy : Nu y) : UU 3999 6 (Builtin.bitXor x y) := by
  have h1 := hx.1
  have h2 := hy.1
  refine ⟨by have := tl_len_xor x y; omega, fun t ht => ?_⟩
  rcases xor_mem ht with h | h
  · exact uu_wide (by decide) (hx.2 t h)
  · exact uu_wide (by decide) (hy.2 t h)
theorem nu_or {x y : Int} (hx : Nu x) (hy : Nu y) : UU 4002 6 (Builtin.bitOr x y) := by
  rw [← or_eq]
  have a := nu_and (by decide) (uu_not (L := 1999) (n := 5) (by decide) hx) (uu_not (L := 1999) (n := 5) (by decide) hy)
  exact uu_not (L := 4001) (n := 5) (by decide) a
theorem nu_sum {x y : Int} (hx : Nu x) (hy : Nu y) : UU 5999 7 (x + y) := by
  have := uu_sum (L := 1999) (n := 5) (k := 0) (by decide) (by decide) hx hy
  rw [show x + y + ((0 : Nat) : Int) = x + y by omega] at this
  exact this
theorem nu_sub {x y : Int} (hx : Nu x) (hy : Nu y) : UU 6002 7 (x - y) := uu_sub (L := 1999) (n := 5) (by decide) hx hy
theorem nu_up {z : Int} (h : Nu z) {m : Nat} (hm : 6 ≤ m) : gU m z = gU 6 z := gU_le (by decide) (by decide) hm h
theorem nu_at {L n m : Nat} (h66 : 66 ≤ L) (hL : L ≤ 8500) (hn : n ≤ m) {z : Int} (h : UU L n z) : UU 8500 m z := uu_le (by decide) hn (uu_wide hL h)
end Fb
namespace Fb
open PySem L2 NdefX
/-! ### operations on forms, as they are called -/
abbrev Fit8 (z : Int) : Prop := Fits 8 (gU 8 z)
/-- the form of a result, or how it is refused -/
def Res (K : PySem.W.Frag) (C : Addr) (z : Int) (H : Hp) (Q : VK) (E : XK) : Prop :=
  (Fit8 z → ∀ (v' : V) (H' : Hp), Same H H' → Dp K H' v' (gU 8 z) → Q v' H') ∧
  (¬ Fit8 z → ∀ (H' : Hp) (a : Addr), Same H H' → H' a = none → E (.ref C) (some a) (upd H' a (.xd [("levels", .int (lv 8 (gU 8 z))), ("parts", .int (sz 8 (gU 8 z)))])))
theorem Res.from {K : PySem.W.Frag} {C : Addr} {z : Int} {H H1 : Hp} {Q : VK} {E : XK} (h : Res K C z H Q E) (e : Same H H1) : Res K C z H1 Q E :=
  ⟨fun f v' H' e' d => h.1 f v' H' (e.trans e') d, fun f H' a e' ha => h.2 f H' a (e.trans e') ha⟩
/-- all that is asked of a form that a call judges -/
theorem form8 {z : Int} (h : UU 8500 8 z) : Fm 8 (gU 8 z) ∧ Sp_ 8 (gU 8 z) ∧ ((sz 8 (gU 8 z)).natAbs < 10 ^ 40 ∧ (lv 8 (gU 8 z)).natAbs < 10 ^ 40) := by
  obtain ⟨hh, g⟩ := gU_gd (Nat.le_refl _) h
  exact ⟨g.fm, g.sp, sz_small g.fm (by decide)⟩
theorem fit_nu {z : Int} (h : UU 8500 8 z) (f : Fit8 z) : Nu z := by
  obtain ⟨_, sp, _⟩ := form8 h
  exact fit_uu (Nat.le_refl _) 8 6 h f.1 (by rw [← lv_ht 8 _ sp]; exact f.2)
theorem Has.mono {P : Program} {w : World} {K : PySem.W.Frag} {mg : Str → Option Value} {base : Heap} {x : Str} {ps : List Str} {dvs : List V} {j k : Nat} {sp : Sp} (C : Has P w K mg base j x ps dvs sp) (h : j ≤ k) : Has P w K mg base k x ps dvs sp := by
  obtain ⟨f, fd, ds, F, r⟩ := C.ex
  exact ⟨f, fd, ds, F.mono h, r⟩
section
variable {P : Program} {w : World} {K : PySem.W.Frag} {mg : Str → Option Value} {base : Heap} {f : Addr} {fd : FuncData}
def spOp (K : PySem.W.Frag) (C : Addr) (r : Int → Int → Int) : Sp := fun vs H Q E => ∃ (v u : V) (x y : Int), vs = [v, u] ∧ Dp K H v (gU 8 x) ∧ Dp K H u (gU 8 y) ∧ Nu x ∧ Nu y ∧ Res K C (r x y) H Q E
/-- the raw sum or difference, for numbers of forms -/
theorem nu_raw {x y z : Int} (hx : Nu x) (hy : Nu y) (hz : UU 8500 8 z) : Num (gU 7) (SU 8500 7) x ∧ Num (gU 7) (SU 8500 7) y ∧ (∀ t ∈ Tl x, SU 8500 7 (t + 1)) ∧ (∀ t ∈ Tl y, SU 8500 7 (t + 1)) ∧ (Tl x).length + (Tl y).length ≤ 3998 ∧ Num (gU 7) (SU 8500 7) z := by
  have one : ∀ x : Int, Nu x → ∀ t ∈ Tl x, SU 8500 7 (t + 1) := fun x hx t ht => ⟨by have := tl_pos x t ht; omega, uu_le (by decide) (by decide : 6 ≤ 7) (uu_wide (by decide) (uu_succ (L := 1999) (by decide) (hx.2 t ht)))⟩
  exact ⟨uu_num (Nat.le_refl _) (nu_at (by decide) (by decide) (by decide : 6 ≤ 8) hx), uu_num (Nat.le_refl _) (nu_at (by decide) (by decide) (by decide : 6 ≤ 8) hy), one x hx, one y hy, by have := hx.1; have := hy.1; omega, uu_num (Nat.le_refl _) hz⟩
abbrev S_add : Stmt := top 64
abbrev N_add : List Str := ["x", "y"]
abbrev P_add : List Str := ["x", "y"]
theorem sc_add : FnScope N_add P_add (defScope S_add) := ⟨rfl, rfl, rfl, by decide +kernel, rfl, by decide +kernel, by decide +kernel⟩
theorem ok_add8 {k : Nat} {C : Addr} (k11 : 11 ≤ k) (F : Fun K "add" "add" S_add f fd) (Cjudged : HasX P w K mg base 11 "judged" P_judged (spJudgedX K 8 C)) (Cplus : Has P w K mg base k "plus" P_plus [] (spSum K (gU 7) (SU 8500 7) fun x y => x + y)) :
    FnOk P w K mg base (L2.CX P w) (k + 1) f fd P_add (spOp K C fun x y => x + y) := by
  have nd := sc_add.nd
  refine F.okX sc_add (fun vs H Q E h => ?_) (fun cdv A outer s H vs Q E hr h => ?_)
  · obtain ⟨v, u, x, y, rfl, _⟩ := h
    rfl
  obtain ⟨v, u, x, y, rfl, hd, hu, hx, hy, q⟩ := h
  refine ⟨_, (pss_one (ps_ret (pe_HX Cjudged (takes_of rfl rfl rfl rfl) (hr.mono (by omega)) rfl (pa_cons (pe_H Cplus (hr.mono (by omega)) rfl (pa_cons (pv 0) (pa_cons (pv 1) pa_nil))) pa_nil)))), ?_⟩
  have uz := nu_at (by decide) (by decide) (by decide : 7 ≤ 8) (nu_sum hx hy)
  obtain ⟨n1, n2, n3, n4, n5, n6⟩ := nu_raw hx hy uz
  obtain ⟨f1, f2, f3⟩ := form8 uz
  refine ⟨_, rfl, _, rfl, v, u, x, y, rfl, hd, hu, n1, n2, n3, n4, by omega, (by show _ ≤ 8000; omega), n6, fun v' H1 e1 d1 => ?_⟩
  exact ⟨v', _, rfl, d1, f1, f2, f3, fun ok H2 e2 => q.1 ok v' H2 (e1.trans e2) ((Nd.of e2).d d1), fun no H2 a e2 ha => q.2 no H2 a (e1.trans e2) ha⟩
abbrev S_subtract : Stmt := top 65
abbrev N_subtract : List Str := ["x", "y"]
abbrev P_subtract : List Str := ["x", "y"]
theorem sc_subtract : FnScope N_subtract P_subtract (defScope S_subtract) := ⟨rfl, rfl, rfl, by decide +kernel, rfl, by decide +kernel, by decide +kernel⟩
theorem ok_subtract8 {k : Nat} {C : Addr} (k11 : 11 ≤ k) (F : Fun K "subtract" "subtract" S_subtract f fd) (Cjudged : HasX P w K mg base 11 "judged" P_judged (spJudgedX K 8 C)) (Cminus : Has P w K mg base k "minus" P_minus [] (spSum K (gU 7) (SU 8500 7) fun x y => x - y)) :
    FnOk P w K mg base (L2.CX P w) (k + 1) f fd P_subtract (spOp K C fun x y => x - y) := by
  have nd := sc_subtract.nd
  refine F.okX sc_subtract (fun vs H Q E h => ?_) (fun cdv A outer s H vs Q E hr h => ?_)
  · obtain ⟨v, u, x, y, rfl, _⟩ := h
    rfl
  obtain ⟨v, u, x, y, rfl, hd, hu, hx, hy, q⟩ := h
  refine ⟨_, (pss_one (ps_ret (pe_HX Cjudged (takes_of rfl rfl rfl rfl) (hr.mono (by omega)) rfl (pa_cons (pe_H Cminus (hr.mono (by omega)) rfl (pa_cons (pv 0) (pa_cons (pv 1) pa_nil))) pa_nil)))), ?_⟩
  have uz := nu_at (by decide) (by decide) (by decide : 7 ≤ 8) (nu_sub hx hy)
  obtain ⟨n1, n2, n3, n4, n5, n6⟩ := nu_raw hx hy uz
  obtain ⟨f1, f2, f3⟩ := form8 uz
  refine ⟨_, rfl, _, rfl, v, u, x, y, rfl, hd, hu, n1, n2, n3, n4, by omega, (by show _ ≤ 8000; omega), n6, fun v' H1 e1 d1 => ?_⟩
  exact ⟨v', _, rfl, d1, f1, f2, f3, fun ok H2 e2 => q.1 ok v' H2 (e1.trans e2) ((Nd.of e2).d d1), fun no H2 a e2 ha => q.2 no H2 a (e1.trans e2) ha⟩
abbrev S_bit_and : Stmt := top 66
abbrev N_bit_and : List Str := ["x", "y"]
abbrev P_bit_and : List Str := ["x", "y"]
theorem sc_bit_and : FnScope N_bit_and P_bit_and (defScope S_bit_and) := ⟨rfl, rfl, rfl, by decide +kernel, rfl, by decide +kernel, by decide +kernel⟩
theorem ok_bit_and8 {k : Nat} {C : Addr} (k11 : 11 ≤ k) (F : Fun K "bit_and" "bit_and" S_bit_and f fd) (Cjudged : HasX P w K mg base 11 "judged" P_judged (spJudgedX K 8 C)) (Cboth : Has P w K mg base k "both" P_both [] (spNumA K (gU 7) (SU 8500 7) Builtin.bitAnd)) :
    FnOk P w K mg base (L2.CX P w) (k + 1) f fd P_bit_and (spOp K C Builtin.bitAnd) := by
  have nd := sc_bit_and.nd
  refine F.okX sc_bit_and (fun vs H Q E h => ?_) (fun cdv A outer s H vs Q E hr h => ?_)
  · obtain ⟨v, u, x, y, rfl, _⟩ := h
    rfl
  obtain ⟨v, u, x, y, rfl, hd, hu, hx, hy, q⟩ := h
  refine ⟨_, (pss_one (ps_ret (pe_HX Cjudged (takes_of rfl rfl rfl rfl) (hr.mono (by omega)) rfl (pa_cons (pe_H Cboth (hr.mono (by omega)) rfl (pa_cons (pv 0) (pa_cons (pv 1) pa_nil))) pa_nil)))), ?_⟩
  have uz := nu_at (by decide) (by decide) (by decide : 6 ≤ 8) (nu_and (by decide) hx hy)
  obtain ⟨n1, n2, n3, n4, n5, n6⟩ := nu_raw hx hy uz
  obtain ⟨f1, f2, f3⟩ := form8 uz
  refine ⟨_, rfl, _, rfl, v, u, x, y, rfl, hd, hu, n1, n2, (by show _ ≤ 4000; omega), n6, fun v' H1 e1 d1 => ?_⟩
  exact ⟨v', _, rfl, d1, f1, f2, f3, fun ok H2 e2 => q.1 ok v' H2 (e1.trans e2) ((Nd.of e2).d d1), fun no H2 a e2 ha => q.2 no H2 a (e1.trans e2) ha⟩
abbrev S_bit_or : Stmt := top 67
abbrev N_bit_or : List Str := ["x", "y"]
abbrev P_bit_or : List Str := ["x", "y"]
theorem sc_bit_or : FnScope N_bit_or P_bit_or (defScope S_bit_or) := ⟨rfl, rfl, rfl, by decide +kernel, rfl, by decide +kernel, by decide +kernel⟩
theorem ok_bit_or8 {k : Nat} {C : Addr} (k11 : 11 ≤ k) (F : Fun K "bit_or" "bit_or" S_bit_or f fd) (Cjudged : HasX P w K mg base 11 "judged" P_judged (spJudgedX K 8 C)) (Ceither : Has P w K mg base k "either" P_either [] (spOr K (gU 7) (SU 8500 7))) :
    FnOk P w K mg base (L2.CX P w) (k + 1) f fd P_bit_or (spOp K C Builtin.bitOr) := by
  have nd := sc_bit_or.nd
  refine F.okX sc_bit_or (fun vs H Q E h => ?_) (fun cdv A outer s H vs Q E hr h => ?_)
  · obtain ⟨v, u, x, y, rfl, _⟩ := h
    rfl
  obtain ⟨v, u, x, y, rfl, hd, hu, hx, hy, q⟩ := h
  refine ⟨_, (pss_one (ps_ret (pe_HX Cjudged (takes_of rfl rfl rfl rfl) (hr.mono (by omega)) rfl (pa_cons (pe_H Ceither (hr.mono (by omega)) rfl (pa_cons (pv 0) (pa_cons (pv 1) pa_nil))) pa_nil)))), ?_⟩
  have uz := nu_at (by decide) (by decide) (by decide : 6 ≤ 8) (nu_or hx hy)
  have a1 := uu_not (L := 1999) (n := 5) (by decide) hx
  have a2 := uu_not (L := 1999) (n := 5) (by decide) hy
  have a3 := nu_and (by decide) a1 a2
  have l1 := a1.1
  have l2 := a2.1
  obtain ⟨n1, n2, n3, n4, n5, n6⟩ := nu_raw hx hy uz
  obtain ⟨f1, f2, f3⟩ := form8 uz
  refine ⟨_, rfl, _, rfl, v, u, x, y, rfl, hd, hu, n1, n2, uu_num (Nat.le_refl _) (nu_at (by decide) (by decide) (by decide : 6 ≤ 8) a1), uu_num (Nat.le_refl _) (nu_at (by decide) (by decide) (by decide : 6 ≤ 8) a2), (by show _ ≤ 4000; omega), uu_num (Nat.le_refl _) (nu_at (by decide) (by decide) (by decide : 6 ≤ 8) a3), n6, fun v' H1 e1 d1 => ?_⟩
  exact ⟨v', _, rfl, d1, f1, f2, f3, fun ok H2 e2 => q.1 ok v' H2 (e1.trans e2) ((Nd.of e2).d d1), fun no H2 a e2 ha => q.2 no H2 a (e1.trans e2) ha⟩
abbrev S_bit_xor : Stmt := top 68
abbrev N_bit_xor : List Str := ["x", "y"]
abbrev P_bit_xor : List Str := ["x", "y"]
theorem sc_bit_xor : FnScope N_bit_xor P_bit_xor (defScope S_bit_xor) := ⟨rfl, rfl, rfl, by decide +kernel, rfl, by decide +kernel, by decide +kernel⟩
theorem ok_bit_xor8 {k : Nat} {C : Addr} (k11 : 11 ≤ k) (F : Fun K "bit_xor" "bit_xor" S_bit_xor f fd) (Cjudged : HasX P w K mg base 11 "judged" P_judged (spJudgedX K 8 C)) (Cdiffer : Has P w K mg base k "differ" P_differ [] (spNum2 K (gU 7) (SU 8500 7) Builtin.bitXor)) :
    FnOk P w K mg base (L2.CX P w) (k + 1) f fd P_bit_xor (spOp K C Builtin.bitXor) := by
  have nd := sc_bit_xor.nd
  refine F.okX sc_bit_xor (fun vs H Q E h => ?_) (fun cdv A outer s H vs Q E hr h => ?_)
  · obtain ⟨v, u, x, y, rfl, _⟩ := h
    rfl
  obtain ⟨v, u, x, y, rfl, hd, hu, hx, hy, q⟩ := h
  refine ⟨_, (pss_one (ps_ret (pe_HX Cjudged (takes_of rfl rfl rfl rfl) (hr.mono (by omega)) rfl (pa_cons (pe_H Cdiffer (hr.mono (by omega)) rfl (pa_cons (pv 0) (pa_cons (pv 1) pa_nil))) pa_nil)))), ?_⟩
  have uz := nu_at (by decide) (by decide) (by decide : 6 ≤ 8) (nu_xor hx hy)
  obtain ⟨n1, n2, n3, n4, n5, n6⟩ := nu_raw hx hy uz
  obtain ⟨f1, f2, f3⟩ := form8 uz
  refine ⟨_, rfl, _, rfl, v, u, x, y, rfl, hd, hu, n1, n2, (by show _ ≤ 8000; omega), n6, fun v' H1 e1 d1 => ?_⟩
  exact ⟨v', _, rfl, d1, f1, f2, f3, fun ok H2 e2 => q.1 ok v' H2 (e1.trans e2) ((Nd.of e2).d d1), fun no H2 a e2 ha => q.2 no H2 a (e1.trans e2) ha⟩
/-- products of few pairs of turns -/
def spMul8 (K : PySem.W.Frag) (C : Addr) : Sp := fun vs H Q E => ∃ (v u : V) (x y : Int), vs = [v, u] ∧ Dp K H v (gU 8 x) ∧ Dp K H u (gU 8 y) ∧ Nu x ∧ Nu y ∧ (Tl x).length * (Tl y).length ≤ 60 ∧ Res K C (x * y) H Q E
theorem mul8 {C CT : Addr} : ∀ vs H Q E, spMul8 K C vs H Q E → spMulX K C CT 6 8 vs H Q E := fun vs H Q E h => by
  obtain ⟨v, u, x, y, rfl, hd, hu, hx, hy, l, q⟩ := h
  obtain ⟨uz, tok⟩ := times_two hx hy l
  obtain ⟨f1, f2, f3⟩ := form8 uz
  exact ⟨v, u, x, y, rfl, hd, hu, uu_le (by decide) (by decide : 6 ≤ 8) (uu_wide (by decide) hx), uu_le (by decide) (by decide : 6 ≤ 8) (uu_wide (by decide) hy), .inr ⟨.inl (by omega), uz, fun _ => tok, _, rfl, f1, f2, f3, q.1, q.2⟩⟩
/-- shifts to the left -/
def spShl8 (K : PySem.W.Frag) (C : Addr) : Sp := fun vs H Q E => ∃ (v u : V) (x y : Int), vs = [v, u] ∧ Dp K H v (gU 8 x) ∧ Dp K H u (gU 8 y) ∧ Nu x ∧ UU 1999 5 y ∧ 0 ≤ y ∧ Res K C (x * 2 ^ y.toNat) H Q E
theorem shl8 {C CN : Addr} : ∀ vs H Q E, spShl8 K C vs H Q E → spShx K C CN 5 2003 8 (fun x s => x * 2 ^ s.toNat) vs H Q E := fun vs H Q E h => by
  obtain ⟨v, u, x, y, rfl, hd, hu, hx, hy, y0, q⟩ := h
  have uz : UU 8500 8 (x * 2 ^ y.toNat) := nu_at (by decide) (by decide) (by decide : 7 ≤ 8) (uu_shl (L := 1999) (n := 4) (by decide) hx hy y0)
  obtain ⟨f1, f2, f3⟩ := form8 uz
  have hy6 : Nu y := uu_le (by decide) (by decide : 5 ≤ 6) hy
  have ex : gU 8 x = gU 7 x := (nu_up hx (m := 8) (by decide)).trans (nu_up hx (m := 7) (by decide)).symm
  have ey : gU 8 y = gU 6 y := nu_up hy6 (by decide)
  rw [ex] at hd
  rw [ey] at hu
  have ny : Num (gU 5) (SU 8500 5) y := uu_num (Nat.le_refl _) (uu_le (by decide) (by decide : 5 ≤ 6) (uu_wide (by decide) hy))
  have en : negD (gU 6 y) = false := by
    have e : negD (numD (gU 5) y) = decide (y < 0) := num_negD (oU 5) ny
    have e2 : negD (gU 6 y) = decide (y < 0) := e
    rw [e2]
    exact decide_eq_false (by omega)
  have kn : (isI (gU 6 y) = true ∨ isT (gU 6 y) = true) ∧ ∀ b, gU 6 y ≠ .bool b := by
    rcases num_cases (oU 5) ny with ⟨_, e, _⟩ | ⟨_, e, _⟩
    · have e : gU 6 y = .int y := e
      rw [e]
      exact ⟨.inl rfl, fun b h => nomatch h⟩
    · have e : gU 6 y = .tuple ((Tl y).map (gU 5)) := e
      rw [e]
      exact ⟨.inr rfl, fun b h => nomatch h⟩
  exact ⟨v, u, gU 6 y, rfl, hu, kn.1, kn.2, .inr ⟨en, x, y, _, rfl, hd, uu_le (by decide) (by decide : 6 ≤ 7) (uu_wide (by decide) hx), uu_le (by decide) (by decide : 5 ≤ 6) (uu_wide (by decide) hy), y0, rfl, f1, f2, f3, q.1, q.2⟩⟩
theorem HasX.weak {x : Str} {ps : List Str} {k : Nat} {sp sp' : Sp} (C : HasX P w K mg base k x ps sp) (h : ∀ vs H Q E, sp' vs H Q E → sp vs H Q E) : HasX P w K mg base k x ps sp' := by
  obtain ⟨f, fd, F, r⟩ := C.ex
  exact ⟨f, fd, ⟨fun a b c d h' => F.1 a b c d (h _ _ _ _ h'), fun a1 a2 a3 a4 a5 a6 a7 a8 a9 b1 b2 b3 b4 h' => F.2 a1 a2 a3 a4 a5 a6 a7 a8 a9 b1 b2 b3 b4 (h _ _ _ _ h')⟩, r⟩
end
end Fb
namespace Fb
open PySem L2
/-! ### places of nested turns -/
/-- turns of such a place, all of them at least 200 -/
structure Row (n : Nat) (l : List Int) : Prop where
  asc : l.Pairwise (· < ·)
  lo : ∀ t ∈ l, 200 ≤ t
  uu : ∀ t ∈ l, UU 66 n t
  len : l.length = 2 ∨ l.length = 4
theorem Row.up {n : Nat} {l : List Int} (r : Row n l) : Row (n + 1) l := ⟨r.asc, r.lo, fun t ht => uu_up (Nat.le_refl _) (r.uu t ht), r.len⟩
theorem Row.pos {n : Nat} {l : List Int} (r : Row n l) : ∀ t ∈ l, 0 ≤ t := fun t ht => by have := r.lo t ht; omega
theorem Row.tl {n : Nat} {l : List Int} (r : Row n l) : Tl (av l) = l := tl_av r.asc r.pos
theorem Row.some {n : Nat} {l : List Int} (r : Row n l) : ∃ t ∈ l, 64 < t := by
  have h := r.len
  match l, r with
  | [], _ => simp at h
  | t :: l, r => exact ⟨t, List.mem_cons_self, by have := r.lo t List.mem_cons_self; omega⟩
theorem Row.form {n : Nat} {l : List Int} (r : Row n l) : gU (n + 1) (av l) = .tuple (l.map (gU n)) ∧ UU 66 (n + 1) (av l) ∧ 2 ^ 64 ≤ av l := by
  obtain ⟨h1, h2, h3⟩ := mk_gU r.asc r.pos r.some (by have := r.len; omega) r.uu
  refine ⟨h1, h2, ?_⟩
  have := av_nn r.asc r.pos (by have := r.len; omega)
  by_cases c : 2 ^ 64 ≤ av l
  · exact c
  · exact absurd ⟨by omega, by omega⟩ h3
theorem Row.step {n : Nat} {l : List Int} (r : Row n l) {s : Int} (s0 : 0 ≤ s) (s1 : s ≤ 100) : gU (n + 1) (s + av l) = .tuple ((Tl s).map (gU n) ++ l.map (gU n)) ∧ UU 66 (n + 1) (s + av l) := by
  have b0 : -(2 ^ 7) ≤ s := by omega
  have b1 : s < 2 ^ 7 := by omega
  have ls : (Tl s).length ≤ 8 := by
    unfold Tl
    rw [len_zs]
    exact turns_len b0 b1
  have ms : ∀ t ∈ Tl s, 0 ≤ t ∧ t ≤ 7 := fun t ht => ⟨tl_pos s t ht, by
    obtain ⟨p, hp, rfl⟩ := List.mem_map.mp ht
    have := turns_lt b0 b1 p hp
    show ((p : Nat) : Int) ≤ 7
    omega⟩
  have asc : (Tl s ++ l).Pairwise (· < ·) := List.pairwise_append.mpr ⟨tl_asc s, r.asc, fun a ha b hb => by
    have := ms a ha
    have := r.lo b hb
    omega⟩
  obtain ⟨t, ht, t64⟩ := r.some
  obtain ⟨h1, h2, _⟩ := mk_gU (n := n) asc (fun t ht => by
    rcases List.mem_append.mp ht with h | h
    · exact (ms t h).1
    · exact r.pos t h) ⟨t, List.mem_append_right _ ht, t64⟩ (by rw [List.length_append]; have := r.len; omega) (fun t ht => by
    rcases List.mem_append.mp ht with h | h
    · have := ms t h; exact uu_plain (Nat.le_refl _) ⟨by omega, by omega⟩
    · exact r.uu t h)
  rw [av_step s0, List.map_append] at h1
  rw [av_step s0] at h2
  exact ⟨h1, h2⟩
theorem row_far {n : Nat} {t : Int} (h : 2 ^ 64 ≤ t) (u : UU 66 n t) : Row n [200, t] ∧ t + 100 < av [200, t] := by
  refine ⟨⟨by simp; omega, ?_, ?_, .inl rfl⟩, ?_⟩
  · intro x hx
    simp at hx
    omega
  · intro x hx
    simp at hx
    rcases hx with rfl | rfl
    · exact uu_plain (Nat.le_refl _) (by decide)
    · exact u
  · have e : av [200, t] = -1 * 2 ^ 200 + (- -1 * 2 ^ t.toNat + 0) := rfl
    rw [e]
    obtain ⟨p, rfl⟩ := Int.eq_ofNat_of_zero_le (show 0 ≤ t by omega)
    rw [Int.toNat_natCast]
    obtain ⟨q, rfl⟩ : ∃ q, p = 202 + q := ⟨p - 202, by omega⟩
    have hq := Nat.lt_two_pow_self (n := q)
    have ep : (2 : Int) ^ (202 + q) = 2 ^ 202 * ((2 ^ q : Nat) : Int) := by rw [Int.pow_add, Int.natCast_pow]; rfl
    rw [ep]
    generalize (2 : Nat) ^ q = A at hq ⊢
    omega
/-- the data of an int's turns at any height -/
theorem tl_data {K : PySem.W.Frag} {H : Hp} {n : Nat} {s : Int} (s0 : 0 ≤ s) (s1 : s ≤ 100) : DpAll K H (nI (turnsN s)) ((Tl s).map (gU n)) := by
  have e : (Tl s).map (gU n) = nD (turnsN s) := by
    unfold Tl zs nD
    rw [List.map_map]
    refine List.map_congr_left fun p hp => ?_
    have := turns_lt (n := 7) (by omega) (by omega) p hp
    show gU n ((p : Nat) : Int) = .int ((p : Nat) : Int)
    exact gU_plain ⟨by omega, by omega⟩
  rw [e]
  exact dps_n _
theorem Nd.tup {a : Addr} {H H' : Hp} {xs : List V} (e : Nd H H') (h : H a = some (.tup xs)) : H' a = some (.tup xs) := e.k _ _ h fun _ z => nomatch z
section
variable {P : Program} {w : World} {K : PySem.W.Frag} {mg : Str → Option Value} {base : Heap} {f : Addr} {fd : FuncData}
abbrev S__law_tower : Stmt := top 76
abbrev N__law_tower : List Str := ["_law_tape", "_law_deep", "_law_low", "_law_rows", "_law_inner", "_law_way", "_law_near"]
abbrev P__law_tower : List Str := ["_law_tape", "_law_deep"]
theorem sc__law_tower : FnScope N__law_tower P__law_tower (defScope S__law_tower) := ⟨rfl, rfl, rfl, by decide +kernel, rfl, by decide +kernel, by decide +kernel⟩
/-- a place of nested turns, d deep -/
def Tow (K : PySem.W.Frag) (d : Nat) (v : V) (l : List Int) (H : Hp) : Prop := Row d l ∧ Dp K H v (.tuple (l.map (gU d)))
def spTower (K : PySem.W.Frag) (d : Nat) : Sp := fun vs H Q _ => ∃ (τ : Tp) (n : Nat), vs = [.ref τ.t, .int (d : Int)] ∧ Tape K τ (n + 8 * (d + 1)) H ∧
  ∀ (v : V) (l : List Int) (H' : Hp), Nd H H' → Tape K τ n H' → Tow K d v l H' → Q v H'
theorem ok_tower {d : Nat} {k : Nat} (k2 : 1 ≤ k) (F : Fun K "_law_tower" "_law_tower" S__law_tower f fd) (B : Blt mg) (C_law_draw : Has P w K mg base 1 "_law_draw" P__law_draw [] (spDraw K)) (C_law_turns : Has P w K mg base 1 "_law_turns" P__law_turns [] spTurns) {spT : Sp} (hT : ∀ e, d = e + 1 → ∀ vs H Q E, spTower K e vs H Q E → spT vs H Q E)
    (C_law_tower : Has P w K mg base k "_law_tower" P__law_tower [] spT) : FnOk P w K mg base CX0 (k + 1) f fd P__law_tower (spTower K d) := by
  have nd := sc__law_tower.nd
  refine F.ok sc__law_tower (fun vs H Q E h => ?_) (fun cdv A outer s H vs Q E hr h => ?_)
  · obtain ⟨τ, n, rfl, _⟩ := h
    rfl
  obtain ⟨τ, n, rfl, T0, q⟩ := h
  refine ⟨_, (pss_cons (ps_set (i := 2) nd rfl (Or.inl rfl) (pe_op op_add pe_int (pe_H C_law_draw (hr.mono (by omega)) rfl (pa_cons (pv 0) (pa_cons pe_int pa_nil)))))
    (pss_cons (ps_set (i := 3) nd rfl (Or.inl rfl) (pe_lst (pa_cons (pv 2) (pa_cons (pe_op op_add (pe_op op_add (pv 2) pe_int) (pe_H C_law_draw (hr.mono (by omega)) rfl (pa_cons (pv 0) (pa_cons pe_int pa_nil)))) (pa_cons (pe_op op_add (pe_op op_add (pv 2) pe_int) (pe_H C_law_draw (hr.mono (by omega)) rfl (pa_cons (pv 0) (pa_cons pe_int pa_nil)))) (pa_cons (pe_op op_add (pe_op op_add (pv 2) pe_int) (pe_H C_law_draw (hr.mono (by omega)) rfl (pa_cons (pv 0) (pa_cons (pe_op op_pow pe_int pe_int) pa_nil)))) pa_nil))))))
    (pss_cons (ps_if (pt_cmpR op_eq (pv 1) pe_int (nomark _)) (pss_one (ps_ret (pe_callTy call_tupL (by rfl) B.tuple (by decide +kernel) (pa_cons (pe_slice sl_list (pv 3) po_none (po_some (pe_op op_add pe_int (pe_op op_mul pe_int (pe_H C_law_draw (hr.mono (by omega)) rfl (pa_cons (pv 0) (pa_cons pe_int pa_nil))))))) pa_nil)))) pss_nil)
    (pss_cons (ps_par (i := 4) (j := 5) (by rfl) nd rfl rfl (by decide) rfl rfl (pa_cons (pe_H C_law_tower (hr.mono (by omega)) rfl (pa_cons (pv 0) (pa_cons (pe_op op_sub (pv 1) pe_int) pa_nil))) (pa_cons (pe_H C_law_draw (hr.mono (by omega)) rfl (pa_cons (pv 0) (pa_cons pe_int pa_nil))) pa_nil)) (by rfl))
    (pss_cons (ps_set (i := 6) nd rfl (Or.inl rfl) (pe_op op_catA (pe_callTy call_tupL (by rfl) B.tuple (by decide +kernel) (pa_cons (pe_H C_law_turns (hr.mono (by omega)) rfl (pa_cons (pe_op op_add pe_int (pe_H C_law_draw (hr.mono (by omega)) rfl (pa_cons (pv 0) (pa_cons pe_int pa_nil)))) pa_nil)) pa_nil)) (pv 4)))
    (pss_one (ps_ret (pe_ix ix_list (pe_lst (pa_cons (pe_tup (pa_cons (pv 2) (pa_cons (pv 4) pa_nil))) (pa_cons (pe_tup (pa_cons (pv 4) (pa_cons (pv 6) pa_nil))) (pa_cons (pe_tup (pa_cons (pv 2) (pa_cons (pe_ix ix_list (pv 3) pe_int (fun _ _ => rfl)) (pa_cons (pv 4) (pa_cons (pv 6) pa_nil))))) (pa_cons (pe_tup (pa_cons (pv 2) (pa_cons (pe_ix ix_list (pv 3) pe_int (fun _ _ => rfl)) (pa_cons (pe_ix ix_list (pv 3) pe_int (fun _ _ => rfl)) (pa_cons (pv 4) pa_nil))))) pa_nil))))) (pv 5) (fun _ _ => rfl))))))))), ?_⟩
  -- low
  refine ⟨_, rfl, τ, _, n + 8 * d + 7, rfl, T0.mono (by omega), by decide, lt_BigL (by decide), fun a H1 e1 T1 a0 a1 => ?_⟩
  refine ⟨_, _, rfl, rfl, ?_⟩
  -- rows
  refine ⟨_, rfl, _, rfl, _, _, rfl, rfl, _, rfl, τ, _, n + 8 * d + 6, rfl, T1.mono (by omega), by decide, lt_BigL (by decide), fun b H2 e2 T2 b0 b1 => ?_⟩
  refine ⟨_, _, rfl, rfl, _, rfl, _, _, rfl, rfl, _, rfl, τ, _, n + 8 * d + 5, rfl, T2, by decide, lt_BigL (by decide), fun c H3 e3 T3 c0 c1 => ?_⟩
  refine ⟨_, _, rfl, rfl, _, rfl, _, _, rfl, rfl, _, rfl, _, _, rfl, rfl, cpow (by decide), τ, _, n + 8 * d + 4, rfl, T3, by decide, lt_BigL (by decide), fun g H4 e4 T4 g0 g1 => ?_⟩
  refine ⟨_, _, rfl, rfl, (by show 4 ≤ sizeLine; decide), fun p1 np1 => ?_⟩
  have g1' : g < 1000000000000 := g1
  clear g1
  have T5 := T4.new (o := .lst [.int (200 + a), .int (200 + a + 1 + b), .int (200 + a + 20 + c), .int (200 + a + 200 + g)]) np1
  have e5 := e1.trans (e2.trans (e3.trans (e4.trans (Nd.new (o := .lst [.int (200 + a), .int (200 + a + 1 + b), .int (200 + a + 20 + c), .int (200 + a + 200 + g)]) np1))))
  have hp1 : upd H4 p1 (.lst [.int (200 + a), .int (200 + a + 1 + b), .int (200 + a + 20 + c), .int (200 + a + 200 + g)]) p1 = some (.lst [.int (200 + a), .int (200 + a + 1 + b), .int (200 + a + 20 + c), .int (200 + a + 200 + g)]) := upd_same
  generalize upd H4 p1 (.lst [.int (200 + a), .int (200 + a + 1 + b), .int (200 + a + 20 + c), .int (200 + a + 200 + g)]) = H5 at T5 e5 hp1 ⊢
  clear e1 e2 e3 e4 T1 T2 T3 T4 np1
  have pl : ∀ {n : Nat} {t : Int}, 0 ≤ t → t < 2 ^ 64 → UU 66 n t ∧ gU n t = .int t := fun h0 h1 => ⟨uu_plain (Nat.le_refl _) ⟨by omega, h1⟩, gU_plain ⟨by omega, h1⟩⟩
  refine ⟨_, rfl, rfl, _, rfl, ?_⟩
  cases d with
  | zero =>
    refine iteT ?_
    refine ⟨_, rfl, _, rfl, τ, _, n + 3, rfl, T5.mono (by omega), by decide, lt_BigL (by decide), fun h H6 e6 T6 h0 h1 => ?_⟩
    refine ⟨_, _, rfl, rfl, .inl ⟨by omega, by omega⟩, _, _, rfl, rfl, _, rfl, _, _, rfl, SqL.of (e6.lst hp1), fun p2 np2 => ?_⟩
    refine ⟨_, _, rfl, SqL.of upd_same, fun p3 np3 => ?_⟩
    have hd : ∀ (H : Hp) (l : List Int), (∀ t ∈ l, 0 ≤ t ∧ t < 2 ^ 64) → DpAll K H (l.map V.int) (l.map (gU 0)) := fun H l _ => dps_ints l
    have h01 : h = 0 ∨ h = 1 := by omega
    rcases h01 with rfl | rfl
    · refine q _ [200 + a, 200 + a + 1 + b] _ ((e5.trans e6).trans ((Nd.new np2).trans (Nd.new np3))) (((T6.new np2).new np3).mono (by omega)) ⟨⟨by simp; omega, fun t ht => by simp at ht; omega, fun t ht => (pl (by simp at ht; omega) (by simp at ht; omega)).1, .inl rfl⟩, .tup (SqT.of upd_same) ?_⟩
      exact hd _ [200 + a, 200 + a + 1 + b] fun t ht => by simp at ht; omega
    · refine q _ [200 + a, 200 + a + 1 + b, 200 + a + 20 + c, 200 + a + 200 + g] _ ((e5.trans e6).trans ((Nd.new np2).trans (Nd.new np3))) (((T6.new np2).new np3).mono (by omega)) ⟨⟨by simp; omega, fun t ht => by simp at ht; omega, fun t ht => (pl (by simp at ht; omega) (by simp at ht; omega)).1, .inr rfl⟩, .tup (SqT.of upd_same) ?_⟩
      exact hd _ [200 + a, 200 + a + 1 + b, 200 + a + 20 + c, 200 + a + 200 + g] fun t ht => by simp at ht; omega
  | succ d =>
    refine iteF ?_
    -- the inner place
    refine ⟨_, rfl, _, rfl, _, _, rfl, rfl, hT d rfl _ _ _ _ ⟨τ, n + 4, (by show [V.ref τ.t, V.int (((d + 1 : Nat) : Int) - 1)] = _; rw [show ((d + 1 : Nat) : Int) - 1 = (d : Int) by omega]), T5.mono (by omega), fun vi l H6 e6 T6 tw => ?_⟩⟩
    obtain ⟨r, hv⟩ := tw
    cases hv with
    | @tup ai xi _ hsq hda =>
    refine ⟨_, rfl, τ, _, n + 3, rfl, T6, by decide, lt_BigL (by decide), fun wy H7 e7 T7 w0 w1 => ?_⟩
    refine ⟨_, _, rfl, ?_⟩
    -- near it
    refine ⟨_, rfl, τ, _, n + 2, rfl, T7, by decide, lt_BigL (by decide), fun s H8 e8 T8 s0 s1 => ?_⟩
    refine ⟨_, _, rfl, rfl, 1 + s, rfl, InB.of (n := 100) (by omega) (by omega) (by decide), fun p4 H9 e9 np4 hp4 => ?_⟩
    refine ⟨_, _, rfl, SqL.of hp4, fun p5 np5 => ?_⟩
    have e79 := e7.trans (e8.trans ((Nd.of e9).trans (Nd.new (o := .tup (nI (turnsN (1 + s)))) np5)))
    have T9 := (T8.same e9).new (o := .tup (nI (turnsN (1 + s)))) np5
    have hp5 : upd H9 p5 (.tup (nI (turnsN (1 + s)))) p5 = some (.tup (nI (turnsN (1 + s)))) := upd_same
    have e59 := e6.trans e79
    have hsq9 := e79.sqt hsq
    have hda9 := e79.ds hda
    have hp19 := e59.lst hp1
    have e09 := e5.trans e59
    generalize upd H9 p5 (.tup (nI (turnsN (1 + s)))) = H10 at e79 T9 hp5 e59 hsq9 hda9 hp19 e09 ⊢
    clear e7 e8 e9 e79 e59 T8 T7 T6 T5 hsq hda hp1 e6 e5
    have lxi : xi.length = l.length := by rw [dps_length hda9, List.length_map]
    have lt1 : (turnsN (1 + s)).length ≤ 8 := turns_len (n := 7) (by omega) (by omega)
    have lnI : (nI (turnsN (1 + s))).length = (turnsN (1 + s)).length := by unfold nI; rw [List.length_map]
    obtain ⟨gi, ui, bi⟩ := r.form
    obtain ⟨gn, un⟩ := r.step (s := 1 + s) (by omega) (by omega)
    have ne1 : turnsN (1 + s) ≠ [] := fun e => by
      have h := turns_alt (1 + s)
      rw [e] at h
      have : (0 : Int) = 1 + s := h
      omega
    refine ⟨_, rfl, p5, ai, _, xi, rfl, rfl, SqT.of hp5, hsq9, ?_, fun h0 => ?_, fun h0 h1 => ?_, fun h0 h1 p6 np6 => ?_⟩
    · rw [lnI, lxi]
      exact Nat.le_trans (show _ ≤ 2050 by have := r.len; omega) (by decide)
    · exact absurd (by unfold nI at h0; exact List.map_eq_nil_iff.mp h0) ne1
    · exact absurd (by rw [← lxi, h1]; rfl) (show l.length ≠ 0 by have := r.len; omega)
    have hn : Dp K (upd H10 p6 (.tup (nI (turnsN (1 + s)) ++ xi))) (.ref p6) (gU (d + 1) (1 + s + av l)) := by
      rw [gn]
      exact .tup (SqT.of upd_same) (dps_app (tl_data (by omega) (by omega)) ((Nd.new np6).ds hda9))
    have hi : Dp K (upd H10 p6 (.tup (nI (turnsN (1 + s)) ++ xi))) (.ref ai) (gU (d + 1) (av l)) := by
      rw [gi]
      exact .tup ((Nd.new np6).sqt hsq9) ((Nd.new np6).ds hda9)
    have hp1b := (Nd.new (o := .tup (nI (turnsN (1 + s)) ++ xi)) np6).lst hp19
    have Tb := T9.new (o := .tup (nI (turnsN (1 + s)) ++ xi)) np6
    have eb := e09.trans (Nd.new (o := .tup (nI (turnsN (1 + s)) ++ xi)) np6)
    generalize upd H10 p6 (.tup (nI (turnsN (1 + s)) ++ xi)) = Hb at hn hi hp1b Tb eb ⊢
    clear hsq9 hda9 hp19 T9 e09 np6 hp5
    -- the four places
    refine ⟨_, rfl, _, rfl, (by show 2 ≤ sizeLine; decide), fun p7 np7 => ?_⟩
    refine ⟨_, rfl, _, rfl, (by show 2 ≤ sizeLine; decide), fun p8 np8 => ?_⟩
    have hpc := ((Nd.new (o := .tup [.int (200 + a), .ref ai]) np7).trans (Nd.new (o := .tup [.ref ai, .ref p6]) np8)).lst hp1b
    refine ⟨_, rfl, _, rfl, _, _, _, _, rfl, rfl, SqL.of hpc, atI_nat (j := 1) rfl, _, rfl, _, rfl, (by show 4 ≤ sizeLine; decide), fun p9 np9 => ?_⟩
    have hpd := (Nd.new (o := .tup [.int (200 + a), .int (200 + a + 1 + b), .ref ai, .ref p6]) np9).lst hpc
    refine ⟨_, rfl, _, rfl, _, _, _, _, rfl, rfl, SqL.of hpd, atI_nat (j := 1) rfl, _, rfl, _, _, _, _, rfl, rfl, SqL.of hpd, atI_nat (j := 2) rfl, _, rfl, (by show 4 ≤ sizeLine; decide), fun pa npa => ?_⟩
    refine ⟨(by show 4 ≤ sizeLine; decide), fun pb npb => ?_⟩
    have h7 : upd (upd (upd (upd Hb p7 (.tup [.int (200 + a), .ref ai])) p8 (.tup [.ref ai, .ref p6])) p9 (.tup [.int (200 + a), .int (200 + a + 1 + b), .ref ai, .ref p6])) pa (.tup [.int (200 + a), .int (200 + a + 1 + b), .int (200 + a + 20 + c), .ref ai]) p7 = some (.tup [.int (200 + a), .ref ai]) := ((Nd.new np8).trans ((Nd.new np9).trans (Nd.new npa))).tup upd_same
    have h8 : upd (upd (upd (upd Hb p7 (.tup [.int (200 + a), .ref ai])) p8 (.tup [.ref ai, .ref p6])) p9 (.tup [.int (200 + a), .int (200 + a + 1 + b), .ref ai, .ref p6])) pa (.tup [.int (200 + a), .int (200 + a + 1 + b), .int (200 + a + 20 + c), .ref ai]) p8 = some (.tup [.ref ai, .ref p6]) := ((Nd.new np9).trans (Nd.new npa)).tup upd_same
    have h9 : upd (upd (upd (upd Hb p7 (.tup [.int (200 + a), .ref ai])) p8 (.tup [.ref ai, .ref p6])) p9 (.tup [.int (200 + a), .int (200 + a + 1 + b), .ref ai, .ref p6])) pa (.tup [.int (200 + a), .int (200 + a + 1 + b), .int (200 + a + 20 + c), .ref ai]) p9 = some (.tup [.int (200 + a), .int (200 + a + 1 + b), .ref ai, .ref p6]) := (Nd.new npa).tup upd_same
    have ha : upd (upd (upd (upd Hb p7 (.tup [.int (200 + a), .ref ai])) p8 (.tup [.ref ai, .ref p6])) p9 (.tup [.int (200 + a), .int (200 + a + 1 + b), .ref ai, .ref p6])) pa (.tup [.int (200 + a), .int (200 + a + 1 + b), .int (200 + a + 20 + c), .ref ai]) pa = some (.tup [.int (200 + a), .int (200 + a + 1 + b), .int (200 + a + 20 + c), .ref ai]) := upd_same
    have ebc := (Nd.new (o := .tup [.int (200 + a), .ref ai]) np7).trans ((Nd.new (o := .tup [.ref ai, .ref p6]) np8).trans ((Nd.new (o := .tup [.int (200 + a), .int (200 + a + 1 + b), .ref ai, .ref p6]) np9).trans (Nd.new (o := .tup [.int (200 + a), .int (200 + a + 1 + b), .int (200 + a + 20 + c), .ref ai]) npa)))
    have Tc := (((Tb.new (o := .tup [.int (200 + a), .ref ai]) np7).new (o := .tup [.ref ai, .ref p6]) np8).new (o := .tup [.int (200 + a), .int (200 + a + 1 + b), .ref ai, .ref p6]) np9).new (o := .tup [.int (200 + a), .int (200 + a + 1 + b), .int (200 + a + 20 + c), .ref ai]) npa
    generalize upd (upd (upd (upd Hb p7 (.tup [.int (200 + a), .ref ai])) p8 (.tup [.ref ai, .ref p6])) p9 (.tup [.int (200 + a), .int (200 + a + 1 + b), .ref ai, .ref p6])) pa (.tup [.int (200 + a), .int (200 + a + 1 + b), .int (200 + a + 20 + c), .ref ai]) = Hc at h7 h8 h9 ha ebc Tc npb ⊢
    have ec : Nd Hb (upd Hc pb (.lst [.ref p7, .ref p8, .ref p9, .ref pa])) := ebc.trans (Nd.new npb)
    have hnc := ec.d hn
    have hic := ec.d hi
    have ecc := Nd.new (o := .lst [.ref p7, .ref p8, .ref p9, .ref pa]) npb
    have Td := Tc.new (o := .lst [.ref p7, .ref p8, .ref p9, .ref pa]) npb
    have fin : ∀ (v : V) (l' : List Int), Row (d + 1) l' → Dp K (upd Hc pb (.lst [.ref p7, .ref p8, .ref p9, .ref pa])) v (.tuple (l'.map (gU (d + 1)))) → Q v (upd Hc pb (.lst [.ref p7, .ref p8, .ref p9, .ref pa])) := fun v l' r' h' => q v l' _ (eb.trans ec) (Td.mono (by omega)) ⟨r', h'⟩
    have pa' := pl (n := d + 1) (t := 200 + a) (by omega) (by omega)
    have pb' := pl (n := d + 1) (t := 200 + a + 1 + b) (by omega) (by omega)
    have pc' := pl (n := d + 1) (t := 200 + a + 20 + c) (by omega) (by omega)
    have ia : ∀ H, Dp K H (.int (200 + a)) (gU (d + 1) (200 + a)) := fun H => by rw [pa'.2]; exact .int _
    have ib : ∀ H, Dp K H (.int (200 + a + 1 + b)) (gU (d + 1) (200 + a + 1 + b)) := fun H => by rw [pb'.2]; exact .int _
    have ic : ∀ H, Dp K H (.int (200 + a + 20 + c)) (gU (d + 1) (200 + a + 20 + c)) := fun H => by rw [pc'.2]; exact .int _
    have w4 : wy = 0 ∨ wy = 1 ∨ wy = 2 ∨ wy = 3 := by omega
    rcases w4 with rfl | rfl | rfl | rfl
    · refine ⟨_, rfl, _, _, _, _, rfl, rfl, SqL.of upd_same, atI_nat (j := 0) rfl, ?_⟩
      refine fin _ [200 + a, av l] ⟨by simp; omega, fun t ht => by simp at ht; omega, fun t ht => ?_, .inl rfl⟩ (.tup (SqT.of (ecc.tup h7)) (.cons (ia _) (.cons hic .nil)))
      simp at ht
      rcases ht with rfl | rfl
      · exact pa'.1
      · exact ui
    · refine ⟨_, rfl, _, _, _, _, rfl, rfl, SqL.of upd_same, atI_nat (j := 1) rfl, ?_⟩
      refine fin _ [av l, 1 + s + av l] ⟨by simp; omega, fun t ht => by simp at ht; omega, fun t ht => ?_, .inl rfl⟩ (.tup (SqT.of (ecc.tup h8)) (.cons hic (.cons hnc .nil)))
      simp at ht
      rcases ht with rfl | rfl
      · exact ui
      · exact un
    · refine ⟨_, rfl, _, _, _, _, rfl, rfl, SqL.of upd_same, atI_nat (j := 2) rfl, ?_⟩
      refine fin _ [200 + a, 200 + a + 1 + b, av l, 1 + s + av l] ⟨by simp; omega, fun t ht => by simp at ht; omega, fun t ht => ?_, .inr rfl⟩ (.tup (SqT.of (ecc.tup h9)) (.cons (ia _) (.cons (ib _) (.cons hic (.cons hnc .nil)))))
      simp at ht
      rcases ht with rfl | rfl | rfl | rfl
      · exact pa'.1
      · exact pb'.1
      · exact ui
      · exact un
    · refine ⟨_, rfl, _, _, _, _, rfl, rfl, SqL.of upd_same, atI_nat (j := 3) rfl, ?_⟩
      refine fin _ [200 + a, 200 + a + 1 + b, 200 + a + 20 + c, av l] ⟨by simp; omega, fun t ht => by simp at ht; omega, fun t ht => ?_, .inr rfl⟩ (.tup (SqT.of (ecc.tup ha)) (.cons (ia _) (.cons (ib _) (.cons (ic _) (.cons hic .nil)))))
      simp at ht
      rcases ht with rfl | rfl | rfl | rfl
      · exact pa'.1
      · exact pb'.1
      · exact pc'.1
      · exact ui
theorem c_tower (D : DefAt K mg "_law_tower" S__law_tower P__law_tower) (B : Blt mg) (C_law_draw : Has P w K mg base 1 "_law_draw" P__law_draw [] (spDraw K)) (C_law_turns : Has P w K mg base 1 "_law_turns" P__law_turns [] spTurns) : ∀ d : Nat, Has P w K mg base (d + 2) "_law_tower" P__law_tower [] (spTower K d)
  | 0 => D.has fun _ _ F => ok_tower (d := 0) (k := 1) (by decide) F B C_law_draw C_law_turns (spT := fun _ _ _ _ => False) (fun e h => nomatch h) (D.has fun _ _ _ => fnok_no)
  | d + 1 => D.has fun _ _ F => ok_tower (d := d + 1) (k := d + 2) (by omega) F B C_law_draw C_law_turns (spT := spTower K d) (fun e h vs H Q E x => by cases h; exact x) (c_tower D B C_law_draw C_law_turns d)
end
end Fb
namespace Fb
open PySem L2
theorem cut_natV (xs : List V) (k : Nat) : cutV xs none (some (k : Int)) = xs.take k := by
  unfold cutV
  rw [show HT.sIx xs.length 0 none = 0 from rfl, List.drop_zero, HT.sIx_nat, Nat.sub_zero]
  rcases Nat.le_total k xs.length with h | h
  · rw [Nat.min_eq_left h]
  · rw [Nat.min_eq_right h, List.take_of_length_le (Nat.le_refl _), List.take_of_length_le h]
/-- turns that a law has put together -/
structure Ps (n : Nat) (ps : List Int) : Prop where
  asc : ps.Pairwise (· < ·)
  pos : ∀ t ∈ ps, 0 ≤ t
  uu : ∀ t ∈ ps, UU 66 n t
theorem Ps.su {n : Nat} {ps : List Int} (h : Ps n ps) : ∀ t ∈ ps, SU 8500 n t := fun t ht => ⟨h.pos t ht, uu_wide (by decide) (h.uu t ht)⟩
theorem fm66 {n : Nat} {z : Int} (h : UU 66 n z) : Fm n (gU n z) := by
  obtain ⟨_, g⟩ := gU_gd (L := 66) (by decide) h
  exact g.fm
theorem Ps.row {n : Nat} {ps : List Int} (h : Ps n ps) : RowC (ps.map (gU n)) := by
  intro d hd hn
  rcases List.eq_nil_or_concat ps with rfl | ⟨m, t, rfl⟩
  · cases hd
  rw [List.concat_eq_append] at *
  rw [List.map_append, List.map_singleton, List.getLast?_concat] at hd
  cases hd
  have st := h.su t (by simp)
  obtain ⟨i, ei⟩ : ∃ i, gU n t = .int i := by
    cases e : gU n t <;> rw [e] at hn <;> first | exact ⟨_, rfl⟩ | cases hn
  have e2 := isI_gU st (by rw [ei]; rfl)
  rw [e2] at hn
  have t64 : t ≤ 64 := of_decide_eq_true hn
  have le : ∀ u ∈ m ++ [t], 0 ≤ u ∧ u ≤ 64 := fun u hu => by
    refine ⟨h.pos u hu, ?_⟩
    rcases List.mem_append.mp hu with k | k
    · have := (List.pairwise_append.mp h.asc).2.2 u k t (by simp); omega
    · rw [List.mem_singleton.mp k]; exact t64
  refine ⟨(m ++ [t]).map Int.toNat, ?_, fun k hk => ?_⟩
  · unfold nD
    rw [List.map_map]
    refine List.map_congr_left fun u hu => ?_
    have k := le u hu
    show gU n u = .int ((u.toNat : Nat) : Int)
    rw [gU_plain ⟨by omega, by omega⟩]
    congr 1
    omega
  · obtain ⟨u, hu, rfl⟩ := List.mem_map.mp hk
    have := le u hu
    omega
theorem Ps.form {n : Nat} {ps : List Int} (h : Ps n ps) (l : ps.length ≤ 66) : rowD (ps.map (gU n)) = gU (n + 1) (av ps) ∧ UU 66 (n + 1) (av ps) ∧ Tl (av ps) = ps := by
  have e := tl_av h.asc h.pos
  refine ⟨?_, ?_, e⟩
  · show _ = numD (gU n) (av ps)
    unfold numD rowF
    rw [e]
  · show (Tl (av ps)).length ≤ 66 ∧ ∀ t ∈ Tl (av ps), UU 66 n t
    rw [e]
    exact ⟨l, h.uu⟩
theorem Ps.snoc {n : Nat} {ps : List Int} {t : Int} (h : Ps n ps) (lt : ∀ u ∈ ps, u < t) (t0 : 0 ≤ t) (u : UU 66 n t) : Ps n (ps ++ [t]) := by
  refine ⟨List.pairwise_append.mpr ⟨h.asc, List.pairwise_singleton _ _, fun a ha b hb => by rw [List.mem_singleton.mp hb]; exact lt a ha⟩, fun v hv => ?_, fun v hv => ?_⟩
  · rcases List.mem_append.mp hv with k | k
    · exact h.pos v k
    · rw [List.mem_singleton.mp k]; exact t0
  · rcases List.mem_append.mp hv with k | k
    · exact h.uu v k
    · rw [List.mem_singleton.mp k]; exact u
theorem Ps.take {n : Nat} {ps : List Int} (h : Ps n ps) (k : Nat) : Ps n (ps.take k) := ⟨h.asc.take, fun t ht => h.pos t (List.mem_of_mem_take ht), fun t ht => h.uu t (List.mem_of_mem_take ht)⟩
section
variable {P : Program} {w : World} {K : PySem.W.Frag} {mg : Str → Option Value} {base : Heap} {f : Addr} {fd : FuncData}
abbrev S__law_nested : Stmt := top 77
abbrev N__law_nested : List Str := ["_law_tape", "_law_deep", "_law_most", "_law_places", "_law_tower_here", "_law_k", "_law_last", "_law_base", "_law_step_here"]
abbrev P__law_nested : List Str := ["_law_tape", "_law_deep", "_law_most"]
theorem sc__law_nested : FnScope N__law_nested P__law_nested (defScope S__law_nested) := ⟨rfl, rfl, rfl, by decide +kernel, rfl, by decide +kernel, by decide +kernel⟩
def spNested (K : PySem.W.Frag) (d : Nat) : Sp := fun vs H Q _ => ∃ (τ : Tp) (most n : Nat), vs = [.ref τ.t, .int (d : Int), .int (most : Int)] ∧ Tape K τ (n + 8 * (d + 1) + 20) H ∧
  ∀ (v : V) (z : Int) (H' : Hp), Nd H H' → Tape K τ n H' → UU 66 (d + 3) z → (Tl z).length ≤ most → Dp K H' v (gU (d + 3) z) → Q v H'
theorem ok_nested {d : Nat} {k : Nat} (d36 : d ≤ 30) (k2 : 2 ≤ k) (F : Fun K "_law_nested" "_law_nested" S__law_nested f fd) (B : Blt mg) (C_law_draw : Has P w K mg base 1 "_law_draw" P__law_draw [] (spDraw K)) (C_law_pick : Has P w K mg base 2 "_law_pick" P__law_pick [] (spPick K)) (C_law_turns : Has P w K mg base 1 "_law_turns" P__law_turns [] spTurns)
    (C_law_row_form : Has P w K mg base 2 "_law_row_form" P__law_row_form [] (spRow K)) (C_law_tower : Has P w K mg base k "_law_tower" P__law_tower [] (spTower K d)) : FnOk P w K mg base CX0 (k + 1) f fd P__law_nested (spNested K d) := by
  have nd := sc__law_nested.nd
  refine F.ok sc__law_nested (fun vs H Q E h => ?_) (fun cdv A outer s H vs Q E hr h => ?_)
  · obtain ⟨τ, most, n, rfl, _⟩ := h
    rfl
  obtain ⟨τ, most, n, rfl, T0, q⟩ := h
  refine ⟨_, (pss_cons (ps_par (i := 3) (j := 4) (by rfl) nd rfl rfl (by decide) rfl rfl (pa_cons (pe_lst pa_nil) (pa_cons (pe_H C_law_tower (hr.mono (by omega)) rfl (pa_cons (pv 0) (pa_cons (pv 1) pa_nil))) pa_nil)) (by rfl))
    (pss_cons (ps_for PassesOwn.never rfl (pi_range1 (by rfl) B.range (pa_cons (pe_H C_law_draw (hr.mono (by omega)) rfl (pa_cons (pv 0) (pa_cons pe_int pa_nil))) pa_nil)) (pg_name (i := 5) nd rfl (Or.inl rfl)) (pss_cons (ps_set (i := 6) nd rfl (Or.inl rfl) (pe_ifExp (pt_cmpR (op_eqD hr.units) (pv 3) (pe_lst pa_nil) (nomark _)) pe_int (pe_op op_add (pe_ix ix_list (pv 3) (pe_un un_neg pe_int) (fun _ _ => rfl)) pe_int)))
    (pss_one (ps_expr (pe_bm PySem.F.plainAttrs_list PySem.F.slot_list_append PySem.F.type_list_append mt_append (pv 3) (pa_cons (pe_op op_add (pv 6) (pe_H C_law_pick (hr.mono (by omega)) rfl (pa_cons (pv 0) (pa_cons (pe_lst (pa_cons pe_int (pa_cons pe_int (pa_cons pe_int (pa_cons (pe_H C_law_draw (hr.mono (by omega)) rfl (pa_cons (pv 0) (pa_cons pe_int pa_nil))) pa_nil))))) pa_nil)))) pa_nil))))))
    (pss_cons (ps_for PassesOwn.never rfl (pi_list (pe_lst (pa_cons (pv 4) (pa_cons (pe_tup (pa_cons pe_int (pa_cons (pv 4) pa_nil))) pa_nil)))) (pg_name (i := 7) nd rfl (Or.inl rfl)) (pss_cons (ps_set (i := 8) nd rfl (Or.inl rfl) pe_int)
    (pss_one (ps_for PassesOwn.never rfl (pi_range1 (by rfl) B.range (pa_cons (pe_H C_law_draw (hr.mono (by omega)) rfl (pa_cons (pv 0) (pa_cons pe_int pa_nil))) pa_nil)) (pg_name (i := 5) nd rfl (Or.inl rfl)) (pss_cons (ps_set (i := 8) nd rfl (Or.inl rfl) (pe_op op_add (pv 8) (pe_H C_law_pick (hr.mono (by omega)) rfl (pa_cons (pv 0) (pa_cons (pe_lst (pa_cons pe_int (pa_cons pe_int (pa_cons pe_int (pa_cons (pe_op op_add pe_int (pe_H C_law_draw (hr.mono (by omega)) rfl (pa_cons (pv 0) (pa_cons pe_int pa_nil)))) pa_nil))))) pa_nil)))))
    (pss_one (ps_expr (pe_bm PySem.F.plainAttrs_list PySem.F.slot_list_append PySem.F.type_list_append mt_append (pv 3) (pa_cons (pe_op op_catA (pe_callTy call_tupL (by rfl) B.tuple (by decide +kernel) (pa_cons (pe_H C_law_turns (hr.mono (by omega)) rfl (pa_cons (pv 8) pa_nil)) pa_nil)) (pv 7)) pa_nil)))))))))
    (pss_one (ps_ret (pe_H C_law_row_form (hr.mono (by omega)) rfl (pa_cons (pe_slice sl_list (pv 3) po_none (po_some (pv 2))) pa_nil))))))), ?_⟩
  refine ⟨(by show 0 ≤ sizeLine; decide), fun p np => ?_⟩
  refine ⟨_, rfl, _, rfl, τ, n + 20, rfl, (T0.new np).mono (by omega), fun vt l H1 e1 T1 tw => ?_⟩
  refine ⟨_, _, rfl, ?_⟩
  obtain ⟨r, hv⟩ := tw
  have hp1 : H1 p = some (.lst []) := e1.lst upd_same
  have E1 : Nd H H1 := (Nd.new np).trans e1
  clear e1
  -- small places
  refine ⟨_, rfl, τ, _, n + 19, rfl, T1, by decide, lt_BigL (by decide), fun c H2 e2 T2 c0 c1 => ?_⟩
  refine ⟨_, rfl, (by omega), (by omega), ?_⟩
  have hv2 := e2.d hv
  have hp2 := e2.lst hp1
  have E2 := E1.trans e2
  clear e2 hv hp1 E1 T1
  have td_tow : ∀ {Ha Hb : Hp}, Td Ha Hb → Dp K Ha vt (.tuple (l.map (gU d))) → Dp K Hb vt (.tuple (l.map (gU d))) := fun td h => by
    rw [← r.form.1] at h ⊢
    exact td.d (fm66 r.form.2.1) h
  refine for_range (lo := 0) (n := c.toNat) (fun i σ H' => ∃ (z5 z6 z7 z8 : Option V) (ps : List Int), σ = [some (.ref τ.t), some (.int (d : Int)), some (.int (most : Int)), some (.ref p), some vt, z5, z6, z7, z8] ∧ Nd H H' ∧ Tape K τ (n + 15 + 2 * (2 - i)) H' ∧ H' p = some (.lst (ps.map V.int)) ∧ Dp K H' vt (.tuple (l.map (gU d))) ∧ Ps (d + 2) ps ∧ ps.length ≤ i ∧ ∀ t ∈ ps, t < 70 * i)
    ⟨_, _, _, _, [], rfl, E2, T2.mono (by omega), hp2, hv2, ⟨.nil, (fun t h => nomatch h), (fun t h => nomatch h)⟩, Nat.le_refl 0, (fun t h => nomatch h)⟩ (fun i σ H' hi h => ?_) (fun σ H' h => ?_)
  · obtain ⟨z5, z6, z7, z8, ps, rfl, E, T, hp, hv, P, lp, bp⟩ := h
    have i2 : i < 2 := by omega
    have last_ : ∀ (Q' : VK), (∀ (ls : Int) (H5 : Hp), Same H' H5 → 0 ≤ ls → (∀ t ∈ ps, t < ls) → ls ≤ 70 * i → Q' (.int ls) H5) →
        tIf (tTest (tOp (rEqD K) (tVar 3) (tLst tNil))) (tC (.int 0)) (tOp (rI0 fun i j => .int (i + j)) (tOp (rIxL K) (tVar 3) (tUn (rU fun i => .int (-i)) (tC (.int 1)))) (tC (.int 1)))
          [some (.ref τ.t), some (.int (d : Int)), some (.int (most : Int)), some (.ref p), some vt, some (.int (0 + (i : Int))), z6, z7, z8] H' Q' := fun Q' hq => by
      refine ⟨_, rfl, (by show 0 ≤ sizeLine; decide), fun p5 np5 => ?_⟩
      have hp5 : upd H' p5 (.lst []) p = some (.lst (ps.map V.int)) := (Nd.new np5).lst hp
      refine ⟨.list (ps.map PyData.int), .list [], .lst (SqL.of hp5) (dps_ints ps), .lst (SqL.of upd_same) .nil, shaped_ints _, shaped_nil, _, rfl, ?_⟩
      rw [eqv_nil']
      refine iteD (fun c => ?_) (fun c => ?_)
      · exact hq 0 _ (Same.new np5) (Int.le_refl 0) (fun t ht => by rw [c] at ht; cases ht) (by omega)
      · rcases List.eq_nil_or_concat ps with rfl | ⟨m, k, rfl⟩
        · exact absurd rfl c
        rw [List.concat_eq_append] at *
        have ek : atI ((m ++ [k]).map V.int) (-1) = some (.int k) := by rw [List.map_append]; exact atI_last _ _
        refine ⟨_, rfl, _, rfl, p, _, _, _, rfl, rfl, SqL.of hp5, ek, _, _, rfl, rfl, ?_⟩
        have kp := P.pos k (by simp)
        have kb := bp k (by simp)
        refine hq (k + 1) _ (Same.new np5) (by omega) (fun t ht => ?_) (by omega)
        rcases List.mem_append.mp ht with h | h
        · have := (List.pairwise_append.mp P.asc).2.2 t h k (by simp); omega
        · rw [List.mem_singleton.mp h]; omega
    refine last_ _ fun ls H5 e5 ls0 lsb ls7 => ?_
    have hp5 := e5 _ _ hp
    have T5 := T.same e5
    refine ⟨_, rfl, .inl ⟨rfl, _, SqL.of hp5⟩, _, rfl, _, rfl, _, rfl, τ, _, n + 15 + 2 * (2 - (i + 1)) + 1, rfl, T5.mono (by omega), by decide, lt_BigL (by decide), fun g H6 e6 T6 g0 g1 => ?_⟩
    refine ⟨(by show 4 ≤ sizeLine; decide), fun p3 np3 => ?_⟩
    refine ⟨τ, p3, _, n + 15 + 2 * (2 - (i + 1)), rfl, SqL.of upd_same, (by simp), (by show 4 ≤ 100000; decide), T6.new np3, fun x j H7 e7 T7 hx => ?_⟩
    obtain ⟨w, rfl, w0, w1⟩ : ∃ w : Int, x = .int w ∧ 0 ≤ w ∧ w < 70 := by
      have hm := List.mem_of_getElem? hx
      simp only [List.mem_cons, List.not_mem_nil, or_false] at hm
      rcases hm with rfl | rfl | rfl | rfl <;> exact ⟨_, rfl, by omega, by omega⟩
    clear hx
    have e57 := (Nd.of e5).trans (e6.trans ((Nd.new np3).trans e7))
    have hp7 := e57.lst hp
    refine ⟨_, _, rfl, rfl, _, _, _, rfl, rfl, hp7, by rw [List.length_map]; exact Nat.lt_of_le_of_lt (show _ ≤ 10 by omega) (by decide), ?_⟩
    have td : Td H7 (upd H7 p (.lst (ps.map V.int ++ [.int (ls + w)]))) := Td.lst hp7
    refine ⟨_, _, _, _, ps ++ [ls + w], rfl, (E.trans e57).mut np, T0.mut np T7, by rw [upd_same, List.map_append]; rfl, td_tow td (e57.d hv), P.snoc (fun t ht => by have := lsb t ht; omega) (by omega) (uu_plain (by decide) ⟨by omega, by omega⟩), by rw [List.length_append]; show _ + 1 ≤ _; omega, fun t ht => ?_⟩
    rcases List.mem_append.mp ht with h | h
    · have := bp t h; omega
    · rw [List.mem_singleton.mp h]; omega
  obtain ⟨z5, z6, z7, z8, ps, rfl, E, T, hp, hv, P, lp, bp⟩ := h
  have c2 : c.toNat ≤ 2 := by omega
  obtain ⟨fe, ue, be⟩ := r.form
  obtain ⟨r2, big⟩ := row_far be ue
  obtain ⟨fe2, ue2, be2⟩ := r2.form
  have r1 := r.up
  -- places near the two bases
  refine ⟨_, rfl, _, rfl, (by show 2 ≤ sizeLine; decide), fun p4 np4 => ?_⟩
  refine ⟨(by show 2 ≤ sizeLine; decide), fun p5 np5 => ?_⟩
  have e45 : Nd H' (upd (upd H' p4 (.tup [.int 200, vt])) p5 (.lst [vt, .ref p4])) := (Nd.new np4).trans (Nd.new np5)
  have hb0 : Dp K (upd (upd H' p4 (.tup [.int 200, vt])) p5 (.lst [vt, .ref p4])) vt (gU (d + 2) (av l)) := by
    rw [r1.form.1]
    have h := e45.d hv
    rw [← fe, ← gU_up (L := 66) (by decide) (by decide) ue, r1.form.1] at h
    exact h
  have hb1 : Dp K (upd (upd H' p4 (.tup [.int 200, vt])) p5 (.lst [vt, .ref p4])) (.ref p4) (gU (d + 2) (av [200, av l])) := by
    rw [fe2]
    refine .tup (SqT.of ((Nd.new np5).tup upd_same)) (.cons ?_ (.cons ?_ .nil))
    · rw [gU_plain (by decide)]
      exact .int _
    · have h := e45.d hv
      rw [← fe] at h
      exact h
  have h5 : upd (upd H' p4 (.tup [.int 200, vt])) p5 (.lst [vt, .ref p4]) p5 = some (.lst [vt, .ref p4]) := upd_same
  have hp5 := e45.lst hp
  have T5 := (T.new (o := .tup [.int 200, vt]) np4).new (o := .lst [vt, .ref p4]) np5
  have np5p : p5 ≠ p := fun e => by
    have h := (Nd.new (o := .tup [.int 200, vt]) np4).lst hp
    rw [← e, np5] at h
    cases h
  have E5 := E.trans e45
  generalize upd (upd H' p4 (.tup [.int 200, vt])) p5 (.lst [vt, .ref p4]) = Hs at hb0 hb1 h5 hp5 T5 E5 ⊢
  clear e45 hv hp E T np4
  have dps5 : DpAll K Hs (ps.map V.int) (ps.map (gU (d + 2))) := by
    have e : ps.map (gU (d + 2)) = ps.map PyData.int := List.map_congr_left fun t ht => gU_plain ⟨by have := P.pos t ht; omega, by have := bp t ht; omega⟩
    rw [e]
    exact dps_ints ps
  -- the bases
  obtain ⟨bs, hbs⟩ : ∃ bs : Nat → List Int, bs 0 = l ∧ bs 1 = [200, av l] := ⟨fun k => if k = 0 then l else [200, av l], rfl, rfl⟩
  obtain ⟨vb, hvb⟩ : ∃ vb : Nat → V, vb 0 = vt ∧ vb 1 = .ref p4 := ⟨fun k => if k = 0 then vt else .ref p4, rfl, rfl⟩
  have rb : ∀ k, k < 2 → Row (d + 1) (bs k) := fun k hk => by
    have : k = 0 ∨ k = 1 := by omega
    rcases this with rfl | rfl
    · rw [hbs.1]; exact r1
    · rw [hbs.2]; exact r2
  have db : ∀ k, k < 2 → Dp K Hs (vb k) (gU (d + 2) (av (bs k))) := fun k hk => by
    have : k = 0 ∨ k = 1 := by omega
    rcases this with rfl | rfl
    · rw [hbs.1, hvb.1]; exact hb0
    · rw [hbs.2, hvb.2]; exact hb1
  have lim0 : 2 ^ 64 ≤ av (bs 0) := by rw [hbs.1]; exact be
  have lim1 : av (bs 0) + 100 < av (bs 1) := by rw [hbs.1, hbs.2]; exact big
  have elst : ([vt, .ref p4] : List V) = [vb 0, vb 1] := by rw [hvb.1, hvb.2]
  rw [elst] at h5
  clear hb0 hb1 hbs hvb elst r1 r2 fe ue be fe2 ue2 be2 big td_tow
  refine ⟨p5, rfl, ⟨_, SqL.of h5⟩, ?_⟩
  refine for_list (xs := [vb 0, vb 1]) (fun i σ H' => ∃ (z5 z6 z7 z8 : Option V) (vs : List V) (ps : List Int), σ = [some (.ref τ.t), some (.int (d : Int)), some (.int (most : Int)), some (.ref p), some vt, z5, z6, z7, z8] ∧ Nd H H' ∧ Tape K τ (n + 5 + 5 * (2 - i)) H' ∧ H' p5 = some (.lst [vb 0, vb 1]) ∧ H' p = some (.lst vs) ∧ DpAll K H' vs (ps.map (gU (d + 2))) ∧ (∀ k, k < 2 → Dp K H' (vb k) (gU (d + 2) (av (bs k)))) ∧ Ps (d + 2) ps ∧ ps.length ≤ 2 + 2 * i ∧ (i < 2 → ∀ t ∈ ps, t < av (bs i)))
    ⟨_, _, _, _, _, ps, rfl, E5, T5.mono (by omega), h5, hp5, dps5, db, P, by omega, fun _ t ht => by have := bp t ht; omega⟩ (fun i σ H' _ h => ?_) (fun i x σ H' hx h => ?_) (fun σ H' h => ?_)
  · obtain ⟨_, _, _, _, _, _, _, _, _, h, _⟩ := h
    exact SqL.of h
  · clear T5 hp5 dps5 db P bp E5 h5 lp
    obtain ⟨z5, z6, z7, z8, vs, ps, rfl, E, T, h5, hp, ds, db, P, lp, bp⟩ := h
    have i2 : i < 2 := (List.getElem?_eq_some_iff.mp hx).1
    have ex : x = vb i := by
      have : i = 0 ∨ i = 1 := by omega
      rcases this with rfl | rfl <;> exact (Option.some.inj hx).symm
    subst ex
    have bp := bp i2
    have ri := rb i i2
    refine ⟨_, rfl, τ, _, n + 5 + 5 * (2 - (i + 1)) + 4, rfl, T.mono (by omega), by decide, lt_BigL (by decide), fun g H1 e1 T1 g0 g1 => ?_⟩
    refine ⟨_, rfl, (by omega), (by omega), ?_⟩
    refine for_range (lo := 0) (n := g.toNat) (fun j σ H' => ∃ (z5 z6 : Option V) (s : Int) (vs : List V) (ps : List Int), σ = [some (.ref τ.t), some (.int (d : Int)), some (.int (most : Int)), some (.ref p), some vt, z5, z6, some (vb i), some (.int s)] ∧ Nd H H' ∧ Tape K τ (n + 5 + 5 * (2 - (i + 1)) + 2 * (2 - j)) H' ∧ H' p5 = some (.lst [vb 0, vb 1]) ∧ H' p = some (.lst vs) ∧ DpAll K H' vs (ps.map (gU (d + 2))) ∧ (∀ k, k < 2 → Dp K H' (vb k) (gU (d + 2) (av (bs k)))) ∧ Ps (d + 2) ps ∧ ps.length ≤ 2 + 2 * i + j ∧ 0 ≤ s ∧ s ≤ 30 * j ∧ ∀ t ∈ ps, t < av (bs i) + s + 1)
      ⟨_, _, _, _, ps, rfl, E.trans e1, T1.mono (by omega), e1.lst h5, e1.lst hp, e1.ds ds, fun k hk => e1.d (db k hk), P, by omega, Int.le_refl 0, by omega, fun t ht => by have := bp t ht; omega⟩ (fun j σ H2 hj h => ?_) (fun σ H2 h => ?_)
    · clear T1 e1 h5 hp ds db P lp bp E T
      obtain ⟨z5, z6, s, vs, ps, rfl, E, T, h5, hp, ds, db, P, lp, s0, s1, bp⟩ := h
      have j2 : j < 2 := by omega
      refine ⟨_, rfl, _, rfl, _, rfl, τ, _, n + 5 + 5 * (2 - (i + 1)) + 2 * (2 - (j + 1)) + 1, rfl, T.mono (by omega), by decide, lt_BigL (by decide), fun w H3 e3 T3 w0 w1 => ?_⟩
      refine ⟨_, _, rfl, rfl, (by show 4 ≤ sizeLine; decide), fun p6 np6 => ?_⟩
      refine ⟨τ, p6, _, n + 5 + 5 * (2 - (i + 1)) + 2 * (2 - (j + 1)), rfl, SqL.of upd_same, (by simp), (by show 4 ≤ 100000; decide), T3.new np6, fun y jy H4 e4 T4 hy => ?_⟩
      obtain ⟨u, rfl, u0, u1⟩ : ∃ u : Int, y = .int u ∧ 1 ≤ u ∧ u ≤ 30 := by
        have hm := List.mem_of_getElem? hy
        simp only [List.mem_cons, List.not_mem_nil, or_false] at hm
        rcases hm with rfl | rfl | rfl | rfl <;> exact ⟨_, rfl, by omega, by omega⟩
      clear hy
      refine ⟨_, _, rfl, rfl, ?_⟩
      have e24 := e3.trans ((Nd.new np6).trans e4)
      have hp4 := e24.lst hp
      refine ⟨_, rfl, .inl ⟨rfl, _, SqL.of hp4⟩, _, rfl, s + u, rfl, InB.of (n := 100) (by omega) (by omega) (by decide), fun l2 H5 e5 nl2 hl2 => ?_⟩
      refine ⟨_, _, rfl, SqL.of hl2, fun p8 np8 => ?_⟩
      have e58 := (Nd.of e5).trans (Nd.new (o := .tup (nI (turnsN (s + u)))) np8)
      have T8 := (T4.same e5).new (o := .tup (nI (turnsN (s + u)))) np8
      have e28 := e24.trans e58
      have h8 : upd H5 p8 (.tup (nI (turnsN (s + u)))) p8 = some (.tup (nI (turnsN (s + u)))) := upd_same
      generalize upd H5 p8 (.tup (nI (turnsN (s + u)))) = H8 at e58 T8 e28 h8 ⊢
      have hp8 := e28.lst hp
      have h58 := e28.lst h5
      have ds8 := e28.ds ds
      have db8 := fun k hk => e28.d (db k hk)
      have E8 := E.trans e28
      clear e3 e4 e5 e24 e58 T3 T4 T hp h5 ds db E e28 np6 hp4 nl2 np8
      obtain ⟨fb, ub, bb⟩ := ri.form
      have dbi := db8 i i2
      rw [fb] at dbi
      obtain ⟨ya, ysx, ev, hsq, hda⟩ : ∃ a xs, vb i = .ref a ∧ SqT K H8 a xs ∧ DpAll K H8 xs ((bs i).map (gU (d + 1))) := by
        generalize vb i = v at dbi
        cases dbi with
        | tup a b => exact ⟨_, _, rfl, a, b⟩
      have lxi : ysx.length = (bs i).length := by rw [dps_length hda, List.length_map]
      have lt1 : (turnsN (s + u)).length ≤ 8 := turns_len (n := 7) (by omega) (by omega)
      have lnI : (nI (turnsN (s + u))).length = (turnsN (s + u)).length := by unfold nI; rw [List.length_map]
      obtain ⟨gn, un⟩ := ri.step (s := s + u) (by omega) (by omega)
      have ne1 : turnsN (s + u) ≠ [] := fun e => by
        have h := turns_alt (s + u)
        rw [e] at h
        have : (0 : Int) = s + u := h
        omega
      refine ⟨vb i, rfl, p8, ya, _, ysx, rfl, ev, SqT.of h8, hsq, ?_, fun h0 => ?_, fun h0 h1 => ?_, fun h0 h1 p9 np9 => ?_⟩
      · rw [lnI, lxi]
        exact Nat.le_trans (show _ ≤ 2050 by have := ri.len; omega) (by decide)
      · exact absurd (by unfold nI at h0; exact List.map_eq_nil_iff.mp h0) ne1
      · exact absurd (by rw [← lxi, h1]; rfl) (show (bs i).length ≠ 0 by have := ri.len; omega)
      have e9 := Nd.new (o := .tup (nI (turnsN (s + u)) ++ ysx)) np9
      have hn : Dp K (upd H8 p9 (.tup (nI (turnsN (s + u)) ++ ysx))) (.ref p9) (gU (d + 2) (s + u + av (bs i))) := by
        rw [gn]
        exact .tup (SqT.of upd_same) (dps_app (tl_data (by omega) (by omega)) (e9.ds hda))
      have hp9 := e9.lst hp8
      have lv : vs.length = ps.length := by rw [dps_length ds8, List.length_map]
      refine ⟨p, _, _, rfl, rfl, hp9, by rw [lv]; exact Nat.lt_of_le_of_lt (show _ ≤ 10 by omega) (by decide), ?_⟩
      have td : Td (upd H8 p9 (.tup (nI (turnsN (s + u)) ++ ysx))) (upd (upd H8 p9 (.tup (nI (turnsN (s + u)) ++ ysx))) p (.lst (vs ++ [.ref p9]))) := Td.lst hp9
      refine ⟨_, _, s + u, _, ps ++ [s + u + av (bs i)], rfl, (E8.trans e9).mut np, T0.mut np (T8.new np9), by rw [upd_ne np5p]; exact e9.lst h58, upd_same, ?_, fun k hk => td.d (fm66 (rb k hk).form.2.1) (e9.d (db8 k hk)), P.snoc (fun t ht => by have := bp t ht; omega) (by omega) un, by rw [List.length_append]; show _ + 1 ≤ _; omega, by omega, by omega, fun t ht => ?_⟩
      · rw [List.map_append]
        refine dps_app (td.ds (n := d + 2) (fun x hx => ?_) (e9.ds ds8)) (.cons (td.d (fm66 un) hn) .nil)
        obtain ⟨t, ht, rfl⟩ := List.mem_map.mp hx
        exact fm66 (P.uu t ht)
      · rcases List.mem_append.mp ht with h | h
        · have := bp t h; omega
        · rw [List.mem_singleton.mp h]; omega
    · clear T1 e1 h5 hp ds db P lp bp E T
      obtain ⟨z5, z6, s, vs, ps, rfl, E, T, h5, hp, ds, db, P, lp, s0, s1, bp⟩ := h
      refine ⟨_, _, _, _, vs, ps, rfl, E, T.mono (by omega), h5, hp, ds, db, P, by omega, fun hi t ht => ?_⟩
      have : i = 0 := by omega
      subst this
      have := bp t ht
      show t < av (bs 1)
      have g2 : g.toNat ≤ 2 := by omega
      omega
  clear T5 hp5 dps5 db P bp E5 h5 lp
  obtain ⟨z5, z6, z7, z8, vs, ps, rfl, E, T, h5, hp, ds, db, P, lp, _⟩ := h
  refine ⟨_, rfl, _, rfl, _, rfl, _, _, rfl, SqL.of hp, fun p8 np8 => ?_⟩
  have lp : ps.length ≤ 6 := lp
  obtain ⟨fz, uz, tz⟩ := (P.take most).form (by rw [List.length_take]; omega)
  refine ⟨p8, _, _, d + 2, rfl, SqL.of upd_same, ?_, by omega, fun x hx => ?_, (P.take most).row, fun v H2 e2 dv => ?_⟩
  · rw [cut_natV, List.map_take]
    exact dps_take _ ((Nd.new np8).ds ds)
  · obtain ⟨t, ht, rfl⟩ := List.mem_map.mp hx
    exact fm66 ((P.take most).uu t ht)
  · rw [fz] at dv
    exact q v _ H2 (E.trans ((Nd.new np8).trans (Nd.of e2))) (((T.mono (by omega)).new np8).same e2) uz (by rw [tz, List.length_take]; omega) dv
/-- three heights at once -/
def spNest (K : PySem.W.Frag) : Sp := fun vs H Q E => ∃ d, d ≤ 2 ∧ spNested K d vs H Q E
theorem c_nested (D : DefAt K mg "_law_nested" S__law_nested P__law_nested) (B : Blt mg) (C_law_draw : Has P w K mg base 1 "_law_draw" P__law_draw [] (spDraw K)) (C_law_pick : Has P w K mg base 2 "_law_pick" P__law_pick [] (spPick K)) (C_law_turns : Has P w K mg base 1 "_law_turns" P__law_turns [] spTurns)
    (C_law_row_form : Has P w K mg base 2 "_law_row_form" P__law_row_form [] (spRow K)) (C_law_tower : ∀ d : Nat, Has P w K mg base (d + 2) "_law_tower" P__law_tower [] (spTower K d)) : Has P w K mg base 6 "_law_nested" P__law_nested [] (spNest K) :=
  D.has fun _ _ F => by
    have ok : ∀ d, d ≤ 2 → FnOk P w K mg base CX0 6 _ _ P__law_nested (spNested K d) := fun d hd => ok_nested (d := d) (k := 5) (by omega) (by decide) F B C_law_draw C_law_pick C_law_turns C_law_row_form ((C_law_tower d).mono (by omega))
    exact ⟨fun vs H Q E ⟨d, hd, h⟩ => (ok d hd).len vs H Q E h, fun A outer s H args us vs Q E hr he hb hv ⟨d, hd, h⟩ => (ok d hd).run A outer s H args us vs Q E hr he hb hv h⟩
end
end Fb
namespace Fb
open PySem L2
/-! ### rests by the turns of a form -/
/-- a modulus with its part of two, whether it has an odd part, and the period of 2 -/
def modRows : List (Int × Int × Int × Int) := [(2305843009213693951, 0, 1, 61), (61, 0, 1, 60), (60, 2, 15, 4), (4, 2, 0, 1), (65537, 0, 1, 32), (32, 5, 0, 1), (97, 0, 1, 48), (48, 4, 3, 2), (2, 1, 0, 1)]
def Md (M : Int) : Prop := ∃ r ∈ modRows, r.1 = M
theorem md_pos {M : Int} (h : Md M) : 2 ≤ M ∧ M < 2 ^ 62 := by
  obtain ⟨r, hr, rfl⟩ := h
  unfold modRows at hr
  simp only [List.mem_cons, List.not_mem_nil, or_false] at hr
  rcases hr with rfl | rfl | rfl | rfl | rfl | rfl | rfl | rfl | rfl <;> exact ⟨by decide, by decide⟩
/-- what a row tells of powers of two -/
structure MdRow (M two odd per : Int) : Prop where
  md : Md M
  t0 : 0 ≤ two ∧ two ≤ 5
  p0 : 1 ≤ per ∧ per ≤ 61
  lt : (2 : Int) ^ two.toNat ≤ M
  zero : odd = 0 → M = 2 ^ two.toNat
  per_md : odd ≠ 0 → Md per ∧ ((2 : Int) ^ (two.toNat + per.toNat) - 2 ^ two.toNat) % M = 0
theorem md_row {r : Int × Int × Int × Int} (h : r ∈ modRows) : MdRow r.1 r.2.1 r.2.2.1 r.2.2.2 := by
  have md : Md r.1 := ⟨r, h, rfl⟩
  have mm : ∀ x, x ∈ modRows → Md x.1 := fun x hx => ⟨x, hx, rfl⟩
  unfold modRows at h
  simp only [List.mem_cons, List.not_mem_nil, or_false] at h
  rcases h with rfl | rfl | rfl | rfl | rfl | rfl | rfl | rfl | rfl
  · exact ⟨md, by decide, by decide, by decide, by decide, fun _ => ⟨mm (61, 0, 1, 60) (by decide), by decide⟩⟩
  · exact ⟨md, by decide, by decide, by decide, by decide, fun _ => ⟨mm (60, 2, 15, 4) (by decide), by decide⟩⟩
  · exact ⟨md, by decide, by decide, by decide, by decide, fun _ => ⟨mm (4, 2, 0, 1) (by decide), by decide⟩⟩
  · exact ⟨md, by decide, by decide, by decide, by decide, fun h => absurd rfl h⟩
  · exact ⟨md, by decide, by decide, by decide, by decide, fun _ => ⟨mm (32, 5, 0, 1) (by decide), by decide⟩⟩
  · exact ⟨md, by decide, by decide, by decide, by decide, fun h => absurd rfl h⟩
  · exact ⟨md, by decide, by decide, by decide, by decide, fun _ => ⟨mm (48, 4, 3, 2) (by decide), by decide⟩⟩
  · exact ⟨md, by decide, by decide, by decide, by decide, fun _ => ⟨mm (2, 1, 0, 1) (by decide), by decide⟩⟩
  · exact ⟨md, by decide, by decide, by decide, by decide, fun h => absurd rfl h⟩
/-- the rest of a power of two, by a shorter power -/
theorem pow_rest {M two odd per : Int} (h : MdRow M two odd per) (ho : odd ≠ 0) {p : Nat} (hp : two.toNat ≤ p) : (2 : Int) ^ (two.toNat + ((((p : Int) % per - two) % per).toNat)) % M = 2 ^ p % M := by
  obtain ⟨t0, t5⟩ := h.t0
  obtain ⟨p1, p2⟩ := h.p0
  obtain ⟨_, hd⟩ := h.per_md ho
  obtain ⟨t, rfl⟩ := Int.eq_ofNat_of_zero_le t0
  obtain ⟨q, rfl⟩ := Int.eq_ofNat_of_zero_le (show 0 ≤ per by omega)
  rw [Int.toNat_natCast] at hp hd ⊢
  rw [Int.toNat_natCast] at hd
  have e : (((p : Int) % (q : Int) - (t : Int)) % (q : Int)).toNat = (p - t) % q := by
    have e1 : ((p : Int) % (q : Int) - (t : Int)) % (q : Int) = ((p : Int) - (t : Int)) % (q : Int) := Int.emod_sub_emod ..
    rw [e1, show (p : Int) - (t : Int) = ((p - t : Nat) : Int) by omega, ← Int.natCast_emod, Int.toNat_natCast]
  rw [e]
  have base : ∀ r k : Nat, (2 : Int) ^ (t + (r + q * k)) % M = 2 ^ (t + r) % M := fun r k => by
    induction k with
    | zero => rfl
    | succ k ih =>
      rw [← ih]
      have e2 : t + (r + q * (k + 1)) = (t + q) + (r + q * k) := by rw [Nat.mul_succ]; omega
      have k1 : (2 : Int) ^ (t + q) % M = 2 ^ t % M := Int.emod_eq_emod_iff_emod_sub_eq_zero.mpr hd
      rw [e2, Int.pow_add, Int.mul_emod, k1, ← Int.mul_emod, ← Int.pow_add]
  have e3 : p = t + ((p - t) % q + q * ((p - t) / q)) := by
    have := Nat.mod_add_div (p - t) q
    omega
  rw [← base ((p - t) % q) ((p - t) / q), ← e3]
theorem pow_zero_rest {M two odd per : Int} (h : MdRow M two odd per) (ho : odd = 0) {p : Nat} (hp : two.toNat ≤ p) : (2 : Int) ^ p % M = 0 := by
  rw [h.zero ho, show p = two.toNat + (p - two.toNat) by omega, Int.pow_add]
  exact Int.mul_emod_right ..
theorem cpow_1 {j : Int} (h0 : 0 ≤ j) (h1 : j ≤ 1000000) : CPow 1 j := ⟨h0, h1, by decide⟩
def rowV (r : Int × Int × Int × Int) : List V := [.int r.1, .int r.2.1, .int r.2.2.1, .int r.2.2.2]
theorem md_inj0 : ∀ i j : Fin 9, (modRows.getD i (0, 0, 0, 0)).1 = (modRows.getD j (0, 0, 0, 0)).1 → i = j := by decide
theorem md_inj {i j : Nat} {r s : Int × Int × Int × Int} (hi : modRows[i]? = some r) (hj : modRows[j]? = some s) (h : r.1 = s.1) : i = j := by
  have i9 : i < 9 := (List.getElem?_eq_some_iff.mp hi).1
  have j9 : j < 9 := (List.getElem?_eq_some_iff.mp hj).1
  have := md_inj0 ⟨i, i9⟩ ⟨j, j9⟩ (by
    rw [List.getD_eq_getElem?_getD, List.getD_eq_getElem?_getD]
    show ((modRows[i]?).getD _).1 = ((modRows[j]?).getD _).1
    rw [hi, hj]
    exact h)
  exact congrArg Fin.val this
theorem gU_cases {n : Nat} {z : Int} (h : UU 8500 n z) : (plain z ∧ gU n z = .int z) ∨ (¬ plain z ∧ ∃ m, n = m + 1 ∧ gU n z = .tuple ((Tl z).map (gU m))) := by
  cases n with
  | zero => exact .inl ⟨h, rfl⟩
  | succ m =>
    rcases num_cases (oU m) (uu_num (Nat.le_refl _) h) with ⟨p, e, _⟩ | ⟨p, e, _⟩
    · exact .inl ⟨p, e⟩
    · exact .inr ⟨p, m, rfl, e⟩
section
variable {P : Program} {w : World} {K : PySem.W.Frag} {mg : Str → Option Value} {base : Heap} {f : Addr} {fd : FuncData}
abbrev S__law_power_rest : Stmt := top 79
abbrev N__law_power_rest : List Str := ["_law_place", "_law_modulus", "_law_rows", "_law_two", "_law_odd", "_law_period", "_law_rest_here", "_law_row"]
abbrev P__law_power_rest : List Str := ["_law_place", "_law_modulus"]
theorem sc__law_power_rest : FnScope N__law_power_rest P__law_power_rest (defScope S__law_power_rest) := ⟨rfl, rfl, rfl, by decide +kernel, rfl, by decide +kernel, by decide +kernel⟩
abbrev S__law_rest : Stmt := top 80
abbrev N__law_rest : List Str := ["_law_form", "_law_modulus", "_law_found", "_law_sign", "_law_place"]
abbrev P__law_rest : List Str := ["_law_form", "_law_modulus"]
theorem sc__law_rest : FnScope N__law_rest P__law_rest (defScope S__law_rest) := ⟨rfl, rfl, rfl, by decide +kernel, rfl, by decide +kernel, by decide +kernel⟩
def spRest (K : PySem.W.Frag) (n : Nat) : Sp := fun vs H Q _ => ∃ (v : V) (z M : Int), vs = [v, .int M] ∧ Dp K H v (gU n z) ∧ UU 8500 n z ∧ Md M ∧ ∀ H', Same H H' → Q (.int (z % M)) H'
def spPrest (K : PySem.W.Frag) (n : Nat) : Sp := fun vs H Q _ => ∃ (v : V) (p M : Int), vs = [v, .int M] ∧ Dp K H v (gU n p) ∧ SU 8500 n p ∧ Md M ∧ ∀ H', Same H H' → Q (.int (2 ^ p.toNat % M)) H'
/-- what is left of an integer's turns -/
theorem rest_rec {M : Int} : ∀ (l : List Int) (s a : Int), (s = 1 ∨ s = -1) → (l.foldl (fun x t => (x.1 + x.2 * (2 ^ t.toNat % M), -x.2)) (a, s)).1 % M = (a + alt s (l.map Int.toNat)) % M
  | [], s, a, _ => by show a % M = (a + 0) % M; rw [Int.add_zero]
  | t :: l, s, a, hs => by
    show (l.foldl _ (a + s * (2 ^ t.toNat % M), -s)).1 % M = (a + (s * 2 ^ t.toNat + alt (-s) (l.map Int.toNat))) % M
    rw [rest_rec l (-s) _ (by omega)]
    generalize alt (-s) (l.map Int.toNat) = X
    generalize (2 : Int) ^ t.toNat = Y
    have e : (Y % M) = Y - M * (Y / M) := by have := Int.emod_add_mul_ediv Y M; omega
    rw [e, Int.mul_sub]
    have : a + (s * Y - s * (M * (Y / M))) + X = a + (s * Y + X) + M * (-(s * (Y / M))) := by
      rw [Int.mul_neg, Int.mul_left_comm M s]
      omega
    rw [this, Int.add_mul_emod_self_left]
theorem ok_prest {n k : Nat} (k1 : 1 ≤ k) (F : Fun K "_law_power_rest" "_law_power_rest" S__law_power_rest f fd) (B : Blt mg) (C_law_rest : Has P w K mg base k "_law_rest" P__law_rest [] (spRest K n)) : FnOk P w K mg base CX0 (k + 1) f fd P__law_power_rest (spPrest K n) := by
  have nd := sc__law_power_rest.nd
  refine F.ok sc__law_power_rest (fun vs H Q E h => ?_) (fun cdv A outer s H vs Q E hr h => ?_)
  · obtain ⟨v, p, M, rfl, _⟩ := h
    rfl
  obtain ⟨v, p, M, rfl, hd, hp, hM, q⟩ := h
  refine ⟨_, (pss_cons (ps_set (i := 2) nd rfl (Or.inl rfl) (pe_lst (pa_cons (pe_tup (pa_cons pe_int (pa_cons pe_int (pa_cons pe_int (pa_cons pe_int pa_nil))))) (pa_cons (pe_tup (pa_cons pe_int (pa_cons pe_int (pa_cons pe_int (pa_cons pe_int pa_nil))))) (pa_cons (pe_tup (pa_cons pe_int (pa_cons pe_int (pa_cons pe_int (pa_cons pe_int pa_nil))))) (pa_cons (pe_tup (pa_cons pe_int (pa_cons pe_int (pa_cons pe_int (pa_cons pe_int pa_nil))))) pa_nil))))))
    (pss_cons (ps_set (i := 2) nd rfl (Or.inl rfl) (pe_op op_cat (pv 2) (pe_lst (pa_cons (pe_tup (pa_cons pe_int (pa_cons pe_int (pa_cons pe_int (pa_cons pe_int pa_nil))))) (pa_cons (pe_tup (pa_cons pe_int (pa_cons pe_int (pa_cons pe_int (pa_cons pe_int pa_nil))))) (pa_cons (pe_tup (pa_cons pe_int (pa_cons pe_int (pa_cons pe_int (pa_cons pe_int pa_nil))))) (pa_cons (pe_tup (pa_cons pe_int (pa_cons pe_int (pa_cons pe_int (pa_cons pe_int pa_nil))))) (pa_cons (pe_tup (pa_cons pe_int (pa_cons pe_int (pa_cons pe_int (pa_cons pe_int pa_nil))))) pa_nil))))))))
    (pss_cons (ps_asg (pe_ix ix_list (pe_lc (own := [("_law_row", 7)]) (g := gName 7) rfl nd (pi_list (pv 2)) (blkOk_by (own := [("_law_row", 7)]) (N := N__law_power_rest) (sc := defScope S__law_power_rest) (by decide +kernel)) (fun _ _ _ _ _ => pg_name (i := 7) nd rfl (Or.inl rfl)) (fun _ _ _ _ _ => (pts_one (pt_cmpR op_eq (pe_ix (ix_tupK K) (pv 7) pe_int (fun _ _ => rfl)) (pv 1) (nomark _)))) (fun _ _ _ _ _ => (pe_slice (sl_seqD K) (pv 7) (po_some pe_int) po_none))) pe_int (fun _ _ => rfl)) (pg_tup rfl (pgs_cons (pg_name (i := 3) nd rfl (Or.inl rfl)) (pgs_cons (pg_name (i := 4) nd rfl (Or.inl rfl)) (pgs_cons (pg_name (i := 5) nd rfl (Or.inl rfl)) pgs_nil)))))
    (pss_cons (ps_if (PW.pt (pw_and (pt_val (pe_callB (call_isiI K) (by rfl) B.isinstance (by decide +kernel) (pa_cons (pv 0) (pa_cons (pe_bltn (by rfl) B.int (by decide +kernel) (show RelV (.ty "int") (.type "int") from rfl)) pa_nil)))) (pw_and1 (pt_cmpR op_lt (pv 0) (pv 3) (nomark _))))) (pss_one (ps_ret (pe_op op_shl pe_int (pv 0)))) pss_nil)
    (pss_cons (ps_if (pt_cmpR op_eq (pv 4) pe_int (nomark _)) (pss_one (ps_ret pe_int)) pss_nil)
    (pss_cons (ps_set (i := 6) nd rfl (Or.inl rfl) (pe_op op_modN (pe_callTy call_intI (by rfl) B.int (by decide +kernel) (pa_cons (pe_op op_sub (pe_H C_law_rest (hr.mono (by omega)) rfl (pa_cons (pv 0) (pa_cons (pv 5) pa_nil))) (pv 3)) pa_nil)) (pv 5)))
    (pss_one (ps_ret (pe_op op_modN (pe_callTy call_intI (by rfl) B.int (by decide +kernel) (pa_cons (pe_op op_shl pe_int (pe_op op_add (pv 3) (pv 6))) pa_nil)) (pv 1)))))))))), ?_⟩
  refine ⟨(by show 4 ≤ sizeLine; decide), fun p1 np1 => ?_⟩
  have hx : upd H p1 (.tup [.int 2305843009213693951, .int 0, .int 1, .int 61]) p1 = some (.tup [.int 2305843009213693951, .int 0, .int 1, .int 61]) := upd_same
  have ex := Same.new (o := .tup [.int 2305843009213693951, .int 0, .int 1, .int 61]) np1
  have E := ex
  generalize upd H p1 (.tup [.int 2305843009213693951, .int 0, .int 1, .int 61]) = G0 at hx ex E  ⊢
  have hp1 := hx
  clear hx ex np1
  refine ⟨(by show 4 ≤ sizeLine; decide), fun p2 np2 => ?_⟩
  have hx : upd G0 p2 (.tup [.int 61, .int 0, .int 1, .int 60]) p2 = some (.tup [.int 61, .int 0, .int 1, .int 60]) := upd_same
  have ex := Same.new (o := .tup [.int 61, .int 0, .int 1, .int 60]) np2
  have hp1 := ex _ _ hp1
  have E := E.trans ex
  generalize upd G0 p2 (.tup [.int 61, .int 0, .int 1, .int 60]) = G1 at hx ex E hp1 ⊢
  have hp2 := hx
  clear hx ex np2
  refine ⟨(by show 4 ≤ sizeLine; decide), fun p3 np3 => ?_⟩
  have hx : upd G1 p3 (.tup [.int 60, .int 2, .int 15, .int 4]) p3 = some (.tup [.int 60, .int 2, .int 15, .int 4]) := upd_same
  have ex := Same.new (o := .tup [.int 60, .int 2, .int 15, .int 4]) np3
  have hp1 := ex _ _ hp1
  have hp2 := ex _ _ hp2
  have E := E.trans ex
  generalize upd G1 p3 (.tup [.int 60, .int 2, .int 15, .int 4]) = G2 at hx ex E hp1 hp2 ⊢
  have hp3 := hx
  clear hx ex np3
  refine ⟨(by show 4 ≤ sizeLine; decide), fun p4 np4 => ?_⟩
  have hx : upd G2 p4 (.tup [.int 4, .int 2, .int 0, .int 1]) p4 = some (.tup [.int 4, .int 2, .int 0, .int 1]) := upd_same
  have ex := Same.new (o := .tup [.int 4, .int 2, .int 0, .int 1]) np4
  have hp1 := ex _ _ hp1
  have hp2 := ex _ _ hp2
  have hp3 := ex _ _ hp3
  have E := E.trans ex
  generalize upd G2 p4 (.tup [.int 4, .int 2, .int 0, .int 1]) = G3 at hx ex E hp1 hp2 hp3 ⊢
  have hp4 := hx
  clear hx ex np4
  refine ⟨(by show 4 ≤ sizeLine; decide), fun p5 np5 => ?_⟩
  have hx : upd G3 p5 (.lst [.ref p1, .ref p2, .ref p3, .ref p4]) p5 = some (.lst [.ref p1, .ref p2, .ref p3, .ref p4]) := upd_same
  have ex := Same.new (o := .lst [.ref p1, .ref p2, .ref p3, .ref p4]) np5
  have hp1 := ex _ _ hp1
  have hp2 := ex _ _ hp2
  have hp3 := ex _ _ hp3
  have hp4 := ex _ _ hp4
  have E := E.trans ex
  generalize upd G3 p5 (.lst [.ref p1, .ref p2, .ref p3, .ref p4]) = G4 at hx ex E hp1 hp2 hp3 hp4 ⊢
  have hp5 := hx
  clear hx ex np5
  refine ⟨_, rfl, (by show 4 ≤ sizeLine; decide), fun p6 np6 => ?_⟩
  have hx : upd G4 p6 (.tup [.int 65537, .int 0, .int 1, .int 32]) p6 = some (.tup [.int 65537, .int 0, .int 1, .int 32]) := upd_same
  have ex := Same.new (o := .tup [.int 65537, .int 0, .int 1, .int 32]) np6
  have hp1 := ex _ _ hp1
  have hp2 := ex _ _ hp2
  have hp3 := ex _ _ hp3
  have hp4 := ex _ _ hp4
  have hp5 := ex _ _ hp5
  have E := E.trans ex
  generalize upd G4 p6 (.tup [.int 65537, .int 0, .int 1, .int 32]) = G5 at hx ex E hp1 hp2 hp3 hp4 hp5 ⊢
  have hp6 := hx
  clear hx ex np6
  refine ⟨(by show 4 ≤ sizeLine; decide), fun p7 np7 => ?_⟩
  have hx : upd G5 p7 (.tup [.int 32, .int 5, .int 0, .int 1]) p7 = some (.tup [.int 32, .int 5, .int 0, .int 1]) := upd_same
  have ex := Same.new (o := .tup [.int 32, .int 5, .int 0, .int 1]) np7
  have hp1 := ex _ _ hp1
  have hp2 := ex _ _ hp2
  have hp3 := ex _ _ hp3
  have hp4 := ex _ _ hp4
  have hp5 := ex _ _ hp5
  have hp6 := ex _ _ hp6
  have E := E.trans ex
  generalize upd G5 p7 (.tup [.int 32, .int 5, .int 0, .int 1]) = G6 at hx ex E hp1 hp2 hp3 hp4 hp5 hp6 ⊢
  have hp7 := hx
  clear hx ex np7
  refine ⟨(by show 4 ≤ sizeLine; decide), fun p8 np8 => ?_⟩
  have hx : upd G6 p8 (.tup [.int 97, .int 0, .int 1, .int 48]) p8 = some (.tup [.int 97, .int 0, .int 1, .int 48]) := upd_same
  have ex := Same.new (o := .tup [.int 97, .int 0, .int 1, .int 48]) np8
  have hp1 := ex _ _ hp1
  have hp2 := ex _ _ hp2
  have hp3 := ex _ _ hp3
  have hp4 := ex _ _ hp4
  have hp5 := ex _ _ hp5
  have hp6 := ex _ _ hp6
  have hp7 := ex _ _ hp7
  have E := E.trans ex
  generalize upd G6 p8 (.tup [.int 97, .int 0, .int 1, .int 48]) = G7 at hx ex E hp1 hp2 hp3 hp4 hp5 hp6 hp7 ⊢
  have hp8 := hx
  clear hx ex np8
  refine ⟨(by show 4 ≤ sizeLine; decide), fun p9 np9 => ?_⟩
  have hx : upd G7 p9 (.tup [.int 48, .int 4, .int 3, .int 2]) p9 = some (.tup [.int 48, .int 4, .int 3, .int 2]) := upd_same
  have ex := Same.new (o := .tup [.int 48, .int 4, .int 3, .int 2]) np9
  have hp1 := ex _ _ hp1
  have hp2 := ex _ _ hp2
  have hp3 := ex _ _ hp3
  have hp4 := ex _ _ hp4
  have hp5 := ex _ _ hp5
  have hp6 := ex _ _ hp6
  have hp7 := ex _ _ hp7
  have hp8 := ex _ _ hp8
  have E := E.trans ex
  generalize upd G7 p9 (.tup [.int 48, .int 4, .int 3, .int 2]) = G8 at hx ex E hp1 hp2 hp3 hp4 hp5 hp6 hp7 hp8 ⊢
  have hp9 := hx
  clear hx ex np9
  refine ⟨(by show 4 ≤ sizeLine; decide), fun p10 np10 => ?_⟩
  have hx : upd G8 p10 (.tup [.int 2, .int 1, .int 0, .int 1]) p10 = some (.tup [.int 2, .int 1, .int 0, .int 1]) := upd_same
  have ex := Same.new (o := .tup [.int 2, .int 1, .int 0, .int 1]) np10
  have hp1 := ex _ _ hp1
  have hp2 := ex _ _ hp2
  have hp3 := ex _ _ hp3
  have hp4 := ex _ _ hp4
  have hp5 := ex _ _ hp5
  have hp6 := ex _ _ hp6
  have hp7 := ex _ _ hp7
  have hp8 := ex _ _ hp8
  have hp9 := ex _ _ hp9
  have E := E.trans ex
  generalize upd G8 p10 (.tup [.int 2, .int 1, .int 0, .int 1]) = G9 at hx ex E hp1 hp2 hp3 hp4 hp5 hp6 hp7 hp8 hp9 ⊢
  have hp10 := hx
  clear hx ex np10
  refine ⟨(by show 5 ≤ sizeLine; decide), fun p11 np11 => ?_⟩
  have hx : upd G9 p11 (.lst [.ref p6, .ref p7, .ref p8, .ref p9, .ref p10]) p11 = some (.lst [.ref p6, .ref p7, .ref p8, .ref p9, .ref p10]) := upd_same
  have ex := Same.new (o := .lst [.ref p6, .ref p7, .ref p8, .ref p9, .ref p10]) np11
  have hp1 := ex _ _ hp1
  have hp2 := ex _ _ hp2
  have hp3 := ex _ _ hp3
  have hp4 := ex _ _ hp4
  have hp5 := ex _ _ hp5
  have hp6 := ex _ _ hp6
  have hp7 := ex _ _ hp7
  have hp8 := ex _ _ hp8
  have hp9 := ex _ _ hp9
  have hp10 := ex _ _ hp10
  have E := E.trans ex
  generalize upd G9 p11 (.lst [.ref p6, .ref p7, .ref p8, .ref p9, .ref p10]) = G10 at hx ex E hp1 hp2 hp3 hp4 hp5 hp6 hp7 hp8 hp9 hp10 ⊢
  have hp11 := hx
  clear hx ex np11
  refine ⟨p5, p11, _, _, rfl, rfl, hp5, hp11, (by show 4 + 5 ≤ sizeLine; decide), fun p12 np12 => ?_⟩
  have hx : upd G10 p12 (.lst ([.ref p1, .ref p2, .ref p3, .ref p4] ++ [.ref p6, .ref p7, .ref p8, .ref p9, .ref p10])) p12 = some (.lst ([.ref p1, .ref p2, .ref p3, .ref p4] ++ [.ref p6, .ref p7, .ref p8, .ref p9, .ref p10])) := upd_same
  have ex := Same.new (o := .lst ([.ref p1, .ref p2, .ref p3, .ref p4] ++ [.ref p6, .ref p7, .ref p8, .ref p9, .ref p10])) np12
  have hp1 := ex _ _ hp1
  have hp2 := ex _ _ hp2
  have hp3 := ex _ _ hp3
  have hp4 := ex _ _ hp4
  have hp5 := ex _ _ hp5
  have hp6 := ex _ _ hp6
  have hp7 := ex _ _ hp7
  have hp8 := ex _ _ hp8
  have hp9 := ex _ _ hp9
  have hp10 := ex _ _ hp10
  have hp11 := ex _ _ hp11
  have E := E.trans ex
  generalize upd G10 p12 (.lst ([.ref p1, .ref p2, .ref p3, .ref p4] ++ [.ref p6, .ref p7, .ref p8, .ref p9, .ref p10])) = G11 at hx ex E hp1 hp2 hp3 hp4 hp5 hp6 hp7 hp8 hp9 hp10 hp11 ⊢
  have hp12 := hx
  clear hx ex np12
  have hrows : ∀ i r, modRows[i]? = some r → ∃ a : Addr, ([V.ref p1, V.ref p2, V.ref p3, V.ref p4] ++ [V.ref p6, V.ref p7, V.ref p8, V.ref p9, V.ref p10])[i]? = some (V.ref a) ∧ G11 a = some (.tup (rowV r)) := fun i r h => by
    have hi : i < 9 := (List.getElem?_eq_some_iff.mp h).1
    have c9 : i = 0 ∨ i = 1 ∨ i = 2 ∨ i = 3 ∨ i = 4 ∨ i = 5 ∨ i = 6 ∨ i = 7 ∨ i = 8 := by omega
    rcases c9 with rfl | rfl | rfl | rfl | rfl | rfl | rfl | rfl | rfl <;> cases h
    · exact ⟨_, rfl, hp1⟩
    · exact ⟨_, rfl, hp2⟩
    · exact ⟨_, rfl, hp3⟩
    · exact ⟨_, rfl, hp4⟩
    · exact ⟨_, rfl, hp6⟩
    · exact ⟨_, rfl, hp7⟩
    · exact ⟨_, rfl, hp8⟩
    · exact ⟨_, rfl, hp9⟩
    · exact ⟨_, rfl, hp10⟩
  have hl9 : ([V.ref p1, V.ref p2, V.ref p3, V.ref p4] ++ [V.ref p6, V.ref p7, V.ref p8, V.ref p9, V.ref p10]).length = 9 := rfl
  generalize ([V.ref p1, V.ref p2, V.ref p3, V.ref p4] ++ [V.ref p6, V.ref p7, V.ref p8, V.ref p9, V.ref p10]) = xs at hp12 hrows hl9 ⊢
  clear hp1 hp2 hp3 hp4 hp5 hp6 hp7 hp8 hp9 hp10 hp11
  have hd := (Nd.of E).d hd
  obtain ⟨r0, hr0, eM⟩ := hM
  obtain ⟨j0, hj0⟩ := List.getElem?_of_mem hr0
  have R := md_row hr0
  rw [eM] at R
  refine ⟨_, rfl, p12, rfl, ⟨_, SqL.of hp12⟩, fun D nD => ?_⟩
  refine lc_list (K := K) (a := p12) (xs := xs) (fun i H' => Same G11 H' ∧ ∃ ds : List V, H' D = some (.lst ds) ∧ ds.length ≤ 1 ∧ (i ≤ j0 → ds = []) ∧ (j0 < i → ∃ b, ds = [.ref b] ∧ SqT K H' b [.int r0.2.1, .int r0.2.2.1, .int r0.2.2.2])) ⟨Same.new nD, [], upd_same, by decide, fun _ => rfl, fun h => absurd h (Nat.not_lt_zero _)⟩ (fun i H' _ h => SqL.of (h.1 _ _ hp12)) (fun i x H' hx h => ?_) (fun H' h => ?_)
  · obtain ⟨e, ds, hD, l1, k0, k1⟩ := h
    have hi : i < xs.length := (List.getElem?_eq_some_iff.mp hx).1
    rw [hl9] at hi
    obtain ⟨r, hr1⟩ : ∃ r, modRows[i]? = some r := ⟨_, List.getElem?_eq_getElem (show i < 9 from hi)⟩
    obtain ⟨ar, hxa, hta⟩ := hrows i r hr1
    rw [hxa] at hx
    cases hx
    have h0 := e _ _ hta
    refine ⟨rfl, ?_⟩
    refine ⟨_, rfl, ar, _, _, _, rfl, rfl, SqT.of h0, atI_nat (j := 0) rfl, _, rfl, rfl, _, rfl, ?_⟩
    refine iteD (fun c => ?_) (fun c => ?_)
    · have c : r.1 = M := by injection c
      have ij : i = j0 := md_inj hr1 hj0 (by rw [c, eM])
      subst ij
      rw [hj0] at hr1
      cases hr1
      have ds0 := k0 (Nat.le_refl _)
      subst ds0
      refine ⟨_, rfl, _, rfl, ar, _, rfl, .inr ⟨SqT.of h0, fun b H2 e2 hb => ?_⟩⟩
      have td : Td H2 (upd H2 D (.lst ([] ++ [.ref b]))) := Td.lst (e2 _ _ hD)
      exact ⟨[], e2 _ _ hD, by decide, Same.mut (e.trans e2) nD, [.ref b], upd_same, Nat.le_refl 1, fun h => absurd h (Nat.not_succ_le_self _), fun _ => ⟨b, rfl, td.sqt hb⟩⟩
    · have ij : i ≠ j0 := fun h => by
        subst h
        rw [hj0] at hr1
        cases hr1
        exact c (by rw [eM])
      exact ⟨e, ds, hD, l1, fun h => k0 (by omega), fun h => k1 (by omega)⟩
  obtain ⟨e, ds, hD, _, _, k1⟩ := h
  have hj9 : j0 < xs.length := by rw [hl9]; exact (List.getElem?_eq_some_iff.mp hj0).1
  obtain ⟨b, rfl, hb⟩ := k1 hj9
  refine ⟨_, _, _, _, rfl, rfl, SqL.of hD, atI_nat (j := 0) rfl, _, _, rfl, hb, rfl, _, _, rfl, _, _, rfl, _, _, rfl, rfl, ?_⟩
  have E2 := E.trans e
  have hd2 := (Nd.of e).d hd
  clear hb hD nD hp12 hrows hl9 k1 e hj9 hd
  obtain ⟨t0, t5⟩ := R.t0
  obtain ⟨p1', p2'⟩ := R.p0
  obtain ⟨M0, M1⟩ := md_pos ⟨r0, hr0, eM⟩
  have p0 := hp.1
  refine ⟨_, rfl, v, _, rfl, hd2, _, rfl, ?_⟩
  rcases gU_cases hp.2 with ⟨pl, ep⟩ | ⟨npl, m, en, ep⟩
  · rw [ep]
    have ev : v = .int p := by
      rw [ep] at hd2
      cases hd2
      rfl
    subst ev
    refine iteT ?_
    refine ⟨_, rfl, _, rfl, _, _, rfl, rfl, _, rfl, ?_⟩
    refine iteD (fun c => ?_) (fun c => ?_)
    · refine ⟨_, rfl, _, _, rfl, rfl, cpow_1 p0 (by omega), ?_⟩
      have l2 : (2 : Int) ^ p.toNat < 2 ^ r0.2.1.toNat := by
        have := Nat.pow_lt_pow_right (a := 2) (by decide) (show p.toNat < r0.2.1.toNat by omega)
        exact_mod_cast this
      have lM := R.lt
      have e : (2 : Int) ^ p.toNat % M = 1 * 2 ^ p.toNat := by
        rw [Int.one_mul]
        exact Int.emod_eq_of_lt (Int.le_of_lt (Int.pow_pos (by decide))) (by omega)
      have h := q H' E2
      rw [e] at h
      exact h
    · have hle : r0.2.1 ≤ p := by omega
      refine ⟨_, rfl, rfl, _, rfl, ?_⟩
      refine iteD (fun c => ?_) (fun c => ?_)
      · have c : r0.2.2.1 = 0 := by injection c
        have z := pow_zero_rest R c (p := p.toNat) (by omega)
        have h := q H' E2
        rw [z] at h
        exact h
      · have ho : r0.2.2.1 ≠ 0 := fun h => c (by rw [h])
        refine ⟨_, rfl, _, rfl, _, p, r0.2.2.2, rfl, hd2, hp.2, (R.per_md ho).1, fun H2 e2 => ?_⟩
        have key := pow_rest R ho (p := p.toNat) (by omega)
        rw [show ((p.toNat : Nat) : Int) = p by omega] at key
        have m0 : 0 ≤ (p % r0.2.2.2 - r0.2.1) % r0.2.2.2 := Int.emod_nonneg _ (by omega)
        have m1 : (p % r0.2.2.2 - r0.2.1) % r0.2.2.2 < r0.2.2.2 := Int.emod_lt_of_pos _ (by omega)
        have fm : Int.fmod (p % r0.2.2.2 - r0.2.1) r0.2.2.2 = (p % r0.2.2.2 - r0.2.1) % r0.2.2.2 := Int.fmod_eq_emod_of_nonneg _ (by omega)
        refine ⟨_, rfl, _, _, rfl, rfl, _, rfl, _, rfl, _, _, rfl, rfl, (by omega), ?_⟩
        refine ⟨_, rfl, _, rfl, _, _, rfl, rfl, _, _, rfl, rfl, cpow_1 (by rw [fm]; omega) (by rw [fm]; omega), _, rfl, _, rfl, _, _, rfl, rfl, (by omega), ?_⟩
        have e : Int.fmod (1 * 2 ^ (r0.2.1 + Int.fmod (p % r0.2.2.2 - r0.2.1) r0.2.2.2).toNat) M = 2 ^ p.toNat % M := by
          rw [fm, Int.one_mul, Int.fmod_eq_emod_of_nonneg _ (by omega), ← key, Int.toNat_add t0 m0]
        have h := q H2 (E2.trans e2)
        rw [← e] at h
        exact h
  · rw [ep]
    refine iteF ?_
    have hle : r0.2.1 ≤ p := by
      by_cases c : p < 2 ^ 64
      · exact absurd ⟨by omega, c⟩ npl
      · omega
    refine ⟨_, rfl, rfl, _, rfl, ?_⟩
    refine iteD (fun c => ?_) (fun c => ?_)
    · have c : r0.2.2.1 = 0 := by injection c
      have z := pow_zero_rest R c (p := p.toNat) (by omega)
      have h := q H' E2
      rw [z] at h
      exact h
    · have ho : r0.2.2.1 ≠ 0 := fun h => c (by rw [h])
      refine ⟨_, rfl, _, rfl, v, p, r0.2.2.2, rfl, hd2, hp.2, (R.per_md ho).1, fun H2 e2 => ?_⟩
      have key := pow_rest R ho (p := p.toNat) (by omega)
      rw [show ((p.toNat : Nat) : Int) = p by omega] at key
      have m0 : 0 ≤ (p % r0.2.2.2 - r0.2.1) % r0.2.2.2 := Int.emod_nonneg _ (by omega)
      have m1 : (p % r0.2.2.2 - r0.2.1) % r0.2.2.2 < r0.2.2.2 := Int.emod_lt_of_pos _ (by omega)
      have fm : Int.fmod (p % r0.2.2.2 - r0.2.1) r0.2.2.2 = (p % r0.2.2.2 - r0.2.1) % r0.2.2.2 := Int.fmod_eq_emod_of_nonneg _ (by omega)
      refine ⟨_, rfl, _, _, rfl, rfl, _, rfl, _, rfl, _, _, rfl, rfl, (by omega), ?_⟩
      refine ⟨_, rfl, _, rfl, _, _, rfl, rfl, _, _, rfl, rfl, cpow_1 (by rw [fm]; omega) (by rw [fm]; omega), _, rfl, _, rfl, _, _, rfl, rfl, (by omega), ?_⟩
      have e : Int.fmod (1 * 2 ^ (r0.2.1 + Int.fmod (p % r0.2.2.2 - r0.2.1) r0.2.2.2).toNat) M = 2 ^ p.toNat % M := by
        rw [fm, Int.one_mul, Int.fmod_eq_emod_of_nonneg _ (by omega), ← key, Int.toNat_add t0 m0]
      have h := q H2 (E2.trans e2)
      rw [← e] at h
      exact h
theorem ok_rest {n k : Nat} {spP : Sp} (hP : ∀ m, n = m + 1 → ∀ vs H Q E, spPrest K m vs H Q E → spP vs H Q E) (F : Fun K "_law_rest" "_law_rest" S__law_rest f fd) (B : Blt mg) (C_law_power_rest : Has P w K mg base k "_law_power_rest" P__law_power_rest [] spP) : FnOk P w K mg base CX0 (k + 1) f fd P__law_rest (spRest K n) := by
  have nd := sc__law_rest.nd
  refine F.ok sc__law_rest (fun vs H Q E h => ?_) (fun cdv A outer s H vs Q E hr h => ?_)
  · obtain ⟨v, p, M, rfl, _⟩ := h
    rfl
  obtain ⟨v, z, M, rfl, hd, hz, hM, q⟩ := h
  refine ⟨_, (pss_cons (ps_if (pt_val (pe_callB (call_isiI K) (by rfl) B.isinstance (by decide +kernel) (pa_cons (pv 0) (pa_cons (pe_bltn (by rfl) B.int (by decide +kernel) (show RelV (.ty "int") (.type "int") from rfl)) pa_nil)))) (pss_one (ps_ret (pe_op op_modN (pe_callTy call_intI (by rfl) B.int (by decide +kernel) (pa_cons (pv 0) pa_nil)) (pv 1)))) pss_nil)
    (pss_cons (ps_asg (pe_tup (pa_cons pe_int (pa_cons (pe_un un_neg pe_int) pa_nil))) (pg_tup rfl (pgs_cons (pg_name (i := 2) nd rfl (Or.inl rfl)) (pgs_cons (pg_name (i := 3) nd rfl (Or.inl rfl)) pgs_nil))))
    (pss_cons (ps_for PassesOwn.never rfl (pi_tup (pv 0)) (pg_name (i := 4) nd rfl (Or.inl rfl)) (pss_one (ps_par (i := 2) (j := 3) (by rfl) nd rfl rfl (by decide) rfl rfl (pa_cons (pe_op op_add (pv 2) (pe_op op_mul (pv 3) (pe_H C_law_power_rest (hr.mono (by omega)) rfl (pa_cons (pv 4) (pa_cons (pv 1) pa_nil))))) (pa_cons (pe_un un_neg (pv 3)) pa_nil)) (by rfl))))
    (pss_one (ps_ret (pe_op op_modN (pe_callTy call_intI (by rfl) B.int (by decide +kernel) (pa_cons (pv 2) pa_nil)) (pv 1))))))), ?_⟩
  obtain ⟨M0, M1⟩ := md_pos hM
  refine ⟨_, rfl, v, _, rfl, hd, _, rfl, ?_⟩
  rcases gU_cases hz with ⟨pl, ep⟩ | ⟨npl, m, en, ep⟩
  · rw [ep]
    have ev : v = .int z := by
      rw [ep] at hd
      cases hd
      rfl
    subst ev
    refine iteT ?_
    refine ⟨_, rfl, _, rfl, _, rfl, _, _, rfl, rfl, (by omega), ?_⟩
    have h := q H (Same.refl H)
    rw [← Int.fmod_eq_emod_of_nonneg _ (by omega)] at h
    exact h
  · rw [ep]
    refine iteF ?_
    subst en
    rw [ep] at hd
    cases hd with
    | @tup a xs _ hS hda =>
    refine ⟨_, rfl, (by show 2 ≤ sizeLine; decide), fun p np => ?_⟩
    have g0 : Same H (upd H p (.tup [.int 0, .int (-1)])) := Same.new np
    have hS0 := (Nd.of g0).sqt hS
    have hda0 := (Nd.of g0).ds hda
    refine ⟨_, _, rfl, SqT.of upd_same, rfl, _, _, rfl, _, _, rfl, rfl, ?_⟩
    generalize upd H p (.tup [.int 0, .int (-1)]) = H0 at g0 hS0 hda0 ⊢
    refine ⟨_, rfl, a, rfl, ⟨_, hS0⟩, ?_⟩
    have lx : xs.length = (Tl z).length := by rw [dps_length hda, List.length_map]
    refine for_tup (K := K) (a := a) (xs := xs) (fun i σ H' => ∃ (z4 : Option V), σ = [some (.ref a), some (.int M), some (.int (((Tl z).take i).foldl (fun x t => (x.1 + x.2 * (2 ^ t.toNat % M), -x.2)) ((0 : Int), (-1 : Int))).1), some (.int (((Tl z).take i).foldl (fun x t => (x.1 + x.2 * (2 ^ t.toNat % M), -x.2)) ((0 : Int), (-1 : Int))).2), z4] ∧ Same H0 H' ∧ (((Tl z).take i).foldl (fun x t => (x.1 + x.2 * (2 ^ t.toNat % M), -x.2)) ((0 : Int), (-1 : Int))).2.natAbs = 1)
      ⟨_, rfl, Same.refl H0, rfl⟩ (fun i σ H' _ h => ?_) (fun i x σ H' hx h => ?_) (fun σ H' h => ?_)
    · obtain ⟨_, _, e, _⟩ := h
      exact (Nd.of e).sqt hS0
    · obtain ⟨z4, rfl, e, s1⟩ := h
      have hi : i < (Tl z).length := by rw [← lx]; exact (List.getElem?_eq_some_iff.mp hx).1
      obtain ⟨d, hd1, hd2⟩ := dps_get ((Nd.of e).ds hda0) hx
      have ht : (Tl z)[i]? = some (Tl z)[i] := List.getElem?_eq_getElem hi
      rw [List.getElem?_map, ht] at hd1
      have hd1 := Option.some.inj hd1
      subst hd1
      have mt : (Tl z)[i] ∈ Tl z := List.getElem_mem hi
      have et : (Tl z).take (i + 1) = (Tl z).take i ++ [(Tl z)[i]] := by rw [List.take_add_one, ht]; rfl
      rw [et, List.foldl_append]
      generalize ((Tl z).take i).foldl (fun x t => (x.1 + x.2 * (2 ^ t.toNat % M), -x.2)) ((0 : Int), (-1 : Int)) = u at s1 ⊢
      have pr := Int.emod_nonneg (2 ^ (Tl z)[i].toNat) (show M ≠ 0 by omega)
      have pl := Int.emod_lt_of_pos (2 ^ (Tl z)[i].toNat) (show 0 < M by omega)
      refine ⟨_, rfl, _, rfl, _, rfl, _, rfl, hP m rfl _ _ _ _ ⟨x, (Tl z)[i], M, rfl, hd2, ⟨tl_pos z _ mt, hz.2 _ mt⟩, hM, fun H2 e2 => ?_⟩⟩
      refine ⟨_, _, rfl, rfl, .inl ⟨by omega, by omega⟩, _, _, rfl, rfl, ?_⟩
      refine ⟨_, rfl, _, rfl, _, _, rfl, ?_⟩
      exact ⟨_, rfl, e.trans e2, by show (-u.2).natAbs = 1; omega⟩
    · obtain ⟨z4, rfl, e, _⟩ := h
      rw [lx, List.take_length]
      refine ⟨_, rfl, _, rfl, _, rfl, _, _, rfl, rfl, (by omega), ?_⟩
      have r := rest_rec (M := M) (Tl z) (-1) 0 (.inr rfl)
      have ez : alt (-1) ((Tl z).map Int.toNat) = z := av_tl z
      rw [ez, Int.zero_add] at r
      have h := q H' (g0.trans e)
      rw [← r, ← Int.fmod_eq_emod_of_nonneg _ (by omega)] at h
      exact h
theorem c_rest (D1 : DefAt K mg "_law_power_rest" S__law_power_rest P__law_power_rest) (D2 : DefAt K mg "_law_rest" S__law_rest P__law_rest) (B : Blt mg) : ∀ n : Nat, Has P w K mg base (2 * n + 2) "_law_rest" P__law_rest [] (spRest K n)
  | 0 => D2.has fun f fd F => ok_rest (n := 0) (k := 1) (spP := fun _ _ _ _ => False) (fun m h => nomatch h) F B (D1.has fun _ _ _ => fnok_no)
  | n + 1 => D2.has fun f fd F => ok_rest (n := n + 1) (k := 2 * n + 3) (spP := spPrest K n) (fun m h vs H Q E x => by cases h; exact x) F B (D1.has fun f fd F => ok_prest (by omega) F B (c_rest D1 D2 B n))
end
end Fb
namespace Fb
open PySem L2
/-! ### a call by keywords alone of a def that may raise -/
structure HasXK (P : Program) (w : World) (K : PySem.W.Frag) (mg : Str → Option Value) (base : Heap) (k : Nat) (x : Str) (ps ks : List Str) (sp : Sp) : Prop where
  ex : ∃ f fd, FnOk P w K mg base (L2.CX P w) k f fd ps sp ∧ PySem.W.keepIn K (.ref f) = true ∧ mg x = some (.ref f) ∧ ∀ (s : Shared) (ws : List Value), K.In s.heap → ws.length = ps.length → BindsTo s fd ⟨[], ks.zip ws⟩ (ps.zip ws)
theorem run_fnSK {X : Cx} {CX : CXT} {k : Nat} {f : Addr} {fd : FuncData} {ps ks : List Str} {sp : Sp} {σ : St} {E : XK} {pins : List (Addr × Obj)} {H : Hp} {s : Shared} {Q : VK} {ws : List Value} {zs : List V} (F : FnOk X.prog X.w X.K X.mg X.base CX k f fd ps sp) (hr : Room k X.A) (hb : ∀ (s : Shared) (ws : List Value), X.K.In s.heap → ws.length = ps.length → BindsTo s fd ⟨[], ks.zip ws⟩ (ps.zip ws)) (hx : PassesAt CX X σ E)
    (I : Inv X pins σ H s) (r : Vals zs ws) (h : sp zs H Q E) : wpAny (model X.prog X.w) X.A (call (.ref f) [] (ks.zip ws)) (EP X pins σ Q) X.xe s := by
  have hl : ws.length = ps.length := by rw [← r.length]; exact F.len _ _ _ _ h
  refine wpAny_call (codeAny_mono (F.run X.A X.stack s H ⟨[], ks.zip ws⟩ ws zs Q E hr I.env0 (hb s ws I.kIn hl) r h) fun r s' hq => ?_)
  cases r with
  | error e => exact hx pins H s e s' I hq
  | ok fl =>
    cases fl with
    | ret u => exact I.after hq
    | next => exact False.elim hq
    | brk => exact False.elim hq
    | cont => exact False.elim hq
theorem pe_HXK0 {X : Cx} {W : WX} {k : Nat} {x : Str} {ps ks : List Str} {sp : Sp} {kws : List Keyword} {tk : TA} {p pos : Pos} (C : HasXK X.prog X.w X.K X.mg X.base k x ps ks sp) (tks : Takes X W) (hr : Room k X.A) (hg : Gl X x) (hkw : PK X kws tk)
    (hall : (backToKw pos (keywordEach kws X.env)).all (·.1.isSome) = true := by rfl) (hks : (backToKw pos (keywordEach kws X.env)).filterMap (·.1) = ks := by rfl) (hdb : (x == ("__debug__" : Str)) = false := by decide)
    (hpl : ((backTo pos (starEach [] X.env)).any (·.1) || (backToKw pos (keywordEach kws X.env)).any (·.1.isNone)) = false := by rfl) : PE X (.Call (.Name x p) [] kws pos) (tCallS sp (fun σ => WE W σ) tk) := by
  obtain ⟨f, fd, F, hk, hm, hb⟩ := C.ex
  refine ⟨fun pins s σ H Q I h => ?_⟩
  refine wpAny_Call_Name_kw (ld_glob I hg hm ?_ hdb)
  refine PySem.W.callWith_KW0 (h₀ := X.base) I.ok.mod.kin hk hall (thn (hkw.run pos pins s σ H _ I h) fun ws s2 ⟨zs, H2, I2, rz, q2⟩ => ⟨I2.kIn, ?_⟩) hpl
  rw [hks]
  exact run_fnSK F hr hb (passAt tks σ) I2 rz q2
theorem Fun.kx2 {K : PySem.W.Frag} {x qual m n : Str} {st : Stmt} {f : Addr} {fd : FuncData} (F : Fun K x qual st f fd)
    (h0 : ∀ (kV doc pm : Value) (an : Option Addr) (cdv ct u v : Value), bindArgs (PySem.W.fnOf x qual (defArgs st) (defBody st) (defScope st) .none kV doc pm an cdv ct) ⟨[], [(m, u), (n, v)]⟩ = pure [(m, u), (n, v)]) :
    ∀ (s : Shared) (ws : List Value), K.In s.heap → ws.length = 2 → BindsTo s fd ⟨[], [m, n].zip ws⟩ ([m, n].zip ws) := by
  obtain ⟨oc, od, kV, doc, pm, an, cdv, ct, osl, rfl, lk, hcd⟩ := F.ex
  exact fun s ws _ hl => match ws, hl with
    | [u, v], _ => .of_eq (h0 kV doc pm an cdv ct u v)
end Fb
namespace Fb
open PySem L2
/-! ### a call of one of several defs, told by an expression -/
/-- the def at f keeps a promise, and may raise -/
structure HeldX (P : Program) (w : World) (K : PySem.W.Frag) (mg : Str → Option Value) (base : Heap) (k : Nat) (f : Addr) (sp : Sp) : Prop where
  ex : ∃ fd ps, FnOk P w K mg base (L2.CX P w) k f fd ps sp ∧ PySem.W.keepIn K (.ref f) = true ∧ Binds K fd ps []
def tCallF (S : Addr → Sp → Prop) (E : St → XK) (tf : TE) (t : TA) : TE := fun σ H Q => tf σ H fun y H1 => ∃ f sp, y = V.ref f ∧ S f sp ∧ t σ H1 fun vs H2 => sp vs H2 Q (E σ)
theorem pe_callF {X : Cx} {W : WX} {k : Nat} {S : Addr → Sp → Prop} {fe e : Expr} {es : List Expr} {tf : TE} {t : TA} {pos : Pos} (A : ∀ f sp, S f sp → HeldX X.prog X.w X.K X.mg X.base k f sp) (tk : Takes X W) (hr : Room k X.A) (hf : PE X fe tf) (ha : PA X (e :: es) t)
    (ht : eval (.Call fe (e :: es) [] pos) X.env = (do callWith pos (← eval fe X.env) [] (backTo pos (starEach (e :: es) X.env)) (backToKw pos (keywordEach [] X.env))) := by rfl)
    (he : starEach (e :: es) X.env = (false, eval e X.env) :: starEach es X.env := by rfl) (hpl : (backTo pos (starEach es X.env)).any (·.1) = false := by rfl) : PE X (.Call fe (e :: es) [] pos) (tCallF S (fun σ => WE W σ) tf t) := by
  refine ⟨fun pins s σ H Q I h => ?_⟩
  refine PyProof.Rows.Call_ (thn (hf.run pins s σ H _ I h) fun u s1 ⟨y, H1, I1, ry, f, sp, ey, hS, q⟩ => ?_) ht
  subst ey
  obtain rfl : u = Value.ref f := ry
  obtain ⟨fd, ps, F, hk, hb⟩ := (A f sp hS).ex
  refine PySem.W.callWith_K (h₀ := X.base) I1.ok.mod.kin hk (thn (ha.run pos pins s1 σ H1 _ I1 q) fun us s2 ⟨vs, H2, I2, r, q2⟩ => ⟨I2.kIn, ?_⟩) he hpl
  exact run_fnS F hr hb (fun pins H s e s' I hq => passAt tk σ pins H s e s' I hq) I2 r q2
end Fb
namespace Fb
open PySem L2 NdefX LamX PySem.Spec PyProof.Rows
theorem pi_listK {X : Cx} {tg l : Expr} {tl : TE} (K : PySem.W.Frag) (hl : PE X l tl) (hK : X.K = K := by rfl) : PI X tg l (iList K tl) := by
  subst hK
  exact pi_list hl
section
variable {P : Program} {w : World} {K : PySem.W.Frag} {mg : Str → Option Value} {base : Heap} {f : Addr} {fd : FuncData}
abbrev S__law_number_of_turns : Stmt := top 82
abbrev N__law_number_of_turns : List Str := ["_law_form"]
abbrev P__law_number_of_turns : List Str := ["_law_form"]
theorem sc__law_number_of_turns : FnScope N__law_number_of_turns P__law_number_of_turns (defScope S__law_number_of_turns) := ⟨rfl, rfl, rfl, by decide +kernel, rfl, by decide +kernel, by decide +kernel⟩
def spNot (K : PySem.W.Frag) (n : Nat) : Sp := fun vs H Q _ => ∃ (v : V) (z : Int), vs = [v] ∧ Dp K H v (gU n z) ∧ UU 8500 n z ∧ ∀ H', Same H H' → Q (.int ((Tl z).length : Nat)) H'
theorem ok_not {n : Nat} (F : Fun K "_law_number_of_turns" "_law_number_of_turns" S__law_number_of_turns f fd) (B : Blt mg) (C_law_turns : Has P w K mg base 1 "_law_turns" P__law_turns [] spTurns) : FnOk P w K mg base CX0 2 f fd P__law_number_of_turns (spNot K n) := by
  have nd := sc__law_number_of_turns.nd
  refine F.ok sc__law_number_of_turns (fun vs H Q E h => ?_) (fun cdv A outer s H vs Q E hr h => ?_)
  · obtain ⟨v, z, rfl, _⟩ := h
    rfl
  obtain ⟨v, z, rfl, hd, hz, q⟩ := h
  refine ⟨_, (pss_one (ps_ret (pe_ifExp (pt_val (pe_callB (call_isiT_ K) (by rfl) B.isinstance (by decide +kernel) (pa_cons (pv 0) (pa_cons (pe_bltn (by rfl) B.tuple (by decide +kernel) (show RelV (.ty "tuple") (.type "tuple") from rfl)) pa_nil)))) (pe_callB (call_lenS K) (by rfl) B.len PySem.boot_len (pa_cons (pv 0) pa_nil)) (pe_callB (call_lenS K) (by rfl) B.len PySem.boot_len (pa_cons (pe_H C_law_turns (hr.mono (by decide)) rfl (pa_cons (pv 0) pa_nil)) pa_nil))))), ?_⟩
  refine ⟨_, rfl, v, _, rfl, hd, _, rfl, ?_⟩
  rcases gU_cases hz with ⟨pl, ep⟩ | ⟨npl, m, en, ep⟩
  · rw [ep] at hd ⊢
    cases hd
    refine iteF ?_
    refine ⟨_, rfl, z, rfl, InB.of (n := 65) (by have := pl.1; omega) (by have := pl.2; omega) (by decide), fun p H1 e1 np hp => ?_⟩
    refine ⟨_, _, rfl, .inl hp, ?_⟩
    have e : (nI (turnsN z)).length = (Tl z).length := by unfold nI Tl zs; rw [List.length_map, List.length_map]
    have h := q H1 e1
    rw [← e] at h
    exact h
  · rw [ep] at hd ⊢
    cases hd with
    | @tup a xs _ hS hda =>
    refine iteT ?_
    refine ⟨_, rfl, _, _, rfl, .inr hS, ?_⟩
    have e : xs.length = (Tl z).length := by rw [dps_length hda, List.length_map]
    have h := q H (Same.refl H)
    rw [← e] at h
    exact h
/-- the result of a step -/
def stR (w : Nat) (x y : Int) : Int := if w = 1 then x - y else if w = 2 then x * y else if w < 5 then x + y else x * 2 ^ y.toNat
/-- how a step may be refused -/
def Big8 (C : Addr) (H : Hp) (E : XK) : Prop := ∀ (H' : Hp) (a : Addr) (p l : Int), Same H H' → H' a = none → E (.ref C) (some a) (upd H' a (.xd [("levels", .int l), ("parts", .int p)]))
theorem Big8.from {C : Addr} {H H1 : Hp} {E : XK} (h : Big8 C H E) (e : Same H H1) : Big8 C H1 E := fun H' a p l e' ha => h H' a p l (e.trans e') ha
abbrev S__law_step : Stmt := top 81
abbrev N__law_step : List Str := ["_law_way", "_law_x", "_law_y"]
abbrev P__law_step : List Str := ["_law_way", "_law_x", "_law_y"]
theorem sc__law_step : FnScope N__law_step P__law_step (defScope S__law_step) := ⟨rfl, rfl, rfl, by decide +kernel, rfl, by decide +kernel, by decide +kernel⟩
def spStep (K : PySem.W.Frag) (C : Addr) : Sp := fun vs H Q E => ∃ (v u : V) (x y : Int) (w : Nat), vs = [.int (w : Int), v, u] ∧ w ≤ 6 ∧ Dp K H v (gU 8 x) ∧ Dp K H u (gU 8 y) ∧ Nu x ∧ Nu y ∧ (w = 2 → (Tl x).length * (Tl y).length ≤ 60) ∧ (5 ≤ w → 0 ≤ y ∧ UU 1999 5 y) ∧
  (Fit8 (stR w x y) → ∀ (v' : V) (H' : Hp), Same H H' → Dp K H' v' (gU 8 (stR w x y)) → Q v' H') ∧ Big8 C H E
theorem ok_step {C : Addr} {k : Nat} (F : Fun K "_law_step" "_law_step" S__law_step f fd)
    (Cadd : HasX P w K mg base k "add" P_add (spOp K C fun x y => x + y)) (Csubtract : HasX P w K mg base k "subtract" P_subtract (spOp K C fun x y => x - y)) (Cmultiply : HasX P w K mg base k "multiply" P_multiply (spMul8 K C))
    (Cbit_and : HasX P w K mg base k "bit_and" P_bit_and (spOp K C Builtin.bitAnd)) (Cbit_or : HasX P w K mg base k "bit_or" P_bit_or (spOp K C Builtin.bitOr)) (Cbit_xor : HasX P w K mg base k "bit_xor" P_bit_xor (spOp K C Builtin.bitXor)) (Cshift_left : HasX P w K mg base k "shift_left" P_shift_left (spShl8 K C)) : FnOk P w K mg base (L2.CX P w) (k + 1) f fd P__law_step (spStep K C) := by
  have nd := sc__law_step.nd
  obtain ⟨f_add, g1, F1, kp1, m_add, b1⟩ := Cadd.ex
  obtain ⟨f_subtract, g2, F2, kp2, m_subtract, b2⟩ := Csubtract.ex
  obtain ⟨f_multiply, g3, F3, kp3, m_multiply, b3⟩ := Cmultiply.ex
  have AA : ∀ f sp, ((f = f_add ∧ sp = spOp K C fun x y => x + y) ∨ (f = f_subtract ∧ sp = spOp K C fun x y => x - y) ∨ (f = f_multiply ∧ sp = spMul8 K C)) → HeldX P w K mg base k f sp := fun f sp h => by
    rcases h with ⟨rfl, rfl⟩ | ⟨rfl, rfl⟩ | ⟨rfl, rfl⟩
    · exact ⟨_, _, F1, kp1, b1⟩
    · exact ⟨_, _, F2, kp2, b2⟩
    · exact ⟨_, _, F3, kp3, b3⟩
  refine F.okX sc__law_step (fun vs H Q E h => ?_) (fun cdv A outer s H vs Q E hr h => ?_)
  · obtain ⟨v, u, x, y, w, rfl, _⟩ := h
    rfl
  obtain ⟨v, u, x, y, w, rfl, hw, dv, du, hx, hy, hm, hs, q, qe⟩ := h
  refine ⟨_, (pss_cons (ps_if (pt_cmpR op_lt (pv 0) pe_int (nomark _)) (pss_one (ps_ret (pe_callF AA (takes_of rfl rfl rfl rfl) (hr.mono (by omega)) (pe_ix (ix_listK K) (pe_lst (pa_cons (pe_glob (v := .ref f_add) rfl m_add rfl) (pa_cons (pe_glob (v := .ref f_subtract) rfl m_subtract rfl) (pa_cons (pe_glob (v := .ref f_multiply) rfl m_multiply rfl) pa_nil)))) (pv 0) (fun _ _ => rfl)) (pa_cons (pv 1) (pa_cons (pv 2) pa_nil))))) pss_nil)
    (pss_cons (ps_if (pt_cmpR op_eq (pv 0) pe_int (nomark _)) (pss_one (ps_ret (pe_HX Cadd (takes_of rfl rfl rfl rfl) (hr.mono (by omega)) rfl (pa_cons (pe_HX Cbit_and (takes_of rfl rfl rfl rfl) (hr.mono (by omega)) rfl (pa_cons (pv 1) (pa_cons (pv 2) pa_nil))) (pa_cons (pe_HX Cbit_or (takes_of rfl rfl rfl rfl) (hr.mono (by omega)) rfl (pa_cons (pv 1) (pa_cons (pv 2) pa_nil))) pa_nil))))) pss_nil)
    (pss_cons (ps_if (pt_cmpR op_eq (pv 0) pe_int (nomark _)) (pss_one (ps_ret (pe_HX Csubtract (takes_of rfl rfl rfl rfl) (hr.mono (by omega)) rfl (pa_cons (pe_HX Cshift_left (takes_of rfl rfl rfl rfl) (hr.mono (by omega)) rfl (pa_cons (pe_HX Cbit_or (takes_of rfl rfl rfl rfl) (hr.mono (by omega)) rfl (pa_cons (pv 1) (pa_cons (pv 2) pa_nil))) (pa_cons pe_int pa_nil))) (pa_cons (pe_HX Cbit_xor (takes_of rfl rfl rfl rfl) (hr.mono (by omega)) rfl (pa_cons (pv 1) (pa_cons (pv 2) pa_nil))) pa_nil))))) pss_nil)
    (pss_one (ps_ret (pe_HX Cshift_left (takes_of rfl rfl rfl rfl) (hr.mono (by omega)) rfl (pa_cons (pv 1) (pa_cons (pv 2) pa_nil)))))))), ?_⟩
  have w7 : w = 0 ∨ w = 1 ∨ w = 2 ∨ w = 3 ∨ w = 4 ∨ w = 5 ∨ w = 6 := by omega
  have res : ∀ {H1 : Hp} {z : Int}, Same H H1 → stR w x y = z → Res K C z H1 Q E := fun e1 ez => ⟨fun f v' H' e' d => q (by rw [ez]; exact f) v' H' (e1.trans e') (by rw [ez]; exact d), fun _ H' a e' ha => qe _ a _ _ (e1.trans e') ha⟩
  rcases w7 with rfl | rfl | rfl | rfl | rfl | rfl | rfl
  · refine ⟨_, rfl, _, _, rfl, rfl, _, rfl, ?_⟩
    refine iteD (fun c => ?_) (fun c => absurd (by decide) c)
    refine ⟨(by show 3 ≤ sizeLine; decide), fun p np => ?_⟩
    exact ⟨_, rfl, _, _, _, _, rfl, rfl, SqL.of upd_same, atI_nat (j := 0) rfl, f_add, _, rfl, .inl ⟨rfl, rfl⟩, _, rfl, _, rfl, v, u, x, y, rfl, (Nd.new np).d dv, (Nd.new np).d du, hx, hy, res (Same.new np) rfl⟩
  · refine ⟨_, rfl, _, _, rfl, rfl, _, rfl, ?_⟩
    refine iteD (fun c => ?_) (fun c => absurd (by decide) c)
    refine ⟨(by show 3 ≤ sizeLine; decide), fun p np => ?_⟩
    exact ⟨_, rfl, _, _, _, _, rfl, rfl, SqL.of upd_same, atI_nat (j := 1) rfl, f_subtract, _, rfl, .inr (.inl ⟨rfl, rfl⟩), _, rfl, _, rfl, v, u, x, y, rfl, (Nd.new np).d dv, (Nd.new np).d du, hx, hy, res (Same.new np) rfl⟩
  · refine ⟨_, rfl, _, _, rfl, rfl, _, rfl, ?_⟩
    refine iteD (fun c => ?_) (fun c => absurd (by decide) c)
    refine ⟨(by show 3 ≤ sizeLine; decide), fun p np => ?_⟩
    exact ⟨_, rfl, _, _, _, _, rfl, rfl, SqL.of upd_same, atI_nat (j := 2) rfl, f_multiply, _, rfl, .inr (.inr ⟨rfl, rfl⟩), _, rfl, _, rfl, v, u, x, y, rfl, (Nd.new np).d dv, (Nd.new np).d du, hx, hy, hm rfl, res (Same.new np) rfl⟩
  · refine ⟨_, rfl, _, _, rfl, rfl, _, rfl, ?_⟩
    refine iteD (fun c => absurd c (by decide)) (fun c => ?_)
    refine ⟨_, rfl, rfl, _, rfl, ?_⟩
    refine iteD (fun c => ?_) (fun c => absurd rfl c)
    refine ⟨_, rfl, _, rfl, v, u, x, y, rfl, dv, du, hx, hy, fun f1 v1 H1 e1 d1 => ?_, fun _ H' a e ha => qe _ a _ _ e ha⟩
    refine ⟨_, rfl, _, rfl, v, u, x, y, rfl, (Nd.of e1).d dv, (Nd.of e1).d du, hx, hy, fun f2 v2 H2 e2 d2 => ?_, fun _ H' a e ha => qe _ a _ _ (e1.trans e) ha⟩
    exact ⟨v1, v2, _, _, rfl, (Nd.of e2).d d1, d2, fit_nu (nu_at (by decide) (by decide) (by decide : 6 ≤ 8) (nu_and (by decide) hx hy)) f1, fit_nu (nu_at (by decide) (by decide) (by decide : 6 ≤ 8) (nu_or hx hy)) f2, res (e1.trans e2) (by
      show x + y = Builtin.bitAnd x y + Builtin.bitOr x y
      rw [PyProof.Rows.bitOr_and]
      omega)⟩
  · refine ⟨_, rfl, _, _, rfl, rfl, _, rfl, ?_⟩
    refine iteD (fun c => absurd c (by decide)) (fun c => ?_)
    refine ⟨_, rfl, rfl, _, rfl, ?_⟩
    refine iteD (fun c => absurd c (by decide)) (fun c => ?_)
    refine ⟨_, rfl, rfl, _, rfl, ?_⟩
    refine iteD (fun c => ?_) (fun c => absurd rfl c)
    refine ⟨_, rfl, _, rfl, v, u, x, y, rfl, dv, du, hx, hy, fun f1 v1 H1 e1 d1 => ?_, fun _ H' a e ha => qe _ a _ _ e ha⟩
    have n1 := fit_nu (nu_at (by decide) (by decide) (by decide : 6 ≤ 8) (nu_or hx hy)) f1
    refine ⟨v1, .int 1, Builtin.bitOr x y, 1, rfl, d1, by rw [gU_plain (by decide)]; exact .int _, n1, uu_plain (by decide) (by decide), by decide, fun f2 v2 H2 e2 d2 => ?_, fun _ H' a e ha => qe _ a _ _ (e1.trans e) ha⟩
    have n2 := fit_nu (nu_at (by decide) (by decide) (by decide : 7 ≤ 8) (uu_shl (L := 1999) (n := 4) (by decide) n1 (uu_plain (by decide) (by decide)) (by decide))) f2
    refine ⟨_, rfl, _, rfl, v, u, x, y, rfl, (Nd.of (e1.trans e2)).d dv, (Nd.of (e1.trans e2)).d du, hx, hy, fun f3 v3 H3 e3 d3 => ?_, fun _ H' a e ha => qe _ a _ _ ((e1.trans e2).trans e) ha⟩
    exact ⟨v2, v3, _, _, rfl, (Nd.of e3).d d2, d3, n2, fit_nu (nu_at (by decide) (by decide) (by decide : 6 ≤ 8) (nu_xor hx hy)) f3, res ((e1.trans e2).trans e3) (by
      show x + y = Builtin.bitOr x y * 2 ^ 1 - Builtin.bitXor x y
      rw [PyProof.Rows.bitOr_and, PyProof.Rows.bitXor_and]
      omega)⟩
  · refine ⟨_, rfl, _, _, rfl, rfl, _, rfl, ?_⟩
    refine iteD (fun c => absurd c (by decide)) (fun c => ?_)
    refine ⟨_, rfl, rfl, _, rfl, ?_⟩
    refine iteD (fun c => absurd c (by decide)) (fun c => ?_)
    refine ⟨_, rfl, rfl, _, rfl, ?_⟩
    refine iteD (fun c => absurd c (by decide)) (fun c => ?_)
    exact ⟨_, rfl, _, rfl, v, u, x, y, rfl, dv, du, hx, (hs (by decide)).2, (hs (by decide)).1, res (Same.refl H) rfl⟩
  · refine ⟨_, rfl, _, _, rfl, rfl, _, rfl, ?_⟩
    refine iteD (fun c => absurd c (by decide)) (fun c => ?_)
    refine ⟨_, rfl, rfl, _, rfl, ?_⟩
    refine iteD (fun c => absurd c (by decide)) (fun c => ?_)
    refine ⟨_, rfl, rfl, _, rfl, ?_⟩
    refine iteD (fun c => absurd c (by decide)) (fun c => ?_)
    exact ⟨_, rfl, _, rfl, v, u, x, y, rfl, dv, du, hx, (hs (by decide)).2, (hs (by decide)).1, res (Same.refl H) rfl⟩
theorem at4 (f : Nat → V) {k : Nat} (h : k < 4) : atI [f 0, f 1, f 2, f 3] (k : Int) = some (f k) := by
  have : k = 0 ∨ k = 1 ∨ k = 2 ∨ k = 3 := by omega
  rcases this with rfl | rfl | rfl | rfl <;> exact atI_nat rfl
/-- what is told of a step -/
theorem told_step {LT : List (Addr × Str)} {C S : Addr} {σ : L2.St} {H : Hp} {Q : VK} {τ : Tp} {v : Nat → V} {u : V} {x y : Int} {wy ja m : Nat} (tb : Tabs LT H) (T : Tape K τ m H) (h15 : σ[15]? = some (some (.int (wy : Int)))) (h14 : σ[14]? = some (some (.ref S))) (h13 : σ[13]? = some (some (.int (ja : Int)))) (h16 : σ[16]? = some (some u))
    (hS : H S = some (.lst [v 0, v 1, v 2, v 3])) (ha : ja < 4) (hw : wy ≤ 6) (dv : Dp K H (v ja) (gU 8 x)) (du : Dp K H u (gU 8 y)) (hx : Nu x) (hy : Nu y) (hm : wy = 2 → (Tl x).length * (Tl y).length ≤ 60) (hs : 5 ≤ wy → 0 ≤ y ∧ UU 1999 5 y)
    (fin1 : Fit8 (stR wy x y) → ∀ (t : Addr) (v' : V) (Hc : Hp), Ld H Hc → Tape K τ m Hc → Tabs LT Hc → Hc t = some (.tup [.str "form", v']) → Dp K Hc v' (gU 8 (stR wy x y)) → Q (.ref t) Hc)
    (fin2 : ∀ (t : Addr) (p l : Int) (Hc : Hp), Ld H Hc → Tape K τ m Hc → Tabs LT Hc → Hc t = some (.tup [.str "TooLarge", .int p, .int l]) → Q (.ref t) Hc) :
    tLam LT (TTold K C) (fun E => tCallS (spStep K C) (fun σ => WE (fun cls d _ H => E cls d H) σ) (tCons (tVar 15) (tCons (tOp (rIxL K) (tVar 14) (tVar 13)) (tCons (tVar 16) tNil)))) σ H Q := by
  refine ⟨tb, fun H1 e1 t1 Q' hQ' => ?_⟩
  have td1 := Ld.ext e1
  refine ⟨_, h15, _, h14, _, h13, _, _, _, _, rfl, rfl, SqL.of (td1.lst hS), at4 v ha, _, h16, v ja, u, x, y, wy, rfl, hw, td1.d dv, td1.d du, hx, hy, hm, hs, fun fit v' H2 e2 d2 => ?_, fun H2 a p l e2 ha => ?_⟩
  · exact hQ' v' H2 fun t nt => fin1 fit t v' _ (td1.trans (Ld.same (e2.trans (Same.new nt)))) (((T.ext e1).same e2).new nt) ((t1.ext e2).ext (Same.new nt)) upd_same ((Nd.new nt).d d2)
  · refine ⟨rfl, a, _, _, rfl, upd_same, fun t nt => ?_⟩
    have e3 := (e2.trans (Same.new (o := .xd [("levels", .int l), ("parts", .int p)]) ha)).trans (Same.new (o := .tup [.str "TooLarge", .int p, .int l]) nt)
    exact fin2 t p l _ (td1.trans (Ld.same e3)) ((T.ext e1).same e3) (t1.ext e3) upd_same
end
end Fb
namespace Fb
open PySem L2 NdefX LamX PySem.Spec PyProof.Rows
theorem set4 (f : Nat → V) {k : Nat} (h : k < 4) (v : V) : [f 0, f 1, f 2, f 3].set k v = [(if 0 = k then v else f 0), (if 1 = k then v else f 1), (if 2 = k then v else f 2), (if 3 = k then v else f 3)] := by
  have : k = 0 ∨ k = 1 ∨ k = 2 ∨ k = 3 := by omega
  rcases this with rfl | rfl | rfl | rfl <;> rfl
theorem ix4 {k : Nat} (h : k < 4) (a b c d : V) : ixN [a, b, c, d].length (k : Int) = some k := by
  have : k = 0 ∨ k = 1 ∨ k = 2 ∨ k = 3 := by omega
  rcases this with rfl | rfl | rfl | rfl <;> rfl
abbrev mods : List Int := [2305843009213693951, 65537, 97]
def rests (z : Int) : List V := mods.map fun m => V.int (z % m)
theorem mods_md : ∀ m ∈ mods, Md m := fun m hm => by
  simp only [List.mem_cons, List.not_mem_nil, or_false] at hm
  rcases hm with rfl | rfl | rfl
  · exact ⟨(2305843009213693951, 0, 1, 61), by decide, rfl⟩
  · exact ⟨(65537, 0, 1, 32), by decide, rfl⟩
  · exact ⟨(97, 0, 1, 48), by decide, rfl⟩
/-- four numbers kept: their forms and their rests -/
structure Kept (K : PySem.W.Frag) (S R : Addr) (H : Hp) (r : Nat → Addr) (v : Nat → V) (x : Nat → Int) : Prop where
  nums : H S = some (.lst [v 0, v 1, v 2, v 3])
  rows : H R = some (.lst [.ref (r 0), .ref (r 1), .ref (r 2), .ref (r 3)])
  num : ∀ k, k < 4 → Dp K H (v k) (gU 8 (x k))
  row : ∀ k, k < 4 → H (r k) = some (.lst (rests (x k)))
  nu : ∀ k, k < 4 → Nu (x k)
  nr : ∀ k, k < 4 → r k ≠ S ∧ r k ≠ R
theorem Kept.ld {K : PySem.W.Frag} {S R : Addr} {H H' : Hp} {r : Nat → Addr} {v : Nat → V} {x : Nat → Int} (h : Kept K S R H r v x) (e : Ld H H') : Kept K S R H' r v x :=
  ⟨e.lst h.nums, e.lst h.rows, fun k hk => e.d (h.num k hk), fun k hk => e.lst (h.row k hk), h.nu, h.nr⟩
theorem Kept.nd {K : PySem.W.Frag} {S R : Addr} {H H' : Hp} {r : Nat → Addr} {v : Nat → V} {x : Nat → Int} (h : Kept K S R H r v x) (e : Nd H H') : Kept K S R H' r v x := h.ld (Ld.nd e)
theorem nu_8 {z : Int} (h : Nu z) : UU 8500 8 z := nu_at (by decide) (by decide) (by decide : 6 ≤ 8) h
theorem up8 {n : Nat} {z : Int} (hn : n ≤ 6) (h : UU 66 n z) : gU 8 z = gU n z ∧ Nu z := ⟨gU_le (L := 66) (by decide) (by decide) (by omega) h, uu_wide (by decide) (uu_le (by decide) hn h)⟩
theorem Tabs.ch {T : List (Addr × Str)} {H : Hp} {p : Addr} {xs ys : List V} (h : H p = some (.lst xs)) (t : Tabs T H) : Tabs T (upd H p (.lst ys)) := fun q hq => by
  obtain ⟨ps, h1, h2, h3⟩ := t q hq
  have n1 : q.1 ≠ p := fun e => by rw [e, h] at h1; cases h1
  refine ⟨ps, by rw [upd_ne n1]; exact h1, h2, fun pos cv hc => ?_⟩
  obtain ⟨c, e1, e2⟩ := h3 pos cv hc
  have n2 : c ≠ p := fun e => by rw [e, h] at e2; cases e2
  exact ⟨c, e1, by rw [upd_ne n2]; exact e2⟩
theorem eqv_self {n : Nat} {d : PyData} (h : Fm n d) : PyData.eqv d d = true := (eqv_fm h h).mpr rfl
theorem eqv_ints (l : List Int) : PyData.eqv (.list (l.map PyData.int)) (.list (l.map PyData.int)) = true := by
  rw [PyData.eqv, eqvAll_iff]
  refine ⟨rfl, fun i hi p q hp hq => ?_⟩
  rw [hp] at hq
  cases hq
  obtain ⟨z, hz, rfl⟩ := List.mem_map.mp (List.mem_of_getElem? hp)
  exact eqv_self (n := 0) ⟨z, rfl⟩
section
variable {P : Program} {w : World} {K : PySem.W.Frag} {mg : Str → Option Value} {base : Heap} {f : Addr} {fd : FuncData}
abbrev S_law : Stmt := top 83
abbrev N_law : List Str := ["_law_script", "_law_tape", "_law_moduli", "_law_rests", "_law_lap", "_law_b", "_law_to", "_law_told_here", "_law_due", "_law_k", "_law_one", "_law_other", "_law_worth", "_law_a", "_law_some", "_law_way", "_law_y", "_law_form", "_law_modulus"]
abbrev P_law : List Str := ["_law_script"]
theorem sc_law : FnScope N_law P_law (defScope S_law) := ⟨rfl, rfl, rfl, by decide +kernel, rfl, by decide +kernel, by decide +kernel⟩
def spLaw (K : PySem.W.Frag) (TA : Addr) : Sp := fun vs H Q _ => ∃ (a : Addr) (ns : List Int), vs = [.ref a] ∧ H TA = some (.tbl #[]) ∧ SqL K H a (ns.map V.int) ∧ ns.length ≤ 63 ∧ ∀ H', Q (.bl true) H'
theorem ok_law {oc kV doc pm ct : Value} {od an : Option Addr} {osl : Array (Option Value)} {c TA C : Addr} (at_ : K.lookup f = some ⟨oc, od, .func (PySem.W.fnOf "law" "law" (defArgs S_law) (defBody S_law) (defScope S_law) .none kV doc pm an (.ref c) ct), osl⟩) (code : PySem.W.codeIn K (.ref c) "law" = true) (B : Blt mg) (TB : TabB base mg c TA)
    (TD : Told K mg) (TE : Err P w K mg base "TooLarge" C ["parts", "levels"] twoW) (noP : PySem.W.findIn K (.ref C) "parts" = some none) (noL : PySem.W.findIn K (.ref C) "levels" = some none)
    (C_law_begin : Has P w K mg base 1 "_law_begin" P__law_begin [] (spBegin K)) (C_law_draw : Has P w K mg base 1 "_law_draw" P__law_draw [] (spDraw K)) (C_law_pick : Has P w K mg base 2 "_law_pick" P__law_pick [] (spPick K)) (C_law_tower : Has P w K mg base 4 "_law_tower" P__law_tower [] (spTower K 1))
    (C_law_nested : Has P w K mg base 6 "_law_nested" P__law_nested [] (spNest K)) (C_law_rest : Has P w K mg base 18 "_law_rest" P__law_rest [] (spRest K 8)) (C_law_power_rest : Has P w K mg base 19 "_law_power_rest" P__law_power_rest [] (spPrest K 8)) (C_law_number_of_turns : Has P w K mg base 2 "_law_number_of_turns" P__law_number_of_turns [] (spNot K 8))
    (C_law_step : HasX P w K mg base 115 "_law_step" P__law_step (spStep K C)) : FnG P w K mg base 118 f (PySem.W.fnOf "law" "law" (defArgs S_law) (defBody S_law) (defScope S_law) .none kV doc pm an (.ref c) ct) P_law (spLaw K TA) := by
  have nd := sc_law.nd
  refine fng_ofC at_ code sc_law (fun vs H Q E h => ?_) (fun A outer s H vs Q E hr ng h => ?_)
  · obtain ⟨a, ns, rfl, _⟩ := h
    rfl
  obtain ⟨a, ns, rfl, hTA, hS, h63, q⟩ := h
  have hu : (A.deeper (PyProof.Rows.envOfC "law" (defScope S_law) s.heap.objs.size f (.ref c))).units + 64 < cLine := by have := hr.un; omega
  refine ⟨_, (pss_cons (ps_set (i := 1) nd rfl (Or.inl rfl) (pe_H C_law_begin (hr.mono (by decide)) rfl (pa_cons (pv 0) pa_nil)))
    (pss_cons (ps_set (i := 14) nd rfl (Or.inr rfl) (pe_lst (pa_cons (pe_H C_law_nested (hr.mono (by decide)) rfl (pa_cons (pv 1) (pa_cons pe_int (pa_cons pe_int pa_nil)))) (pa_cons (pe_H C_law_nested (hr.mono (by decide)) rfl (pa_cons (pv 1) (pa_cons pe_int (pa_cons pe_int pa_nil)))) (pa_cons (pe_H C_law_nested (hr.mono (by decide)) rfl (pa_cons (pv 1) (pa_cons pe_int (pa_cons pe_int pa_nil)))) (pa_cons (pe_op op_sub (pe_H C_law_draw (hr.mono (by decide)) rfl (pa_cons (pv 1) (pa_cons (pe_op op_shl pe_int pe_int) pa_nil))) (pe_op op_pow pe_int pe_int)) pa_nil))))))
    (pss_cons (ps_set (i := 2) nd rfl (Or.inr rfl) (pe_lst (pa_cons pe_int (pa_cons pe_int (pa_cons pe_int pa_nil)))))
    (pss_cons (ps_setLc (i := 3) (own := [("_law_form", 17)]) (g := gName 17) (tt := tYes) rfl nd rfl rfl (sw_true rfl rfl rfl (by decide +kernel)) (pi_list (pv 14)) (blkOk_by (own := [("_law_form", 17)]) (N := N_law) (sc := defScope S_law) (by decide +kernel)) (fun _ _ _ _ _ => pg_name (i := 17) nd rfl (Or.inr rfl)) (fun _ _ _ _ _ => pts_nil) (fun _ _ _ _ _ => (pe_lc (own := [("_law_modulus", 18)]) (g := gName 18) (tt := tYes) rfl nd (pi_listK K (pv 2)) (by refine blkOk_by (own := [("_law_modulus", 18)]) ?_; kernel_rfl) (fun _ _ _ _ _ => pg_name (i := 18) nd rfl (Or.inl rfl)) (fun _ _ _ _ _ => pts_nil) (fun _ _ _ _ _ => (pe_H C_law_rest (hr.mono (by decide)) rfl (pa_cons (pv 17) (pa_cons (pv 18) pa_nil)))))))
    (pss_cons (ps_for PassesOwn.never rfl (pi_range1 (by rfl) B.range (pa_cons pe_int pa_nil)) (pg_name (i := 4) nd rfl (Or.inl rfl)) (pss_cons (ps_asg (pe_tup (pa_cons (pe_H C_law_draw (hr.mono (by decide)) rfl (pa_cons (pv 1) (pa_cons pe_int pa_nil))) (pa_cons (pe_H C_law_draw (hr.mono (by decide)) rfl (pa_cons (pv 1) (pa_cons pe_int pa_nil))) (pa_cons (pe_H C_law_draw (hr.mono (by decide)) rfl (pa_cons (pv 1) (pa_cons pe_int pa_nil))) (pa_cons (pe_H C_law_draw (hr.mono (by decide)) rfl (pa_cons (pv 1) (pa_cons pe_int pa_nil))) pa_nil))))) (pg_tup rfl (pgs_cons (pg_name (i := 15) nd rfl (Or.inr rfl)) (pgs_cons (pg_name (i := 13) nd rfl (Or.inr rfl)) (pgs_cons (pg_name (i := 5) nd rfl (Or.inl rfl)) (pgs_cons (pg_name (i := 6) nd rfl (Or.inl rfl)) pgs_nil))))))
    (C8.pss_cut (ps_if (PW.pt (pw_and (pt_cmpR op_eq (pv 15) pe_int (nomark _)) (pw_and1 (pt_cmpR op_gt (pe_op op_mul (pe_H C_law_number_of_turns (hr.mono (by decide)) rfl (pa_cons (pe_ix ix_list (pv 14) (pv 13) (fun _ _ => rfl)) pa_nil)) (pe_H C_law_number_of_turns (hr.mono (by decide)) rfl (pa_cons (pe_ix ix_list (pv 14) (pv 5) (fun _ _ => rfl)) pa_nil))) pe_int (nomark _))))) (pss_one (ps_set (i := 15) nd rfl (Or.inr rfl) pe_int)) pss_nil)
    (C8.pss_cut (ps_set (i := 16) nd rfl (Or.inr rfl) (pe_ifExp (pt_cmpR op_lt (pv 15) pe_int (nomark _)) (pe_ix ix_list (pv 14) (pv 5) (fun _ _ => rfl)) (pe_H C_law_pick (hr.mono (by decide)) rfl (pa_cons (pv 1) (pa_cons (pe_lst (pa_cons (pe_H C_law_draw (hr.mono (by decide)) rfl (pa_cons (pv 1) (pa_cons pe_int pa_nil))) (pa_cons (pe_H C_law_tower (hr.mono (by decide)) rfl (pa_cons (pv 1) (pa_cons pe_int pa_nil))) pa_nil))) pa_nil)))))
    (pss_cons (ps_set (i := 7) nd rfl (Or.inr rfl) (pe_told (k := 115) rfl TD TE noP noL TB rfl rfl (hr.mono (by omega)) (lamS_by (by show lamSB (defScope S_law) _ = true; decide +kernel)) rfl (fun _ _ _ _ _ => rfl) (fun _ _ _ _ _ _ _ hr2 => (pe_HX C_law_step (takes_of rfl rfl rfl rfl) (hr2.mono (by omega)) rfl (pa_cons (pv 15) (pa_cons (pe_ix (ix_listK K) (pv 14) (pv 13) (fun _ _ => rfl)) (pa_cons (pv 16) pa_nil)))))))
    (C8.pss_cut (ps_if (pt_cmpR op_ne (pe_ix ix_tup (pv 7) pe_int (fun _ _ => rfl)) pe_str (nomark _)) (pss_one ps_continue) pss_nil)
    (pss_cons (ps_set (i := 8) nd rfl (Or.inl rfl) (pe_lst pa_nil))
    (pss_cons (ps_for PassesOwn.never rfl (pi_range1 (by rfl) B.range (pa_cons pe_int pa_nil)) (pg_name (i := 9) nd rfl (Or.inl rfl)) (pss_cons (ps_par (i := 10) (j := 11) (by rfl) nd rfl rfl (by decide) rfl rfl (pa_cons (pe_ix ix_list (pe_ix ix_list (pv 3) (pv 13) (fun _ _ => rfl)) (pv 9) (fun _ _ => rfl)) (pa_cons (pe_ix ix_list (pe_ix ix_list (pv 3) (pv 5) (fun _ _ => rfl)) (pv 9) (fun _ _ => rfl)) pa_nil)) (by rfl))
    (C8.pss_cut (ps_if (pt_cmpR op_gt (pv 15) pe_int (nomark _)) (pss_one (ps_set (i := 12) nd rfl (Or.inl rfl) (pe_op op_mulW (pv 10) (pe_H C_law_power_rest (hr.mono (by decide)) rfl (pa_cons (pv 16) (pa_cons (pe_ix ix_list (pv 2) (pv 9) (fun _ _ => rfl)) pa_nil)))))) (pss_one (ps_set (i := 12) nd rfl (Or.inl rfl) (pe_ix ix_list (pe_lst (pa_cons (pe_op op_add (pv 10) (pv 11)) (pa_cons (pe_op op_sub (pv 10) (pv 11)) (pa_cons (pe_op op_mulW (pv 10) (pv 11)) (pa_cons (pe_op op_add (pv 10) (pv 11)) (pa_cons (pe_op op_add (pv 10) (pv 11)) pa_nil)))))) (pv 15) (fun _ _ => rfl)))))
    (pss_one (ps_expr (pe_bm PySem.F.plainAttrs_list PySem.F.slot_list_append PySem.F.type_list_append mt_append (pv 8) (pa_cons (pe_op op_modN (pe_callTy call_intI (by rfl) B.int (by decide +kernel) (pa_cons (pv 12) pa_nil)) (pe_ix ix_list (pv 2) (pv 9) (fun _ _ => rfl))) pa_nil)))))))
    (pss_cons (ps_if (pt_cmpR (op_neD hr.units) (pe_lc (own := [("_law_modulus", 18)]) (g := gName 18) (tt := tYes) rfl nd (pi_list (pv 2)) (blkOk_by (own := [("_law_modulus", 18)]) (N := N_law) (sc := defScope S_law) (by decide +kernel)) (fun _ _ _ _ _ => pg_name (i := 18) nd rfl (Or.inl rfl)) (fun _ _ _ _ _ => pts_nil) (fun _ _ _ _ _ => (pe_H C_law_rest (hr.mono (by decide)) rfl (pa_cons (pe_ix (ix_tupK K) (pv 7) pe_int (fun _ _ => rfl)) (pa_cons (pv 18) pa_nil))))) (pv 8) (nomark _)) (pss_one (ps_ret pe_bl)) pss_nil)
    (pss_one (ps_asg (pe_tup (pa_cons (pe_ix (ix_tupK K) (pv 7) pe_int (fun _ _ => rfl)) (pa_cons (pv 8) pa_nil))) (pg_tup rfl (pgs_cons (pg_sub (pv 14) (pv 6) set_list) (pgs_cons (pg_sub (pv 3) (pv 6) set_list) pgs_nil))))))))))))))
    (pss_one (ps_ret pe_bl))))))), ?_⟩
  refine ⟨_, rfl, a, ns, rfl, hS, h63, fun τ H0 e0 T0' => ?_⟩
  have T0 : Tape K τ 30000 H0 := T0'.mono (by decide)
  have tb0 : Tabs [(TA, (cxOf CX0 P w K mg base N_law "law" (defScope S_law) f (.ref c) A outer s H E).nox.env.qual ++ "<lambda>")] H0 := fun p hp => by
    simp at hp
    rw [hp]
    exact TabS.nil (e0 _ _ hTA)
  generalize hLT : [(TA, (cxOf CX0 P w K mg base N_law "law" (defScope S_law) f (.ref c) A outer s H E).nox.env.qual ++ "<lambda>")] = LT at tb0 ⊢
  -- the numbers
  refine ⟨_, rfl, 2, by decide, τ, 4, 29900, rfl, T0.mono (by decide), fun v0 x0 H1 e1 T1 u0 _ d0 => ?_⟩
  refine ⟨_, rfl, 1, by decide, τ, 6, 29800, rfl, T1.mono (by decide), fun v1 x1 H2 e2 T2 u1 _ d1 => ?_⟩
  refine ⟨_, rfl, 0, by decide, τ, 3, 29700, rfl, T2.mono (by decide), fun v2 x2 H3 e3 T3 u2 _ d2 => ?_⟩
  refine ⟨_, rfl, _, _, rfl, rfl, cpow (by decide), τ, _, 29600, rfl, T3.mono (by decide), by decide, lt_BigL (by decide), fun dz H4 e4 T4 dz0 dz1 => ?_⟩
  refine ⟨_, _, rfl, rfl, cpow (by decide), _, _, rfl, rfl, (by show 4 ≤ sizeLine; decide), fun S nS => ?_⟩
  obtain ⟨x3, ex3, p3⟩ : ∃ x3 : Int, dz - 2 ^ (64 : Int).toNat = x3 ∧ plain x3 := by
    have dz1' : dz < 2 ^ 65 := dz1
    exact ⟨_, rfl, by show _ ≤ dz - 2 ^ 64; omega, by show dz - 2 ^ 64 < _; omega⟩
  have e14 : Nd H1 H4 := e2.trans (e3.trans e4)
  obtain ⟨v, hv0, hv1, hv2, hv3⟩ : ∃ v : Nat → V, v 0 = v0 ∧ v 1 = v1 ∧ v 2 = v2 ∧ v 3 = .int x3 := ⟨fun k => if k = 0 then v0 else if k = 1 then v1 else if k = 2 then v2 else .int x3, rfl, rfl, rfl, rfl⟩
  obtain ⟨x, hx0, hx1, hx2, hx3⟩ : ∃ x : Nat → Int, x 0 = x0 ∧ x 1 = x1 ∧ x 2 = x2 ∧ x 3 = x3 := ⟨fun k => if k = 0 then x0 else if k = 1 then x1 else if k = 2 then x2 else x3, rfl, rfl, rfl, rfl⟩
  have elst : ([v0, v1, v2, .int (dz - 2 ^ (64 : Int).toNat)] : List V) = [v 0, v 1, v 2, v 3] := by rw [hv0, hv1, hv2, hv3, ex3]
  have eS := Nd.new (o := .lst [v0, v1, v2, .int (dz - 2 ^ (64 : Int).toNat)]) nS
  have hS5 : upd H4 S (.lst [v0, v1, v2, .int (dz - 2 ^ (64 : Int).toNat)]) S = some (.lst [v 0, v 1, v 2, v 3]) := by rw [upd_same, elst]
  have T5 := T4.new (o := .lst [v0, v1, v2, .int (dz - 2 ^ (64 : Int).toNat)]) nS
  have num : ∀ k, k < 4 → Dp K (upd H4 S (.lst [v0, v1, v2, .int (dz - 2 ^ (64 : Int).toNat)])) (v k) (gU 8 (x k)) ∧ Nu (x k) := fun k hk => by
    have : k = 0 ∨ k = 1 ∨ k = 2 ∨ k = 3 := by omega
    rcases this with rfl | rfl | rfl | rfl
    · rw [hv0, hx0, (up8 (by decide) u0).1]
      exact ⟨eS.d (e14.d d0), (up8 (by decide) u0).2⟩
    · rw [hv1, hx1, (up8 (by decide) u1).1]
      exact ⟨eS.d ((e3.trans e4).d d1), (up8 (by decide) u1).2⟩
    · rw [hv2, hx2, (up8 (by decide) u2).1]
      exact ⟨eS.d (e4.d d2), (up8 (by decide) u2).2⟩
    · rw [hv3, hx3, gU_plain p3]
      exact ⟨.int _, uu_plain (by decide) p3⟩
  have tb5 := Fb.Tabs.nd tb0 (e1.trans (e14.trans eS))
  have E5 := e1.trans (e14.trans eS)
  have nS0 : H0 S = none := (e1.trans e14).f _ nS
  generalize upd H4 S (.lst [v0, v1, v2, .int (dz - 2 ^ (64 : Int).toNat)]) = H5 at hS5 T5 num tb5 E5 ⊢
  clear eS elst hv0 hv1 hv2 hv3 hx0 hx1 hx2 hx3 e14 e1 e2 e3 e4 T1 T2 T3 T4 d0 d1 d2 u0 u1 u2 nS ex3 p3 dz0 dz1 tb0 T0'
  -- the moduli
  refine ⟨(by show 3 ≤ sizeLine; decide), fun M nM => ?_⟩
  have eM := Same.new (o := .lst [.int 2305843009213693951, .int 65537, .int 97]) nM
  have hM : upd H5 M (.lst [.int 2305843009213693951, .int 65537, .int 97]) M = some (.lst (mods.map V.int)) := upd_same
  have hS6 := eM _ _ hS5
  have T6 := T5.new (o := .lst [.int 2305843009213693951, .int 65537, .int 97]) nM
  have num6 : ∀ k, k < 4 → Dp K (upd H5 M (.lst [.int 2305843009213693951, .int 65537, .int 97])) (v k) (gU 8 (x k)) := fun k hk => (Nd.of eM).d (num k hk).1
  have nux : ∀ k, k < 4 → Nu (x k) := fun k hk => (num k hk).2
  have tb6 := Tabs.ext tb5 eM
  have E6 := E5.trans (Nd.of eM)
  have nMS : M ≠ S := fun e => by rw [e, hS5] at nM; cases nM
  generalize upd H5 M (.lst [.int 2305843009213693951, .int 65537, .int 97]) = H6 at hM hS6 T6 num6 tb6 E6 ⊢
  clear eM nM T5 num tb5 E5 hS5
  -- the rests
  refine ⟨_, rfl, S, rfl, ⟨_, SqL.of hS6⟩, fun R nR => ?_⟩
  have nRS : R ≠ S := fun e => by rw [e, hS6] at nR; cases nR
  have nRM : R ≠ M := fun e => by rw [e, hM] at nR; cases nR
  have nR0 : H0 R = none := E6.f _ nR
  refine lc_list (xs := [v 0, v 1, v 2, v 3]) (fun i H' => ∃ acc : List V, acc.length = i ∧ Same H6 H' ∧ H' R = some (.lst acc) ∧ ∀ k, k < i → ∃ p, acc[k]? = some (.ref p) ∧ p ≠ R ∧ p ≠ S ∧ H' p = some (.lst (rests (x k)))) ⟨[], rfl, Same.new nR, upd_same, fun k hk => absurd hk (Nat.not_lt_zero _)⟩ (fun i H' _ h => ?_) (fun i xi H' hx h => ?_) (fun H' h => ?_)
  · obtain ⟨_, _, e, _⟩ := h
    exact SqL.of (e _ _ hS6)
  · obtain ⟨acc, la, e, hR, hk⟩ := h
    have hi : i < 4 := (List.getElem?_eq_some_iff.mp hx).1
    have exi : xi = v i := by
      have := at4 v hi
      have h2 : atI [v 0, v 1, v 2, v 3] (i : Int) = some xi := atI_nat hx
      rw [h2] at this
      exact Option.some.inj this
    subst exi
    refine ⟨rfl, lcT ?_⟩
    refine ⟨_, rfl, M, rfl, ⟨_, SqL.of (e _ _ hM)⟩, fun D nD => ?_⟩
    have dv := (Nd.of e).d (num6 i hi)
    have hMe := e _ _ hM
    refine lc_list (xs := mods.map V.int) (fun j H2 => Same H' H2 ∧ H2 D = some (.lst ((mods.take j).map fun m => V.int (x i % m)))) ⟨Same.new nD, upd_same⟩ (fun j H2 _ h => SqL.of (h.1 _ _ hMe)) (fun j y H2 hy h => ?_) (fun H2 h => ?_)
    · obtain ⟨e2, hD⟩ := h
      rw [List.getElem?_map] at hy
      obtain ⟨m, hm, rfl⟩ := Option.map_eq_some_iff.mp hy
      refine ⟨rfl, lcT ?_⟩
      refine ⟨_, rfl, _, rfl, v i, x i, m, rfl, (Nd.of e2).d dv, nu_8 (nux i hi), mods_md m (List.mem_of_getElem? hm), fun H3 e3 => ?_⟩
      refine ⟨_, e3 _ _ hD, by rw [List.length_map, List.length_take]; exact Nat.lt_of_le_of_lt (Nat.min_le_right _ _) (by decide), Same.mut (e2.trans e3) nD, ?_⟩
      rw [upd_same, List.take_add_one, hm, List.map_append]
      rfl
    · obtain ⟨e2, hD⟩ := h
      have hD : H2 D = some (.lst (rests (x i))) := hD
      have nDR : D ≠ R := fun q => by rw [q, hR] at nD; cases nD
      have nDS : D ≠ S := fun q => by rw [q, e _ _ hS6] at nD; cases nD
      refine ⟨acc, e2 _ _ hR, by rw [la]; exact Nat.lt_of_lt_of_le (show _ < 1000 by omega) (by decide), acc ++ [.ref D], by rw [List.length_append, la]; rfl, Same.mut (e.trans e2) nR, upd_same, fun k hk' => ?_⟩
      by_cases c : k < i
      · obtain ⟨p, hp, p1, p2, p3⟩ := hk k c
        exact ⟨p, by rw [List.getElem?_append_left (by omega)]; exact hp, p1, p2, by rw [upd_ne p1]; exact e2 _ _ p3⟩
      · have : k = i := by omega
        subst this
        exact ⟨D, by rw [← la, List.getElem?_concat_length], nDR, nDS, by rw [upd_ne nDR]; exact hD⟩
  obtain ⟨acc, la, e, hR, hk⟩ := h
  have la4 : acc.length = 4 := la
  obtain ⟨r, hr⟩ : ∃ r : Nat → Addr, ∀ k, k < 4 → acc[k]? = some (.ref (r k)) ∧ r k ≠ R ∧ r k ≠ S ∧ H' (r k) = some (.lst (rests (x k))) := by
    refine ⟨fun k => if h : k < 4 then (hk k h).choose else 0, fun k h => ?_⟩
    simp only [h, dif_pos]
    exact (hk k h).choose_spec
  have eacc : acc = [.ref (r 0), .ref (r 1), .ref (r 2), .ref (r 3)] := by
    match acc, la4, hr with
    | [a0, a1, a2, a3], _, hr =>
      have h0 := (hr 0 (by decide)).1
      have h1 := (hr 1 (by decide)).1
      have h2 := (hr 2 (by decide)).1
      have h3 := (hr 3 (by decide)).1
      simp at h0 h1 h2 h3
      rw [h0, h1, h2, h3]
  rw [eacc] at hR
  have K7 : Kept K S R H' r v x := ⟨e _ _ hS6, hR, fun k hk' => (Nd.of e).d (num6 k hk'), fun k hk' => (hr k hk').2.2.2, nux, fun k hk' => ⟨(hr k hk').2.2.1, (hr k hk').2.1⟩⟩
  have T7 := T6.same e
  have tb7 := Tabs.ext tb6 e
  have hM7 := e _ _ hM
  clear hr eacc la la4 hk hR e T6 tb6 hM hS6 num6 nux nR E6 acc
  refine ⟨_, rfl, (by decide), (by decide), ?_⟩
  refine for_range (lo := 0) (n := 9) (fun i σ H' => ∃ (z4 z5 z6 z7 z8 z9 z10 z11 z12 z13 z15 z16 z17 z18 : Option V) (r : Nat → Addr) (v : Nat → V) (x : Nat → Int), σ = [some (.ref a), some (.ref τ.t), some (.ref M), some (.ref R), z4, z5, z6, z7, z8, z9, z10, z11, z12, z13, some (.ref S), z15, z16, z17, z18] ∧ Tape K τ (100 * (12 - i)) H' ∧ Tabs LT H' ∧ H' M = some (.lst (mods.map V.int)) ∧ Kept K S R H' r v x)
    ⟨_, _, _, _, _, _, _, _, _, _, _, _, _, _, r, v, x, rfl, T7.mono (by omega), tb7, hM7, K7⟩ (fun i σ H' hi h => ?_) (fun σ H' h => ?_)
  · clear K7 T7 tb7 hM7
    obtain ⟨z4, z5, z6, z7, z8, z9, z10, z11, z12, z13, z15, z16, z17, z18, r, v, x, rfl, T, tb, hM, KK⟩ := h
    obtain ⟨k, hk1, hk2⟩ : ∃ k, 100 * (12 - i) = k + 100 ∧ k = 100 * (12 - (i + 1)) := ⟨_, by omega, rfl⟩
    rw [hk1] at T
    refine ⟨_, rfl, τ, _, k + 99, rfl, T, by decide, lt_BigL (by decide), fun w G1 e1 T1 w0 w1 => ?_⟩
    refine ⟨_, rfl, τ, _, k + 98, rfl, T1, by decide, lt_BigL (by decide), fun ja G2 e2 T2 a0 a1 => ?_⟩
    refine ⟨_, rfl, τ, _, k + 97, rfl, T2, by decide, lt_BigL (by decide), fun jb G3 e3 T3 b0 b1 => ?_⟩
    refine ⟨_, rfl, τ, _, k + 96, rfl, T3, by decide, lt_BigL (by decide), fun jt G4 e4 T4 t0 t1 => ?_⟩
    refine ⟨(by show 4 ≤ sizeLine; decide), fun pt npt => ?_⟩
    refine ⟨_, _, rfl, SqT.of upd_same, rfl, _, _, rfl, _, _, rfl, _, _, rfl, _, _, rfl, rfl, ?_⟩
    have e5 := Nd.new (o := .tup [.int w, .int ja, .int jb, .int jt]) npt
    have T5 := T4.new (o := .tup [.int w, .int ja, .int jb, .int jt]) npt
    generalize upd G4 pt (.tup [.int w, .int ja, .int jb, .int jt]) = G5 at e5 T5 ⊢
    have e15 := e1.trans (e2.trans (e3.trans (e4.trans e5)))
    have tb5 := Fb.Tabs.nd tb e15
    have hM5 := e15.lst hM
    have K5 := KK.nd e15
    clear e1 e2 e3 e4 e5 npt T1 T2 T3 T4 T tb hM KK e15
    obtain ⟨w, rfl⟩ := Int.eq_ofNat_of_zero_le w0
    obtain ⟨ja, rfl⟩ := Int.eq_ofNat_of_zero_le a0
    obtain ⟨jb, rfl⟩ := Int.eq_ofNat_of_zero_le b0
    obtain ⟨jt, rfl⟩ := Int.eq_ofNat_of_zero_le t0
    have ha4 : ja < 4 := by omega
    have hb4 : jb < 4 := by omega
    have ht4 : jt < 4 := by omega
    -- products of few pairs alone
    refine ⟨fun σ H' => ∃ wy : Nat, σ = [some (.ref a), some (.ref τ.t), some (.ref M), some (.ref R), some (.int (0 + (i : Int))), some (.int (jb : Int)), some (.int (jt : Int)), z7, z8, z9, z10, z11, z12, some (.int (ja : Int)), some (.ref S), some (.int (wy : Int)), z16, z17, z18] ∧ Same G5 H' ∧ wy ≤ 6 ∧ (wy = 2 → (Tl (x ja)).length * (Tl (x jb)).length ≤ 60), ?_, ?_⟩
    · refine ⟨_, rfl, rfl, _, rfl, ?_⟩
      refine iteD (fun c => ?_) (fun c => ?_)
      · have la := (K5.nu ja ha4).1
        have lb := (K5.nu jb hb4).1
        refine ⟨_, rfl, _, rfl, _, _, _, _, rfl, rfl, SqL.of K5.nums, at4 v ha4, v ja, x ja, rfl, K5.num ja ha4, nu_8 (K5.nu ja ha4), fun G6 e6 => ?_⟩
        refine ⟨_, rfl, _, rfl, _, _, _, _, rfl, rfl, SqL.of (e6 _ _ K5.nums), at4 v hb4, v jb, x jb, rfl, (Nd.of e6).d (K5.num jb hb4), nu_8 (K5.nu jb hb4), fun G7 e7 => ?_⟩
        refine ⟨_, _, rfl, rfl, (by first | exact .inl ⟨by omega, by omega⟩ | exact .inr ⟨by omega, by omega⟩), _, _, rfl, rfl, _, rfl, ?_⟩
        refine iteD (fun c2 => ?_) (fun c2 => ?_)
        · exact ⟨3, rfl, e6.trans e7, by decide, fun h => absurd h (by decide)⟩
        · refine ⟨w, rfl, e6.trans e7, by omega, fun _ => ?_⟩
          have h : ¬ (60 : Int) < (((Tl (x ja)).length : Nat) : Int) * (((Tl (x jb)).length : Nat) : Int) := c2
          rw [← Int.natCast_mul] at h
          omega
      · refine iteF ?_
        refine ⟨w, rfl, Same.refl _, by omega, fun h => absurd (by rw [h]; rfl) c⟩
    clear w0 w1
    rintro σ H1 ⟨wy, rfl, e6, w6, hm⟩
    have T6 := T5.same e6
    have tb6 := Tabs.ext tb5 e6
    have hM6 := e6 _ _ hM5
    have K6 := K5.nd (Nd.of e6)
    clear T5 tb5 hM5 K5 e6 G5
    -- the second number
    refine ⟨fun σ H' => ∃ (u : V) (yv : Int), σ = [some (.ref a), some (.ref τ.t), some (.ref M), some (.ref R), some (.int (0 + (i : Int))), some (.int (jb : Int)), some (.int (jt : Int)), z7, z8, z9, z10, z11, z12, some (.int (ja : Int)), some (.ref S), some (.int (wy : Int)), some u, z17, z18] ∧ Nd H1 H' ∧ Tape K τ (k + 50) H' ∧ Dp K H' u (gU 8 yv) ∧ Nu yv ∧ (5 ≤ wy → 0 ≤ yv ∧ UU 1999 5 yv) ∧ (wy < 5 → yv = x jb), ?_, ?_⟩
    · refine ⟨_, rfl, _, _, rfl, rfl, _, rfl, ?_⟩
      refine iteD (fun c => ?_) (fun c => ?_)
      · refine ⟨_, rfl, _, rfl, _, _, _, _, rfl, rfl, SqL.of K6.nums, at4 v hb4, ?_⟩
        exact ⟨v jb, x jb, rfl, Nd.refl _, T6.mono (by omega), K6.num jb hb4, K6.nu jb hb4, fun h => by omega, fun _ => rfl⟩
      · refine ⟨_, rfl, _, rfl, τ, _, k + 95, rfl, T6, by decide, lt_BigL (by decide), fun g G6 e6 T6' g0 g1 => ?_⟩
        refine ⟨_, rfl, τ, k + 60, rfl, T6'.mono (by omega), fun vt l G7 e7 T7 tw => ?_⟩
        refine ⟨(by show 2 ≤ sizeLine; decide), fun p3 np3 => ?_⟩
        refine ⟨τ, p3, _, k + 59, rfl, SqL.of upd_same, (by simp), (by show 2 ≤ 100000; decide), T7.new np3, fun y jy G8 e8 T8 hy => ?_⟩
        have hmem := List.mem_of_getElem? hy
        simp only [List.mem_cons, List.not_mem_nil, or_false] at hmem
        have E8 := e6.trans (e7.trans ((Nd.new np3).trans e8))
        have e78 := (Nd.new np3).trans e8
        rcases hmem with rfl | rfl
        · have pg : plain g := ⟨by omega, by omega⟩
          exact ⟨_, g, rfl, E8, T8.mono (by omega), by rw [gU_plain pg]; exact .int _, uu_plain (by decide) pg, fun _ => ⟨g0, uu_plain (by decide) pg⟩, fun h => by omega⟩
        · obtain ⟨rw_, dw⟩ := tw
          obtain ⟨f1, f2, f3⟩ := rw_.form
          refine ⟨_, av l, rfl, E8, T8.mono (by omega), ?_, (up8 (by decide) f2).2, fun _ => ⟨by omega, uu_le (by decide) (by decide : 2 ≤ 5) (uu_wide (by decide) f2)⟩, fun h => by omega⟩
          rw [(up8 (by decide) f2).1, f1]
          exact e78.d dw
    rintro σ H2 ⟨u, yv, rfl, e7, T7, du, ny, hs, hy⟩
    have tb7 := Fb.Tabs.nd tb6 e7
    have hM7 := e7.lst hM6
    have K7 := K6.nd e7
    clear T6 tb6 hM6 K6 e7 H1
    refine told_step (wy := wy) (ja := ja) (x := x ja) (y := yv) tb7 T7 rfl rfl rfl rfl K7.nums ha4 w6 (K7.num ja ha4) du (K7.nu ja ha4) ny (fun h => by rw [hy (by omega)]; exact hm h) hs (fun fit t v' G8 d8 T8 tb8 ht dz => ?_) (fun t p l G8 d8 T8 tb8 ht => ?_)
    · have hM8 := d8.lst hM7
      have K8 := K7.ld d8
      have du8 := d8.d du
      clear T7 tb7 hM7 K7 d8 H2 du
      have zu := fit_nu (z := stR wy (x ja) yv) (by
        unfold stR
        split
        · exact nu_at (by decide) (by decide) (by decide : 7 ≤ 8) (nu_sub (K8.nu ja ha4) ny)
        · split
          · rename_i h1 h2
            exact (times_two (K8.nu ja ha4) ny (by rw [hy (by omega)]; exact hm h2)).1
          · split
            · exact nu_at (by decide) (by decide) (by decide : 7 ≤ 8) (nu_sum (K8.nu ja ha4) ny)
            · rename_i h1 h2 h3
              exact nu_at (by decide) (by decide) (by decide : 7 ≤ 8) (uu_shl (L := 1999) (n := 4) (by decide) (K8.nu ja ha4) (hs (by omega)).2 (hs (by omega)).1)) fit
      obtain ⟨z, hz⟩ : ∃ z, stR wy (x ja) yv = z := ⟨_, rfl⟩
      rw [hz] at dz zu
      have zr : ∀ m ∈ mods, ∀ wv : Int, (if wy < 5 then wv = [x ja % m + x jb % m, x ja % m - x jb % m, x ja % m * (x jb % m), x ja % m + x jb % m, x ja % m + x jb % m].getD wy 0 else wv = x ja % m * (2 ^ yv.toNat % m)) → wv % m = z % m := fun m hm' wv h => by
        rw [← hz]
        unfold stR
        have w7 : wy = 0 ∨ wy = 1 ∨ wy = 2 ∨ wy = 3 ∨ wy = 4 ∨ wy = 5 ∨ wy = 6 := by omega
        rcases w7 with rfl | rfl | rfl | rfl | rfl | rfl | rfl
        · rw [if_pos (by decide)] at h
          rw [h, hy (by decide)]
          exact (Int.add_emod ..).symm
        · rw [if_pos (by decide)] at h
          rw [h, hy (by decide)]
          exact (Int.sub_emod ..).symm
        · rw [if_pos (by decide)] at h
          rw [h, hy (by decide)]
          exact (Int.mul_emod ..).symm
        · rw [if_pos (by decide)] at h
          rw [h, hy (by decide)]
          exact (Int.add_emod ..).symm
        · rw [if_pos (by decide)] at h
          rw [h, hy (by decide)]
          exact (Int.add_emod ..).symm
        · rw [if_neg (by decide)] at h
          rw [h]
          exact (Int.mul_emod ..).symm
        · rw [if_neg (by decide)] at h
          rw [h]
          exact (Int.mul_emod ..).symm
      clear hz fit hm
      refine ⟨fun σ H' => σ = [some (.ref a), some (.ref τ.t), some (.ref M), some (.ref R), some (.int (0 + (i : Int))), some (.int (jb : Int)), some (.int (jt : Int)), some (.ref t), z8, z9, z10, z11, z12, some (.int (ja : Int)), some (.ref S), some (.int (wy : Int)), some u, z17, z18] ∧ H' = G8, ?_, ?_⟩
      · refine ⟨_, rfl, t, _, _, _, rfl, rfl, SqT.of ht, atI_nat (j := 0) rfl, rfl, _, rfl, ?_⟩
        exact iteDN (fun c => absurd rfl c) (fun _ => ⟨rfl, rfl⟩)
      rintro σ H' ⟨rfl, rfl⟩
      -- what is due
      refine ⟨(by show 0 ≤ sizeLine; decide), fun pd npd => ?_⟩
      have eD := Same.new (o := .lst []) npd
      have hD0 : upd H' pd (.lst []) pd = some (.lst []) := upd_same
      refine ⟨_, rfl, (by decide), (by decide), ?_⟩
      refine for_range (lo := 0) (n := 3) (fun j σ H2 => ∃ (z9 z10 z11 z12 : Option V), σ = [some (.ref a), some (.ref τ.t), some (.ref M), some (.ref R), some (.int (0 + (i : Int))), some (.int (jb : Int)), some (.int (jt : Int)), some (.ref t), some (.ref pd), z9, z10, z11, z12, some (.int (ja : Int)), some (.ref S), some (.int (wy : Int)), some u, z17, z18] ∧ Same H' H2 ∧ H2 pd = some (.lst ((mods.take j).map fun m => V.int (z % m))))
        ⟨_, _, _, _, rfl, eD, hD0⟩ (fun j σ H2 hj h => ?_) (fun σ H2 h => ?_)
      · obtain ⟨z9, z10, z11, z12, rfl, e, hpd⟩ := h
        obtain ⟨m, hm⟩ : ∃ m, mods[j]? = some m := ⟨_, List.getElem?_eq_getElem hj⟩
        have mm := List.mem_of_getElem? hm
        obtain ⟨m0, m1⟩ := md_pos (mods_md m mm)
        have hMj := e _ _ hM8
        have Kj := K8.nd (Nd.of e)
        have duj := (Nd.of e).d du8
        have ek : (0 + (j : Int)) = (j : Int) := by omega
        have atR : ∀ q : Nat, q < 4 → atI ([.ref (r 0), .ref (r 1), .ref (r 2), .ref (r 3)] : List V) (q : Int) = some (.ref (r q)) := fun q hq => at4 (fun q => V.ref (r q)) hq
        have atr : ∀ n : Int, atI (rests n) (j : Int) = some (.int (n % m)) := fun n => atI_nat (by unfold rests; rw [List.getElem?_map, hm]; rfl)
        have atm : atI (mods.map V.int) (j : Int) = some (.int m) := atI_nat (by rw [List.getElem?_map, hm]; rfl)
        have ra0 := Int.emod_nonneg (x ja) (show m ≠ 0 by omega)
        have ra1 := Int.emod_lt_of_pos (x ja) (show 0 < m by omega)
        have rb0 := Int.emod_nonneg (x jb) (show m ≠ 0 by omega)
        have rb1 := Int.emod_lt_of_pos (x jb) (show 0 < m by omega)
        have wide : ∀ p q : Int, 0 ≤ p → p < m → 0 ≤ q → q < m → CMulW p q := fun p q p0 p1 q0 q1 => wide_mul (a := 62) (b := 62) (by omega) (by omega) (by decide) (by decide) (by decide)
        rw [ek]
        refine ⟨_, rfl, _, rfl, R, _, _, _, rfl, rfl, SqL.of Kj.rows, atR ja ha4, _, rfl, r ja, _, _, _, rfl, rfl, SqL.of (Kj.row ja ha4), atr _, _, rfl, _, rfl, R, _, _, _, rfl, rfl, SqL.of Kj.rows, atR jb hb4, _, rfl, r jb, _, _, _, rfl, rfl, SqL.of (Kj.row jb hb4), atr _, _, _, rfl, ?_⟩
        refine ⟨fun σ H3 => ∃ wv : Int, σ = [some (.ref a), some (.ref τ.t), some (.ref M), some (.ref R), some (.int (0 + (i : Int))), some (.int (jb : Int)), some (.int (jt : Int)), some (.ref t), some (.ref pd), some (.int (j : Int)), some (.int (x ja % m)), some (.int (x jb % m)), some (.int wv), some (.int (ja : Int)), some (.ref S), some (.int (wy : Int)), some u, z17, z18] ∧ Same H2 H3 ∧ wv % m = z % m, ?_, ?_⟩
        · refine ⟨_, rfl, _, _, rfl, rfl, _, rfl, ?_⟩
          refine iteD (fun c => ?_) (fun c => ?_)
          · have w5 : 5 ≤ wy := by omega
            obtain ⟨y0, yu⟩ := hs w5
            refine ⟨_, rfl, _, rfl, _, rfl, _, rfl, M, _, _, _, rfl, rfl, SqL.of hMj, atm, u, yv, m, rfl, duj, ⟨y0, nu_8 ny⟩, mods_md m mm, fun H3 e3 => ?_⟩
            have q0 := Int.emod_nonneg (2 ^ yv.toNat) (show m ≠ 0 by omega)
            have q1 := Int.emod_lt_of_pos (2 ^ yv.toNat) (show 0 < m by omega)
            refine ⟨_, _, rfl, rfl, wide _ _ ra0 ra1 q0 q1, ?_⟩
            exact ⟨_, rfl, e3, zr m mm _ (by rw [if_neg (by omega)])⟩
          · have w5 : wy < 5 := by omega
            refine ⟨_, rfl, _, rfl, _, _, rfl, rfl, _, rfl, _, rfl, _, _, rfl, rfl, _, rfl, _, rfl, _, _, rfl, rfl, wide _ _ ra0 ra1 rb0 rb1, _, rfl, _, rfl, _, _, rfl, rfl, _, rfl, _, rfl, _, _, rfl, rfl, (by show 5 ≤ sizeLine; decide), fun p8 np8 => ?_⟩
            have fin : ∀ wv : Int, wv = [x ja % m + x jb % m, x ja % m - x jb % m, x ja % m * (x jb % m), x ja % m + x jb % m, x ja % m + x jb % m].getD wy 0 → wv % m = z % m := fun wv h => zr m mm wv (by rw [if_pos w5]; exact h)
            have w7 : wy = 0 ∨ wy = 1 ∨ wy = 2 ∨ wy = 3 ∨ wy = 4 := by omega
            rcases w7 with rfl | rfl | rfl | rfl | rfl
            · exact ⟨_, rfl, _, _, _, _, rfl, rfl, SqL.of upd_same, atI_nat (j := 0) rfl, _, rfl, Same.new np8, fin _ rfl⟩
            · exact ⟨_, rfl, _, _, _, _, rfl, rfl, SqL.of upd_same, atI_nat (j := 1) rfl, _, rfl, Same.new np8, fin _ rfl⟩
            · exact ⟨_, rfl, _, _, _, _, rfl, rfl, SqL.of upd_same, atI_nat (j := 2) rfl, _, rfl, Same.new np8, fin _ rfl⟩
            · exact ⟨_, rfl, _, _, _, _, rfl, rfl, SqL.of upd_same, atI_nat (j := 3) rfl, _, rfl, Same.new np8, fin _ rfl⟩
            · exact ⟨_, rfl, _, _, _, _, rfl, rfl, SqL.of upd_same, atI_nat (j := 4) rfl, _, rfl, Same.new np8, fin _ rfl⟩
        rintro σ H3 ⟨wv, rfl, e3, ewv⟩
        have hpd3 := e3 _ _ hpd
        refine ⟨_, rfl, .inl ⟨rfl, _, SqL.of hpd3⟩, _, rfl, _, rfl, _, rfl, _, rfl, M, _, _, _, rfl, rfl, SqL.of (e3 _ _ hMj), atm, _, _, rfl, rfl, (by omega), pd, _, _, rfl, rfl, hpd3, by rw [List.length_map, List.length_take]; exact Nat.lt_of_le_of_lt (Nat.min_le_right _ _) (by decide), ?_⟩
        refine ⟨_, _, _, _, rfl, Same.mut (e.trans e3) npd, ?_⟩
        have ef : Int.fmod wv m = z % m := by rw [Int.fmod_eq_emod_of_nonneg _ (by omega), ewv]
        rw [upd_same, List.take_add_one, hm, List.map_append]
        show some (HO.lst (_ ++ [V.int (Int.fmod wv m)])) = some (HO.lst (_ ++ [V.int (z % m)]))
        rw [ef]
      · obtain ⟨z9, z10, z11, z12, rfl, e, hpd⟩ := h
        have hpd : H2 pd = some (.lst (rests z)) := hpd
        have K2 := K8.nd (Nd.of e)
        have hM2 := e _ _ hM8
        have ht2 := e _ _ ht
        have dz2 := (Nd.of e).d dz
        have T2 := T8.same e
        have tb2 := Tabs.ext tb8 e
        have pdS : pd ≠ S := fun q => by rw [q, K8.nums] at npd; cases npd
        have pdR : pd ≠ R := fun q => by rw [q, K8.rows] at npd; cases npd
        clear K8 hM8 ht dz T8 tb8 e eD hD0 npd
        refine ⟨_, rfl, M, rfl, ⟨_, SqL.of hM2⟩, fun D nD => ?_⟩
        refine lc_list (xs := mods.map V.int) (fun j H3 => Same H2 H3 ∧ H3 D = some (.lst ((mods.take j).map fun m => V.int (z % m)))) ⟨Same.new nD, upd_same⟩ (fun j H3 _ h => SqL.of (h.1 _ _ hM2)) (fun j y H3 hy' h => ?_) (fun H3 h => ?_)
        · obtain ⟨e3, hD⟩ := h
          rw [List.getElem?_map] at hy'
          obtain ⟨m, hm, rfl⟩ := Option.map_eq_some_iff.mp hy'
          refine ⟨rfl, lcT ?_⟩
          refine ⟨_, rfl, t, _, _, _, rfl, rfl, SqT.of (e3 _ _ ht2), atI_nat (j := 1) rfl, _, rfl, v', z, m, rfl, (Nd.of e3).d dz2, nu_8 zu, mods_md m (List.mem_of_getElem? hm), fun H4 e4 => ?_⟩
          refine ⟨_, e4 _ _ hD, by rw [List.length_map, List.length_take]; exact Nat.lt_of_le_of_lt (Nat.min_le_right _ _) (by decide), Same.mut (e3.trans e4) nD, ?_⟩
          rw [upd_same, List.take_add_one, hm, List.map_append]
          rfl
        · obtain ⟨e3, hD⟩ := h
          have hD : H3 D = some (.lst (rests z)) := hD
          have hpd3 := e3 _ _ hpd
          have er : rests z = (mods.map fun m => z % m).map V.int := by unfold rests; rw [List.map_map]; rfl
          have dl : ∀ p, H3 p = some (.lst (rests z)) → Dp K H3 (.ref p) (.list ((mods.map fun m => z % m).map PyData.int)) := fun p hp => .lst (SqL.of hp) (by rw [er]; exact dps_ints _)
          refine ⟨_, rfl, _, _, dl D hD, dl pd hpd3, shaped_ints _, shaped_ints _, _, rfl, ?_⟩
          rw [eqv_ints]
          refine iteF ?_
          have K3 := K2.nd (Nd.of e3)
          have hM3 := e3 _ _ hM2
          have ht3 := e3 _ _ ht2
          have dz3 := (Nd.of e3).d dz2
          have T3 := T2.same e3
          have tb3 := Tabs.ext tb2 e3
          clear K2 hM2 ht2 dz2 T2 tb2 e3 hpd nD hD dl er
          refine ⟨_, rfl, t, _, _, _, rfl, rfl, SqT.of ht3, atI_nat (j := 1) rfl, _, rfl, (by show 2 ≤ sizeLine; decide), fun pu npu => ?_⟩
          have eu := Same.new (o := .tup [v', .ref pd]) npu
          refine ⟨_, _, rfl, SqT.of upd_same, rfl, ?_⟩
          have Ta := T3.same eu
          have tba := Tabs.ext tb3 eu
          have hMa := eu _ _ hM3
          have hpda := eu _ _ hpd3
          have Ka := K3.nd (Nd.of eu)
          have dza := (Nd.of eu).d dz3
          generalize upd H3 pu (.tup [v', .ref pd]) = Ga at Ta tba hMa hpda Ka dza ⊢
          clear K3 hM3 ht3 dz3 T3 tb3 eu npu hpd3
          refine ⟨_, _, rfl, _, rfl, _, rfl, _, _, _, jt, rfl, rfl, Ka.nums, ix4 ht4 _ _ _ _, ?_⟩
          have hRb : upd Ga S (.lst ([v 0, v 1, v 2, v 3].set jt v')) R = some (.lst [.ref (r 0), .ref (r 1), .ref (r 2), .ref (r 3)]) := by rw [upd_ne nRS]; exact Ka.rows
          refine ⟨_, _, rfl, _, rfl, _, rfl, _, _, _, jt, rfl, rfl, hRb, ix4 ht4 _ _ _ _, rfl, ?_⟩
          have td : Td Ga (upd (upd Ga S (.lst ([v 0, v 1, v 2, v 3].set jt v'))) R (.lst ([.ref (r 0), .ref (r 1), .ref (r 2), .ref (r 3)].set jt (.ref pd)))) := (Td.lst Ka.nums).trans (Td.lst hRb)
          have keep : ∀ b o, b ≠ S → b ≠ R → Ga b = some o → upd (upd Ga S (.lst ([v 0, v 1, v 2, v 3].set jt v'))) R (.lst ([.ref (r 0), .ref (r 1), .ref (r 2), .ref (r 3)].set jt (.ref pd))) b = some o := fun b o h1 h2 h => by rw [upd_ne h2, upd_ne h1]; exact h
          have fm8 : ∀ n : Int, Nu n → Fm 8 (gU 8 n) := fun n h => (form8 (nu_8 h)).1
          refine ⟨_, _, _, _, _, _, _, _, _, _, _, _, _, _, fun j => if j = jt then pd else r j, fun j => if j = jt then v' else v j, fun j => if j = jt then z else x j, rfl, ?_, ?_, keep _ _ nMS (Ne.symm nRM) hMa, ⟨?_, ?_, ?_, ?_, ?_, ?_⟩⟩
          · exact (T0.mut nR0 (T0.mut nS0 Ta)).mono (by omega)
          · exact Fb.Tabs.ch hRb (Fb.Tabs.ch Ka.nums tba)
          · rw [upd_ne (Ne.symm nRS), upd_same, set4 v ht4]
          · rw [upd_same, set4 (fun q => V.ref (r q)) ht4]
            have e : ∀ q, (if q = jt then V.ref pd else V.ref (r q)) = V.ref (if q = jt then pd else r q) := fun q => by split <;> rfl
            rw [e, e, e, e]
          · intro j hj
            show Dp K _ (if j = jt then v' else v j) (gU 8 (if j = jt then z else x j))
            split
            · exact td.d (fm8 z zu) dza
            · exact td.d (fm8 _ (Ka.nu j hj)) (Ka.num j hj)
          · intro j hj
            show upd (upd Ga S _) R _ (if j = jt then pd else r j) = some (HO.lst (rests (if j = jt then z else x j)))
            split
            · exact keep _ _ pdS pdR hpda
            · exact keep _ _ (Ka.nr j hj).1 (Ka.nr j hj).2 (Ka.row j hj)
          · intro j hj
            show Nu (if j = jt then z else x j)
            split
            · exact zu
            · exact Ka.nu j hj
          · intro j hj
            show (if j = jt then pd else r j) ≠ S ∧ (if j = jt then pd else r j) ≠ R
            split
            · exact ⟨pdS, pdR⟩
            · exact Ka.nr j hj
    · refine ⟨fun _ _ => False, ?_, fun _ _ h => h.elim⟩
      refine ⟨_, rfl, t, _, _, _, rfl, rfl, SqT.of ht, atI_nat (j := 0) rfl, rfl, _, rfl, ?_⟩
      refine iteDN (fun _ => ?_) (fun c => absurd c (by decide))
      exact ⟨_, _, _, _, _, _, _, _, _, _, _, _, _, _, r, v, x, rfl, T8.mono (by omega), tb8, d8.lst hM7, K7.ld d8⟩
  · obtain ⟨_, _, _, _, _, _, _, _, _, _, _, _, _, _, _, _, _, rfl, _⟩ := h
    exact q H'
end
end Fb
namespace Fb
open PySem L2 PySem.Spec PyProof.Rows LamX
/-! ### the table of another def is empty too -/
theorem walkGTn {nm : Str} {l : PySem.W.OpenLaw} {n k : Nat} {q : Program} {loose : List Str} {XP : (Str → Option Value) → Heap → Prop} {YP : World → Heap → Prop} {d : DefRec} {K : Params → PySem.W.Frag} {x : Str}
    (most : l.most = some n) (nz : n ≤ sizeLine) (df : d.params.defaults = []) (room : Room k callerA) (rec_ : ((recsOf q).any fun e => e.name == nm) = true) (inK : ∀ (w : World) (h : Heap), YP w h → (K w.params).In h)
    (F : ∀ (w : World) (mg : Str → Option Value) (fa : Addr) (h : Heap), (K w.params).In h → h.Ns mainGlobals mg → mg d.name = some (.ref fa) → (∀ fn, mg nm = some (.ref fn) → OwnTab (K w.params) fn h) →
      ∃ (fd : FuncData) (c T : Addr) (sp : Sp), h.get? T = some tab0 ∧ (K w.params).lookup T = none ∧ PySem.W.CodeHd h c T ∧ (∀ (s : Shared) (u : Value), BindsTo s fd ⟨[u], []⟩ [(x, u)]) ∧
        (∀ (H : Hp) (a : Addr) (zs : List Int), zs.length ≤ n → H T = some (.tbl #[]) → SqL (K w.params) H a (zs.map V.int) → sp [.ref a] H (fun v _ => v = .bl true) fun _ _ _ => False) ∧
        ∀ base : Heap, (K w.params).In base → base.Ns mainGlobals mg → TabB base mg c T → FnG l.prog w (K w.params) mg base k fa fd [x] sp) :
    PySem.W.WalkO q loose XP YP l.row.toRowW d [] (fun f vs => PySem.call f vs) := by
  apply Att.attach_callB most df
  intro w s0 s1 mg mb fa o pm cd doc a us zs G Y _ _ _ hmg at_ iz len _ ng
  have kx := inK w _ Y
  have own : ∀ fn, mg nm = some (.ref fn) → OwnTab (K w.params) fn s1.heap := by
    intro fn hfn c T o1 fd1 e dd vs1 sl k1 k2 k3 k4 k5
    obtain ⟨dL, hm, hq⟩ := List.any_eq_true.mp rec_
    obtain ⟨a2, o2, fd2, c2, T2, h1, h2, h3, h4, h5, h6⟩ := G.T.tab dL hm
    have hq2 : dL.name = nm := beq_iff_eq.mp hq
    rw [hq2] at h1
    cases hfn.symm.trans h1
    cases (kx _ _ k1).symm.trans h2
    cases k2.symm.trans h3
    cases k3.symm.trans h4
    obtain ⟨⟨oc, vc, e1, _, e3, e4⟩, hP⟩ := h6
    cases (kx _ _ k4).symm.trans e1
    cases e3
    cases k5.symm.trans e4
    exact hP
  obtain ⟨fd, c, T, sp, t1, t2, t3, bd, spec, go⟩ := F w mg fa _ kx G.T.g hmg own
  exact callGT kx G.T.g G.T.b G.T.builtins G.T.nolimit ng t1 t2 t3 G.T.bmain at_ iz (Nat.le_trans len nz) room go bd fun H => spec H a zs len
end Fb
namespace Fb
open PySem L2 NdefX LamX
theorem fnok_calm {P : Program} {w : World} {K : PySem.W.Frag} {mg : Str → Option Value} {base : Heap} {f : Addr} {fd : FuncData} {k : Nat} {ps : List Str} {sp : Sp} (F : FnOk P w K mg base (L2.CX P w) k f fd ps sp) : FnOk P w K mg base CX0 k f fd ps (fun vs H Q _ => sp vs H Q fun _ _ _ => False) :=
  ⟨fun vs H Q _ h => F.len vs H Q _ h, fun A outer s H args us vs Q _ hr e0 hb hv h => codeAny_mono (F.run A outer s H args us vs Q (fun _ _ _ => False) hr e0 hb hv h) fun r s' hq => by
    cases r with
    | ok fl => cases fl <;> exact hq
    | error e =>
      obtain ⟨_, _, _, _, _, _, _, _, _, _, _, _, z⟩ := hq
      exact z.elim⟩
theorem all_mk {tkv : Tok} {l : PySem.W.OpenLaw} {w : World} {K : PySem.W.Frag} {h : Heap} {mg : Str → Option Value} {fa : Addr} {f1 f2 f3 f4 f5 f6 f7 f8 f9 f10 f11 f12 f13 f14 f15 f16 f17 f18 f19 f20 f21 f22 f23 f24 f25 f26 f27 f28 f29 f30 f31 f32 f33 f34 f35 f36 f37 f38 f39 f40 f41 f42 f43 f44 f45 f46 f47 f48 f49 f50 f51 f52 f53 f54 f55 f56 f57 f58 f59 f60 f61 f62 f63 : Addr} (X : K.In h) (G : h.Ns mainGlobals mg) (hfa : mg "law" = some (.ref fa))
    {od1 an1 od2 an2 od3 an3 od4 an4 od5 an5 od6 an6 od7 an7 od8 an8 od9 an9 od10 an10 od11 an11 od12 an12 od13 an13 od14 an14 od15 an15 od16 an16 od17 an17 od18 an18 od19 an19 od20 an20 od21 an21 od22 an22 od23 an23 od24 an24 od25 an25 od26 an26 od27 an27 od28 an28 od29 an29 od30 an30 od31 an31 od32 an32 od33 an33 od34 an34 od35 an35 od36 an36 od37 an37 od38 an38 od39 an39 od40 an40 od41 an41 od42 an42 od43 an43 od44 an44 od45 an45 od46 an46 od47 an47 od48 an48 od49 an49 od50 an50 od51 an51 od52 an52 od53 an53 od54 an54 od55 an55 od56 an56 od57 an57 od58 an58 od59 an59 od60 an60 od61 an61 od62 an62 od63 an63 : Option Addr} {sl1 sl2 sl3 sl4 sl5 sl6 sl7 sl8 sl9 sl10 sl11 sl12 sl13 sl14 sl15 sl16 sl17 sl18 sl19 sl20 sl21 sl22 sl23 sl24 sl25 sl26 sl27 sl28 sl29 sl30 sl31 sl32 sl33 sl34 sl35 sl36 sl37 sl38 sl39 sl40 sl41 sl42 sl43 sl44 sl45 sl46 sl47 sl48 sl49 sl50 sl51 sl52 sl53 sl54 sl55 sl56 sl57 sl58 sl59 sl60 sl61 sl62 sl63 : Array (Option Value)} {oc1 kV1 dc1 pm1 cd1 ct1 oc2 kV2 dc2 pm2 cd2 ct2 oc3 kV3 dc3 pm3 cd3 ct3 oc4 kV4 dc4 pm4 cd4 ct4 oc5 kV5 dc5 pm5 cd5 ct5 oc6 kV6 dc6 pm6 cd6 ct6 oc7 kV7 dc7 pm7 cd7 ct7 oc8 kV8 dc8 pm8 cd8 ct8 oc9 kV9 dc9 pm9 cd9 ct9 oc10 kV10 dc10 pm10 cd10 ct10 oc11 kV11 dc11 pm11 cd11 ct11 oc12 kV12 dc12 pm12 cd12 ct12 oc13 kV13 dc13 pm13 cd13 ct13 oc14 kV14 dc14 pm14 cd14 ct14 oc15 kV15 dc15 pm15 cd15 ct15 oc16 kV16 dc16 pm16 cd16 ct16 oc17 kV17 dc17 pm17 cd17 ct17 oc18 kV18 dc18 pm18 cd18 ct18 oc19 kV19 dc19 pm19 cd19 ct19 oc20 kV20 dc20 pm20 cd20 ct20 oc21 kV21 dc21 pm21 cd21 ct21 oc22 kV22 dc22 pm22 cd22 ct22 oc23 kV23 dc23 pm23 cd23 ct23 oc24 kV24 dc24 pm24 cd24 ct24 oc25 kV25 dc25 pm25 cd25 ct25 oc26 kV26 dc26 pm26 cd26 ct26 oc27 kV27 dc27 pm27 cd27 ct27 oc28 kV28 dc28 pm28 cd28 ct28 oc29 kV29 dc29 pm29 cd29 ct29 oc30 kV30 dc30 pm30 cd30 ct30 oc31 kV31 dc31 pm31 cd31 ct31 oc32 kV32 dc32 pm32 cd32 ct32 oc33 kV33 dc33 pm33 cd33 ct33 oc34 kV34 dc34 pm34 cd34 ct34 oc35 kV35 dc35 pm35 cd35 ct35 oc36 kV36 dc36 pm36 cd36 ct36 oc37 kV37 dc37 pm37 cd37 ct37 oc38 kV38 dc38 pm38 cd38 ct38 oc39 kV39 dc39 pm39 cd39 ct39 oc40 kV40 dc40 pm40 cd40 ct40 oc41 kV41 dc41 pm41 cd41 ct41 oc42 kV42 dc42 pm42 cd42 ct42 oc43 kV43 dc43 pm43 cd43 ct43 oc44 kV44 dc44 pm44 cd44 ct44 oc45 kV45 dc45 pm45 cd45 ct45 oc46 kV46 dc46 pm46 cd46 ct46 oc47 kV47 dc47 pm47 cd47 ct47 oc48 kV48 dc48 pm48 cd48 ct48 oc49 kV49 dc49 pm49 cd49 ct49 oc50 kV50 dc50 pm50 cd50 ct50 oc51 kV51 dc51 pm51 cd51 ct51 oc52 kV52 dc52 pm52 cd52 ct52 oc53 kV53 dc53 pm53 cd53 ct53 oc54 kV54 dc54 pm54 cd54 ct54 oc55 kV55 dc55 pm55 cd55 ct55 oc56 kV56 dc56 pm56 cd56 ct56 oc57 kV57 dc57 pm57 cd57 ct57 oc58 kV58 dc58 pm58 cd58 ct58 oc59 kV59 dc59 pm59 cd59 ct59 oc60 kV60 dc60 pm60 cd60 ct60 oc61 kV61 dc61 pm61 cd61 ct61 oc62 kV62 dc62 pm62 cd62 ct62 oc63 kV63 dc63 pm63 ct63 : Value} {cL TL : Addr} {eL : Value} {ddL : Option Addr} {vsL : Array Value} {slL : Array (Option Value)}
    (a1 : PySem.W.nsIn K mainGlobals "is_plain" = some (some (.ref f1))) (l1 : K.lookup f1 = some ⟨oc1, od1, .func (PySem.W.fnOf "is_plain" "is_plain" (defArgs S_is_plain) (defBody S_is_plain) (defScope S_is_plain) .none kV1 dc1 pm1 an1 cd1 ct1), sl1⟩) (c1 : PySem.W.codeIn K cd1 "is_plain" = true) (k1 : PySem.W.keepIn K (.ref f1) = true)
    (a2 : PySem.W.nsIn K mainGlobals "is_near" = some (some (.ref f2))) (l2 : K.lookup f2 = some ⟨oc2, od2, .func (PySem.W.fnOf "is_near" "is_near" (defArgs S_is_near) (defBody S_is_near) (defScope S_is_near) .none kV2 dc2 pm2 an2 cd2 ct2), sl2⟩) (c2 : PySem.W.codeIn K cd2 "is_near" = true) (k2 : PySem.W.keepIn K (.ref f2) = true)
    (a3 : PySem.W.nsIn K mainGlobals "turns_of_int" = some (some (.ref f3))) (l3 : K.lookup f3 = some ⟨oc3, od3, .func (PySem.W.fnOf "turns_of_int" "turns_of_int" (defArgs S_turns_of_int) (defBody S_turns_of_int) (defScope S_turns_of_int) .none kV3 dc3 pm3 an3 cd3 ct3), sl3⟩) (c3 : PySem.W.codeIn K cd3 "turns_of_int" = true) (k3 : PySem.W.keepIn K (.ref f3) = true)
    (a4 : PySem.W.nsIn K mainGlobals "ones_of_text" = some (some (.ref f4))) (l4 : K.lookup f4 = some ⟨oc4, od4, .func (PySem.W.fnOf "ones_of_text" "ones_of_text" (defArgs S_ones_of_text) (defBody S_ones_of_text) (defScope S_ones_of_text) .none kV4 dc4 pm4 an4 cd4 ct4), sl4⟩) (c4 : PySem.W.codeIn K cd4 "ones_of_text" = true) (k4 : PySem.W.keepIn K (.ref f4) = true)
    (a5 : PySem.W.nsIn K mainGlobals "int_of_turns" = some (some (.ref f5))) (l5 : K.lookup f5 = some ⟨oc5, od5, .func (PySem.W.fnOf "int_of_turns" "int_of_turns" (defArgs S_int_of_turns) (defBody S_int_of_turns) (defScope S_int_of_turns) .none kV5 dc5 pm5 an5 cd5 ct5), sl5⟩) (c5 : PySem.W.codeIn K cd5 "int_of_turns" = true) (k5 : PySem.W.keepIn K (.ref f5) = true)
    (a6 : PySem.W.nsIn K mainGlobals "int_of_rows" = some (some (.ref f6))) (l6 : K.lookup f6 = some ⟨oc6, od6, .func (PySem.W.fnOf "int_of_rows" "int_of_rows" (defArgs S_int_of_rows) (defBody S_int_of_rows) (defScope S_int_of_rows) .none kV6 dc6 pm6 an6 cd6 ct6), sl6⟩) (c6 : PySem.W.codeIn K cd6 "int_of_rows" = true) (k6 : PySem.W.keepIn K (.ref f6) = true)
    (a7 : PySem.W.nsIn K mainGlobals "int_of_form" = some (some (.ref f7))) (l7 : K.lookup f7 = some ⟨oc7, od7, .func (PySem.W.fnOf "int_of_form" "int_of_form" (defArgs S_int_of_form) (defBody S_int_of_form) (defScope S_int_of_form) .none kV7 dc7 pm7 an7 cd7 ct7), sl7⟩) (c7 : PySem.W.codeIn K cd7 "int_of_form" = true) (k7 : PySem.W.keepIn K (.ref f7) = true)
    (a8 : PySem.W.nsIn K mainGlobals "are_near" = some (some (.ref f8))) (l8 : K.lookup f8 = some ⟨oc8, od8, .func (PySem.W.fnOf "are_near" "are_near" (defArgs S_are_near) (defBody S_are_near) (defScope S_are_near) .none kV8 dc8 pm8 an8 cd8 ct8), sl8⟩) (c8 : PySem.W.codeIn K cd8 "are_near" = true) (k8 : PySem.W.keepIn K (.ref f8) = true)
    (a9 : PySem.W.nsIn K mainGlobals "is_short" = some (some (.ref f9))) (l9 : K.lookup f9 = some ⟨oc9, od9, .func (PySem.W.fnOf "is_short" "is_short" (defArgs S_is_short) (defBody S_is_short) (defScope S_is_short) .none kV9 dc9 pm9 an9 cd9 ct9), sl9⟩) (c9 : PySem.W.codeIn K cd9 "is_short" = true) (k9 : PySem.W.keepIn K (.ref f9) = true)
    (a10 : PySem.W.nsIn K mainGlobals "form_of_int" = some (some (.ref f10))) (l10 : K.lookup f10 = some ⟨oc10, od10, .func (PySem.W.fnOf "form_of_int" "form_of_int" (defArgs S_form_of_int) (defBody S_form_of_int) (defScope S_form_of_int) .none kV10 dc10 pm10 an10 cd10 ct10), sl10⟩) (c10 : PySem.W.codeIn K cd10 "form_of_int" = true) (k10 : PySem.W.keepIn K (.ref f10) = true)
    (a11 : PySem.W.nsIn K mainGlobals "form_with" = some (some (.ref f11))) (l11 : K.lookup f11 = some ⟨oc11, od11, .func (PySem.W.fnOf "form_with" "form_with" (defArgs S_form_with) (defBody S_form_with) (defScope S_form_with) .none kV11 dc11 pm11 an11 cd11 ct11), sl11⟩) (c11 : PySem.W.codeIn K cd11 "form_with" = true) (k11 : PySem.W.keepIn K (.ref f11) = true)
    (a12 : PySem.W.nsIn K mainGlobals "turns_in" = some (some (.ref f12))) (l12 : K.lookup f12 = some ⟨oc12, od12, .func (PySem.W.fnOf "turns_in" "turns_in" (defArgs S_turns_in) (defBody S_turns_in) (defScope S_turns_in) .none kV12 dc12 pm12 an12 cd12 ct12), sl12⟩) (c12 : PySem.W.codeIn K cd12 "turns_in" = true) (k12 : PySem.W.keepIn K (.ref f12) = true)
    (a13 : PySem.W.nsIn K mainGlobals "is_negative" = some (some (.ref f13))) (l13 : K.lookup f13 = some ⟨oc13, od13, .func (PySem.W.fnOf "is_negative" "is_negative" (defArgs S_is_negative) (defBody S_is_negative) (defScope S_is_negative) .none kV13 dc13 pm13 an13 cd13 ct13), sl13⟩) (c13 : PySem.W.codeIn K cd13 "is_negative" = true) (k13 : PySem.W.keepIn K (.ref f13) = true)
    (a14 : PySem.W.nsIn K mainGlobals "compare" = some (some (.ref f14))) (l14 : K.lookup f14 = some ⟨oc14, od14, .func (PySem.W.fnOf "compare" "compare" (defArgs S_compare) (defBody S_compare) (defScope S_compare) .none kV14 dc14 pm14 an14 cd14 ct14), sl14⟩) (c14 : PySem.W.codeIn K cd14 "compare" = true) (k14 : PySem.W.keepIn K (.ref f14) = true)
    (a15 : PySem.W.nsIn K mainGlobals "compare_far" = some (some (.ref f15))) (l15 : K.lookup f15 = some ⟨oc15, od15, .func (PySem.W.fnOf "compare_far" "compare_far" (defArgs S_compare_far) (defBody S_compare_far) (defScope S_compare_far) .none kV15 dc15 pm15 an15 cd15 ct15), sl15⟩) (c15 : PySem.W.codeIn K cd15 "compare_far" = true) (k15 : PySem.W.keepIn K (.ref f15) = true)
    (a16 : PySem.W.nsIn K mainGlobals "common_tail" = some (some (.ref f16))) (l16 : K.lookup f16 = some ⟨oc16, od16, .func (PySem.W.fnOf "common_tail" "common_tail" (defArgs S_common_tail) (defBody S_common_tail) (defScope S_common_tail) .none kV16 dc16 pm16 an16 cd16 ct16), sl16⟩) (c16 : PySem.W.codeIn K cd16 "common_tail" = true) (k16 : PySem.W.keepIn K (.ref f16) = true)
    (a17 : PySem.W.nsIn K mainGlobals "is_less" = some (some (.ref f17))) (l17 : K.lookup f17 = some ⟨oc17, od17, .func (PySem.W.fnOf "is_less" "is_less" (defArgs S_is_less) (defBody S_is_less) (defScope S_is_less) .none kV17 dc17 pm17 an17 cd17 ct17), sl17⟩) (c17 : PySem.W.codeIn K cd17 "is_less" = true) (k17 : PySem.W.keepIn K (.ref f17) = true)
    (a18 : PySem.W.nsIn K mainGlobals "turns_before" = some (some (.ref f18))) (l18 : K.lookup f18 = some ⟨oc18, od18, .func (PySem.W.fnOf "turns_before" "turns_before" (defArgs S_turns_before) (defBody S_turns_before) (defScope S_turns_before) .none kV18 dc18 pm18 an18 cd18 ct18), sl18⟩) (c18 : PySem.W.codeIn K cd18 "turns_before" = true) (k18 : PySem.W.keepIn K (.ref f18) = true)
    (a19 : PySem.W.nsIn K mainGlobals "turns_between" = some (some (.ref f19))) (l19 : K.lookup f19 = some ⟨oc19, od19, .func (PySem.W.fnOf "turns_between" "turns_between" (defArgs S_turns_between) (defBody S_turns_between) (defScope S_turns_between) .none kV19 dc19 pm19 an19 cd19 ct19), sl19⟩) (c19 : PySem.W.codeIn K cd19 "turns_between" = true) (k19 : PySem.W.keepIn K (.ref f19) = true)
    {T20 : Addr} {oT20 : Obj} {nT20 : Nat}
    (a20 : PySem.W.nsIn K mainGlobals "turns_up_to" = some (some (.ref f20))) (l20 : K.lookup f20 = some ⟨oc20, od20, .func (PySem.W.fnOf "turns_up_to" "turns_up_to" (defArgs S_turns_up_to) (defBody S_turns_up_to) (defScope S_turns_up_to) (.ref T20) kV20 dc20 pm20 an20 cd20 ct20), sl20⟩) (c20 : PySem.W.codeIn K cd20 "turns_up_to" = true) (k20 : PySem.W.keepIn K (.ref f20) = true)
    (t20 : K.lookup T20 = some oT20) (u20 : oT20.data = .seq #[.int 0 tkv] nT20)
    (a21 : PySem.W.nsIn K mainGlobals "shorter_first" = some (some (.ref f21))) (l21 : K.lookup f21 = some ⟨oc21, od21, .func (PySem.W.fnOf "shorter_first" "shorter_first" (defArgs S_shorter_first) (defBody S_shorter_first) (defScope S_shorter_first) .none kV21 dc21 pm21 an21 cd21 ct21), sl21⟩) (c21 : PySem.W.codeIn K cd21 "shorter_first" = true) (k21 : PySem.W.keepIn K (.ref f21) = true)
    (a22 : PySem.W.nsIn K mainGlobals "merged_turns" = some (some (.ref f22))) (l22 : K.lookup f22 = some ⟨oc22, od22, .func (PySem.W.fnOf "merged_turns" "merged_turns" (defArgs S_merged_turns) (defBody S_merged_turns) (defScope S_merged_turns) .none kV22 dc22 pm22 an22 cd22 ct22), sl22⟩) (c22 : PySem.W.codeIn K cd22 "merged_turns" = true) (k22 : PySem.W.keepIn K (.ref f22) = true)
    (a23 : PySem.W.nsIn K mainGlobals "flipped_turns" = some (some (.ref f23))) (l23 : K.lookup f23 = some ⟨oc23, od23, .func (PySem.W.fnOf "flipped_turns" "flipped_turns" (defArgs S_flipped_turns) (defBody S_flipped_turns) (defScope S_flipped_turns) .none kV23 dc23 pm23 an23 cd23 ct23), sl23⟩) (c23 : PySem.W.codeIn K cd23 "flipped_turns" = true) (k23 : PySem.W.keepIn K (.ref f23) = true)
    (a24 : PySem.W.nsIn K mainGlobals "common_turns" = some (some (.ref f24))) (l24 : K.lookup f24 = some ⟨oc24, od24, .func (PySem.W.fnOf "common_turns" "common_turns" (defArgs S_common_turns) (defBody S_common_turns) (defScope S_common_turns) .none kV24 dc24 pm24 an24 cd24 ct24), sl24⟩) (c24 : PySem.W.codeIn K cd24 "common_turns" = true) (k24 : PySem.W.keepIn K (.ref f24) = true)
    (a25 : PySem.W.nsIn K mainGlobals "parts_in" = some (some (.ref f25))) (l25 : K.lookup f25 = some ⟨oc25, od25, .func (PySem.W.fnOf "parts_in" "parts_in" (defArgs S_parts_in) (defBody S_parts_in) (defScope S_parts_in) .none kV25 dc25 pm25 an25 cd25 ct25), sl25⟩) (c25 : PySem.W.codeIn K cd25 "parts_in" = true) (k25 : PySem.W.keepIn K (.ref f25) = true)
    (a26 : PySem.W.nsIn K mainGlobals "levels_in" = some (some (.ref f26))) (l26 : K.lookup f26 = some ⟨oc26, od26, .func (PySem.W.fnOf "levels_in" "levels_in" (defArgs S_levels_in) (defBody S_levels_in) (defScope S_levels_in) .none kV26 dc26 pm26 an26 cd26 ct26), sl26⟩) (c26 : PySem.W.codeIn K cd26 "levels_in" = true) (k26 : PySem.W.keepIn K (.ref f26) = true)
    (a27 : PySem.W.nsIn K mainGlobals "judged" = some (some (.ref f27))) (l27 : K.lookup f27 = some ⟨oc27, od27, .func (PySem.W.fnOf "judged" "judged" (defArgs S_judged) (defBody S_judged) (defScope S_judged) .none kV27 dc27 pm27 an27 cd27 ct27), sl27⟩) (c27 : PySem.W.codeIn K cd27 "judged" = true) (k27 : PySem.W.keepIn K (.ref f27) = true)
    (a28 : PySem.W.nsIn K mainGlobals "flip" = some (some (.ref f28))) (l28 : K.lookup f28 = some ⟨oc28, od28, .func (PySem.W.fnOf "flip" "flip" (defArgs S_flip) (defBody S_flip) (defScope S_flip) .none kV28 dc28 pm28 an28 cd28 ct28), sl28⟩) (c28 : PySem.W.codeIn K cd28 "flip" = true) (k28 : PySem.W.keepIn K (.ref f28) = true)
    (a29 : PySem.W.nsIn K mainGlobals "both" = some (some (.ref f29))) (l29 : K.lookup f29 = some ⟨oc29, od29, .func (PySem.W.fnOf "both" "both" (defArgs S_both) (defBody S_both) (defScope S_both) .none kV29 dc29 pm29 an29 cd29 ct29), sl29⟩) (c29 : PySem.W.codeIn K cd29 "both" = true) (k29 : PySem.W.keepIn K (.ref f29) = true)
    (a30 : PySem.W.nsIn K mainGlobals "either" = some (some (.ref f30))) (l30 : K.lookup f30 = some ⟨oc30, od30, .func (PySem.W.fnOf "either" "either" (defArgs S_either) (defBody S_either) (defScope S_either) .none kV30 dc30 pm30 an30 cd30 ct30), sl30⟩) (c30 : PySem.W.codeIn K cd30 "either" = true) (k30 : PySem.W.keepIn K (.ref f30) = true)
    (a31 : PySem.W.nsIn K mainGlobals "differ" = some (some (.ref f31))) (l31 : K.lookup f31 = some ⟨oc31, od31, .func (PySem.W.fnOf "differ" "differ" (defArgs S_differ) (defBody S_differ) (defScope S_differ) .none kV31 dc31 pm31 an31 cd31 ct31), sl31⟩) (c31 : PySem.W.codeIn K cd31 "differ" = true) (k31 : PySem.W.keepIn K (.ref f31) = true)
    (a32 : PySem.W.nsIn K mainGlobals "plus_one" = some (some (.ref f32))) (l32 : K.lookup f32 = some ⟨oc32, od32, .func (PySem.W.fnOf "plus_one" "plus_one" (defArgs S_plus_one) (defBody S_plus_one) (defScope S_plus_one) .none kV32 dc32 pm32 an32 cd32 ct32), sl32⟩) (c32 : PySem.W.codeIn K cd32 "plus_one" = true) (k32 : PySem.W.keepIn K (.ref f32) = true)
    (a33 : PySem.W.nsIn K mainGlobals "opposite" = some (some (.ref f33))) (l33 : K.lookup f33 = some ⟨oc33, od33, .func (PySem.W.fnOf "opposite" "opposite" (defArgs S_opposite) (defBody S_opposite) (defScope S_opposite) .none kV33 dc33 pm33 an33 cd33 ct33), sl33⟩) (c33 : PySem.W.codeIn K cd33 "opposite" = true) (k33 : PySem.W.keepIn K (.ref f33) = true)
    (a34 : PySem.W.nsIn K mainGlobals "carry_turns" = some (some (.ref f34))) (l34 : K.lookup f34 = some ⟨oc34, od34, .func (PySem.W.fnOf "carry_turns" "carry_turns" (defArgs S_carry_turns) (defBody S_carry_turns) (defScope S_carry_turns) .none kV34 dc34 pm34 an34 cd34 ct34), sl34⟩) (c34 : PySem.W.codeIn K cd34 "carry_turns" = true) (k34 : PySem.W.keepIn K (.ref f34) = true)
    (a35 : PySem.W.nsIn K mainGlobals "summed_turns" = some (some (.ref f35))) (l35 : K.lookup f35 = some ⟨oc35, od35, .func (PySem.W.fnOf "summed_turns" "summed_turns" (defArgs S_summed_turns) (defBody S_summed_turns) (defScope S_summed_turns) .none kV35 dc35 pm35 an35 cd35 ct35), sl35⟩) (c35 : PySem.W.codeIn K cd35 "summed_turns" = true) (k35 : PySem.W.keepIn K (.ref f35) = true)
    (a36 : PySem.W.nsIn K mainGlobals "plus" = some (some (.ref f36))) (l36 : K.lookup f36 = some ⟨oc36, od36, .func (PySem.W.fnOf "plus" "plus" (defArgs S_plus) (defBody S_plus) (defScope S_plus) .none kV36 dc36 pm36 an36 cd36 ct36), sl36⟩) (c36 : PySem.W.codeIn K cd36 "plus" = true) (k36 : PySem.W.keepIn K (.ref f36) = true)
    (a37 : PySem.W.nsIn K mainGlobals "minus" = some (some (.ref f37))) (l37 : K.lookup f37 = some ⟨oc37, od37, .func (PySem.W.fnOf "minus" "minus" (defArgs S_minus) (defBody S_minus) (defScope S_minus) .none kV37 dc37 pm37 an37 cd37 ct37), sl37⟩) (c37 : PySem.W.codeIn K cd37 "minus" = true) (k37 : PySem.W.keepIn K (.ref f37) = true)
    (a38 : PySem.W.nsIn K mainGlobals "shifted_up" = some (some (.ref f38))) (l38 : K.lookup f38 = some ⟨oc38, od38, .func (PySem.W.fnOf "shifted_up" "shifted_up" (defArgs S_shifted_up) (defBody S_shifted_up) (defScope S_shifted_up) .none kV38 dc38 pm38 an38 cd38 ct38), sl38⟩) (c38 : PySem.W.codeIn K cd38 "shifted_up" = true) (k38 : PySem.W.keepIn K (.ref f38) = true)
    (a39 : PySem.W.nsIn K mainGlobals "are_movable" = some (some (.ref f39))) (l39 : K.lookup f39 = some ⟨oc39, od39, .func (PySem.W.fnOf "are_movable" "are_movable" (defArgs S_are_movable) (defBody S_are_movable) (defScope S_are_movable) .none kV39 dc39 pm39 an39 cd39 ct39), sl39⟩) (c39 : PySem.W.codeIn K cd39 "are_movable" = true) (k39 : PySem.W.keepIn K (.ref f39) = true)
    (a40 : PySem.W.nsIn K mainGlobals "total" = some (some (.ref f40))) (l40 : K.lookup f40 = some ⟨oc40, od40, .func (PySem.W.fnOf "total" "total" (defArgs S_total) (defBody S_total) (defScope S_total) .none kV40 dc40 pm40 an40 cd40 ct40), sl40⟩) (c40 : PySem.W.codeIn K cd40 "total" = true) (k40 : PySem.W.keepIn K (.ref f40) = true)
    (a41 : PySem.W.nsIn K mainGlobals "pair_sums" = some (some (.ref f41))) (l41 : K.lookup f41 = some ⟨oc41, od41, .func (PySem.W.fnOf "pair_sums" "pair_sums" (defArgs S_pair_sums) (defBody S_pair_sums) (defScope S_pair_sums) .none kV41 dc41 pm41 an41 cd41 ct41), sl41⟩) (c41 : PySem.W.codeIn K cd41 "pair_sums" = true) (k41 : PySem.W.keepIn K (.ref f41) = true)
    (a42 : PySem.W.nsIn K mainGlobals "times" = some (some (.ref f42))) (l42 : K.lookup f42 = some ⟨oc42, od42, .func (PySem.W.fnOf "times" "times" (defArgs S_times) (defBody S_times) (defScope S_times) .none kV42 dc42 pm42 an42 cd42 ct42), sl42⟩) (c42 : PySem.W.codeIn K cd42 "times" = true) (k42 : PySem.W.keepIn K (.ref f42) = true)
    (a43 : PySem.W.nsIn K mainGlobals "shift_left" = some (some (.ref f43))) (l43 : K.lookup f43 = some ⟨oc43, od43, .func (PySem.W.fnOf "shift_left" "shift_left" (defArgs S_shift_left) (defBody S_shift_left) (defScope S_shift_left) .none kV43 dc43 pm43 an43 cd43 ct43), sl43⟩) (c43 : PySem.W.codeIn K cd43 "shift_left" = true) (k43 : PySem.W.keepIn K (.ref f43) = true)
    (a44 : PySem.W.nsIn K mainGlobals "multiply" = some (some (.ref f44))) (l44 : K.lookup f44 = some ⟨oc44, od44, .func (PySem.W.fnOf "multiply" "multiply" (defArgs S_multiply) (defBody S_multiply) (defScope S_multiply) .none kV44 dc44 pm44 an44 cd44 ct44), sl44⟩) (c44 : PySem.W.codeIn K cd44 "multiply" = true) (k44 : PySem.W.keepIn K (.ref f44) = true)
    (a45 : PySem.W.nsIn K mainGlobals "add" = some (some (.ref f45))) (l45 : K.lookup f45 = some ⟨oc45, od45, .func (PySem.W.fnOf "add" "add" (defArgs S_add) (defBody S_add) (defScope S_add) .none kV45 dc45 pm45 an45 cd45 ct45), sl45⟩) (c45 : PySem.W.codeIn K cd45 "add" = true) (k45 : PySem.W.keepIn K (.ref f45) = true)
    (a46 : PySem.W.nsIn K mainGlobals "subtract" = some (some (.ref f46))) (l46 : K.lookup f46 = some ⟨oc46, od46, .func (PySem.W.fnOf "subtract" "subtract" (defArgs S_subtract) (defBody S_subtract) (defScope S_subtract) .none kV46 dc46 pm46 an46 cd46 ct46), sl46⟩) (c46 : PySem.W.codeIn K cd46 "subtract" = true) (k46 : PySem.W.keepIn K (.ref f46) = true)
    (a47 : PySem.W.nsIn K mainGlobals "bit_and" = some (some (.ref f47))) (l47 : K.lookup f47 = some ⟨oc47, od47, .func (PySem.W.fnOf "bit_and" "bit_and" (defArgs S_bit_and) (defBody S_bit_and) (defScope S_bit_and) .none kV47 dc47 pm47 an47 cd47 ct47), sl47⟩) (c47 : PySem.W.codeIn K cd47 "bit_and" = true) (k47 : PySem.W.keepIn K (.ref f47) = true)
    (a48 : PySem.W.nsIn K mainGlobals "bit_or" = some (some (.ref f48))) (l48 : K.lookup f48 = some ⟨oc48, od48, .func (PySem.W.fnOf "bit_or" "bit_or" (defArgs S_bit_or) (defBody S_bit_or) (defScope S_bit_or) .none kV48 dc48 pm48 an48 cd48 ct48), sl48⟩) (c48 : PySem.W.codeIn K cd48 "bit_or" = true) (k48 : PySem.W.keepIn K (.ref f48) = true)
    (a49 : PySem.W.nsIn K mainGlobals "bit_xor" = some (some (.ref f49))) (l49 : K.lookup f49 = some ⟨oc49, od49, .func (PySem.W.fnOf "bit_xor" "bit_xor" (defArgs S_bit_xor) (defBody S_bit_xor) (defScope S_bit_xor) .none kV49 dc49 pm49 an49 cd49 ct49), sl49⟩) (c49 : PySem.W.codeIn K cd49 "bit_xor" = true) (k49 : PySem.W.keepIn K (.ref f49) = true)
    (a50 : PySem.W.nsIn K mainGlobals "_law_begin" = some (some (.ref f50))) (l50 : K.lookup f50 = some ⟨oc50, od50, .func (PySem.W.fnOf "_law_begin" "_law_begin" (defArgs S__law_begin) (defBody S__law_begin) (defScope S__law_begin) .none kV50 dc50 pm50 an50 cd50 ct50), sl50⟩) (c50 : PySem.W.codeIn K cd50 "_law_begin" = true) (k50 : PySem.W.keepIn K (.ref f50) = true)
    (a51 : PySem.W.nsIn K mainGlobals "_law_draw" = some (some (.ref f51))) (l51 : K.lookup f51 = some ⟨oc51, od51, .func (PySem.W.fnOf "_law_draw" "_law_draw" (defArgs S__law_draw) (defBody S__law_draw) (defScope S__law_draw) .none kV51 dc51 pm51 an51 cd51 ct51), sl51⟩) (c51 : PySem.W.codeIn K cd51 "_law_draw" = true) (k51 : PySem.W.keepIn K (.ref f51) = true)
    (a52 : PySem.W.nsIn K mainGlobals "_law_pick" = some (some (.ref f52))) (l52 : K.lookup f52 = some ⟨oc52, od52, .func (PySem.W.fnOf "_law_pick" "_law_pick" (defArgs S__law_pick) (defBody S__law_pick) (defScope S__law_pick) .none kV52 dc52 pm52 an52 cd52 ct52), sl52⟩) (c52 : PySem.W.codeIn K cd52 "_law_pick" = true) (k52 : PySem.W.keepIn K (.ref f52) = true)
    (a53 : PySem.W.nsIn K mainGlobals "_law_turns" = some (some (.ref f53))) (l53 : K.lookup f53 = some ⟨oc53, od53, .func (PySem.W.fnOf "_law_turns" "_law_turns" (defArgs S__law_turns) (defBody S__law_turns) (defScope S__law_turns) .none kV53 dc53 pm53 an53 cd53 ct53), sl53⟩) (c53 : PySem.W.codeIn K cd53 "_law_turns" = true) (k53 : PySem.W.keepIn K (.ref f53) = true)
    (a54 : PySem.W.nsIn K mainGlobals "_law_int" = some (some (.ref f54))) (l54 : K.lookup f54 = some ⟨oc54, od54, .func (PySem.W.fnOf "_law_int" "_law_int" (defArgs S__law_int) (defBody S__law_int) (defScope S__law_int) .none kV54 dc54 pm54 an54 cd54 ct54), sl54⟩) (c54 : PySem.W.codeIn K cd54 "_law_int" = true) (k54 : PySem.W.keepIn K (.ref f54) = true)
    (a55 : PySem.W.nsIn K mainGlobals "_law_row_form" = some (some (.ref f55))) (l55 : K.lookup f55 = some ⟨oc55, od55, .func (PySem.W.fnOf "_law_row_form" "_law_row_form" (defArgs S__law_row_form) (defBody S__law_row_form) (defScope S__law_row_form) .none kV55 dc55 pm55 an55 cd55 ct55), sl55⟩) (c55 : PySem.W.codeIn K cd55 "_law_row_form" = true) (k55 : PySem.W.keepIn K (.ref f55) = true)
    (a56 : PySem.W.nsIn K mainGlobals "_law_tower" = some (some (.ref f56))) (l56 : K.lookup f56 = some ⟨oc56, od56, .func (PySem.W.fnOf "_law_tower" "_law_tower" (defArgs S__law_tower) (defBody S__law_tower) (defScope S__law_tower) .none kV56 dc56 pm56 an56 cd56 ct56), sl56⟩) (c56 : PySem.W.codeIn K cd56 "_law_tower" = true) (k56 : PySem.W.keepIn K (.ref f56) = true)
    (a57 : PySem.W.nsIn K mainGlobals "_law_nested" = some (some (.ref f57))) (l57 : K.lookup f57 = some ⟨oc57, od57, .func (PySem.W.fnOf "_law_nested" "_law_nested" (defArgs S__law_nested) (defBody S__law_nested) (defScope S__law_nested) .none kV57 dc57 pm57 an57 cd57 ct57), sl57⟩) (c57 : PySem.W.codeIn K cd57 "_law_nested" = true) (k57 : PySem.W.keepIn K (.ref f57) = true)
    (a58 : PySem.W.nsIn K mainGlobals "_law_told" = some (some (.ref f58))) (l58 : K.lookup f58 = some ⟨oc58, od58, .func (PySem.W.fnOf "_law_told" "_law_told" (defArgs S__law_told) (defBody S__law_told) (defScope S__law_told) .none kV58 dc58 pm58 an58 cd58 ct58), sl58⟩) (c58 : PySem.W.codeIn K cd58 "_law_told" = true) (k58 : PySem.W.keepIn K (.ref f58) = true)
    (a59 : PySem.W.nsIn K mainGlobals "_law_power_rest" = some (some (.ref f59))) (l59 : K.lookup f59 = some ⟨oc59, od59, .func (PySem.W.fnOf "_law_power_rest" "_law_power_rest" (defArgs S__law_power_rest) (defBody S__law_power_rest) (defScope S__law_power_rest) .none kV59 dc59 pm59 an59 cd59 ct59), sl59⟩) (c59 : PySem.W.codeIn K cd59 "_law_power_rest" = true) (k59 : PySem.W.keepIn K (.ref f59) = true)
    (a60 : PySem.W.nsIn K mainGlobals "_law_rest" = some (some (.ref f60))) (l60 : K.lookup f60 = some ⟨oc60, od60, .func (PySem.W.fnOf "_law_rest" "_law_rest" (defArgs S__law_rest) (defBody S__law_rest) (defScope S__law_rest) .none kV60 dc60 pm60 an60 cd60 ct60), sl60⟩) (c60 : PySem.W.codeIn K cd60 "_law_rest" = true) (k60 : PySem.W.keepIn K (.ref f60) = true)
    (a61 : PySem.W.nsIn K mainGlobals "_law_step" = some (some (.ref f61))) (l61 : K.lookup f61 = some ⟨oc61, od61, .func (PySem.W.fnOf "_law_step" "_law_step" (defArgs S__law_step) (defBody S__law_step) (defScope S__law_step) .none kV61 dc61 pm61 an61 cd61 ct61), sl61⟩) (c61 : PySem.W.codeIn K cd61 "_law_step" = true) (k61 : PySem.W.keepIn K (.ref f61) = true)
    (a62 : PySem.W.nsIn K mainGlobals "_law_number_of_turns" = some (some (.ref f62))) (l62 : K.lookup f62 = some ⟨oc62, od62, .func (PySem.W.fnOf "_law_number_of_turns" "_law_number_of_turns" (defArgs S__law_number_of_turns) (defBody S__law_number_of_turns) (defScope S__law_number_of_turns) .none kV62 dc62 pm62 an62 cd62 ct62), sl62⟩) (c62 : PySem.W.codeIn K cd62 "_law_number_of_turns" = true) (k62 : PySem.W.keepIn K (.ref f62) = true)
    (a63 : PySem.W.nsIn K mainGlobals "law" = some (some (.ref f63))) (l63 : K.lookup f63 = some ⟨oc63, od63, .func (PySem.W.fnOf "law" "law" (defArgs S_law) (defBody S_law) (defScope S_law) .none kV63 dc63 pm63 an63 (.ref cL) ct63), sl63⟩) (c63 : PySem.W.codeIn K (.ref cL) "law" = true) (k63 : PySem.W.keepIn K (.ref f63) = true)
    {tk_FEW_TURNS : Tok} (g_FEW_TURNS : PySem.W.nsIn K mainGlobals "FEW_TURNS" = some (some (.int 8 tk_FEW_TURNS)))
    {tk_MANY_TURNS : Tok} (g_MANY_TURNS : PySem.W.nsIn K mainGlobals "MANY_TURNS" = some (some (.int 16 tk_MANY_TURNS)))
    {tk_BITS : Tok} (g_BITS : PySem.W.nsIn K mainGlobals "BITS" = some (some (.str "01" tk_BITS)))
    {tk_NEAR_PLACE : Tok} (g_NEAR_PLACE : PySem.W.nsIn K mainGlobals "NEAR_PLACE" = some (some (.int 1000 tk_NEAR_PLACE)))
    {tk_BITS_FOR_A_TURN : Tok} (g_BITS_FOR_A_TURN : PySem.W.nsIn K mainGlobals "BITS_FOR_A_TURN" = some (some (.int 64 tk_BITS_FOR_A_TURN)))
    {tk_PLAIN_STOP : Tok} (g_PLAIN_STOP : PySem.W.nsIn K mainGlobals "PLAIN_STOP" = some (some (.int 18446744073709551616 tk_PLAIN_STOP)))
    {tk_LAST_PLAIN_TURN : Tok} (g_LAST_PLAIN_TURN : PySem.W.nsIn K mainGlobals "LAST_PLAIN_TURN" = some (some (.int 64 tk_LAST_PLAIN_TURN)))
    {tk_MOST_PARTS : Tok} (g_MOST_PARTS : PySem.W.nsIn K mainGlobals "MOST_PARTS" = some (some (.int 2000 tk_MOST_PARTS)))
    {tk_MOST_LEVELS : Tok} (g_MOST_LEVELS : PySem.W.nsIn K mainGlobals "MOST_LEVELS" = some (some (.int 6 tk_MOST_LEVELS)))
    {tk_MOST_TERMS : Tok} (g_MOST_TERMS : PySem.W.nsIn K mainGlobals "MOST_TERMS" = some (some (.int 600 tk_MOST_TERMS)))
    (z_len : PySem.W.nsIn K mainGlobals "len" = some none)
    (z_int : PySem.W.nsIn K mainGlobals "int" = some none)
    (z_isinstance : PySem.W.nsIn K mainGlobals "isinstance" = some none)
    (z_sum : PySem.W.nsIn K mainGlobals "sum" = some none)
    (z_max : PySem.W.nsIn K mainGlobals "max" = some none)
    (z_min : PySem.W.nsIn K mainGlobals "min" = some none)
    (z_sorted : PySem.W.nsIn K mainGlobals "sorted" = some none)
    (z_tuple : PySem.W.nsIn K mainGlobals "tuple" = some none)
    (z_list : PySem.W.nsIn K mainGlobals "list" = some none)
    (z_range : PySem.W.nsIn K mainGlobals "range" = some none)
    (z_repr : PySem.W.nsIn K mainGlobals "repr" = some none)
    (z_bool : PySem.W.nsIn K mainGlobals "bool" = some none)
    (z_abs : PySem.W.nsIn K mainGlobals "abs" = some none)
    (z_enumerate : PySem.W.nsIn K mainGlobals "enumerate" = some none)
    (z_zip : PySem.W.nsIn K mainGlobals "zip" = some none)
    (z_str : PySem.W.nsIn K mainGlobals "str" = some none)
    (z_dict : PySem.W.nsIn K mainGlobals "dict" = some none)
    (hkS : PySem.W.nsIn K cStatics "sys.int_max_str_digits" = some none)
    {C_FE : Addr} {nm_FE qq_FE : Str} {NN_FE : Addr} {bs_FE sb_FE : List Value} {sn_FE : List Str} {ab_FE : Bool} {col_FE : Option Bool} {dd_FE : Option Addr} {k0_FE k1_FE k2_FE k3_FE k5_FE : Option Value} (aC_FE : PySem.W.nsIn K mainGlobals "FarError" = some (some (.ref C_FE))) (xC_FE : K.lookup C_FE = some (excClassObj nm_FE qq_FE C_FE NN_FE bs_FE [.type "ValueError", .type "Exception", .type "BaseException", .type "object"] true sn_FE sb_FE ab_FE col_FE dd_FE k0_FE k1_FE k2_FE k3_FE k5_FE "ValueError.__new__")) (fi_FE : PySem.W.findIn K (.ref C_FE) "__init__" = some (some (.builtin "ValueError.__init__"))) (ty_FE : PySem.W.typeIn K (.ref C_FE) = some (.type "type")) (sp_FE : PySem.W.specialIn K (.builtin "object.__class__") "__get__" = some (some (.builtin "getset_descriptor.__get__"))) (tk_FE : PySem.W.takesIn K (.builtin "object.__class__") = some true) (opq_FE : PySem.W.nsIn K cStatics "thirdparty.any" = some none) (top_FE : (l.prog.main.scope.names.lookup ("super" : Str)).isSome = false) (su_FE : PySem.W.nsIn K mainGlobals "super" = some none)
    {C_TooLarge fI_TooLarge cc_TooLarge cda_TooLarge : Addr} {nm_TooLarge qq_TooLarge : Str} {NN_TooLarge : Addr} {bs_TooLarge sb_TooLarge : List Value} {sn_TooLarge : List Str} {ab_TooLarge : Bool} {col_TooLarge : Option Bool} {dd_TooLarge : Option Addr} {k0_TooLarge k1_TooLarge k2_TooLarge k3_TooLarge k5_TooLarge : Option Value} {ocI_TooLarge kVI_TooLarge dcI_TooLarge pmI_TooLarge ctI_TooLarge clc_TooLarge clI_TooLarge : Value} {odI_TooLarge anI_TooLarge cldc_TooLarge cdd_TooLarge : Option Addr} {slI_TooLarge csl_TooLarge cst_TooLarge : Array (Option Value)} {vs_TooLarge : Array Value} {file_TooLarge : Str} {tf_TooLarge : Tok} (aC_TooLarge : PySem.W.nsIn K mainGlobals "TooLarge" = some (some (.ref C_TooLarge))) (xC_TooLarge : K.lookup C_TooLarge = some (excClassObj nm_TooLarge qq_TooLarge C_TooLarge NN_TooLarge bs_TooLarge [.ref C_FE, .type "ValueError", .type "Exception", .type "BaseException", .type "object"] true sn_TooLarge sb_TooLarge ab_TooLarge col_TooLarge dd_TooLarge k0_TooLarge k1_TooLarge k2_TooLarge k3_TooLarge k5_TooLarge "ValueError.__new__")) (sa_TooLarge : PySem.W.findIn K (.ref C_TooLarge) "__setattr__" = some (some (.builtin "object.__setattr__"))) (ga_TooLarge : PySem.W.findIn K (.ref C_TooLarge) "__getattribute__" = some (some (.builtin "BaseException.__getattribute__"))) (gg_TooLarge : PySem.W.findIn K (.ref C_TooLarge) "__getattr__" = some none) (gc_TooLarge : PySem.W.findIn K (.ref C_TooLarge) "__class__" = some (some (.builtin "object.__class__"))) (ia_TooLarge : PySem.W.findIn K (.ref C_TooLarge) "__init__" = some (some (.ref fI_TooLarge))) (no0_TooLarge : PySem.W.findIn K (.ref C_TooLarge) "parts" = some none) (no1_TooLarge : PySem.W.findIn K (.ref C_TooLarge) "levels" = some none) (it_TooLarge : PySem.W.typeIn K (.ref fI_TooLarge) = some (.type "function")) (ex_TooLarge : PySem.W.subIn K (.ref C_TooLarge) (.type "BaseException") = some true) (ve_TooLarge : PySem.W.subIn K (.ref C_TooLarge) (.type "ValueError") = some true) (sC_TooLarge : PySem.W.subIn K (.ref C_TooLarge) (.ref C_TooLarge) = some true) (sF_TooLarge : PySem.W.subIn K (.ref C_TooLarge) (.ref C_FE) = some true) (ty_TooLarge : PySem.W.typeIn K (.ref C_TooLarge) = some (.type "type")) (kC_TooLarge : PySem.W.keepIn K (.ref C_TooLarge) = true) (mS_TooLarge : PySem.W.mroIn K C_TooLarge (.ref C_TooLarge) = some true) (mO_TooLarge : PySem.W.mroIn K C_TooLarge (.type "object") = some true) (lI_TooLarge : K.lookup fI_TooLarge = some ⟨ocI_TooLarge, odI_TooLarge, .func (sxFd "TooLarge.__init__" S_TooLarge cc_TooLarge cda_TooLarge kVI_TooLarge dcI_TooLarge pmI_TooLarge anI_TooLarge ctI_TooLarge), slI_TooLarge⟩) (cI_TooLarge : PySem.W.codeIn K (.ref cda_TooLarge) "TooLarge.__init__" = true) (cell_TooLarge : K.lookup cc_TooLarge = some ⟨clc_TooLarge, cldc_TooLarge, .cell (some (.ref C_TooLarge)), csl_TooLarge⟩) (lc_TooLarge : K.lookup cda_TooLarge = some ⟨clI_TooLarge, cdd_TooLarge, .fields vs_TooLarge, cst_TooLarge⟩) (v2_TooLarge : vs_TooLarge[2]? = some (.str file_TooLarge tf_TooLarge)) (fl_TooLarge : ((l.prog.main.file : Str) == file_TooLarge) = true)
    {C_TooManyTerms fI_TooManyTerms cc_TooManyTerms cda_TooManyTerms : Addr} {nm_TooManyTerms qq_TooManyTerms : Str} {NN_TooManyTerms : Addr} {bs_TooManyTerms sb_TooManyTerms : List Value} {sn_TooManyTerms : List Str} {ab_TooManyTerms : Bool} {col_TooManyTerms : Option Bool} {dd_TooManyTerms : Option Addr} {k0_TooManyTerms k1_TooManyTerms k2_TooManyTerms k3_TooManyTerms k5_TooManyTerms : Option Value} {ocI_TooManyTerms kVI_TooManyTerms dcI_TooManyTerms pmI_TooManyTerms ctI_TooManyTerms clc_TooManyTerms clI_TooManyTerms : Value} {odI_TooManyTerms anI_TooManyTerms cldc_TooManyTerms cdd_TooManyTerms : Option Addr} {slI_TooManyTerms csl_TooManyTerms cst_TooManyTerms : Array (Option Value)} {vs_TooManyTerms : Array Value} {file_TooManyTerms : Str} {tf_TooManyTerms : Tok} (aC_TooManyTerms : PySem.W.nsIn K mainGlobals "TooManyTerms" = some (some (.ref C_TooManyTerms))) (xC_TooManyTerms : K.lookup C_TooManyTerms = some (excClassObj nm_TooManyTerms qq_TooManyTerms C_TooManyTerms NN_TooManyTerms bs_TooManyTerms [.ref C_FE, .type "ValueError", .type "Exception", .type "BaseException", .type "object"] true sn_TooManyTerms sb_TooManyTerms ab_TooManyTerms col_TooManyTerms dd_TooManyTerms k0_TooManyTerms k1_TooManyTerms k2_TooManyTerms k3_TooManyTerms k5_TooManyTerms "ValueError.__new__")) (sa_TooManyTerms : PySem.W.findIn K (.ref C_TooManyTerms) "__setattr__" = some (some (.builtin "object.__setattr__"))) (ga_TooManyTerms : PySem.W.findIn K (.ref C_TooManyTerms) "__getattribute__" = some (some (.builtin "BaseException.__getattribute__"))) (gg_TooManyTerms : PySem.W.findIn K (.ref C_TooManyTerms) "__getattr__" = some none) (gc_TooManyTerms : PySem.W.findIn K (.ref C_TooManyTerms) "__class__" = some (some (.builtin "object.__class__"))) (ia_TooManyTerms : PySem.W.findIn K (.ref C_TooManyTerms) "__init__" = some (some (.ref fI_TooManyTerms))) (no0_TooManyTerms : PySem.W.findIn K (.ref C_TooManyTerms) "terms" = some none) (it_TooManyTerms : PySem.W.typeIn K (.ref fI_TooManyTerms) = some (.type "function")) (ex_TooManyTerms : PySem.W.subIn K (.ref C_TooManyTerms) (.type "BaseException") = some true) (ve_TooManyTerms : PySem.W.subIn K (.ref C_TooManyTerms) (.type "ValueError") = some true) (sC_TooManyTerms : PySem.W.subIn K (.ref C_TooManyTerms) (.ref C_TooManyTerms) = some true) (sF_TooManyTerms : PySem.W.subIn K (.ref C_TooManyTerms) (.ref C_FE) = some true) (ty_TooManyTerms : PySem.W.typeIn K (.ref C_TooManyTerms) = some (.type "type")) (kC_TooManyTerms : PySem.W.keepIn K (.ref C_TooManyTerms) = true) (mS_TooManyTerms : PySem.W.mroIn K C_TooManyTerms (.ref C_TooManyTerms) = some true) (mO_TooManyTerms : PySem.W.mroIn K C_TooManyTerms (.type "object") = some true) (lI_TooManyTerms : K.lookup fI_TooManyTerms = some ⟨ocI_TooManyTerms, odI_TooManyTerms, .func (sxFd "TooManyTerms.__init__" S_TooManyTerms cc_TooManyTerms cda_TooManyTerms kVI_TooManyTerms dcI_TooManyTerms pmI_TooManyTerms anI_TooManyTerms ctI_TooManyTerms), slI_TooManyTerms⟩) (cI_TooManyTerms : PySem.W.codeIn K (.ref cda_TooManyTerms) "TooManyTerms.__init__" = true) (cell_TooManyTerms : K.lookup cc_TooManyTerms = some ⟨clc_TooManyTerms, cldc_TooManyTerms, .cell (some (.ref C_TooManyTerms)), csl_TooManyTerms⟩) (lc_TooManyTerms : K.lookup cda_TooManyTerms = some ⟨clI_TooManyTerms, cdd_TooManyTerms, .fields vs_TooManyTerms, cst_TooManyTerms⟩) (v2_TooManyTerms : vs_TooManyTerms[2]? = some (.str file_TooManyTerms tf_TooManyTerms)) (fl_TooManyTerms : ((l.prog.main.file : Str) == file_TooManyTerms) = true)
    {C_NegativeShift fI_NegativeShift cc_NegativeShift cda_NegativeShift : Addr} {nm_NegativeShift qq_NegativeShift : Str} {NN_NegativeShift : Addr} {bs_NegativeShift sb_NegativeShift : List Value} {sn_NegativeShift : List Str} {ab_NegativeShift : Bool} {col_NegativeShift : Option Bool} {dd_NegativeShift : Option Addr} {k0_NegativeShift k1_NegativeShift k2_NegativeShift k3_NegativeShift k5_NegativeShift : Option Value} {ocI_NegativeShift kVI_NegativeShift dcI_NegativeShift pmI_NegativeShift ctI_NegativeShift clc_NegativeShift clI_NegativeShift : Value} {odI_NegativeShift anI_NegativeShift cldc_NegativeShift cdd_NegativeShift : Option Addr} {slI_NegativeShift csl_NegativeShift cst_NegativeShift : Array (Option Value)} {vs_NegativeShift : Array Value} {file_NegativeShift : Str} {tf_NegativeShift : Tok} (aC_NegativeShift : PySem.W.nsIn K mainGlobals "NegativeShift" = some (some (.ref C_NegativeShift))) (xC_NegativeShift : K.lookup C_NegativeShift = some (excClassObj nm_NegativeShift qq_NegativeShift C_NegativeShift NN_NegativeShift bs_NegativeShift [.ref C_FE, .type "ValueError", .type "Exception", .type "BaseException", .type "object"] true sn_NegativeShift sb_NegativeShift ab_NegativeShift col_NegativeShift dd_NegativeShift k0_NegativeShift k1_NegativeShift k2_NegativeShift k3_NegativeShift k5_NegativeShift "ValueError.__new__")) (sa_NegativeShift : PySem.W.findIn K (.ref C_NegativeShift) "__setattr__" = some (some (.builtin "object.__setattr__"))) (ga_NegativeShift : PySem.W.findIn K (.ref C_NegativeShift) "__getattribute__" = some (some (.builtin "BaseException.__getattribute__"))) (gg_NegativeShift : PySem.W.findIn K (.ref C_NegativeShift) "__getattr__" = some none) (gc_NegativeShift : PySem.W.findIn K (.ref C_NegativeShift) "__class__" = some (some (.builtin "object.__class__"))) (ia_NegativeShift : PySem.W.findIn K (.ref C_NegativeShift) "__init__" = some (some (.ref fI_NegativeShift))) (no0_NegativeShift : PySem.W.findIn K (.ref C_NegativeShift) "amount" = some none) (it_NegativeShift : PySem.W.typeIn K (.ref fI_NegativeShift) = some (.type "function")) (ex_NegativeShift : PySem.W.subIn K (.ref C_NegativeShift) (.type "BaseException") = some true) (ve_NegativeShift : PySem.W.subIn K (.ref C_NegativeShift) (.type "ValueError") = some true) (sC_NegativeShift : PySem.W.subIn K (.ref C_NegativeShift) (.ref C_NegativeShift) = some true) (sF_NegativeShift : PySem.W.subIn K (.ref C_NegativeShift) (.ref C_FE) = some true) (ty_NegativeShift : PySem.W.typeIn K (.ref C_NegativeShift) = some (.type "type")) (kC_NegativeShift : PySem.W.keepIn K (.ref C_NegativeShift) = true) (mS_NegativeShift : PySem.W.mroIn K C_NegativeShift (.ref C_NegativeShift) = some true) (mO_NegativeShift : PySem.W.mroIn K C_NegativeShift (.type "object") = some true) (lI_NegativeShift : K.lookup fI_NegativeShift = some ⟨ocI_NegativeShift, odI_NegativeShift, .func (sxFd "NegativeShift.__init__" S_NegativeShift cc_NegativeShift cda_NegativeShift kVI_NegativeShift dcI_NegativeShift pmI_NegativeShift anI_NegativeShift ctI_NegativeShift), slI_NegativeShift⟩) (cI_NegativeShift : PySem.W.codeIn K (.ref cda_NegativeShift) "NegativeShift.__init__" = true) (cell_NegativeShift : K.lookup cc_NegativeShift = some ⟨clc_NegativeShift, cldc_NegativeShift, .cell (some (.ref C_NegativeShift)), csl_NegativeShift⟩) (lc_NegativeShift : K.lookup cda_NegativeShift = some ⟨clI_NegativeShift, cdd_NegativeShift, .fields vs_NegativeShift, cst_NegativeShift⟩) (v2_NegativeShift : vs_NegativeShift[2]? = some (.str file_NegativeShift tf_NegativeShift)) (fl_NegativeShift : ((l.prog.main.file : Str) == file_NegativeShift) = true) (lcL : K.lookup cL = some ⟨eL, ddL, .fields vsL, slL⟩) (v11 : vsL[11]? = some (.ref TL)) (hdL : PySem.W.codeHdIn K cL TL = true) (nTL : K.lookup TL = none) (own : OwnTab K fa h) :
    ∃ (fd : FuncData) (c T : Addr) (sp : Sp), h.get? T = some tab0 ∧ K.lookup T = none ∧ PySem.W.CodeHd h c T ∧ (∀ (s : Shared) (u : Value), BindsTo s fd ⟨[u], []⟩ [("_law_script", u)]) ∧ (∀ (H : Hp) (a : Addr) (zs : List Int), zs.length ≤ 63 → H T = some (.tbl #[]) → SqL K H a (zs.map V.int) → sp [.ref a] H (fun v _ => v = .bl true) fun _ _ _ => False) ∧
      ∀ base : Heap, K.In base → base.Ns mainGlobals mg → TabB base mg c T → FnG l.prog w K mg base 118 fa fd ["_law_script"] sp := by
  have e := hfa.symm.trans (PySem.W.mg_of X G a63)
  cases e
  have F_is_plain := fun_mk (st := S_is_plain) l1 c1 k1
  have b_is_plain := F_is_plain.binds (ps := P_is_plain) fun _ _ _ _ _ _ us hl => match us, hl with | [_], _ => rfl
  have m_is_plain := PySem.W.mg_of X G a1
  have F_is_near := fun_mk (st := S_is_near) l2 c2 k2
  have b_is_near := F_is_near.binds (ps := P_is_near) fun _ _ _ _ _ _ us hl => match us, hl with | [_], _ => rfl
  have m_is_near := PySem.W.mg_of X G a2
  have F_turns_of_int := fun_mk (st := S_turns_of_int) l3 c3 k3
  have b_turns_of_int := F_turns_of_int.binds (ps := P_turns_of_int) fun _ _ _ _ _ _ us hl => match us, hl with | [_], _ => rfl
  have m_turns_of_int := PySem.W.mg_of X G a3
  have F_ones_of_text := fun_mk (st := S_ones_of_text) l4 c4 k4
  have b_ones_of_text := F_ones_of_text.binds (ps := P_ones_of_text) fun _ _ _ _ _ _ us hl => match us, hl with | [_], _ => rfl
  have m_ones_of_text := PySem.W.mg_of X G a4
  have F_int_of_turns := fun_mk (st := S_int_of_turns) l5 c5 k5
  have b_int_of_turns := F_int_of_turns.binds (ps := P_int_of_turns) fun _ _ _ _ _ _ us hl => match us, hl with | [_], _ => rfl
  have m_int_of_turns := PySem.W.mg_of X G a5
  have F_int_of_rows := fun_mk (st := S_int_of_rows) l6 c6 k6
  have b_int_of_rows := F_int_of_rows.binds (ps := P_int_of_rows) fun _ _ _ _ _ _ us hl => match us, hl with | [_], _ => rfl
  have m_int_of_rows := PySem.W.mg_of X G a6
  have F_int_of_form := fun_mk (st := S_int_of_form) l7 c7 k7
  have b_int_of_form := F_int_of_form.binds (ps := P_int_of_form) fun _ _ _ _ _ _ us hl => match us, hl with | [_], _ => rfl
  have m_int_of_form := PySem.W.mg_of X G a7
  have F_are_near := fun_mk (st := S_are_near) l8 c8 k8
  have b_are_near := F_are_near.binds (ps := P_are_near) fun _ _ _ _ _ _ us hl => match us, hl with | [_, _], _ => rfl
  have m_are_near := PySem.W.mg_of X G a8
  have F_is_short := fun_mk (st := S_is_short) l9 c9 k9
  have b_is_short := F_is_short.binds (ps := P_is_short) fun _ _ _ _ _ _ us hl => match us, hl with | [_], _ => rfl
  have m_is_short := PySem.W.mg_of X G a9
  have F_form_of_int := fun_mk (st := S_form_of_int) l10 c10 k10
  have b_form_of_int := F_form_of_int.binds (ps := P_form_of_int) fun _ _ _ _ _ _ us hl => match us, hl with | [_], _ => rfl
  have m_form_of_int := PySem.W.mg_of X G a10
  have F_form_with := fun_mk (st := S_form_with) l11 c11 k11
  have b_form_with := F_form_with.binds (ps := P_form_with) fun _ _ _ _ _ _ us hl => match us, hl with | [_], _ => rfl
  have m_form_with := PySem.W.mg_of X G a11
  have F_turns_in := fun_mk (st := S_turns_in) l12 c12 k12
  have b_turns_in := F_turns_in.binds (ps := P_turns_in) fun _ _ _ _ _ _ us hl => match us, hl with | [_], _ => rfl
  have m_turns_in := PySem.W.mg_of X G a12
  have F_is_negative := fun_mk (st := S_is_negative) l13 c13 k13
  have b_is_negative := F_is_negative.binds (ps := P_is_negative) fun _ _ _ _ _ _ us hl => match us, hl with | [_], _ => rfl
  have m_is_negative := PySem.W.mg_of X G a13
  have F_compare := fun_mk (st := S_compare) l14 c14 k14
  have b_compare := F_compare.binds (ps := P_compare) fun _ _ _ _ _ _ us hl => match us, hl with | [_, _], _ => rfl
  have m_compare := PySem.W.mg_of X G a14
  have F_compare_far := fun_mk (st := S_compare_far) l15 c15 k15
  have b_compare_far := F_compare_far.binds (ps := P_compare_far) fun _ _ _ _ _ _ us hl => match us, hl with | [_, _], _ => rfl
  have m_compare_far := PySem.W.mg_of X G a15
  have F_common_tail := fun_mk (st := S_common_tail) l16 c16 k16
  have b_common_tail := F_common_tail.binds (ps := P_common_tail) fun _ _ _ _ _ _ us hl => match us, hl with | [_, _, _], _ => rfl
  have m_common_tail := PySem.W.mg_of X G a16
  have F_is_less := fun_mk (st := S_is_less) l17 c17 k17
  have b_is_less := F_is_less.binds (ps := P_is_less) fun _ _ _ _ _ _ us hl => match us, hl with | [_, _], _ => rfl
  have m_is_less := PySem.W.mg_of X G a17
  have F_turns_before := fun_mk (st := S_turns_before) l18 c18 k18
  have b_turns_before := F_turns_before.binds (ps := P_turns_before) fun _ _ _ _ _ _ us hl => match us, hl with | [_, _, _], _ => rfl
  have m_turns_before := PySem.W.mg_of X G a18
  have F_turns_between := fun_mk (st := S_turns_between) l19 c19 k19
  have b_turns_between := F_turns_between.binds (ps := P_turns_between) fun _ _ _ _ _ _ us hl => match us, hl with | [_, _, _, _], _ => rfl
  have m_turns_between := PySem.W.mg_of X G a19
  have F_turns_up_to : FunD K "turns_up_to" "turns_up_to" (defArgs S_turns_up_to) (defBody S_turns_up_to) (defScope S_turns_up_to) [.int 0] [] f20 _ := ⟨⟨oc20, od20, .ref T20, kV20, dc20, pm20, an20, cd20, ct20, sl20, rfl, l20, c20, .inr ⟨List.cons_ne_nil _ _, T20, oT20, [.int 0 tkv], nT20, rfl, t20, u20, .cons ⟨_, rfl⟩ .nil⟩, .inl rfl⟩, k20⟩
  obtain ⟨dsx_turns_up_to, vx_turns_up_to, bx_turns_up_to⟩ := F_turns_up_to.binds1 (ps := P_turns_up_to) 3 1 (List.cons_ne_nil _ _) rfl (fun _ _ _ _ _ _ _ us its hl hi => match us, hl, its, hi with | [_, _, _], _, [_], _ => ⟨_, rfl, rfl⟩)
  obtain ⟨ds_turns_up_to, v_turns_up_to, b_turns_up_to⟩ := F_turns_up_to.binds1 (ps := P_turns_up_to) 2 0 (List.cons_ne_nil _ _) rfl (fun _ _ _ _ _ _ _ us its hl hi => match us, hl, its, hi with | [_, _], _, [_], _ => ⟨_, rfl, rfl⟩)
  have m_turns_up_to := PySem.W.mg_of X G a20
  have F_shorter_first := fun_mk (st := S_shorter_first) l21 c21 k21
  have b_shorter_first := F_shorter_first.binds (ps := P_shorter_first) fun _ _ _ _ _ _ us hl => match us, hl with | [_, _], _ => rfl
  have m_shorter_first := PySem.W.mg_of X G a21
  have F_merged_turns := fun_mk (st := S_merged_turns) l22 c22 k22
  have b_merged_turns := F_merged_turns.binds (ps := P_merged_turns) fun _ _ _ _ _ _ us hl => match us, hl with | [_, _], _ => rfl
  have m_merged_turns := PySem.W.mg_of X G a22
  have F_flipped_turns := fun_mk (st := S_flipped_turns) l23 c23 k23
  have b_flipped_turns := F_flipped_turns.binds (ps := P_flipped_turns) fun _ _ _ _ _ _ us hl => match us, hl with | [_], _ => rfl
  have m_flipped_turns := PySem.W.mg_of X G a23
  have F_common_turns := fun_mk (st := S_common_turns) l24 c24 k24
  have b_common_turns := F_common_turns.binds (ps := P_common_turns) fun _ _ _ _ _ _ us hl => match us, hl with | [_, _], _ => rfl
  have m_common_turns := PySem.W.mg_of X G a24
  have F_parts_in := fun_mk (st := S_parts_in) l25 c25 k25
  have b_parts_in := F_parts_in.binds (ps := P_parts_in) fun _ _ _ _ _ _ us hl => match us, hl with | [_], _ => rfl
  have m_parts_in := PySem.W.mg_of X G a25
  have F_levels_in := fun_mk (st := S_levels_in) l26 c26 k26
  have b_levels_in := F_levels_in.binds (ps := P_levels_in) fun _ _ _ _ _ _ us hl => match us, hl with | [_], _ => rfl
  have m_levels_in := PySem.W.mg_of X G a26
  have F_judged := fun_mk (st := S_judged) l27 c27 k27
  have b_judged := F_judged.binds (ps := P_judged) fun _ _ _ _ _ _ us hl => match us, hl with | [_], _ => rfl
  have m_judged := PySem.W.mg_of X G a27
  have F_flip := fun_mk (st := S_flip) l28 c28 k28
  have b_flip := F_flip.binds (ps := P_flip) fun _ _ _ _ _ _ us hl => match us, hl with | [_], _ => rfl
  have m_flip := PySem.W.mg_of X G a28
  have F_both := fun_mk (st := S_both) l29 c29 k29
  have b_both := F_both.binds (ps := P_both) fun _ _ _ _ _ _ us hl => match us, hl with | [_, _], _ => rfl
  have m_both := PySem.W.mg_of X G a29
  have F_either := fun_mk (st := S_either) l30 c30 k30
  have b_either := F_either.binds (ps := P_either) fun _ _ _ _ _ _ us hl => match us, hl with | [_, _], _ => rfl
  have m_either := PySem.W.mg_of X G a30
  have F_differ := fun_mk (st := S_differ) l31 c31 k31
  have b_differ := F_differ.binds (ps := P_differ) fun _ _ _ _ _ _ us hl => match us, hl with | [_, _], _ => rfl
  have m_differ := PySem.W.mg_of X G a31
  have F_plus_one := fun_mk (st := S_plus_one) l32 c32 k32
  have b_plus_one := F_plus_one.binds (ps := P_plus_one) fun _ _ _ _ _ _ us hl => match us, hl with | [_], _ => rfl
  have m_plus_one := PySem.W.mg_of X G a32
  have F_opposite := fun_mk (st := S_opposite) l33 c33 k33
  have b_opposite := F_opposite.binds (ps := P_opposite) fun _ _ _ _ _ _ us hl => match us, hl with | [_], _ => rfl
  have m_opposite := PySem.W.mg_of X G a33
  have F_carry_turns := fun_mk (st := S_carry_turns) l34 c34 k34
  have b_carry_turns := F_carry_turns.binds (ps := P_carry_turns) fun _ _ _ _ _ _ us hl => match us, hl with | [_, _, _], _ => rfl
  have m_carry_turns := PySem.W.mg_of X G a34
  have F_summed_turns := fun_mk (st := S_summed_turns) l35 c35 k35
  have b_summed_turns := F_summed_turns.binds (ps := P_summed_turns) fun _ _ _ _ _ _ us hl => match us, hl with | [_, _, _], _ => rfl
  have m_summed_turns := PySem.W.mg_of X G a35
  have F_plus := fun_mk (st := S_plus) l36 c36 k36
  have b_plus := F_plus.binds (ps := P_plus) fun _ _ _ _ _ _ us hl => match us, hl with | [_, _], _ => rfl
  have m_plus := PySem.W.mg_of X G a36
  have F_minus := fun_mk (st := S_minus) l37 c37 k37
  have b_minus := F_minus.binds (ps := P_minus) fun _ _ _ _ _ _ us hl => match us, hl with | [_, _], _ => rfl
  have m_minus := PySem.W.mg_of X G a37
  have F_shifted_up := fun_mk (st := S_shifted_up) l38 c38 k38
  have b_shifted_up := F_shifted_up.binds (ps := P_shifted_up) fun _ _ _ _ _ _ us hl => match us, hl with | [_, _], _ => rfl
  have m_shifted_up := PySem.W.mg_of X G a38
  have F_are_movable := fun_mk (st := S_are_movable) l39 c39 k39
  have b_are_movable := F_are_movable.binds (ps := P_are_movable) fun _ _ _ _ _ _ us hl => match us, hl with | [_, _], _ => rfl
  have m_are_movable := PySem.W.mg_of X G a39
  have F_total := fun_mk (st := S_total) l40 c40 k40
  have b_total := F_total.binds (ps := P_total) fun _ _ _ _ _ _ us hl => match us, hl with | [_], _ => rfl
  have m_total := PySem.W.mg_of X G a40
  have F_pair_sums := fun_mk (st := S_pair_sums) l41 c41 k41
  have b_pair_sums := F_pair_sums.binds (ps := P_pair_sums) fun _ _ _ _ _ _ us hl => match us, hl with | [_], _ => rfl
  have m_pair_sums := PySem.W.mg_of X G a41
  have F_times := fun_mk (st := S_times) l42 c42 k42
  have b_times := F_times.binds (ps := P_times) fun _ _ _ _ _ _ us hl => match us, hl with | [_, _], _ => rfl
  have m_times := PySem.W.mg_of X G a42
  have F_shift_left := fun_mk (st := S_shift_left) l43 c43 k43
  have b_shift_left := F_shift_left.binds (ps := P_shift_left) fun _ _ _ _ _ _ us hl => match us, hl with | [_, _], _ => rfl
  have m_shift_left := PySem.W.mg_of X G a43
  have F_multiply := fun_mk (st := S_multiply) l44 c44 k44
  have b_multiply := F_multiply.binds (ps := P_multiply) fun _ _ _ _ _ _ us hl => match us, hl with | [_, _], _ => rfl
  have m_multiply := PySem.W.mg_of X G a44
  have F_add := fun_mk (st := S_add) l45 c45 k45
  have b_add := F_add.binds (ps := P_add) fun _ _ _ _ _ _ us hl => match us, hl with | [_, _], _ => rfl
  have m_add := PySem.W.mg_of X G a45
  have F_subtract := fun_mk (st := S_subtract) l46 c46 k46
  have b_subtract := F_subtract.binds (ps := P_subtract) fun _ _ _ _ _ _ us hl => match us, hl with | [_, _], _ => rfl
  have m_subtract := PySem.W.mg_of X G a46
  have F_bit_and := fun_mk (st := S_bit_and) l47 c47 k47
  have b_bit_and := F_bit_and.binds (ps := P_bit_and) fun _ _ _ _ _ _ us hl => match us, hl with | [_, _], _ => rfl
  have m_bit_and := PySem.W.mg_of X G a47
  have F_bit_or := fun_mk (st := S_bit_or) l48 c48 k48
  have b_bit_or := F_bit_or.binds (ps := P_bit_or) fun _ _ _ _ _ _ us hl => match us, hl with | [_, _], _ => rfl
  have m_bit_or := PySem.W.mg_of X G a48
  have F_bit_xor := fun_mk (st := S_bit_xor) l49 c49 k49
  have b_bit_xor := F_bit_xor.binds (ps := P_bit_xor) fun _ _ _ _ _ _ us hl => match us, hl with | [_, _], _ => rfl
  have m_bit_xor := PySem.W.mg_of X G a49
  have F__law_begin := fun_mk (st := S__law_begin) l50 c50 k50
  have b__law_begin := F__law_begin.binds (ps := P__law_begin) fun _ _ _ _ _ _ us hl => match us, hl with | [_], _ => rfl
  have m__law_begin := PySem.W.mg_of X G a50
  have F__law_draw := fun_mk (st := S__law_draw) l51 c51 k51
  have b__law_draw := F__law_draw.binds (ps := P__law_draw) fun _ _ _ _ _ _ us hl => match us, hl with | [_, _], _ => rfl
  have m__law_draw := PySem.W.mg_of X G a51
  have F__law_pick := fun_mk (st := S__law_pick) l52 c52 k52
  have b__law_pick := F__law_pick.binds (ps := P__law_pick) fun _ _ _ _ _ _ us hl => match us, hl with | [_, _], _ => rfl
  have m__law_pick := PySem.W.mg_of X G a52
  have F__law_turns := fun_mk (st := S__law_turns) l53 c53 k53
  have b__law_turns := F__law_turns.binds (ps := P__law_turns) fun _ _ _ _ _ _ us hl => match us, hl with | [_], _ => rfl
  have m__law_turns := PySem.W.mg_of X G a53
  have F__law_int := fun_mk (st := S__law_int) l54 c54 k54
  have b__law_int := F__law_int.binds (ps := P__law_int) fun _ _ _ _ _ _ us hl => match us, hl with | [_], _ => rfl
  have m__law_int := PySem.W.mg_of X G a54
  have F__law_row_form := fun_mk (st := S__law_row_form) l55 c55 k55
  have b__law_row_form := F__law_row_form.binds (ps := P__law_row_form) fun _ _ _ _ _ _ us hl => match us, hl with | [_], _ => rfl
  have m__law_row_form := PySem.W.mg_of X G a55
  have F__law_tower := fun_mk (st := S__law_tower) l56 c56 k56
  have b__law_tower := F__law_tower.binds (ps := P__law_tower) fun _ _ _ _ _ _ us hl => match us, hl with | [_, _], _ => rfl
  have m__law_tower := PySem.W.mg_of X G a56
  have F__law_nested := fun_mk (st := S__law_nested) l57 c57 k57
  have b__law_nested := F__law_nested.binds (ps := P__law_nested) fun _ _ _ _ _ _ us hl => match us, hl with | [_, _, _], _ => rfl
  have m__law_nested := PySem.W.mg_of X G a57
  have F__law_told := fun_mk (st := S__law_told) l58 c58 k58
  have b__law_told := F__law_told.binds (ps := P__law_told) fun _ _ _ _ _ _ us hl => match us, hl with | [_], _ => rfl
  have m__law_told := PySem.W.mg_of X G a58
  have F__law_power_rest := fun_mk (st := S__law_power_rest) l59 c59 k59
  have b__law_power_rest := F__law_power_rest.binds (ps := P__law_power_rest) fun _ _ _ _ _ _ us hl => match us, hl with | [_, _], _ => rfl
  have m__law_power_rest := PySem.W.mg_of X G a59
  have F__law_rest := fun_mk (st := S__law_rest) l60 c60 k60
  have b__law_rest := F__law_rest.binds (ps := P__law_rest) fun _ _ _ _ _ _ us hl => match us, hl with | [_, _], _ => rfl
  have m__law_rest := PySem.W.mg_of X G a60
  have F__law_step := fun_mk (st := S__law_step) l61 c61 k61
  have b__law_step := F__law_step.binds (ps := P__law_step) fun _ _ _ _ _ _ us hl => match us, hl with | [_, _, _], _ => rfl
  have m__law_step := PySem.W.mg_of X G a61
  have F__law_number_of_turns := fun_mk (st := S__law_number_of_turns) l62 c62 k62
  have b__law_number_of_turns := F__law_number_of_turns.binds (ps := P__law_number_of_turns) fun _ _ _ _ _ _ us hl => match us, hl with | [_], _ => rfl
  have m__law_number_of_turns := PySem.W.mg_of X G a62
  have F_law := fun_mk (st := S_law) l63 c63 k63
  have MF_FEW_TURNS := PySem.W.mg_of X G g_FEW_TURNS
  have MF_MANY_TURNS := PySem.W.mg_of X G g_MANY_TURNS
  have MF_BITS := PySem.W.mg_of X G g_BITS
  have MF_NEAR_PLACE := PySem.W.mg_of X G g_NEAR_PLACE
  have MF_BITS_FOR_A_TURN := PySem.W.mg_of X G g_BITS_FOR_A_TURN
  have MF_PLAIN_STOP := PySem.W.mg_of X G g_PLAIN_STOP
  have MF_LAST_PLAIN_TURN := PySem.W.mg_of X G g_LAST_PLAIN_TURN
  have MF_MOST_PARTS := PySem.W.mg_of X G g_MOST_PARTS
  have MF_MOST_LEVELS := PySem.W.mg_of X G g_MOST_LEVELS
  have MF_MOST_TERMS := PySem.W.mg_of X G g_MOST_TERMS
  have B : Blt mg := ⟨PySem.W.mg_none_of X G z_len, PySem.W.mg_none_of X G z_int, PySem.W.mg_none_of X G z_isinstance, PySem.W.mg_none_of X G z_sum, PySem.W.mg_none_of X G z_max, PySem.W.mg_none_of X G z_min, PySem.W.mg_none_of X G z_sorted, PySem.W.mg_none_of X G z_tuple, PySem.W.mg_none_of X G z_list, PySem.W.mg_none_of X G z_range, PySem.W.mg_none_of X G z_repr, PySem.W.mg_none_of X G z_bool, PySem.W.mg_none_of X G z_abs, PySem.W.mg_none_of X G z_enumerate, PySem.W.mg_none_of X G z_zip, PySem.W.mg_none_of X G z_str, PySem.W.mg_none_of X G z_dict⟩
  refine ⟨PySem.W.fnOf "law" "law" (defArgs S_law) (defBody S_law) (defScope S_law) .none kV63 dc63 pm63 an63 (.ref cL) ct63, cL, TL, spLaw K TL, own _ _ _ _ _ _ _ _ l63 rfl rfl lcL v11, nTL, PySem.W.codeHd_of_K X hdL, fun s v => .of_eq rfl, fun H a zs hz hT hS => ⟨a, zs, rfl, hT, hS, hz, fun _ => rfl⟩, fun base _ _ TB => ?_⟩
  have mg_super := PySem.W.mg_none_of X G su_FE
  have mg_FE := PySem.W.mg_of X G aC_FE
  have T_TooLarge : ErrK K C_TooLarge C_FE fI_TooLarge cc_TooLarge cda_TooLarge "TooLarge.__init__" := ⟨⟨_, _, _, _, _, _, _, _, _, _, _, _, _, _, xC_TooLarge⟩, ⟨_, _, _, _, _, _, _, _, _, _, _, _, _, _, xC_FE⟩, fi_FE, sa_TooLarge, ga_TooLarge, gg_TooLarge, gc_TooLarge, ia_TooLarge, it_TooLarge, ex_TooLarge, ve_TooLarge, sC_TooLarge, sF_TooLarge, ty_TooLarge, ty_FE, kC_TooLarge, mS_TooLarge, mO_TooLarge, sp_FE, tk_FE, opq_FE, cI_TooLarge, ⟨_, _, _, cell_TooLarge⟩⟩
  have sx_TooLarge := T_TooLarge.sx (P := l.prog) ⟨_, _, _, _, _, _, lc_TooLarge, v2_TooLarge, fl_TooLarge⟩ top_FE mg_super
  have FI_TooLarge := ok_TooLarge (w := w) (base := base) sx_TooLarge lI_TooLarge no0_TooLarge no1_TooLarge
  have bI_TooLarge : Binds K (sxFd "TooLarge.__init__" S_TooLarge cc_TooLarge cda_TooLarge kVI_TooLarge dcI_TooLarge pmI_TooLarge anI_TooLarge ctI_TooLarge) _ [] := Binds.all (ps := ["self", "parts", "levels"]) fun us hl => match us, hl with | [_, _, _], _ => rfl
  have E_TooLarge := T_TooLarge.err (x := "TooLarge") (PySem.W.mg_of X G aC_TooLarge) FI_TooLarge bI_TooLarge
  have T_TooManyTerms : ErrK K C_TooManyTerms C_FE fI_TooManyTerms cc_TooManyTerms cda_TooManyTerms "TooManyTerms.__init__" := ⟨⟨_, _, _, _, _, _, _, _, _, _, _, _, _, _, xC_TooManyTerms⟩, ⟨_, _, _, _, _, _, _, _, _, _, _, _, _, _, xC_FE⟩, fi_FE, sa_TooManyTerms, ga_TooManyTerms, gg_TooManyTerms, gc_TooManyTerms, ia_TooManyTerms, it_TooManyTerms, ex_TooManyTerms, ve_TooManyTerms, sC_TooManyTerms, sF_TooManyTerms, ty_TooManyTerms, ty_FE, kC_TooManyTerms, mS_TooManyTerms, mO_TooManyTerms, sp_FE, tk_FE, opq_FE, cI_TooManyTerms, ⟨_, _, _, cell_TooManyTerms⟩⟩
  have sx_TooManyTerms := T_TooManyTerms.sx (P := l.prog) ⟨_, _, _, _, _, _, lc_TooManyTerms, v2_TooManyTerms, fl_TooManyTerms⟩ top_FE mg_super
  have FI_TooManyTerms := ok_TooManyTerms (w := w) (base := base) sx_TooManyTerms lI_TooManyTerms no0_TooManyTerms
  have bI_TooManyTerms : Binds K (sxFd "TooManyTerms.__init__" S_TooManyTerms cc_TooManyTerms cda_TooManyTerms kVI_TooManyTerms dcI_TooManyTerms pmI_TooManyTerms anI_TooManyTerms ctI_TooManyTerms) _ [] := Binds.all (ps := ["self", "terms"]) fun us hl => match us, hl with | [_, _], _ => rfl
  have E_TooManyTerms := T_TooManyTerms.err (x := "TooManyTerms") (PySem.W.mg_of X G aC_TooManyTerms) FI_TooManyTerms bI_TooManyTerms
  have T_NegativeShift : ErrK K C_NegativeShift C_FE fI_NegativeShift cc_NegativeShift cda_NegativeShift "NegativeShift.__init__" := ⟨⟨_, _, _, _, _, _, _, _, _, _, _, _, _, _, xC_NegativeShift⟩, ⟨_, _, _, _, _, _, _, _, _, _, _, _, _, _, xC_FE⟩, fi_FE, sa_NegativeShift, ga_NegativeShift, gg_NegativeShift, gc_NegativeShift, ia_NegativeShift, it_NegativeShift, ex_NegativeShift, ve_NegativeShift, sC_NegativeShift, sF_NegativeShift, ty_NegativeShift, ty_FE, kC_NegativeShift, mS_NegativeShift, mO_NegativeShift, sp_FE, tk_FE, opq_FE, cI_NegativeShift, ⟨_, _, _, cell_NegativeShift⟩⟩
  have sx_NegativeShift := T_NegativeShift.sx (P := l.prog) ⟨_, _, _, _, _, _, lc_NegativeShift, v2_NegativeShift, fl_NegativeShift⟩ top_FE mg_super
  have FI_NegativeShift := ok_NegativeShift (w := w) (base := base) sx_NegativeShift lI_NegativeShift no0_NegativeShift
  have bI_NegativeShift : Binds K (sxFd "NegativeShift.__init__" S_NegativeShift cc_NegativeShift cda_NegativeShift kVI_NegativeShift dcI_NegativeShift pmI_NegativeShift anI_NegativeShift ctI_NegativeShift) _ [] := Binds.all (ps := ["self", "amount"]) fun us hl => match us, hl with | [_, _], _ => rfl
  have E_NegativeShift := T_NegativeShift.err (x := "NegativeShift") (PySem.W.mg_of X G aC_NegativeShift) FI_NegativeShift bI_NegativeShift
  have KC : Core K mg := ⟨B, hkS, ⟨_, MF_LAST_PLAIN_TURN⟩, ⟨_, MF_FEW_TURNS⟩, ⟨_, MF_MANY_TURNS⟩, ⟨_, MF_BITS⟩, ⟨_, MF_PLAIN_STOP⟩, ⟨_, MF_NEAR_PLACE⟩, ⟨_, MF_BITS_FOR_A_TURN⟩, ⟨⟨_, _, F_is_near, b_is_near, m_is_near⟩⟩, ⟨⟨_, _, F_int_of_rows, b_int_of_rows, m_int_of_rows⟩⟩, ⟨⟨_, _, F_int_of_turns, b_int_of_turns, m_int_of_turns⟩⟩, ⟨⟨_, _, F_is_negative, b_is_negative, m_is_negative⟩⟩, ⟨⟨_, _, F_ones_of_text, b_ones_of_text, m_ones_of_text⟩⟩, ⟨⟨_, _, F_turns_of_int, b_turns_of_int, m_turns_of_int⟩⟩, ⟨⟨_, _, F_is_plain, b_is_plain, m_is_plain⟩⟩, ⟨⟨_, _, F_form_of_int, b_form_of_int, m_form_of_int⟩⟩, ⟨⟨_, _, F_form_with, b_form_with, m_form_with⟩⟩, ⟨⟨_, _, F_turns_in, b_turns_in, m_turns_in⟩⟩, ⟨⟨_, _, F_compare, b_compare, m_compare⟩⟩, ⟨⟨_, _, F_compare_far, b_compare_far, m_compare_far⟩⟩, ⟨⟨_, _, F_common_tail, b_common_tail, m_common_tail⟩⟩, ⟨⟨_, _, F_is_less, b_is_less, m_is_less⟩⟩, ⟨⟨_, _, F_turns_between, b_turns_between, m_turns_between⟩⟩, ⟨⟨_, _, F_turns_before, b_turns_before, m_turns_before⟩⟩, ⟨⟨_, _, _, _, _, _, F_turns_up_to, m_turns_up_to, v_turns_up_to, b_turns_up_to, vx_turns_up_to, bx_turns_up_to⟩⟩, ⟨⟨_, _, F_shorter_first, b_shorter_first, m_shorter_first⟩⟩, ⟨⟨_, _, F_merged_turns, b_merged_turns, m_merged_turns⟩⟩, ⟨⟨_, _, F_flipped_turns, b_flipped_turns, m_flipped_turns⟩⟩, ⟨⟨_, _, F_is_short, b_is_short, m_is_short⟩⟩, ⟨⟨_, _, F_are_near, b_are_near, m_are_near⟩⟩, ⟨⟨_, _, F_int_of_form, b_int_of_form, m_int_of_form⟩⟩, ⟨⟨_, _, F_plus_one, b_plus_one, m_plus_one⟩⟩, ⟨⟨_, _, F_carry_turns, b_carry_turns, m_carry_turns⟩⟩, ⟨⟨_, _, F_summed_turns, b_summed_turns, m_summed_turns⟩⟩⟩
  have C_law_begin : Has l.prog w K mg base 1 "_law_begin" P__law_begin [] _ := ⟨_, _, [], ok_begin F__law_begin, F__law_begin.kp, m__law_begin, .nil, b__law_begin⟩
  have C_law_draw : Has l.prog w K mg base 1 "_law_draw" P__law_draw [] _ := ⟨_, _, [], ok_draw F__law_draw B, F__law_draw.kp, m__law_draw, .nil, b__law_draw⟩
  have C_law_pick : Has l.prog w K mg base 2 "_law_pick" P__law_pick [] _ := ⟨_, _, [], ok_pick F__law_pick B C_law_draw, F__law_pick.kp, m__law_pick, .nil, b__law_pick⟩
  have C_law_turns : Has l.prog w K mg base 1 "_law_turns" P__law_turns [] _ := ⟨_, _, [], ok_turns F__law_turns, F__law_turns.kp, m__law_turns, .nil, b__law_turns⟩
  have C_law_int : Has l.prog w K mg base 1 "_law_int" P__law_int [] _ := ⟨_, _, [], ok_int F__law_int, F__law_int.kp, m__law_int, .nil, b__law_int⟩
  have C_law_row_form : Has l.prog w K mg base 2 "_law_row_form" P__law_row_form [] _ := ⟨_, _, [], ok_row F__law_row_form B C_law_int, F__law_row_form.kp, m__law_row_form, .nil, b__law_row_form⟩
  have Cis_negative : Has l.prog w K mg base 1 "is_negative" P_is_negative [] _ := ⟨_, _, [], ok_neg F_is_negative B, F_is_negative.kp, m_is_negative, .nil, b_is_negative⟩
  have Cparts_in : Has l.prog w K mg base 9 "parts_in" P_parts_in [] _ := ⟨_, _, [], ok_parts F_parts_in B b_parts_in m_parts_in 9, F_parts_in.kp, m_parts_in, .nil, b_parts_in⟩
  have Clevels_in : Has l.prog w K mg base 1 "levels_in" P_levels_in [] _ := ⟨_, _, [], ok_levels (n := 8) F_levels_in B, F_levels_in.kp, m_levels_in, .nil, b_levels_in⟩
  have Cjudged : HasX l.prog w K mg base 11 "judged" P_judged (spJudgedX K 8 C_TooLarge) := ⟨⟨_, _, ok_judgedX (n := 8) F_judged B MF_MOST_PARTS MF_MOST_LEVELS Cparts_in Clevels_in E_TooLarge, F_judged.kp, m_judged, b_judged⟩⟩
  have Mv6 : Has l.prog w K mg base 1 "are_movable" P_are_movable [] (spMov K 6) := ⟨_, _, [], ok_movable (n := 6) F_are_movable B MF_PLAIN_STOP, F_are_movable.kp, m_are_movable, .nil, b_are_movable⟩
  have Mv7 : Has l.prog w K mg base 1 "are_movable" P_are_movable [] (spMov K 7) := ⟨_, _, [], ok_movable (n := 7) F_are_movable B MF_PLAIN_STOP, F_are_movable.kp, m_are_movable, .nil, b_are_movable⟩
  have Pl5 : Has l.prog w K mg base 90 "plus" P_plus [] _ := KC.plusU (P := l.prog) (w := w) (base := base) ⟨⟨_, _, F_plus, b_plus, m_plus⟩⟩ 5 2003 (by decide) (by decide) (by decide)
  have Pl6 : Has l.prog w K mg base 110 "plus" P_plus [] _ := KC.plusU (P := l.prog) (w := w) (base := base) ⟨⟨_, _, F_plus, b_plus, m_plus⟩⟩ 6 2003 (by decide) (by decide) (by decide)
  have Su5 : Has l.prog w K mg base 91 "shifted_up" P_shifted_up [] (spShU K 5 2003) := ⟨_, _, [], ok_shup (n := 5) (L := 2003) (by decide) (by decide) (by decide) F_shifted_up (KC.c_tin 6) Mv6 (KC.c_with 7) Pl5, F_shifted_up.kp, m_shifted_up, .nil, b_shifted_up⟩
  have Su6 : Has l.prog w K mg base 111 "shifted_up" P_shifted_up [] (spShU K 6 2003) := ⟨_, _, [], ok_shup (n := 6) (L := 2003) (by decide) (by decide) (by decide) F_shifted_up (KC.c_tin 7) Mv7 (KC.c_with 8) Pl6, F_shifted_up.kp, m_shifted_up, .nil, b_shifted_up⟩
  have Su6m := Has.mono Su6 (by decide : 111 ≤ 112)
  have Fn : Has l.prog w K mg base 4 "flip" P_flip [] (spNum1 K (gU 7) (SU 8500 7) fun z => -z - 1) := ⟨_, _, [], ok_flipn (oU 7) F_flip B (KC.c_with 7) (KC.c_flip 7 (by decide)), F_flip.kp, m_flip, .nil, b_flip⟩
  have Op : Has l.prog w K mg base 109 "opposite" P_opposite [] (spOpp K (gU 7) (SU 8500 7)) := ⟨_, _, [], ok_opp (n := 7) (kp := lev 7) (oU 7) (g65 7) F_opposite B KC.c_foi Fn (KC.c_succ (P := l.prog) (w := w) (base := base) 7 (by decide)), F_opposite.kp, m_opposite, .nil, b_opposite⟩
  have Opm := Has.mono Op (by decide : 109 ≤ 112)
  have Pl7 : Has l.prog w K mg base 110 "plus" P_plus [] (spSum K (gU 7) (SU 8500 7) fun x y => x + y) := KC.c_plus (P := l.prog) (w := w) (base := base) ⟨⟨_, _, F_plus, b_plus, m_plus⟩⟩ 7 (by decide)
  have Mi7 : Has l.prog w K mg base 110 "minus" P_minus [] (spSum K (gU 7) (SU 8500 7) fun x y => x - y) := KC.c_minus (P := l.prog) (w := w) (base := base) ⟨⟨_, _, F_minus, b_minus, m_minus⟩⟩ 7 (by decide)
  have Ps : Has l.prog w K mg base 111 "pair_sums" P_pair_sums [] (spPairs K (gU 7) (SU 8500 7)) := ⟨_, _, [], ok_pairs (n := 7) (k := 110) (oU 7) F_pair_sums B Pl7, F_pair_sums.kp, m_pair_sums, .nil, b_pair_sums⟩
  have To : Has l.prog w K mg base 112 "total" P_total [] (spTotal K (gU 7) (SU 8500 7)) := ⟨_, _, [], ok_total (n := 7) (k := 111) (oU 7) F_total B Ps, F_total.kp, m_total, .nil, b_total⟩
  have Ti : Has l.prog w K mg base 113 "times" P_times [] (spTimes K 6) := ⟨_, _, [], ok_times (n := 6) (k := 112) (by decide) (by decide) F_times B KC.c_foi (KC.c_arenear 7) (KC.c_iof 7) (KC.c_tin 7) KC.c_short (KC.c_with 7) Opm Su6m To, F_times.kp, m_times, .nil, b_times⟩
  have Co7 : Has l.prog w K mg base 20 "common_turns" P_common_turns [] (spCommon K (gU 7) (SU 8500 7)) := ⟨_, _, [], ok_common (n := 7) (oU 7) F_common_turns B KC.c_short (KC.c_before 7 (by decide)) (KC.c_upto 7 (by decide)), F_common_turns.kp, m_common_turns, .nil, b_common_turns⟩
  have Bo7 : Has l.prog w K mg base 21 "both" P_both [] (spNumA K (gU 7) (SU 8500 7) Builtin.bitAnd) := ⟨_, _, [], ok_both (n := 7) (oU 7) F_both B (KC.c_with 7) Co7 (KC.c_tin 7) (KC.c_arenear 7) (KC.c_iof 7) KC.c_foi, F_both.kp, m_both, .nil, b_both⟩
  have Di7 : Has l.prog w K mg base 21 "differ" P_differ [] (spNum2 K (gU 7) (SU 8500 7) Builtin.bitXor) := ⟨_, _, [], ok_differ (n := 7) (oU 7) F_differ B (KC.c_with 7) (KC.c_merged 7 (by decide)) (KC.c_tin 7) (KC.c_arenear 7) (KC.c_iof 7) KC.c_foi, F_differ.kp, m_differ, .nil, b_differ⟩
  have Ei7 : Has l.prog w K mg base 22 "either" P_either [] (spOr K (gU 7) (SU 8500 7)) := ⟨_, _, [], ok_either (n := 7) F_either Fn Bo7, F_either.kp, m_either, .nil, b_either⟩
  have Gadd : FnOk l.prog w K mg base (L2.CX l.prog w) 114 _ _ P_add (spOp K C_TooLarge fun x y => x + y) := FnOk.mono (ok_add8 (k := 110) (by decide) F_add Cjudged Pl7) (by decide)
  have Gsubtract : FnOk l.prog w K mg base (L2.CX l.prog w) 114 _ _ P_subtract (spOp K C_TooLarge fun x y => x - y) := FnOk.mono (ok_subtract8 (k := 110) (by decide) F_subtract Cjudged Mi7) (by decide)
  have Gbit_and : FnOk l.prog w K mg base (L2.CX l.prog w) 114 _ _ P_bit_and (spOp K C_TooLarge Builtin.bitAnd) := FnOk.mono (ok_bit_and8 (k := 21) (by decide) F_bit_and Cjudged Bo7) (by decide)
  have Gbit_or : FnOk l.prog w K mg base (L2.CX l.prog w) 114 _ _ P_bit_or (spOp K C_TooLarge Builtin.bitOr) := FnOk.mono (ok_bit_or8 (k := 22) (by decide) F_bit_or Cjudged Ei7) (by decide)
  have Gbit_xor : FnOk l.prog w K mg base (L2.CX l.prog w) 114 _ _ P_bit_xor (spOp K C_TooLarge Builtin.bitXor) := FnOk.mono (ok_bit_xor8 (k := 21) (by decide) F_bit_xor Cjudged Di7) (by decide)
  have Gmul : FnOk l.prog w K mg base (L2.CX l.prog w) 114 _ _ P_multiply (spMulX K C_TooLarge C_TooManyTerms 6 8) := ok_multiply (n := 6) (m := 8) (k := 113) (by decide) (by decide) F_multiply B MF_MOST_TERMS (KC.c_tin 7) Ti Cjudged E_TooManyTerms
  have Gshl : FnOk l.prog w K mg base (L2.CX l.prog w) 114 _ _ P_shift_left (spShx K C_TooLarge C_NegativeShift 5 2003 8 fun x s => x * 2 ^ s.toNat) := FnOk.mono (ok_shl (k := 91) (by decide) F_shift_left Cis_negative Su5 Cjudged E_NegativeShift) (by decide)
  have Cadd : HasX l.prog w K mg base 114 "add" P_add _ := ⟨⟨_, _, Gadd, F_add.kp, m_add, b_add⟩⟩
  have Csubtract : HasX l.prog w K mg base 114 "subtract" P_subtract _ := ⟨⟨_, _, Gsubtract, F_subtract.kp, m_subtract, b_subtract⟩⟩
  have Cbit_and : HasX l.prog w K mg base 114 "bit_and" P_bit_and _ := ⟨⟨_, _, Gbit_and, F_bit_and.kp, m_bit_and, b_bit_and⟩⟩
  have Cbit_or : HasX l.prog w K mg base 114 "bit_or" P_bit_or _ := ⟨⟨_, _, Gbit_or, F_bit_or.kp, m_bit_or, b_bit_or⟩⟩
  have Cbit_xor : HasX l.prog w K mg base 114 "bit_xor" P_bit_xor _ := ⟨⟨_, _, Gbit_xor, F_bit_xor.kp, m_bit_xor, b_bit_xor⟩⟩
  have CmulX : HasX l.prog w K mg base 114 "multiply" P_multiply _ := ⟨⟨_, _, Gmul, F_multiply.kp, m_multiply, b_multiply⟩⟩
  have CshlX : HasX l.prog w K mg base 114 "shift_left" P_shift_left _ := ⟨⟨_, _, Gshl, F_shift_left.kp, m_shift_left, b_shift_left⟩⟩
  have Cmultiply := HasX.weak CmulX (mul8 (K := K) (C := C_TooLarge) (CT := C_TooManyTerms))
  have Cshift_left := HasX.weak CshlX (shl8 (K := K) (C := C_TooLarge) (CN := C_NegativeShift))
  have Ctower := c_tower (P := l.prog) (w := w) (base := base) ⟨⟨_, _, F__law_tower, b__law_tower, m__law_tower⟩⟩ B C_law_draw C_law_turns
  have C_law_nested := c_nested (P := l.prog) (w := w) (base := base) ⟨⟨_, _, F__law_nested, b__law_nested, m__law_nested⟩⟩ B C_law_draw C_law_pick C_law_turns C_law_row_form Ctower
  have Ct1 := Has.mono (Ctower 1) (by decide : 1 + 2 ≤ 4)
  have TD : Told K mg := ⟨⟨_, _, _, _, _, _, _, _, _, _, m__law_told, F__law_told.kp, l58, c58, b__law_told⟩⟩
  have Crest := c_rest (P := l.prog) (w := w) (base := base) ⟨⟨_, _, F__law_power_rest, b__law_power_rest, m__law_power_rest⟩⟩ ⟨⟨_, _, F__law_rest, b__law_rest, m__law_rest⟩⟩ B 8
  have C_law_power_rest : Has l.prog w K mg base 19 "_law_power_rest" P__law_power_rest [] _ := ⟨_, _, [], ok_prest (n := 8) (k := 18) (by decide) F__law_power_rest B Crest, F__law_power_rest.kp, m__law_power_rest, .nil, b__law_power_rest⟩
  have C_law_number_of_turns : Has l.prog w K mg base 2 "_law_number_of_turns" P__law_number_of_turns [] _ := ⟨_, _, [], ok_not (n := 8) F__law_number_of_turns B C_law_turns, F__law_number_of_turns.kp, m__law_number_of_turns, .nil, b__law_number_of_turns⟩
  have C_law_step : HasX l.prog w K mg base 115 "_law_step" P__law_step (spStep K C_TooLarge) := ⟨⟨_, _, ok_step F__law_step Cadd Csubtract Cmultiply Cbit_and Cbit_or Cbit_xor Cshift_left, F__law_step.kp, m__law_step, b__law_step⟩⟩
  exact ok_law l63 c63 B TB TD E_TooLarge no0_TooLarge no1_TooLarge C_law_begin C_law_draw C_law_pick Ct1 C_law_nested Crest C_law_power_rest C_law_number_of_turns C_law_step
end Fb
open PySem PySem.W PyProof.Rows
set_option maxRecDepth 100000 in
set_option maxHeartbeats 0 in
theorem PySem.Challenge.cw_farbits_k16_whole_rests_of_results_holds : PySem.Challenge.rw_farbits_k16_whole_rests_of_results.Holds := by
  w_on; o_law; k_head; (case hw => w_witness2)
  k_fill
  refine Fb.walkGT (l := PySem.Challenge.rw_farbits_k16_whole_rests_of_results) (n := 63) (k := 118) (x := "_law_script") rfl (by decide) rfl ⟨rfl, by decide, by decide⟩ (by first | rfl | decide +kernel) (fun w h Y => PySem.W.km_in_of Y) ?F
  case F =>
    intro w mg fa h KX G hmg own
    refine' Fb.all_mk KX G hmg ?a1 ?l1 ?c1 ?k1 ?a2 ?l2 ?c2 ?k2 ?a3 ?l3 ?c3 ?k3 ?a4 ?l4 ?c4 ?k4 ?a5 ?l5 ?c5 ?k5 ?a6 ?l6 ?c6 ?k6 ?a7 ?l7 ?c7 ?k7 ?a8 ?l8 ?c8 ?k8 ?a9 ?l9 ?c9 ?k9 ?a10 ?l10 ?c10 ?k10 ?a11 ?l11 ?c11 ?k11 ?a12 ?l12 ?c12 ?k12 ?a13 ?l13 ?c13 ?k13 ?a14 ?l14 ?c14 ?k14 ?a15 ?l15 ?c15 ?k15 ?a16 ?l16 ?c16 ?k16 ?a17 ?l17 ?c17 ?k17 ?a18 ?l18 ?c18 ?k18 ?a19 ?l19 ?c19 ?k19 ?a20 ?l20 ?c20 ?k20 ?t20 ?u20 ?a21 ?l21 ?c21 ?k21 ?a22 ?l22 ?c22 ?k22 ?a23 ?l23 ?c23 ?k23 ?a24 ?l24 ?c24 ?k24 ?a25 ?l25 ?c25 ?k25 ?a26 ?l26 ?c26 ?k26 ?a27 ?l27 ?c27 ?k27 ?a28 ?l28 ?c28 ?k28 ?a29 ?l29 ?c29 ?k29 ?a30 ?l30 ?c30 ?k30 ?a31 ?l31 ?c31 ?k31 ?a32 ?l32 ?c32 ?k32 ?a33 ?l33 ?c33 ?k33 ?a34 ?l34 ?c34 ?k34 ?a35 ?l35 ?c35 ?k35 ?a36 ?l36 ?c36 ?k36 ?a37 ?l37 ?c37 ?k37 ?a38 ?l38 ?c38 ?k38 ?a39 ?l39 ?c39 ?k39 ?a40 ?l40 ?c40 ?k40 ?a41 ?l41 ?c41 ?k41 ?a42 ?l42 ?c42 ?k42 ?a43 ?l43 ?c43 ?k43 ?a44 ?l44 ?c44 ?k44 ?a45 ?l45 ?c45 ?k45 ?a46 ?l46 ?c46 ?k46 ?a47 ?l47 ?c47 ?k47 ?a48 ?l48 ?c48 ?k48 ?a49 ?l49 ?c49 ?k49 ?a50 ?l50 ?c50 ?k50 ?a51 ?l51 ?c51 ?k51 ?a52 ?l52 ?c52 ?k52 ?a53 ?l53 ?c53 ?k53 ?a54 ?l54 ?c54 ?k54 ?a55 ?l55 ?c55 ?k55 ?a56 ?l56 ?c56 ?k56 ?a57 ?l57 ?c57 ?k57 ?a58 ?l58 ?c58 ?k58 ?a59 ?l59 ?c59 ?k59 ?a60 ?l60 ?c60 ?k60 ?a61 ?l61 ?c61 ?k61 ?a62 ?l62 ?c62 ?k62 ?a63 ?l63 ?c63 ?k63 ?g_FEW_TURNS ?g_MANY_TURNS ?g_BITS ?g_NEAR_PLACE ?g_BITS_FOR_A_TURN ?g_PLAIN_STOP ?g_LAST_PLAIN_TURN ?g_MOST_PARTS ?g_MOST_LEVELS ?g_MOST_TERMS ?z_len ?z_int ?z_isinstance ?z_sum ?z_max ?z_min ?z_sorted ?z_tuple ?z_list ?z_range ?z_repr ?z_bool ?z_abs ?z_enumerate ?z_zip ?z_str ?z_dict ?hkS ?aC_FE ?xC_FE ?fi_FE ?ty_FE ?sp_FE ?tk_FE ?opq_FE ?top_FE ?su_FE ?aC_TooLarge ?xC_TooLarge ?sa_TooLarge ?ga_TooLarge ?gg_TooLarge ?gc_TooLarge ?ia_TooLarge ?no0_TooLarge ?no1_TooLarge ?it_TooLarge ?ex_TooLarge ?ve_TooLarge ?sC_TooLarge ?sF_TooLarge ?ty_TooLarge ?kC_TooLarge ?mS_TooLarge ?mO_TooLarge ?lI_TooLarge ?cI_TooLarge ?cell_TooLarge ?lc_TooLarge ?v2_TooLarge ?fl_TooLarge ?aC_TooManyTerms ?xC_TooManyTerms ?sa_TooManyTerms ?ga_TooManyTerms ?gg_TooManyTerms ?gc_TooManyTerms ?ia_TooManyTerms ?no0_TooManyTerms ?it_TooManyTerms ?ex_TooManyTerms ?ve_TooManyTerms ?sC_TooManyTerms ?sF_TooManyTerms ?ty_TooManyTerms ?kC_TooManyTerms ?mS_TooManyTerms ?mO_TooManyTerms ?lI_TooManyTerms ?cI_TooManyTerms ?cell_TooManyTerms ?lc_TooManyTerms ?v2_TooManyTerms ?fl_TooManyTerms ?aC_NegativeShift ?xC_NegativeShift ?sa_NegativeShift ?ga_NegativeShift ?gg_NegativeShift ?gc_NegativeShift ?ia_NegativeShift ?no0_NegativeShift ?it_NegativeShift ?ex_NegativeShift ?ve_NegativeShift ?sC_NegativeShift ?sF_NegativeShift ?ty_NegativeShift ?kC_NegativeShift ?mS_NegativeShift ?mO_NegativeShift ?lI_NegativeShift ?cI_NegativeShift ?cell_NegativeShift ?lc_NegativeShift ?v2_NegativeShift ?fl_NegativeShift ?lcL ?v11 ?hdL ?nTL own
    (case a1 => k_is)
    (case l1 => k_is)
    (case c1 => k_is)
    (case k1 => k_is)
    (case a2 => k_is)
    (case l2 => k_is)
    (case c2 => k_is)
    (case k2 => k_is)
    (case a3 => k_is)
    (case l3 => k_is)
    (case c3 => k_is)
    (case k3 => k_is)
    (case a4 => k_is)
    (case l4 => k_is)
    (case c4 => k_is)
    (case k4 => k_is)
    (case a5 => k_is)
    (case l5 => k_is)
    (case c5 => k_is)
    (case k5 => k_is)
    (case a6 => k_is)
    (case l6 => k_is)
    (case c6 => k_is)
    (case k6 => k_is)
    (case a7 => k_is)
    (case l7 => k_is)
    (case c7 => k_is)
    (case k7 => k_is)
    (case a8 => k_is)
    (case l8 => k_is)
    (case c8 => k_is)
    (case k8 => k_is)
    (case a9 => k_is)
    (case l9 => k_is)
    (case c9 => k_is)
    (case k9 => k_is)
    (case a10 => k_is)
    (case l10 => k_is)
    (case c10 => k_is)
    (case k10 => k_is)
    (case a11 => k_is)
    (case l11 => k_is)
    (case c11 => k_is)
    (case k11 => k_is)
    (case a12 => k_is)
    (case l12 => k_is)
    (case c12 => k_is)
    (case k12 => k_is)
    (case a13 => k_is)
    (case l13 => k_is)
    (case c13 => k_is)
    (case k13 => k_is)
    (case a14 => k_is)
    (case l14 => k_is)
    (case c14 => k_is)
    (case k14 => k_is)
    (case a15 => k_is)
    (case l15 => k_is)
    (case c15 => k_is)
    (case k15 => k_is)
    (case a16 => k_is)
    (case l16 => k_is)
    (case c16 => k_is)
    (case k16 => k_is)
    (case a17 => k_is)
    (case l17 => k_is)
    (case c17 => k_is)
    (case k17 => k_is)
    (case a18 => k_is)
    (case l18 => k_is)
    (case c18 => k_is)
    (case k18 => k_is)
    (case a19 => k_is)
    (case l19 => k_is)
    (case c19 => k_is)
    (case k19 => k_is)
    (case a20 => k_is)
    (case l20 => k_is)
    (case c20 => k_is)
    (case k20 => k_is)
    (case t20 => k_is)
    (case u20 => first | k_is | rfl)
    (case a21 => k_is)
    (case l21 => k_is)
    (case c21 => k_is)
    (case k21 => k_is)
    (case a22 => k_is)
    (case l22 => k_is)
    (case c22 => k_is)
    (case k22 => k_is)
    (case a23 => k_is)
    (case l23 => k_is)
    (case c23 => k_is)
    (case k23 => k_is)
    (case a24 => k_is)
    (case l24 => k_is)
    (case c24 => k_is)
    (case k24 => k_is)
    (case a25 => k_is)
    (case l25 => k_is)
    (case c25 => k_is)
    (case k25 => k_is)
    (case a26 => k_is)
    (case l26 => k_is)
    (case c26 => k_is)
    (case k26 => k_is)
    (case a27 => k_is)
    (case l27 => k_is)
    (case c27 => k_is)
    (case k27 => k_is)
    (case a28 => k_is)
    (case l28 => k_is)
    (case c28 => k_is)
    (case k28 => k_is)
    (case a29 => k_is)
    (case l29 => k_is)
    (case c29 => k_is)
    (case k29 => k_is)
    (case a30 => k_is)
    (case l30 => k_is)
    (case c30 => k_is)
    (case k30 => k_is)
    (case a31 => k_is)
    (case l31 => k_is)
    (case c31 => k_is)
    (case k31 => k_is)
    (case a32 => k_is)
    (case l32 => k_is)
    (case c32 => k_is)
    (case k32 => k_is)
    (case a33 => k_is)
    (case l33 => k_is)
    (case c33 => k_is)
    (case k33 => k_is)
    (case a34 => k_is)
    (case l34 => k_is)
    (case c34 => k_is)
    (case k34 => k_is)
    (case a35 => k_is)
    (case l35 => k_is)
    (case c35 => k_is)
    (case k35 => k_is)
    (case a36 => k_is)
    (case l36 => k_is)
    (case c36 => k_is)
    (case k36 => k_is)
    (case a37 => k_is)
    (case l37 => k_is)
    (case c37 => k_is)
    (case k37 => k_is)
    (case a38 => k_is)
    (case l38 => k_is)
    (case c38 => k_is)
    (case k38 => k_is)
    (case a39 => k_is)
    (case l39 => k_is)
    (case c39 => k_is)
    (case k39 => k_is)
    (case a40 => k_is)
    (case l40 => k_is)
    (case c40 => k_is)
    (case k40 => k_is)
    (case a41 => k_is)
    (case l41 => k_is)
    (case c41 => k_is)
    (case k41 => k_is)
    (case a42 => k_is)
    (case l42 => k_is)
    (case c42 => k_is)
    (case k42 => k_is)
    (case a43 => k_is)
    (case l43 => k_is)
    (case c43 => k_is)
    (case k43 => k_is)
    (case a44 => k_is)
    (case l44 => k_is)
    (case c44 => k_is)
    (case k44 => k_is)
    (case a45 => k_is)
    (case l45 => k_is)
    (case c45 => k_is)
    (case k45 => k_is)
    (case a46 => k_is)
    (case l46 => k_is)
    (case c46 => k_is)
    (case k46 => k_is)
    (case a47 => k_is)
    (case l47 => k_is)
    (case c47 => k_is)
    (case k47 => k_is)
    (case a48 => k_is)
    (case l48 => k_is)
    (case c48 => k_is)
    (case k48 => k_is)
    (case a49 => k_is)
    (case l49 => k_is)
    (case c49 => k_is)
    (case k49 => k_is)
    (case a50 => k_is)
    (case l50 => k_is)
    (case c50 => k_is)
    (case k50 => k_is)
    (case a51 => k_is)
    (case l51 => k_is)
    (case c51 => k_is)
    (case k51 => k_is)
    (case a52 => k_is)
    (case l52 => k_is)
    (case c52 => k_is)
    (case k52 => k_is)
    (case a53 => k_is)
    (case l53 => k_is)
    (case c53 => k_is)
    (case k53 => k_is)
    (case a54 => k_is)
    (case l54 => k_is)
    (case c54 => k_is)
    (case k54 => k_is)
    (case a55 => k_is)
    (case l55 => k_is)
    (case c55 => k_is)
    (case k55 => k_is)
    (case a56 => k_is)
    (case l56 => k_is)
    (case c56 => k_is)
    (case k56 => k_is)
    (case a57 => k_is)
    (case l57 => k_is)
    (case c57 => k_is)
    (case k57 => k_is)
    (case a58 => k_is)
    (case l58 => k_is)
    (case c58 => k_is)
    (case k58 => k_is)
    (case a59 => k_is)
    (case l59 => k_is)
    (case c59 => k_is)
    (case k59 => k_is)
    (case a60 => k_is)
    (case l60 => k_is)
    (case c60 => k_is)
    (case k60 => k_is)
    (case a61 => k_is)
    (case l61 => k_is)
    (case c61 => k_is)
    (case k61 => k_is)
    (case a62 => k_is)
    (case l62 => k_is)
    (case c62 => k_is)
    (case k62 => k_is)
    (case a63 => k_is)
    (case l63 => k_is)
    (case c63 => k_is)
    (case k63 => k_is)
    (case g_FEW_TURNS => k_is)
    (case g_MANY_TURNS => k_is)
    (case g_BITS => k_is)
    (case g_NEAR_PLACE => k_is)
    (case g_BITS_FOR_A_TURN => k_is)
    (case g_PLAIN_STOP => k_is)
    (case g_LAST_PLAIN_TURN => k_is)
    (case g_MOST_PARTS => k_is)
    (case g_MOST_LEVELS => k_is)
    (case g_MOST_TERMS => k_is)
    (case z_len => k_is)
    (case z_int => k_is)
    (case z_isinstance => k_is)
    (case z_sum => k_is)
    (case z_max => k_is)
    (case z_min => k_is)
    (case z_sorted => k_is)
    (case z_tuple => k_is)
    (case z_list => k_is)
    (case z_range => k_is)
    (case z_repr => k_is)
    (case z_bool => k_is)
    (case z_abs => k_is)
    (case z_enumerate => k_is)
    (case z_zip => k_is)
    (case z_str => k_is)
    (case z_dict => k_is)
    (case hkS => k_is)
    (case aC_FE => k_is)
    (case xC_FE => k_is)
    (case fi_FE => k_is)
    (case ty_FE => k_is)
    (case sp_FE => k_is)
    (case tk_FE => k_is)
    (case opq_FE => k_is)
    (case top_FE => first | rfl | decide +kernel)
    (case su_FE => k_is)
    (case aC_TooLarge => k_is)
    (case xC_TooLarge => k_is)
    (case sa_TooLarge => k_is)
    (case ga_TooLarge => k_is)
    (case gg_TooLarge => k_is)
    (case gc_TooLarge => k_is)
    (case ia_TooLarge => k_is)
    (case no0_TooLarge => k_is)
    (case no1_TooLarge => k_is)
    (case it_TooLarge => k_is)
    (case ex_TooLarge => k_is)
    (case ve_TooLarge => k_is)
    (case sC_TooLarge => first | rfl | k_is)
    (case sF_TooLarge => k_is)
    (case ty_TooLarge => k_is)
    (case kC_TooLarge => k_is)
    (case mS_TooLarge => first | rfl | k_is)
    (case mO_TooLarge => k_is)
    (case lI_TooLarge => k_is)
    (case cI_TooLarge => k_is)
    (case cell_TooLarge => k_is)
    (case lc_TooLarge => k_is)
    (case v2_TooLarge => rfl)
    (case fl_TooLarge => first | rfl | decide +kernel)
    (case aC_TooManyTerms => k_is)
    (case xC_TooManyTerms => k_is)
    (case sa_TooManyTerms => k_is)
    (case ga_TooManyTerms => k_is)
    (case gg_TooManyTerms => k_is)
    (case gc_TooManyTerms => k_is)
    (case ia_TooManyTerms => k_is)
    (case no0_TooManyTerms => k_is)
    (case it_TooManyTerms => k_is)
    (case ex_TooManyTerms => k_is)
    (case ve_TooManyTerms => k_is)
    (case sC_TooManyTerms => first | rfl | k_is)
    (case sF_TooManyTerms => k_is)
    (case ty_TooManyTerms => k_is)
    (case kC_TooManyTerms => k_is)
    (case mS_TooManyTerms => first | rfl | k_is)
    (case mO_TooManyTerms => k_is)
    (case lI_TooManyTerms => k_is)
    (case cI_TooManyTerms => k_is)
    (case cell_TooManyTerms => k_is)
    (case lc_TooManyTerms => k_is)
    (case v2_TooManyTerms => rfl)
    (case fl_TooManyTerms => first | rfl | decide +kernel)
    (case aC_NegativeShift => k_is)
    (case xC_NegativeShift => k_is)
    (case sa_NegativeShift => k_is)
    (case ga_NegativeShift => k_is)
    (case gg_NegativeShift => k_is)
    (case gc_NegativeShift => k_is)
    (case ia_NegativeShift => k_is)
    (case no0_NegativeShift => k_is)
    (case it_NegativeShift => k_is)
    (case ex_NegativeShift => k_is)
    (case ve_NegativeShift => k_is)
    (case sC_NegativeShift => first | rfl | k_is)
    (case sF_NegativeShift => k_is)
    (case ty_NegativeShift => k_is)
    (case kC_NegativeShift => k_is)
    (case mS_NegativeShift => first | rfl | k_is)
    (case mO_NegativeShift => k_is)
    (case lI_NegativeShift => k_is)
    (case cI_NegativeShift => k_is)
    (case cell_NegativeShift => k_is)
    (case lc_NegativeShift => k_is)
    (case v2_NegativeShift => rfl)
    (case fl_NegativeShift => first | rfl | decide +kernel)
    (case lcL => k_is)
    (case v11 => rfl)
    (case hdL => first | rfl | k_is | decide +kernel)
    (case nTL => first | k_is | rfl | decide +kernel)
