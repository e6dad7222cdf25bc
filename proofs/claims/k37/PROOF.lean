import PyProof.Rows.All
import Wide.All
import OpenK.AllK
import Wide.FinOn
import PyProof.EqAt
import PyProof.EqKinds
import PyProof.TupleCall
import HandS.ForMost
import HandS.Conv
import HandS.Style
import HandS.Wide
import HandS.Strs
import HandS.SetFor
import HandS.SortRule
import HandS.SortInts
import HandS.IsInst
import HandS.RaiseMore
import HandS.EndBits
import HandS.Head0
import HandS.Head1
import HandS.Head2
import HandS.HeadHook1
import HandS.HeadHook2
import HandS.Star
import HandS.Property
import HandS.Walk
import HandS.Dict
import HandS.Iter
import PyProof.InstNe
import KE.KOpsOwn
import HandS.FStr
import HandS.StrMore
import HandS.TupAny
import PyProof.StrOps2
import HandS.Rev
import KE.GoesMore
import KE.GoesEnum
import KE.GoesZip
import HandS.Flow
import KE.KDictSum
import HandS.Zip
import KE.SortData
import KE.KRevSl
import KE.DatumOrd
import HandS.SortKw
import HandS.More
import PySem.Challenge.RW_scanmisses_k37_one_stack_of_caches
set_option Elab.async false
set_option linter.all false
set_option maxRecDepth 100000
set_option maxHeartbeats 4000000
namespace Kb
open PySem PySem.Spec PyProof.Rows L2
/-! ### heaps that grow -/
def Ex (H H' : Hp) : Prop := ∀ a o, H a = some o → H' a = some o
theorem Ex.refl (H : Hp) : Ex H H := fun _ _ h => h
theorem Ex.trans {H H1 H2 : Hp} (a : Ex H H1) (b : Ex H1 H2) : Ex H H2 := fun x o h => b x o (a x o h)
theorem Ex.new {H : Hp} {p : Addr} {o : HO} (h : H p = none) : Ex H (upd H p o) := fun a u e => by
  rw [upd_ne (ne_of_none e h)]
  exact e
theorem Ex.mut {H H' : Hp} {p : Addr} {o : HO} (e : Ex H H') (h : H p = none) : Ex H (upd H' p o) := fun a u ha => by
  rw [upd_ne (ne_of_none ha h)]
  exact e a u ha
theorem Ex.add {H H' : Hp} {p : Addr} {o : HO} (e : Ex H H') (h : H' p = none) : Ex H (upd H' p o) := e.trans (Ex.new h)
theorem Ex.back {H H' : Hp} {p : Addr} (e : Ex H H') (h : H' p = none) : H p = none := by
  cases h1 : H p with
  | none => rfl
  | some o =>
    rw [e p o h1] at h
    cases h
/-! ### a def that is there -/
structure Df (P : Program) (w : World) (K : PySem.W.Frag) (mg : Str → Option Value) (base : Heap) (x : Str) (k : Nat) (ps : List Str) (sp : Sp) : Prop where
  ex : ∃ f fd, mg x = some (.ref f) ∧ PySem.W.keepIn K (.ref f) = true ∧ Binds K fd ps [] ∧ FnOk P w K mg base CX0 k f fd ps sp
theorem pe_df {X : Cx} {x : Str} {k k' : Nat} {ps : List Str} {sp : Sp} {p pos : Pos} {e : Expr} {es : List Expr} {t : TA} (D : Df X.prog X.w X.K X.mg X.base x k ps sp) (hr : Room k' X.A) (ha : PA X (e :: es) t) (hk : k ≤ k' := by decide) (hg : Gl X x := by rfl)
    (hdb : (x == ("__debug__" : Str)) = false := by decide) (he : starEach (e :: es) X.env = (false, eval e X.env) :: starEach es X.env := by rfl) (hpl : (backTo pos (starEach es X.env)).any (·.1) = false := by rfl) :
    PE X (.Call (.Name x p) (e :: es) [] pos) (tCall sp [] E0 t) := by
  obtain ⟨f, fd, h1, h2, h3, h4⟩ := D.ex
  exact pe_call h4 (hr.mono hk) hg h1 h2 h3 .nil pass0 ha hdb he hpl
/-- what a def hands back: this value, and the heap has grown -/
def RetV (v : V) (H : Hp) (Q : VK) : Prop := ∀ H', Ex H H' → Q v H'
theorem RetV.go {v : V} {H H' : Hp} {Q : VK} (k : RetV v H Q) (e : Ex H H') : Q v H' := k H' e
/-! ### pairs, lists of pairs -/
abbrev Sc := Int × Int
def IsSc (H : Hp) (v : V) (s : Sc) : Prop := ∃ t, v = .ref t ∧ H t = some (.tup [.int s.1, .int s.2])
theorem IsSc.mono {H H' : Hp} {v : V} {s : Sc} (e : Ex H H') (h : IsSc H v s) : IsSc H' v s := by
  obtain ⟨t, h1, h2⟩ := h
  exact ⟨t, h1, e _ _ h2⟩
theorem Pa.mono {H H' : Hp} (e : Ex H H') : ∀ {vs : List V} {ss : List Sc}, Paired (IsSc H) vs ss → Paired (IsSc H') vs ss
  | _, _, .nil => .nil
  | _, _, .cons h t => .cons (h.mono e) (Pa.mono e t)
theorem Pa.len {H : Hp} : ∀ {vs : List V} {ss : List Sc}, Paired (IsSc H) vs ss → vs.length = ss.length
  | _, _, .nil => rfl
  | _, _, .cons h t => congrArg (· + 1) (Pa.len t)
theorem Pa.get {H : Hp} : ∀ {vs : List V} {ss : List Sc} {i : Nat} {v : V}, Paired (IsSc H) vs ss → vs[i]? = some v → ∃ s, ss[i]? = some s ∧ IsSc H v s
  | _, _, i, v, .nil, e => by simp at e
  | _, _, 0, v, .cons h t, e => by
    cases e
    exact ⟨_, rfl, h⟩
  | _, _, i + 1, v, .cons h t, e => Pa.get (i := i) t e
theorem Pa.get2 {H : Hp} : ∀ {vs : List V} {ss : List Sc} {i : Nat} {s : Sc}, Paired (IsSc H) vs ss → ss[i]? = some s → ∃ v, vs[i]? = some v ∧ IsSc H v s
  | _, _, i, s, .nil, e => by simp at e
  | _, _, 0, s, .cons h t, e => by
    cases e
    exact ⟨_, rfl, h⟩
  | _, _, i + 1, s, .cons h t, e => Pa.get2 (i := i) t e
theorem Pa.app {H : Hp} : ∀ {vs us : List V} {ss ts : List Sc}, Paired (IsSc H) vs ss → Paired (IsSc H) us ts → Paired (IsSc H) (vs ++ us) (ss ++ ts)
  | _, _, _, _, .nil, b => b
  | _, _, _, _, .cons h t, b => .cons h (Pa.app t b)
theorem Pa.rev {H : Hp} : ∀ {vs : List V} {ss : List Sc}, Paired (IsSc H) vs ss → Paired (IsSc H) vs.reverse ss.reverse
  | _, _, .nil => .nil
  | _, _, .cons h t => by
    rw [List.reverse_cons, List.reverse_cons]
    exact Pa.app (Pa.rev t) (.cons h .nil)
def Scs (H : Hp) (a : Addr) (ss : List Sc) : Prop := ∃ vs, H a = some (.lst vs) ∧ Paired (IsSc H) vs ss
theorem Scs.mono {H H' : Hp} {a : Addr} {ss : List Sc} (e : Ex H H') (h : Scs H a ss) : Scs H' a ss := by
  obtain ⟨vs, h1, h2⟩ := h
  exact ⟨vs, e _ _ h1, Pa.mono e h2⟩
/-! ### a bag: a list of three ints that is not looked into from outside -/
end Kb
namespace Kb
open PySem PySem.Spec PyProof.Rows L2
theorem bo_len : bootBuiltins "len" = some (.builtin "len") := by decide +kernel
theorem bo_abs : bootBuiltins "abs" = some (.builtin "abs") := by decide +kernel
theorem bo_max : bootBuiltins "max" = some (.builtin "max") := by decide +kernel
theorem bo_min : bootBuiltins "min" = some (.builtin "min") := by decide +kernel
theorem bo_sum : bootBuiltins "sum" = some (.builtin "sum") := by decide +kernel
theorem bo_all : bootBuiltins "all" = some (.builtin "all") := by decide +kernel
theorem bo_repr : bootBuiltins "repr" = some (.builtin "repr") := by decide +kernel
theorem bo_sorted : bootBuiltins "sorted" = some (.builtin "sorted") := by decide +kernel
theorem bo_isinstance : bootBuiltins "isinstance" = some (.builtin "isinstance") := by decide +kernel
theorem bo_int : bootBuiltins "int" = some (.type "int") := by decide +kernel
theorem bo_bool : bootBuiltins "bool" = some (.type "bool") := by decide +kernel
theorem bo_list : bootBuiltins "list" = some (.type "list") := by decide +kernel
theorem bo_tuple : bootBuiltins "tuple" = some (.type "tuple") := by decide +kernel
theorem bo_str : bootBuiltins "str" = some (.type "str") := by decide +kernel
/-- names that are still the built-in ones -/
structure Bt (mg : Str → Option Value) : Prop where
  len : mg "len" = none
  abs : mg "abs" = none
  max : mg "max" = none
  min : mg "min" = none
  sum : mg "sum" = none
  all : mg "all" = none
  repr : mg "repr" = none
  sorted : mg "sorted" = none
  isinstance : mg "isinstance" = none
  int : mg "int" = none
  bool : mg "bool" = none
  list : mg "list" = none
  tuple : mg "tuple" = none
  set : mg "set" = none
  range : mg "range" = none
  zip : mg "zip" = none
/-! ### xs[::k], k reckoned, 1 or -1 -/
/-! ### list(range(i, j, c)) -/
end Kb
namespace Kb
open PySem PySem.Spec PyProof.Rows L2
section
variable {K : PySem.W.Frag} {a b : Addr} {xs ys : List V} {n : Nat} {g : TG}
theorem for_zip {tb : TS} {D : Ends} {σ : L2.St} {H : Hp} (hn : n = min xs.length ys.length) (Pv : Nat → L2.St → Hp → Prop) (h0 : Pv 0 σ H) (hl : ∀ i σ H, i ≤ n → Pv i σ H → SqL K H a xs ∧ SqL K H b ys)
    (hs : ∀ i x y T σ H, i < n → xs[i]? = some x → ys[i]? = some y → H T = none → Pv i σ H → g (.ref T) σ (upd H T (.tup [x, y])) fun σ2 H2 => tb { D with nx := Pv (i + 1), ct := Pv (i + 1), bk := D.nx } σ2 H2) (hd : ∀ σ H, Pv n σ H → D.nx σ H) :
    ∃ W : Nat → Nat → L2.St → Hp → Prop, (∃ m, W 0 m σ H) ∧ ∀ i m σ H, W i m σ H →
      ((Itz K a b).stop i H ∧ D.nx σ H) ∨ ((Itz K a b).go i H ∧ ∃ N : L2.St → Hp → Prop, (∀ σ' H', N σ' H' → ∃ m', m' < m ∧ W (i + 1) m' σ' H') ∧ ∀ x H', (Itz K a b).yld i H x H' → g x σ H' fun σ2 H2 => tb { D with nx := N, ct := N, bk := D.nx } σ2 H2) := by
  refine ⟨fun i m σ H => m = n - i ∧ i ≤ n ∧ Pv i σ H, ⟨n, by simp, Nat.zero_le _, h0⟩, ?_⟩
  rintro i m σ H ⟨rfl, hi, p⟩
  obtain ⟨q1, q2⟩ := hl i σ H hi p
  by_cases hlt : i < n
  · have l1 : i < xs.length := by omega
    have l2 : i < ys.length := by omega
    have g1 : xs[i]? = some xs[i] := List.getElem?_eq_getElem l1
    have g2 : ys[i]? = some ys[i] := List.getElem?_eq_getElem l2
    refine .inr ⟨⟨_, _, _, _, q1, q2, g1, g2⟩, Pv (i + 1), fun σ' H' p' => ⟨n - (i + 1), by omega, rfl, hlt, p'⟩, fun v H' y => ?_⟩
    obtain ⟨T, x1, x2, rfl, nT, rfl, f1, f2⟩ := y
    exact hs i x1 x2 T σ H hlt (f1 xs q1) (f2 ys q2) nT p
  · have e : i = n := by omega
    subst e
    exact .inl ⟨⟨xs, ys, q1, q2, by omega⟩, hd σ H p⟩
theorem lc_zip {tt : TT} {te : TE} {vs : List Nat} {σ : L2.St} {H1 : Hp} {D : Addr} {Qd : Hp → Prop} (hn : n = min xs.length ys.length) (Pv : Nat → Hp → Prop) (h0 : Pv 0 (upd H1 D (.lst []))) (hl : ∀ i H, i ≤ n → Pv i H → SqL K H a xs ∧ SqL K H b ys)
    (hs : ∀ i x y T H, i < n → xs[i]? = some x → ys[i]? = some y → H T = none → Pv i H → g (.ref T) (wipe σ vs) (upd H T (.tup [x, y])) fun σ2 H2 => wipe σ2 vs = wipe σ vs ∧ tt σ2 H2 fun b H3 =>
      if b = true then te σ2 H3 fun y H4 => ∃ acc, H4 D = some (.lst acc) ∧ acc.length < sizeLine ∧ Pv (i + 1) (upd H4 D (.lst (acc ++ [y]))) else Pv (i + 1) H3) (hd : ∀ H, Pv n H → Qd H) :
    ∃ W : Nat → Nat → Hp → Prop, (∃ m, W 0 m (upd H1 D (.lst []))) ∧ ∀ i m H, W i m H →
      ((Itz K a b).stop i H ∧ Qd H) ∨ ((Itz K a b).go i H ∧ ∃ Nx : Hp → Prop, (∀ H', Nx H' → ∃ m', m' < m ∧ W (i + 1) m' H') ∧ ∀ x H', (Itz K a b).yld i H x H' → g x (wipe σ vs) H' fun σ2 H2 => wipe σ2 vs = wipe σ vs ∧ tt σ2 H2 fun b H3 =>
        if b = true then te σ2 H3 fun y H4 => ∃ acc, H4 D = some (.lst acc) ∧ acc.length < sizeLine ∧ Nx (upd H4 D (.lst (acc ++ [y]))) else Nx H3) := by
  refine ⟨fun i m H => m = n - i ∧ i ≤ n ∧ Pv i H, ⟨n, by simp, Nat.zero_le _, h0⟩, ?_⟩
  rintro i m H ⟨rfl, hi, p⟩
  obtain ⟨q1, q2⟩ := hl i H hi p
  by_cases hlt : i < n
  · have l1 : i < xs.length := by omega
    have l2 : i < ys.length := by omega
    have g1 : xs[i]? = some xs[i] := List.getElem?_eq_getElem l1
    have g2 : ys[i]? = some ys[i] := List.getElem?_eq_getElem l2
    refine .inr ⟨⟨_, _, _, _, q1, q2, g1, g2⟩, Pv (i + 1), fun H' p' => ⟨n - (i + 1), by omega, rfl, hlt, p'⟩, fun v H' y => ?_⟩
    obtain ⟨T, x1, x2, rfl, nT, rfl, f1, f2⟩ := y
    exact hs i x1 x2 T H hlt (f1 xs q1) (f2 ys q2) nT p
  · have e : i = n := by omega
    subst e
    exact .inl ⟨⟨xs, ys, q1, q2, by omega⟩, hd H p⟩
end
/-! ### a list in the making, and what else stands -/
theorem IsSc.lset {H : Hp} {D : Addr} {us us' : List V} {v : V} {s : Sc} (hD : H D = some (.lst us)) (h : IsSc H v s) : IsSc (upd H D (.lst us')) v s := by
  obtain ⟨t, e, ht⟩ := h
  refine ⟨t, e, ?_⟩
  rw [upd_ne (ne_of ht hD (by intro z; cases z))]
  exact ht
theorem Pa.lset {H : Hp} {D : Addr} {us us' : List V} (hD : H D = some (.lst us)) : ∀ {vs : List V} {ss : List Sc}, Paired (IsSc H) vs ss → Paired (IsSc (upd H D (.lst us'))) vs ss
  | _, _, .nil => .nil
  | _, _, .cons h t => .cons (h.lset hD) (Pa.lset hD t)
theorem Pa.snoc {H : Hp} {vs : List V} {ss : List Sc} {v : V} {s : Sc} (h : Paired (IsSc H) vs ss) (k : IsSc H v s) : Paired (IsSc H) (vs ++ [v]) (ss ++ [s]) := Pa.app h (.cons k .nil)
/-- the pair that a value stands for -/
def kOf (H : Hp) : V → Int × Int
  | .ref t => match H t with
    | some (.tup [.int x, .int y]) => (x, y)
    | _ => (0, 0)
  | _ => (0, 0)
theorem kOf_eq {H : Hp} {v : V} {s : Sc} (h : IsSc H v s) : kOf H v = s := by
  obtain ⟨t, rfl, e⟩ := h
  show (match H t with
    | some (.tup [.int x, .int y]) => (x, y)
    | _ => (0, 0)) = s
  rw [e]
theorem Pa.kOf {H : Hp} : ∀ {vs : List V} {ss : List Sc}, Paired (IsSc H) vs ss → vs.map (Kb.kOf H) = ss
  | _, _, .nil => rfl
  | _, _, .cons h t => by rw [List.map_cons, kOf_eq h, Pa.kOf t]
theorem Pa.of_map {H : Hp} : ∀ {vs : List V}, (∀ v ∈ vs, ∃ s, IsSc H v s) → Paired (IsSc H) vs (vs.map (Kb.kOf H))
  | [], _ => .nil
  | v :: r, h => by
    obtain ⟨s, hs⟩ := h v List.mem_cons_self
    have e := kOf_eq hs
    refine .cons ?_ (Pa.of_map fun u hu => h u (List.mem_cons_of_mem _ hu))
    rw [e]
    exact hs
theorem Pa.mem {H : Hp} : ∀ {vs : List V} {ss : List Sc}, Paired (IsSc H) vs ss → ∀ v ∈ vs, ∃ s, s ∈ ss ∧ IsSc H v s
  | _, _, .nil, v, hv => by cases hv
  | _, _, .cons h t, v, hv => by
    rcases List.mem_cons.mp hv with e | e
    · subst e
      exact ⟨_, List.mem_cons_self, h⟩
    · obtain ⟨s, m, q⟩ := Pa.mem t v e
      exact ⟨s, List.mem_cons_of_mem _ m, q⟩
/-- sorted pairs: what a call of sorted hands back, by pairs -/
theorem Pa.sorted {H : Hp} {us vs : List V} {ss : List Sc} (h : Paired (IsSc H) vs ss) (s1 : SrtO.Srtd (ltP (Kb.kOf H)) us) (s2 : SrtO.Stb (ltP (Kb.kOf H)) us vs) :
    ∃ ts : List Sc, Paired (IsSc H) us ts ∧ ts.Perm ss ∧ ts.Pairwise fun p q => p.1 ≤ q.1 := by
  refine ⟨us.map (Kb.kOf H), Pa.of_map fun v hv => ?_, ?_, ?_⟩
  · obtain ⟨s, _, q⟩ := Pa.mem h v (s2.perm.mem_iff.mp hv)
    exact ⟨s, q⟩
  · rw [← Pa.kOf h]
    exact s2.perm.map _
  · refine List.pairwise_map.mpr (s1.imp fun {x y} q => ?_)
    have z := SrtO.lexB_no.mp q
    omega
end Kb
namespace Kb
open PySem PySem.Spec PyProof.Rows L2
structure Br (mg : Str → Option Value) : Prop where
  reversed : mg "reversed" = none
theorem lc_rev {K : PySem.W.Frag} {a : Addr} {xs : List V} {g : TG} {tt : TT} {te : TE} {vs : List Nat} {σ : L2.St} {H1 : Hp} {D : Addr} {Qd : Hp → Prop} (Pv : Nat → Hp → Prop) (h0 : Pv 0 (upd H1 D (.lst []))) (hl : ∀ i H, i ≤ xs.length → Pv i H → SqL K H a xs)
    (hs : ∀ i x H, xs.reverse[i]? = some x → Pv i H → g x (wipe σ vs) H fun σ2 H2 => wipe σ2 vs = wipe σ vs ∧ tt σ2 H2 fun b H3 =>
      if b = true then te σ2 H3 fun y H4 => ∃ acc, H4 D = some (.lst acc) ∧ acc.length < sizeLine ∧ Pv (i + 1) (upd H4 D (.lst (acc ++ [y]))) else Pv (i + 1) H3) (hd : ∀ H, Pv xs.length H → Qd H) :
    ∃ W : Nat → Nat → Hp → Prop, (∃ m, W 0 m (upd H1 D (.lst []))) ∧ ∀ i m H, W i m H →
      ((Itv K a xs.length).stop i H ∧ Qd H) ∨ ((Itv K a xs.length).go i H ∧ ∃ Nx : Hp → Prop, (∀ H', Nx H' → ∃ m', m' < m ∧ W (i + 1) m' H') ∧ ∀ x H', (Itv K a xs.length).yld i H x H' → g x (wipe σ vs) H' fun σ2 H2 => wipe σ2 vs = wipe σ vs ∧ tt σ2 H2 fun b H3 =>
        if b = true then te σ2 H3 fun y H4 => ∃ acc, H4 D = some (.lst acc) ∧ acc.length < sizeLine ∧ Nx (upd H4 D (.lst (acc ++ [y]))) else Nx H3) := by
  refine ⟨fun i m H => m = xs.length - i ∧ i ≤ xs.length ∧ Pv i H, ⟨xs.length, by simp, Nat.zero_le _, h0⟩, ?_⟩
  rintro i m H ⟨rfl, hi, p⟩
  have q := hl i H hi p
  by_cases hlt : i < xs.length
  · have ix : xs.length - 1 - i < xs.length := by omega
    refine .inr ⟨⟨hlt, xs, xs[xs.length - 1 - i], q, List.getElem?_eq_getElem ix⟩, Pv (i + 1), fun H' p' => ⟨xs.length - (i + 1), by omega, rfl, hlt, p'⟩, fun x H' y => ?_⟩
    obtain ⟨e, y⟩ := y
    subst e
    refine hs i x _ ?_ p
    rw [List.getElem?_reverse hlt]
    exact y xs q
  · have e : i = xs.length := by omega
    subst e
    exact .inl ⟨Nat.le_refl _, hd H p⟩
end Kb
namespace Kb
open PySem PySem.Spec PyProof.Rows L2
/-! ### defs that print lists: they are called where no list is being printed -/
structure FnG (P : Program) (w : World) (K : PySem.W.Frag) (mg : Str → Option Value) (base : Heap) (k : Nat) (f : Addr) (fd : FuncData) (ps : List Str) (sp : Sp) : Prop where
  len : ∀ vs H Q E, sp vs H Q E → vs.length = ps.length
  run : ∀ (A : Around) (outer : List Env) (s : Shared) (H : Hp) (args : Args) (us : List Value) (vs : List V) (Q : VK) (E : XK), Room k A → A.guards = some [] → Env0 P w K mg base A outer s H → BindsTo s fd args (ps.zip us) → Vals vs us → sp vs H Q E →
    codeAny (model P w) A (.call (.ref f) args) (CR CX0 outer P w H s Q E) s
section
variable {P : Program} {w : World} {K : PySem.W.Frag} {mg : Str → Option Value} {base : Heap}
theorem okG {x qual : Str} {st : Stmt} {f : Addr} {fd : FuncData} {N ps : List Str} {k : Nat} {sp : Sp} (F : Fun K x qual st f fd) (S : FnScope N ps (defScope st)) (len : ∀ vs H Q E, sp vs H Q E → vs.length = ps.length)
    (hbody : ∀ (cdv : Value) (A : Around) (outer : List Env) (s : Shared) (H : Hp) (vs : List V) (Q : VK) (E : XK), Room k (A.deeper (envOfC qual (defScope st) s.heap.objs.size f cdv)) → A.guards = some [] → sp vs H Q E →
      ∃ t, PSs (cxOf CX0 P w K mg base N qual (defScope st) f cdv A outer s H E).nox (defBody st) t ∧ t { nx := fun _ H' => Q .non H', rt := Q } (start N vs) H) : FnG P w K mg base (k + 1) f fd ps sp := by
  obtain ⟨oc, od, kV, doc, pm, an, cdv, ct, osl, rfl, lk, code⟩ := F.ex
  refine ⟨len, fun A outer s H args us vs Q E room g e0 bnd r hs => ?_⟩
  have kin : K.In s.heap := e0.mod.kin.keeps fun b o z => (e0.bs b o z).1
  have nl : s.heap.NoLimit := e0.mod.nolimit.keeps fun b o z => (e0.bs b o z).1
  have hl := len _ _ _ _ hs
  have lc : ∀ y ∈ ps.zip us, (defScope st).names.lookup y.1 = some .local ∨ ((defScope st).names.lookup y.1 = some .cell ∧ ((cellsFrom (s.heap.objs.size + 1) (defScope st).names []).lookup y.1).isSome = true) := by
    rintro ⟨n, v⟩ hy
    exact (S.par n (List.of_mem_zip hy).1).imp id fun z => ⟨z, PySem.W.cellsFrom_some _ _ _ (.inl z)⟩
  refine codeAny_call_function room.depth (kin _ _ lk) rfl S.co S.gen rfl (PySem.W.codeRec_of kin code) (bnd _ _ _ _ (wpAny_newFunctionEnv_cells S.kind lc fun env ev s1 ic => ?_))
  subst ev
  refine ⟨nl.keeps ic.toInCall.keep, codeAny_func ?_⟩
  obtain ⟨t, ht, hq⟩ := hbody cdv A outer s H vs Q E (room.deeper _) g hs
  have I := inv_start (CX := CX0) (P := P) (E := E) S room.hd e0 hl r ic
  refine wpAny_mono (ht.nox.run [] s1 _ H _ I hq) (fun fl s2 z => ?_) fun _ _ z => z
  cases fl with
  | next =>
    obtain ⟨σ', H', J, y⟩ := z
    exact ⟨.non, H', J.os, J.bare, J.base, J.hok, rfl, y⟩
  | ret u =>
    obtain ⟨v, σ', H', J, rv, y⟩ := z
    exact ⟨v, H', J.os, J.bare, J.base, J.hok, rv, y⟩
  | brk =>
    obtain ⟨_, _, _, y⟩ := z
    exact y.elim
  | cont =>
    obtain ⟨_, _, _, y⟩ := z
    exact y.elim
end
/-! ### repr of data of any depth -/
theorem cr_reprD {X : Cx} (g : X.A.guards = some []) (hu : X.A.units + 64 < cLine) : CallR X (.builtin "repr") (fun xs H Q => ∃ (a : Addr) (d : PyData), xs = [.ref a] ∧ Dp X.K H (.ref a) d ∧ d.showable = true ∧ d.hasDict = false ∧ d.depth ≤ 60 ∧ d.shown.length ≤ sizeLine ∧ Q (.str d.shown) H) := by
  intro pins s σ H xs us Q I r h
  obtain ⟨a, d, rfl, hd, h1, h2, h3, h4, q⟩ := h
  rw [Vals.ref1 r]
  obtain ⟨as, hr⟩ := Dp.reads I d _ _ hd rfl
  exact PySem.repr_of_reads' hr h1 (fun z => by rw [h2] at z; cases z) g (by omega) (fun _ _ z => z) (fun h' u tk k => ⟨.str d.shown, H, I.kept (t' := tk) k, ⟨u, rfl⟩, q⟩) h4
/-! ### the law's own call -/
section
variable {P : Program} {w : World} {K : PySem.W.Frag} {mg mb : Str → Option Value}
theorem law_run {k : Nat} {fa a : Addr} {fd : FuncData} {x : Str} {sp : Sp} {s1 : Shared} {vs : List Value} {ns : List Int} (kin : K.In s1.heap) (hns : s1.heap.Ns mainGlobals mg) (hb : s1.heap.Ns builtinsNs mb) (hbb : ∀ x : Str, x ≠ "__name__" → mb x = bootBuiltins x)
    (hlim : s1.heap.NoLimit) (hg : s1.gens = #[]) (ha : s1.heap.get? a = some { cls := .type "list", data := .seq vs.toArray }) (hia : IntsAre vs ns) (hl : ns.length ≤ sizeLine) (room : Room k callerA)
    (F : ∀ base : Heap, K.In base → base.Ns mainGlobals mg → FnG P w K mg base k fa fd [x] sp) (bnd : ∀ (s : Shared) (u : Value), BindsTo s fd ⟨[u], []⟩ [(x, u)])
    (hsp : ∀ H : Hp, Only H → SqL K H a (ns.map V.int) → sp [.ref a] H (fun v _ => v = .bl true) E0) :
    codeAny (model P w) callerA (.call (.ref fa) ⟨[.ref a], []⟩) (fun r s' => r = .ok (.ret (.bool true)) ∧ OldK s1.heap s'.heap ∧ s'.os = s1.os ∧ AllBare s'.gens) s1 := by
  have go : ∀ H : Hp, Only H → SqL K H a (ns.map V.int) → HOk P w H s1.heap → (∀ b, b ≠ a → H b = none) → (H a = none ∨ K.lookup a = none) →
      codeAny (model P w) callerA (.call (.ref fa) ⟨[.ref a], []⟩) (fun r s' => r = .ok (.ret (.bool true)) ∧ OldK s1.heap s'.heap ∧ s'.os = s1.os ∧ AllBare s'.gens) s1 := by
    intro H only hS ok off aK
    have dct : ∀ {b : Addr} {o : Obj} {es : Array DictEntry} {ep : Nat}, s1.heap.get? b = some o → o.data = .dict es ep → H b = none := by
      intro b o es ep e d
      refine off b fun z => ?_
      subst z
      rw [ha] at e
      cases e
      cases (show Data.seq vs.toArray _ = Data.dict es ep from d)
    have nsOf : ∀ {b : Addr} {m : Str → Option Value}, s1.heap.Ns b m → (hidT s1.heap H).Ns b m := by
      rintro b m ⟨o, es, ep, e, d, r⟩
      exact ⟨o, es, ep, hidT_get e (dct e d), d, r⟩
    have kin2 : K.In (hidT s1.heap H) := by
      intro b o e
      refine hidT_get (kin b o e) ?_
      by_cases z : b = a
      · subst z
        rcases aK with y | y
        · exact y
        · rw [y] at e
          cases e
      · exact off b z
    have lim2 : (hidT s1.heap H).NoLimit := by
      obtain ⟨mc, y1, y2⟩ := hlim
      exact ⟨mc, nsOf y1, y2⟩
    have env : Env0 P w K mg (hidT s1.heap H) callerA [] s1 H :=
      { frames := rfl, mod := ⟨kin2, nsOf hns, ⟨mb, nsOf hb, hbb⟩, lim2⟩, bs := fun b o e => of_hidT e, bsz := Nat.le_of_eq (hidT_size _ _), funs := trivial, frf := fun b z => (by cases (show b ∈ ([] : List Addr) from z)), hok := ok, bare := .of_eq hg }
    refine codeAny_mono ((F _ kin2 (nsOf hns)).run callerA [] s1 H ⟨[.ref a], []⟩ [.ref a] [.ref a] _ _ room rfl env (bnd s1 (.ref a)) (.cons rfl .nil) (hsp H only hS)) fun r s2 z => ?_
    cases r with
    | error e => exact z.elim
    | ok fl =>
      cases fl with
      | next => exact z.elim
      | brk => exact z.elim
      | cont => exact z.elim
      | ret u =>
        obtain ⟨v, H2, os, bare, un, ok2, rv, y⟩ := z
        have y' : v = .bl true := y
        subst y'
        obtain rfl : u = Value.bool true := rv
        refine ⟨rfl, OldK.of_keep fun b o e => ?_, os, bare⟩
        rcases only b with n | ⟨ob, xs, n⟩
        · exact un.keep b o e n (fun q => by cases (show b ∈ ([] : List Addr) from q)) (by simp)
        · obtain ⟨g1, _⟩ := ok b _ n
          obtain ⟨g2, _⟩ := ok2 b _ (un.frzs b ob _ n)
          exact g2.trans (g1.symm.trans e)
  have rv : Vals (ns.map V.int) vs := vals_ints hia
  cases hk : K.lookup a with
  | some o =>
    have e := kin a o hk
    rw [ha] at e
    cases e
    refine go (fun _ => none) (fun _ => .inl rfl) (.inr ⟨_, vs.toArray, _, hk, rfl, rfl, rfl, ?_, by simpa using rv⟩) (fun b u z => by cases (show (none : Option HO) = some u from z)) (fun _ _ => rfl) (.inl rfl)
    rw [List.size_toArray, hia.length]
    exact hl
  | none =>
    have at_a : (fun b => if b = a then some (HO.frz { cls := .type "list", data := .seq vs.toArray } (.lst (ns.map V.int))) else none : Hp) a = some (.frz { cls := .type "list", data := .seq vs.toArray } (.lst (ns.map V.int))) := if_pos rfl
    refine go (fun b => if b = a then some (.frz { cls := .type "list", data := .seq vs.toArray } (.lst (ns.map V.int))) else none) (fun b => ?_) (.inl (.inr ⟨_, at_a⟩)) (fun b u z => ?_) (fun b z => if_neg z) (.inr hk)
    · by_cases z : b = a
      · exact .inr ⟨_, _, if_pos z⟩
      · exact .inl (if_neg z)
    · by_cases y : b = a
      · subst y
        cases at_a.symm.trans z
        exact ⟨ha, by rw [List.length_map]; exact hl, vs, _, rv, ha⟩
      · cases (if_neg y).symm.trans z
end
end Kb
namespace Kb
open PySem PySem.Spec PyProof.Rows L2
/-! ### a law's end over a head of facts: a function of the heap's part tells where each def stands -/
abbrev FrK : Type := PySem.W.Frag
abbrev FDat : Type := Option (Str × Str × Arguments × FuncBody × Scope × Addr × List (Str × Addr) × Value × Addr)
def fdat (K : FrK) (a : Addr) : FDat :=
  (K.lookup a).bind fun o => match o.data with
    | .func d => some (d.name, d.qualname, d.params, d.body, d.scope, d.globals, d.closure, d.defaults, d.builtins)
    | _ => none
def fcode (K : FrK) (a : Addr) (q : Str) : Bool :=
  PySem.W.keepIn K (.ref a) && ((K.lookup a).map fun o => match o.data with
    | .func d => PySem.W.codeIn K d.code q
    | _ => false).getD false
structure FMk where
  at_ : FrK → Addr
  name : Str
  qual : Str
  st : Stmt
def FMk.val (m : FMk) : FDat := some (m.name, m.qual, defArgs m.st, .stmts (defBody m.st), defScope m.st, mainGlobals, [], .none, builtinsNs)
theorem FMk.fun_ {K : FrK} {m : FMk} (e : fdat K (m.at_ K) = m.val) (c : fcode K (m.at_ K) m.qual = true) : ∃ fd, Fun K m.name m.qual m.st (m.at_ K) fd := by
  obtain ⟨kp, c⟩ := Bool.and_eq_true_iff.mp c
  unfold fdat at e
  cases q : K.lookup (m.at_ K) with
  | none => rw [q] at c; cases c
  | some o =>
    obtain ⟨oc, od, dt, sl⟩ := o
    rw [q] at c e
    cases dt
    case func d =>
      obtain ⟨a1, a2, a3, a4, a5, a6, a7, a8, a9, b1, b2, b3, b4, b5, b6⟩ := d
      have e : (some (a1, a2, a3, a4, a5, a6, a7, a8, b6) : FDat) = m.val := e
      unfold FMk.val at e
      simp only [Option.some.injEq, Prod.mk.injEq] at e
      obtain ⟨rfl, rfl, rfl, rfl, rfl, rfl, rfl, rfl, rfl⟩ := e
      exact ⟨_, fun_mk q c kp⟩
    all_goals cases e
/-! ### the hook -/
abbrev ALk : Type := Bool × List FDat
def allB (fs : List (List (FrK → Bool))) (K : FrK) : Bool := fs.all fun r => r.all fun f => f K
def obsM (fs : List (List (FrK → Bool))) (ms : List FMk) (K : FrK) : ALk := (allB fs K && ms.all fun m => fcode K (m.at_ K) m.qual, ms.map fun m => fdat K (m.at_ K))
/-- the part of the heap: so many addresses from one on, and the module's names -/
def rngM : Nat → Nat → List Addr
  | _, 0 => []
  | a, n + 1 => a :: rngM (a + 1) n
def partM (n : Nat) (g : Addr → Option Obj) : FrK := He.frG g (mainGlobals :: rngM 11 n)
def valM (ms : List FMk) : ALk := (true, ms.map FMk.val)
def hookM (n : Nat) (fs : List (List (FrK → Bool))) (ms : List FMk) : PySem.W.Hook where
  α := ALk
  obs := fun s => obsM fs ms (partM n s.heap.get?)
  val := fun _ => valM ms
  says := fun _ h => ∃ K : FrK, K.In h ∧ obsM fs ms K = valM ms
  of := fun _ _ e => ⟨_, He.frG_in, e⟩
  keeps := fun _ _ _ ⟨K, hK, c⟩ k => ⟨K, PySem.W.Frag.In.keeps hK k, c⟩
def obT (n : Nat) (fs : List (List (FrK → Bool))) (ms : List FMk) (s : PySem.W.SharedT) : ALk := obsM fs ms (partM n (HandSHeadRun.getT s))
theorem obT_eq {n : Nat} {fs : List (List (FrK → Bool))} {ms : List FMk} (s : PySem.W.SharedT) : obT n fs ms s = (hookM n fs ms).obs s.abs := by
  have e : HandSHeadRun.getT s = s.abs.heap.get? := funext (HandSHeadRun.getT_eq s)
  unfold obT
  rw [e]
  rfl
section
variable {K : FrK} {fs : List (List (FrK → Bool))} {ms : List FMk}
theorem obs_fact (c : obsM fs ms K = valM ms) (j i : Nat) {r : List (FrK → Bool)} {f : FrK → Bool} (hr : fs[j]? = some r) (h : r[i]? = some f) : f K = true := by
  have a : (allB fs K && ms.all fun m => fcode K (m.at_ K) m.qual) = true := congrArg (fun z : ALk => z.1) c
  exact List.all_eq_true.mp (List.all_eq_true.mp (Bool.and_eq_true_iff.mp a).1 r (List.mem_of_getElem? hr)) f (List.mem_of_getElem? h)
theorem obs_fun (c : obsM fs ms K = valM ms) (i : Nat) {m : FMk} (h : ms[i]? = some m) : ∃ fd, Fun K m.name m.qual m.st (m.at_ K) fd := by
  have a : (allB fs K && ms.all fun m => fcode K (m.at_ K) m.qual) = true := congrArg (fun z : ALk => z.1) c
  have b : ms.map (fun m => fdat K (m.at_ K)) = ms.map FMk.val := congrArg (fun z : ALk => z.2) c
  have d : (ms.map fun m => fdat K (m.at_ K))[i]? = (ms.map FMk.val)[i]? := by rw [b]
  rw [List.getElem?_map, List.getElem?_map, h] at d
  exact FMk.fun_ (Option.some.inj d) (List.all_eq_true.mp (Bool.and_eq_true_iff.mp a).2 m (List.mem_of_getElem? h))
end
/-! ### addresses by names -/
def gA (x : Str) (K : FrK) : Addr := match PySem.W.nsIn K mainGlobals x with
  | some (some (.ref z)) => z
  | _ => 0
def mA (C m : Str) (K : FrK) : Addr := match PySem.W.findIn K (.ref (gA C K)) m with
  | some (some (.ref z)) => z
  | _ => 0
def eqV2 (a b : Option (Option Value)) : Bool := decide (a = b)
theorem eqV2_ok {a b : Option (Option Value)} (h : eqV2 a b = true) : a = b := of_decide_eq_true h
def isSome2 (a : Option Bool) (b : Bool) : Bool := decide (a = some b)
theorem isSome2_ok {a : Option Bool} {b : Bool} (h : isSome2 a b = true) : a = some b := of_decide_eq_true h
def intB (x : Str) (i : Int) (K : FrK) : Bool := match PySem.W.nsIn K mainGlobals x with
  | some (some (.int j _)) => decide (j = i)
  | _ => false
theorem intB_ok {x : Str} {i : Int} {K : FrK} {h : Heap} {mg : Str → Option Value} (X : K.In h) (G : h.Ns mainGlobals mg) (e : intB x i K = true) : ∃ u, mg x = some u ∧ RelV (.int i) u := by
  unfold intB at e
  split at e
  · rename_i j t q
    have ej := of_decide_eq_true e
    subst ej
    exact ⟨_, PySem.W.mg_of X G q, t, rfl⟩
  · cases e
theorem walk_gE {l : PySem.W.OpenLaw} {n k : Nat} {q : Program} {loose : List Str} {XP : (Str → Option Value) → Heap → Prop} {YP : World → Heap → Prop} {d : DefRec} {x : Str} (hn : l.most = some n) (hn2 : n ≤ sizeLine) (hdf : d.params.defaults = []) (room : Room k callerA)
    (F : ∀ (w : World) (mg : Str → Option Value) (fa : Addr) (h : Heap), YP w h → h.Ns mainGlobals mg → mg d.name = some (.ref fa) →
      ∃ (K : FrK) (fd : FuncData) (sp : Sp), K.In h ∧ (∀ (H : Hp) (a : Addr) (ns : List Int), ns.length ≤ n → Only H → SqL K H a (ns.map V.int) → sp [.ref a] H (fun v _ => v = .bl true) E0) ∧ (∀ (s : Shared) (u : Value), BindsTo s fd ⟨[u], []⟩ [(x, u)]) ∧ ∀ base : Heap, K.In base → base.Ns mainGlobals mg → FnG l.prog w K mg base k fa fd [x] sp) :
    PySem.W.WalkO q loose XP YP l.row.toRowW d [] (fun f vs => PySem.call f vs) := by
  refine Att.attach_call hn hdf fun w s0 s1 mg mb fa o pm cd doc a vs ns G Y ho hd code hmg obj hia hlen gens => ?_
  obtain ⟨K, fd, sp, kin, hsp, bnd, hF⟩ := F w mg fa _ Y G.T.g hmg
  exact law_run kin G.T.g G.T.b G.T.builtins G.T.nolimit gens obj hia (Nat.le_trans hlen hn2) room hF bnd fun H only hS => hsp H a ns hlen only hS
end Kb
namespace Kb
open PySem PySem.Spec PyProof.Rows L2
def hdS (i : Nat) : Stmt := PySem.Challenge.pw_scanmisses_k37_one_stack_of_caches.main.body.getD i (.Pass ⟨0, 0, 0, 0⟩)
def fs_0 : List (FrK → Bool) := [fun K => eqV2 (PySem.W.nsIn K mainGlobals "read_digits") (some (some (.ref (gA "read_digits" K)))),
  fun K => eqV2 (PySem.W.nsIn K mainGlobals "read_number") (some (some (.ref (gA "read_number" K)))),
  fun K => eqV2 (PySem.W.nsIn K mainGlobals "read_scan") (some (some (.ref (gA "read_scan" K)))),
  fun K => eqV2 (PySem.W.nsIn K mainGlobals "read_times") (some (some (.ref (gA "read_times" K)))),
  fun K => eqV2 (PySem.W.nsIn K mainGlobals "read_text") (some (some (.ref (gA "read_text" K)))),
  fun K => eqV2 (PySem.W.nsIn K mainGlobals "_law_kettle") (some (some (.ref (gA "_law_kettle" K)))),
  fun K => eqV2 (PySem.W.nsIn K mainGlobals "_law_scoop") (some (some (.ref (gA "_law_scoop" K)))),
  fun K => eqV2 (PySem.W.nsIn K mainGlobals "_law_scans") (some (some (.ref (gA "_law_scans" K)))),
  fun K => eqV2 (PySem.W.nsIn K mainGlobals "_law_nodes") (some (some (.ref (gA "_law_nodes" K)))),
  fun K => eqV2 (PySem.W.nsIn K mainGlobals "_law_length") (some (some (.ref (gA "_law_length" K)))),
  fun K => eqV2 (PySem.W.nsIn K mainGlobals "_law_small") (some (some (.ref (gA "_law_small" K)))),
  fun K => eqV2 (PySem.W.nsIn K mainGlobals "_law_words") (some (some (.ref (gA "_law_words" K)))),
  fun K => eqV2 (PySem.W.nsIn K mainGlobals "_law_made") (some (some (.ref (gA "_law_made" K)))),
  fun K => eqV2 (PySem.W.nsIn K mainGlobals "_law_reads") (some (some (.ref (gA "_law_reads" K)))),
  fun K => eqV2 (PySem.W.nsIn K mainGlobals "_law_spread") (some (some (.ref (gA "_law_spread" K)))),
  fun K => eqV2 (PySem.W.nsIn K mainGlobals "_law_hits") (some (some (.ref (gA "_law_hits" K)))),
  fun K => eqV2 (PySem.W.nsIn K mainGlobals "check_program") (some (some (.ref (gA "check_program" K)))),
  fun K => eqV2 (PySem.W.nsIn K mainGlobals "is_integer") (some (some (.ref (gA "is_integer" K)))),
  fun K => eqV2 (PySem.W.nsIn K mainGlobals "is_from_zero") (some (some (.ref (gA "is_from_zero" K)))),
  fun K => eqV2 (PySem.W.nsIn K mainGlobals "check_sizes") (some (some (.ref (gA "check_sizes" K)))),
  fun K => eqV2 (PySem.W.nsIn K mainGlobals "is_repeat") (some (some (.ref (gA "is_repeat" K)))),
  fun K => eqV2 (PySem.W.nsIn K mainGlobals "placed_scans") (some (some (.ref (gA "placed_scans" K)))),
  fun K => eqV2 (PySem.W.nsIn K mainGlobals "start_of") (some (some (.ref (gA "start_of" K)))),
  fun K => eqV2 (PySem.W.nsIn K mainGlobals "shared_intervals") (some (some (.ref (gA "shared_intervals" K)))),
  fun K => eqV2 (PySem.W.nsIn K mainGlobals "straight_rows") (some (some (.ref (gA "straight_rows" K)))),
  fun K => eqV2 (PySem.W.nsIn K mainGlobals "straight_pieces") (some (some (.ref (gA "straight_pieces" K)))),
  fun K => eqV2 (PySem.W.nsIn K mainGlobals "first_reaching") (some (some (.ref (gA "first_reaching" K)))),
  fun K => eqV2 (PySem.W.nsIn K mainGlobals "scan_outside") (some (some (.ref (gA "scan_outside" K)))),
  fun K => eqV2 (PySem.W.nsIn K mainGlobals "others_of") (some (some (.ref (gA "others_of" K)))),
  fun K => eqV2 (PySem.W.nsIn K mainGlobals "joined") (some (some (.ref (gA "joined" K))))]
def fs_1 : List (FrK → Bool) := [fun K => eqV2 (PySem.W.nsIn K mainGlobals "put_ahead") (some (some (.ref (gA "put_ahead" K)))),
  fun K => eqV2 (PySem.W.nsIn K mainGlobals "three_behind") (some (some (.ref (gA "three_behind" K)))),
  fun K => eqV2 (PySem.W.nsIn K mainGlobals "multiplied") (some (some (.ref (gA "multiplied" K)))),
  fun K => eqV2 (PySem.W.nsIn K mainGlobals "three_times") (some (some (.ref (gA "three_times" K)))),
  fun K => eqV2 (PySem.W.nsIn K mainGlobals "three_of") (some (some (.ref (gA "three_of" K)))),
  fun K => eqV2 (PySem.W.nsIn K mainGlobals "is_piece") (some (some (.ref (gA "is_piece" K)))),
  fun K => eqV2 (PySem.W.nsIn K mainGlobals "are_pieces") (some (some (.ref (gA "are_pieces" K)))),
  fun K => eqV2 (PySem.W.nsIn K mainGlobals "check_distances") (some (some (.ref (gA "check_distances" K)))),
  fun K => eqV2 (PySem.W.nsIn K mainGlobals "flattened") (some (some (.ref (gA "flattened" K)))),
  fun K => eqV2 (PySem.W.nsIn K mainGlobals "scan_length") (some (some (.ref (gA "scan_length" K)))),
  fun K => eqV2 (PySem.W.nsIn K mainGlobals "count_all") (some (some (.ref (gA "count_all" K)))),
  fun K => eqV2 (PySem.W.nsIn K mainGlobals "summary_from") (some (some (.ref (gA "summary_from" K)))),
  fun K => eqV2 (PySem.W.nsIn K mainGlobals "summary_of") (some (some (.ref (gA "summary_of" K)))),
  fun K => eqV2 (PySem.W.nsIn K mainGlobals "profile_of") (some (some (.ref (gA "profile_of" K)))),
  fun K => eqV2 (PySem.W.nsIn K mainGlobals "check_size") (some (some (.ref (gA "check_size" K)))),
  fun K => eqV2 (PySem.W.nsIn K mainGlobals "count_beyond") (some (some (.ref (gA "count_beyond" K)))),
  fun K => eqV2 (PySem.W.nsIn K mainGlobals "stacked_hits") (some (some (.ref (gA "stacked_hits" K)))),
  fun K => eqV2 (PySem.W.nsIn K mainGlobals "law") (some (some (.ref (gA "law" K)))),
  fun K => eqV2 (PySem.W.nsIn K mainGlobals "Program") (some (some (.ref (gA "Program" K)))),
  fun K => PySem.W.plainGet K (gA "Program" K) Str.empty,
  fun K => PySem.W.hasDictIn K (gA "Program" K),
  fun K => PySem.W.plainOver K (gA "Program" K),
  fun K => eqV2 (PySem.W.findIn K (.ref (gA "Program" K)) "__setattr__") (some (some (.builtin "object.__setattr__"))),
  fun K => PySem.W.makesIn K (gA "Program" K),
  fun K => PySem.W.keepIn K (.ref (gA "Program" K)),
  fun K => eqV2 (PySem.W.findIn K (.ref (gA "Program" K)) "parts") (some none),
  fun K => eqV2 (PySem.W.findIn K (.ref (gA "Program" K)) "__class__") (some (some (.builtin "object.__class__"))),
  fun K => eqV2 (PySem.W.specialIn K (.builtin "object.__class__") "__get__") (some (some (.builtin "getset_descriptor.__get__"))),
  fun K => isSome2 (PySem.W.takesIn K (.builtin "object.__class__")) true,
  fun K => isSome2 (PySem.W.mroIn K (gA "Program" K) (.type "object")) true]
def fs_2 : List (FrK → Bool) := [fun K => isSome2 (PySem.W.kitOne K (.ref (gA "Program" K)) (.ref (gA "Program" K))) true,
  fun K => PySem.W.notFirst K (gA "Program" K) (.ref (gA "Program" K)),
  fun K => eqV2 (PySem.W.nsIn K mainGlobals "Profile") (some (some (.ref (gA "Profile" K)))),
  fun K => PySem.W.plainGet K (gA "Profile" K) Str.empty,
  fun K => PySem.W.hasDictIn K (gA "Profile" K),
  fun K => PySem.W.plainOver K (gA "Profile" K),
  fun K => eqV2 (PySem.W.findIn K (.ref (gA "Profile" K)) "__setattr__") (some (some (.builtin "object.__setattr__"))),
  fun K => PySem.W.makesIn K (gA "Profile" K),
  fun K => PySem.W.keepIn K (.ref (gA "Profile" K)),
  fun K => eqV2 (PySem.W.findIn K (.ref (gA "Profile" K)) "cold") (some none),
  fun K => eqV2 (PySem.W.findIn K (.ref (gA "Profile" K)) "_pieces") (some none),
  fun K => eqV2 (PySem.W.findIn K (.ref (gA "Profile" K)) "__class__") (some (some (.builtin "object.__class__"))),
  fun K => isSome2 (PySem.W.mroIn K (gA "Profile" K) (.type "object")) true,
  fun K => isSome2 (PySem.W.kitOne K (.ref (gA "Profile" K)) (.ref (gA "Profile" K))) true,
  fun K => PySem.W.notFirst K (gA "Profile" K) (.ref (gA "Profile" K)),
  fun K => eqV2 (PySem.W.nsIn K mainGlobals "Summary") (some (some (.ref (gA "Summary" K)))),
  fun K => PySem.W.plainGet K (gA "Summary" K) Str.empty,
  fun K => PySem.W.hasDictIn K (gA "Summary" K),
  fun K => PySem.W.plainOver K (gA "Summary" K),
  fun K => eqV2 (PySem.W.findIn K (.ref (gA "Summary" K)) "__setattr__") (some (some (.builtin "object.__setattr__"))),
  fun K => PySem.W.makesIn K (gA "Summary" K),
  fun K => PySem.W.keepIn K (.ref (gA "Summary" K)),
  fun K => eqV2 (PySem.W.findIn K (.ref (gA "Summary" K)) "_firsts") (some none),
  fun K => eqV2 (PySem.W.findIn K (.ref (gA "Summary" K)) "_lasts") (some none),
  fun K => eqV2 (PySem.W.findIn K (.ref (gA "Summary" K)) "profile") (some none),
  fun K => eqV2 (PySem.W.findIn K (.ref (gA "Summary" K)) "__class__") (some (some (.builtin "object.__class__"))),
  fun K => isSome2 (PySem.W.mroIn K (gA "Summary" K) (.type "object")) true,
  fun K => isSome2 (PySem.W.kitOne K (.ref (gA "Summary" K)) (.ref (gA "Summary" K))) true,
  fun K => PySem.W.notFirst K (gA "Summary" K) (.ref (gA "Summary" K)),
  fun K => eqV2 (PySem.W.findIn K (.ref (gA "Program" K)) "__init__") (some (some (.ref (mA "Program" "__init__" K))))]
def fs_3 : List (FrK → Bool) := [fun K => PySem.W.isFn K (.ref (mA "Program" "__init__" K)),
  fun K => eqV2 (PySem.W.findIn K (.ref (gA "Program" K)) "__eq__") (some (some (.ref (mA "Program" "__eq__" K)))),
  fun K => PySem.W.isFn K (.ref (mA "Program" "__eq__" K)),
  fun K => eqV2 (PySem.W.findIn K (.ref (gA "Profile" K)) "__init__") (some (some (.ref (mA "Profile" "__init__" K)))),
  fun K => PySem.W.isFn K (.ref (mA "Profile" "__init__" K)),
  fun K => eqV2 (PySem.W.findIn K (.ref (gA "Summary" K)) "__init__") (some (some (.ref (mA "Summary" "__init__" K)))),
  fun K => PySem.W.isFn K (.ref (mA "Summary" "__init__" K)),
  fun K => eqV2 (PySem.W.findIn K (.ref (gA "Profile" K)) "__call__") (some (some (.ref (mA "Profile" "__call__" K)))),
  fun K => PySem.W.isFn K (.ref (mA "Profile" "__call__" K)),
  fun K => PySem.W.fnIn K (mA "Profile" "__call__" K),
  fun K => eqV2 (PySem.W.nsIn K mainGlobals "len") (some none),
  fun K => eqV2 (PySem.W.nsIn K mainGlobals "abs") (some none),
  fun K => eqV2 (PySem.W.nsIn K mainGlobals "max") (some none),
  fun K => eqV2 (PySem.W.nsIn K mainGlobals "min") (some none),
  fun K => eqV2 (PySem.W.nsIn K mainGlobals "sum") (some none),
  fun K => eqV2 (PySem.W.nsIn K mainGlobals "all") (some none),
  fun K => eqV2 (PySem.W.nsIn K mainGlobals "repr") (some none),
  fun K => eqV2 (PySem.W.nsIn K mainGlobals "sorted") (some none),
  fun K => eqV2 (PySem.W.nsIn K mainGlobals "isinstance") (some none),
  fun K => eqV2 (PySem.W.nsIn K mainGlobals "int") (some none),
  fun K => eqV2 (PySem.W.nsIn K mainGlobals "bool") (some none),
  fun K => eqV2 (PySem.W.nsIn K mainGlobals "list") (some none),
  fun K => eqV2 (PySem.W.nsIn K mainGlobals "tuple") (some none),
  fun K => eqV2 (PySem.W.nsIn K mainGlobals "set") (some none),
  fun K => eqV2 (PySem.W.nsIn K mainGlobals "range") (some none),
  fun K => eqV2 (PySem.W.nsIn K mainGlobals "zip") (some none),
  fun K => eqV2 (PySem.W.nsIn K mainGlobals "str") (some none),
  fun K => eqV2 (PySem.W.nsIn K mainGlobals "enumerate") (some none),
  fun K => eqV2 (PySem.W.nsIn K mainGlobals "reversed") (some none),
  fun K => intB "MOST_SCANS" 40 K]
def fs_4 : List (FrK → Bool) := [fun K => intB "MOST_BRACKETS" 5 K,
  fun K => intB "MOST_DIGITS" 31 K,
  fun K => intB "GREATEST" 1000000000000000000000000000000 K,
  fun K => intB "MOST_SIZES" 3 K]
def fsAll : List (List (FrK → Bool)) := [fs_0, fs_1, fs_2, fs_3, fs_4]
def ms_0 : List FMk := [⟨gA "read_digits", "read_digits", "read_digits", hdS 53⟩,
  ⟨gA "read_number", "read_number", "read_number", hdS 54⟩,
  ⟨gA "read_scan", "read_scan", "read_scan", hdS 55⟩,
  ⟨gA "read_times", "read_times", "read_times", hdS 56⟩,
  ⟨gA "read_text", "read_text", "read_text", hdS 57⟩,
  ⟨gA "_law_kettle", "_law_kettle", "_law_kettle", hdS 82⟩,
  ⟨gA "_law_scoop", "_law_scoop", "_law_scoop", hdS 83⟩,
  ⟨gA "_law_scans", "_law_scans", "_law_scans", hdS 84⟩,
  ⟨gA "_law_nodes", "_law_nodes", "_law_nodes", hdS 85⟩,
  ⟨gA "_law_length", "_law_length", "_law_length", hdS 86⟩,
  ⟨gA "_law_small", "_law_small", "_law_small", hdS 87⟩,
  ⟨gA "_law_words", "_law_words", "_law_words", hdS 88⟩,
  ⟨gA "_law_made", "_law_made", "_law_made", hdS 89⟩,
  ⟨gA "_law_reads", "_law_reads", "_law_reads", hdS 90⟩,
  ⟨gA "_law_spread", "_law_spread", "_law_spread", hdS 91⟩,
  ⟨gA "_law_hits", "_law_hits", "_law_hits", hdS 92⟩,
  ⟨gA "check_program", "check_program", "check_program", hdS 63⟩,
  ⟨gA "is_integer", "is_integer", "is_integer", hdS 38⟩,
  ⟨gA "is_from_zero", "is_from_zero", "is_from_zero", hdS 39⟩,
  ⟨gA "check_sizes", "check_sizes", "check_sizes", hdS 43⟩,
  ⟨gA "is_repeat", "is_repeat", "is_repeat", hdS 10⟩,
  ⟨gA "placed_scans", "placed_scans", "placed_scans", hdS 21⟩,
  ⟨gA "start_of", "start_of", "start_of", hdS 22⟩,
  ⟨gA "shared_intervals", "shared_intervals", "shared_intervals", hdS 23⟩,
  ⟨gA "straight_rows", "straight_rows", "straight_rows", hdS 24⟩,
  ⟨gA "straight_pieces", "straight_pieces", "straight_pieces", hdS 25⟩,
  ⟨gA "first_reaching", "first_reaching", "first_reaching", hdS 3⟩,
  ⟨gA "scan_outside", "scan_outside", "scan_outside", hdS 4⟩,
  ⟨gA "others_of", "others_of", "others_of", hdS 5⟩,
  ⟨gA "joined", "joined", "joined", hdS 8⟩]
def ms_1 : List FMk := [⟨gA "put_ahead", "put_ahead", "put_ahead", hdS 7⟩,
  ⟨gA "three_behind", "three_behind", "three_behind", hdS 69⟩,
  ⟨gA "multiplied", "multiplied", "multiplied", hdS 17⟩,
  ⟨gA "three_times", "three_times", "three_times", hdS 70⟩,
  ⟨gA "three_of", "three_of", "three_of", hdS 71⟩,
  ⟨gA "is_piece", "is_piece", "is_piece", hdS 40⟩,
  ⟨gA "are_pieces", "are_pieces", "are_pieces", hdS 41⟩,
  ⟨gA "check_distances", "check_distances", "check_distances", hdS 46⟩,
  ⟨gA "flattened", "flattened", "flattened", hdS 16⟩,
  ⟨gA "scan_length", "scan_length", "scan_length", hdS 2⟩,
  ⟨gA "count_all", "count_all", "count_all", hdS 6⟩,
  ⟨gA "summary_from", "summary_from", "summary_from", hdS 78⟩,
  ⟨gA "summary_of", "summary_of", "summary_of", hdS 74⟩,
  ⟨gA "profile_of", "profile_of", "profile_of", hdS 75⟩,
  ⟨gA "check_size", "check_size", "check_size", hdS 42⟩,
  ⟨gA "count_beyond", "count_beyond", "count_beyond", hdS 18⟩,
  ⟨gA "stacked_hits", "stacked_hits", "stacked_hits", hdS 80⟩,
  ⟨gA "law", "law", "law", hdS 93⟩,
  ⟨mA "Program" "__init__", "__init__", "Program.__init__", inClass (hdS 62) 0⟩,
  ⟨mA "Program" "__eq__", "__eq__", "Program.__eq__", inClass (hdS 62) 7⟩,
  ⟨mA "Profile" "__init__", "__init__", "Profile.__init__", inClass (hdS 66) 0⟩,
  ⟨mA "Summary" "__init__", "__init__", "Summary.__init__", inClass (hdS 73) 0⟩,
  ⟨mA "Profile" "__call__", "__call__", "Profile.__call__", inClass (hdS 66) 4⟩]
def msAll : List FMk := ms_0 ++ ms_1
def ls_0 : List PySem.Str := ["_wall", "scan_length", "first_reaching", "scan_outside", "others_of", "count_all", "put_ahead", "joined", "is_repeat", "scans_of", "count_accesses", "repeated", "backwards", "flattened", "multiplied", "count_beyond", "times_at", "placed_scans", "start_of", "shared_intervals", "straight_rows", "straight_pieces", "ScanError", "InvalidText", "InvalidProgram", "InvalidSize", "InvalidNumber", "InvalidProfile", "InvalidSummary", "InvalidSizes"]
def ls_1 : List PySem.Str := ["GREATEST", "MOST_SIZES", "is_integer", "is_from_zero", "is_piece", "are_pieces", "check_size", "check_sizes", "check_from", "check_between", "check_distances", "MOST_SCANS", "MOST_BRACKETS", "MOST_DIGITS", "CHUNK_DIGITS", "CHUNK", "read_digits", "read_number", "read_scan", "read_times", "read_text", "digits_of", "scan_word", "words_of", "Program", "check_program", "program_of", "Profile", "check_profile", "three_behind"]
def ls_2 : List PySem.Str := ["three_times", "three_of", "Summary", "summary_of", "profile_of", "check_summary", "three_from", "summary_from", "stacked_hits", "_law_kettle", "_law_scoop", "_law_scans", "_law_nodes", "_law_length", "_law_small", "_law_words", "_law_made", "_law_reads", "_law_spread", "_law_hits"]
def lsAll : List PySem.Str := ls_0 ++ ls_1 ++ ls_2
abbrev RowK : PySem.W.OpenRow := PySem.W.OpenLaw.row PySem.Challenge.rw_scanmisses_k37_one_stack_of_caches
abbrev hkAll : PySem.W.Hook := hookM 1200 fsAll msAll
theorem run_all (w : World) : HandSHeadRun.RunEq RowK (PySem.W.view RowK.prog [93]) hkAll (obT 1200 fsAll msAll) 30000 lsAll w := by
  intro os
  kernel_rfl
end Kb
namespace Kb
open PySem PySem.Spec PyProof.Rows L2
/-! ### the mathematics of scans -/
def lo (s : Sc) : Int := if s.2 < s.1 then s.2 else s.1
def hi (s : Sc) : Int := if s.2 > s.1 then s.2 else s.1
def Nn (s : Sc) : Prop := 0 ≤ s.1 ∧ 0 ≤ s.2
def Apart (s t : Sc) : Prop := hi s < lo t ∨ hi t < lo s
structure Good (ss : List Sc) : Prop where
  nn : ∀ s ∈ ss, Nn s
  dis : ss.Pairwise Apart
  few : ss.length ≤ 1000
def spn (s : Sc) : Sc := (lo s, hi s)
theorem spn_le (s : Sc) : (spn s).1 ≤ (spn s).2 := by
  show lo s ≤ hi s
  unfold lo hi
  split <;> split <;> omega
theorem Good.next {ss zs : List Sc} (G : Good ss) (p : zs.Perm (ss.map spn)) (o : zs.Pairwise fun a b => a.1 ≤ b.1) {i : Nat} {x y : Sc} (hx : zs[i]? = some x) (hy : zs[i + 1]? = some y) : x.2 < y.1 := by
  have d1 : (ss.map spn).Pairwise fun a b => a.2 < b.1 ∨ b.2 < a.1 := List.pairwise_map.mpr (G.dis.imp fun h => h)
  have d2 : zs.Pairwise fun a b => a.2 < b.1 ∨ b.2 < a.1 := (p.pairwise_iff (R := fun a b : Sc => a.2 < b.1 ∨ b.2 < a.1) (fun {a b} h => h.symm)).mpr d1
  obtain ⟨l1, rfl⟩ := List.getElem?_eq_some_iff.mp hx
  obtain ⟨l2, rfl⟩ := List.getElem?_eq_some_iff.mp hy
  have a := List.pairwise_iff_getElem.mp d2 i (i + 1) l1 l2 (Nat.lt_succ_self i)
  have b := List.pairwise_iff_getElem.mp o i (i + 1) l1 l2 (Nat.lt_succ_self i)
  have w : ∀ z ∈ zs, z.1 ≤ z.2 := fun z hz => by
    obtain ⟨s, _, rfl⟩ := List.mem_map.mp (p.mem_iff.mp hz)
    exact spn_le s
  have c := w _ (List.getElem_mem l2)
  have d := w _ (List.getElem_mem l1)
  omega
def slen (s : Sc) : Int := (if s.2 - s.1 < 0 then -(s.2 - s.1) else s.2 - s.1) + 1
/-! ### promises -/
def spIsInteger : Sp := fun vs H Q _ => ∃ i : Int, vs = [.int i] ∧ RetV (.bl true) H Q
def spFromZero : Sp := fun vs H Q _ => ∃ i : Int, vs = [.int i] ∧ 0 ≤ i ∧ RetV (.bl true) H Q
/-! ### the addresses of scans, one by one -/
def stp (s : Sc) : Int := if s.1 ≤ s.2 then 1 else -1
def rd (s : Sc) : List Int := (List.range (slen s).toNat).map fun (m : Nat) => s.1 + (m : Int) * stp s
def rdL : List Sc → List Int
  | [] => []
  | s :: r => rd s ++ rdL r
def psum : List Sc → Int
  | [] => 0
  | s :: r => slen s + psum r
def absI (z : Int) : Int := if z < 0 then -z else z
theorem slen_pos (s : Sc) : 1 ≤ slen s := by
  unfold slen
  split <;> omega
theorem rd_len (s : Sc) : (rd s).length = (slen s).toNat := by
  unfold rd
  rw [List.length_map, List.length_range]
theorem rd_get {s : Sc} {i : Nat} (h : i < (slen s).toNat) : (rd s)[i]? = some (if s.1 ≤ s.2 then s.1 + i else s.1 - i) := by
  unfold rd stp
  rw [List.getElem?_map, List.getElem?_range h]
  show some (s.1 + (i : Int) * (if s.1 ≤ s.2 then 1 else -1)) = some _
  congr 1
  split <;> omega
theorem slen_eq (s : Sc) : slen s = hi s - lo s + 1 := by
  unfold slen hi lo
  split <;> split <;> split <;> omega
theorem mem_rd {s : Sc} {a : Int} : a ∈ rd s ↔ lo s ≤ a ∧ a ≤ hi s := by
  constructor
  · intro h
    obtain ⟨i, hi⟩ := List.mem_iff_getElem?.mp h
    have hl : i < (slen s).toNat := by
      rw [← rd_len]
      exact (List.getElem?_eq_some_iff.mp hi).1
    rw [rd_get hl] at hi
    have e := Option.some.inj hi
    have z := slen_eq s
    have p := slen_pos s
    unfold lo Kb.hi at *
    revert e z
    split <;> split <;> split <;> intro e z <;> omega
  · rintro ⟨h1, h2⟩
    have z := slen_eq s
    have p := slen_pos s
    have hl : (if s.1 ≤ s.2 then a - s.1 else s.1 - a).toNat < (slen s).toNat := by
      unfold lo Kb.hi at *
      revert z h1 h2
      split <;> split <;> split <;> intros <;> omega
    refine List.mem_iff_getElem?.mpr ⟨_, (rd_get hl).trans ?_⟩
    congr 1
    unfold lo Kb.hi at *
    revert h1 h2
    split <;> split <;> split <;> intros <;> omega
theorem rdL_app (a b : List Sc) : rdL (a ++ b) = rdL a ++ rdL b := by
  induction a with
  | nil => rfl
  | cons s r ih =>
    show rd s ++ rdL (r ++ b) = (rd s ++ rdL r) ++ rdL b
    rw [ih, List.append_assoc]
theorem psum_app (a b : List Sc) : psum (a ++ b) = psum a + psum b := by
  induction a with
  | nil =>
    show psum b = 0 + psum b
    omega
  | cons s r ih =>
    show slen s + psum (r ++ b) = slen s + psum r + psum b
    rw [ih]
    omega
theorem rdL_len (ss : List Sc) : ((rdL ss).length : Int) = psum ss := by
  induction ss with
  | nil => rfl
  | cons s r ih =>
    show (((rd s ++ rdL r).length : Nat) : Int) = slen s + psum r
    rw [List.length_append, rd_len]
    have := slen_pos s
    omega
theorem psum_snoc {ss : List Sc} {j : Nat} {s : Sc} (h : ss[j]? = some s) : psum (ss.take (j + 1)) = psum (ss.take j) + slen s := by
  rw [List.take_add_one, h, psum_app]
  show _ + (slen s + 0) = _
  omega
theorem mem_rdL {ss : List Sc} {a : Int} : a ∈ rdL ss ↔ ∃ s ∈ ss, lo s ≤ a ∧ a ≤ hi s := by
  induction ss with
  | nil =>
    constructor
    · intro h
      cases h
    · rintro ⟨s, h, _⟩
      cases h
  | cons s r ih =>
    show a ∈ rd s ++ rdL r ↔ _
    rw [List.mem_append, mem_rd, ih]
    constructor
    · rintro (h | ⟨t, ht, h⟩)
      · exact ⟨s, List.mem_cons_self, h⟩
      · exact ⟨t, List.mem_cons_of_mem _ ht, h⟩
    · rintro ⟨t, ht, h⟩
      rcases List.mem_cons.mp ht with e | e
      · subst e
        exact .inl h
      · exact .inr ⟨t, e, h⟩
/-! ### promises -/
def spScanLength : Sp := fun vs H Q _ => ∃ (v : V) (s : Sc), vs = [v] ∧ IsSc H v s ∧ RetV (.int (slen s)) H Q
def spCount : Sp := fun vs H Q _ => ∃ (a : Addr) (ss : List Sc), vs = [.ref a] ∧ Scs H a ss ∧ Good ss ∧ RetV (.int (psum ss)) H Q
/-! ### data of depth two -/
def pdS (s : Sc) : PyData := .tuple [.int s.1, .int s.2]
def pdL (ss : List Sc) : PyData := .list (ss.map pdS)
def pdI (ns : List Int) : PyData := .list (ns.map .int)
theorem shaped_I (ns : List Int) : SeqAt.shaped (pdI ns) = true := by
  have h1 : PyData.canLayAll0 (ns.map PyData.int) = true := by
    induction ns with
    | nil => rfl
    | cons s r ih =>
      show (true && PyData.canLayAll0 (r.map PyData.int)) = true
      rw [ih]
      rfl
  have h2 : PyData.depthAll (ns.map PyData.int) = 0 := by
    clear h1
    induction ns with
    | nil => rfl
    | cons s r ih =>
      show max 0 (PyData.depthAll (r.map PyData.int)) = 0
      omega
  show (PyData.canLayAll0 (ns.map PyData.int) && decide (PyData.depthAll (ns.map PyData.int) + 1 ≤ 64)) = true
  rw [h1, h2]
  rfl
theorem eqv_S (s t : Sc) : PyData.eqv (pdS s) (pdS t) = decide (s = t) := by
  obtain ⟨a, b⟩ := s
  obtain ⟨c, d⟩ := t
  show ((a == c) && ((b == d) && true)) = _
  rw [Bool.eq_iff_iff]
  simp
theorem eqv_I : ∀ ns ms : List Int, PyData.eqv (pdI ns) (pdI ms) = decide (ns = ms)
  | [], [] => rfl
  | [], _ :: _ => rfl
  | _ :: _, [] => rfl
  | s :: r, t :: q => by
    show ((s == t) && PyData.eqv (pdI r) (pdI q)) = _
    rw [eqv_I r q, Bool.eq_iff_iff]
    simp
theorem Scs.dp {K : PySem.W.Frag} {H : Hp} {a : Addr} {ss : List Sc} (h : Scs H a ss) : Dp K H (.ref a) (pdL ss) := by
  obtain ⟨vs, ha, pa⟩ := h
  have all : ∀ {vs : List V} {ss : List Sc}, Paired (IsSc H) vs ss → DpAll K H vs (ss.map pdS) := by
    intro vs ss p
    induction p with
    | nil => exact .nil
    | cons h t ih =>
      obtain ⟨t0, rfl, ht⟩ := h
      exact .cons (.tup (SqT.of ht) (.cons (.int _) (.cons (.int _) .nil))) ih
  exact .lst (SqL.of ha) (all pa)
theorem dp_ints {K : PySem.W.Frag} {H : Hp} {a : Addr} {ns : List Int} (h : H a = some (.lst (ns.map V.int))) : Dp K H (.ref a) (pdI ns) := by
  have all : ∀ ns : List Int, DpAll K H (ns.map V.int) (ns.map PyData.int) := by
    intro ns
    induction ns with
    | nil => exact .nil
    | cons n r ih => exact .cons (.int n) ih
  exact .lst (SqL.of h) (all ns)
/-! ### promises -/
theorem Good.perm {fs ts : List Sc} (n : ∀ s ∈ fs, 0 ≤ lo s) (d : fs.Pairwise fun s t => hi s < lo t) (few : fs.length ≤ 1000) (p : ts.Perm fs) : Good ts := by
  refine ⟨fun s hs => ?_, (p.pairwise_iff (R := Apart) (fun {a b} h => h.symm)).mpr (d.imp fun h => .inl h), by rw [p.length_eq]; exact few⟩
  have z := n s (p.mem_iff.mp hs)
  unfold lo at z
  unfold Nn
  revert z
  split <;> intro z <;> omega
theorem inV_ints (ns : List Int) (a : Int) : inV (.int a) (ns.map V.int) = decide (a ∈ ns) := by
  induction ns with
  | nil => rfl
  | cons n r ih =>
    show ((n == a) || inV (.int a) (r.map V.int)) = _
    rw [ih, Bool.eq_iff_iff, Bool.or_eq_true, beq_iff_eq, decide_eq_true_eq, decide_eq_true_eq, List.mem_cons]
    exact ⟨fun h => h.imp Eq.symm id, fun h => h.imp Eq.symm id⟩
def Small (ss : List Sc) : Prop := Good ss ∧ ∀ s ∈ ss, s.1 < 40 ∧ s.2 < 40
theorem Small.bd {ss : List Sc} (h : Small ss) : ∀ s ∈ ss, Nn s ∧ s.1 ≤ 10000 ∧ s.2 ≤ 10000 := fun s hs => ⟨h.1.nn s hs, by have := h.2 s hs; omega, by have := h.2 s hs; omega⟩
theorem Small.len {ss : List Sc} (h : Small ss) : (rdL ss).length ≤ 1000 * 40 := by
  have few := h.1.few
  have g : ∀ l : List Sc, (∀ s ∈ l, s ∈ ss) → (rdL l).length ≤ l.length * 40 := by
    intro l
    induction l with
    | nil => intro _; exact Nat.le_refl _
    | cons s r ih =>
      intro hm
      have z := h.2 s (hm s List.mem_cons_self)
      have y := h.1.nn s (hm s List.mem_cons_self)
      have i := ih fun t ht => hm t (List.mem_cons_of_mem _ ht)
      show (rd s ++ rdL r).length ≤ (r.length + 1) * 40
      rw [List.length_append, rd_len]
      have sl : slen s ≤ 40 := by
        obtain ⟨y1, y2⟩ := y
        unfold slen
        split <;> omega
      omega
  have := g ss fun _ h => h
  have := Nat.mul_le_mul_right 40 few
  omega
def spLaw (K : PySem.W.Frag) : Sp := fun vs H Q _ => ∃ (a : Addr) (ns : List Int), vs = [.ref a] ∧ SqL K H a (ns.map V.int) ∧ ns.length ≤ 63 ∧ ∀ H', Q (.bl true) H'
theorem Good.nil : Good [] := ⟨fun s hs => (by cases hs), List.Pairwise.nil, Nat.zero_le _⟩
theorem Good.one {z : Int} (h : 0 ≤ z) : Good [(z, z)] := ⟨fun s hs => by
  rw [List.mem_singleton.mp hs]
  exact ⟨h, h⟩, List.pairwise_singleton _ _, by show 1 ≤ 1000; decide⟩
end Kb
namespace Kb
open PySem PySem.Spec PyProof.Rows L2
/-! ### scans joined -/
def jstep (acc : List Sc) (s : Sc) : List Sc := match acc.getLast? with
  | some t => if absI (s.1 - t.2) = 1 then acc.dropLast ++ [(t.1, s.2)] else acc ++ [s]
  | none => [s]
def jn (ss : List Sc) : List Sc := ss.foldl jstep []
theorem jstep_nil (s : Sc) : jstep [] s = [s] := rfl
theorem jstep_snoc (pre : List Sc) (t s : Sc) : jstep (pre ++ [t]) s = if absI (s.1 - t.2) = 1 then pre ++ [(t.1, s.2)] else pre ++ [t] ++ [s] := by
  unfold jstep
  rw [List.getLast?_concat, List.dropLast_concat]
theorem jn_snoc (ss : List Sc) (s : Sc) : jn (ss ++ [s]) = jstep (jn ss) s := by
  unfold jn
  rw [List.foldl_append]
  rfl
def dup (ns : List Int) : List Sc := ns.map fun a => (a, a)
def al (x c : Int) (n : Nat) : List Int := (List.range n).map fun (m : Nat) => x + (m : Int) * c
theorem jstep_shape (acc : List Sc) (x : Int) : ∃ (pre : List Sc) (u : Int), ∀ z, jstep acc (x, z) = pre ++ [(u, z)] := by
  rcases List.eq_nil_or_concat acc with e | ⟨pre, t, e⟩
  · subst e
    exact ⟨[], x, fun z => rfl⟩
  · rw [List.concat_eq_append] at e
    subst e
    by_cases h : absI (x - t.2) = 1
    · exact ⟨pre, t.1, fun z => by rw [jstep_snoc, if_pos h]⟩
    · exact ⟨pre ++ [t], x, fun z => by rw [jstep_snoc, if_neg h]⟩
theorem fold_al (acc : List Sc) (x c : Int) (hc : c = 1 ∨ c = -1) : ∀ n : Nat, (dup (al x c (n + 1))).foldl jstep acc = jstep acc (x, x + (n : Int) * c)
  | 0 => by
    show jstep acc (x + ((0 : Nat) : Int) * c, x + ((0 : Nat) : Int) * c) = _
    have e : x + ((0 : Nat) : Int) * c = x := by simp
    rw [e]
  | n + 1 => by
    have e : al x c (n + 1 + 1) = al x c (n + 1) ++ [x + ((n + 1 : Nat) : Int) * c] := by
      unfold al
      rw [List.range_succ, List.map_append]
      rfl
    rw [e]
    unfold dup
    rw [List.map_append, List.foldl_append]
    have ih := fold_al acc x c hc n
    unfold dup at ih
    rw [ih]
    obtain ⟨pre, u, h⟩ := jstep_shape acc x
    rw [h, h]
    show jstep (pre ++ [(u, x + (n : Int) * c)]) (x + ((n + 1 : Nat) : Int) * c, x + ((n + 1 : Nat) : Int) * c) = _
    rw [jstep_snoc]
    have e2 : x + ((n + 1 : Nat) : Int) * c - (x + (n : Int) * c) = c := by
      rw [Int.natCast_add, Int.add_mul]
      show x + ((n : Int) * c + ((1 : Nat) : Int) * c) - (x + (n : Int) * c) = c
      rw [show ((1 : Nat) : Int) * c = c from Int.one_mul c]
      omega
    rw [if_pos]
    show absI (x + ((n + 1 : Nat) : Int) * c - (x + (n : Int) * c)) = 1
    rw [e2]
    rcases hc with rfl | rfl <;> rfl
theorem fold_rd (acc : List Sc) (s : Sc) : (dup (rd s)).foldl jstep acc = jstep acc s := by
  have p := slen_pos s
  obtain ⟨n, hn⟩ : ∃ n : Nat, (slen s).toNat = n + 1 := ⟨(slen s).toNat - 1, by omega⟩
  have e : rd s = al s.1 (stp s) (n + 1) := by
    unfold rd al
    rw [hn]
  have hc : stp s = 1 ∨ stp s = -1 := by
    unfold stp
    split
    · exact .inl rfl
    · exact .inr rfl
  rw [e, fold_al acc _ _ hc]
  congr 1
  have z := hn
  unfold slen at z
  unfold stp
  refine Prod.ext rfl ?_
  show s.1 + (n : Int) * (if s.1 ≤ s.2 then 1 else -1) = s.2
  revert z
  split <;> split <;> intro z <;> omega
theorem fold_rdL : ∀ (ss : List Sc) (acc : List Sc), (dup (rdL ss)).foldl jstep acc = ss.foldl jstep acc
  | [], acc => rfl
  | s :: r, acc => by
    show ((rd s ++ rdL r).map fun a => (a, a)).foldl jstep acc = (r.foldl jstep (jstep acc s))
    rw [List.map_append, List.foldl_append]
    have h1 := fold_rd acc s
    have h2 := fold_rdL r (jstep acc s)
    unfold dup at h1 h2
    rw [h1, h2]
theorem jn_rdL (ss : List Sc) : jn (dup (rdL ss)) = jn ss := fold_rdL ss []
def swp (s : Sc) : Sc := (s.2, s.1)
theorem rd_swp (s : Sc) : rd (swp s) = (rd s).reverse := by
  have l : slen (swp s) = slen s := by
    unfold slen swp
    show (if s.1 - s.2 < 0 then -(s.1 - s.2) else s.1 - s.2) + 1 = _
    split <;> split <;> omega
  refine List.ext_getElem? fun i => ?_
  by_cases h : i < (slen s).toNat
  · rw [rd_get (by rw [l]; exact h), List.getElem?_reverse (by rw [rd_len]; exact h), rd_len, rd_get (by omega)]
    congr 1
    have z2 : (((slen s).toNat : Nat) : Int) = (if s.2 - s.1 < 0 then -(s.2 - s.1) else s.2 - s.1) + 1 := by
      have := slen_pos s
      show _ = slen s
      omega
    generalize (slen s).toNat = n at h z2 ⊢
    show (if s.2 ≤ s.1 then s.2 + (i : Int) else s.2 - (i : Int)) = _
    revert z2
    split <;> split <;> split <;> intro z2 <;> omega
  · rw [List.getElem?_eq_none (by rw [rd_len, l]; omega), List.getElem?_eq_none (by rw [List.length_reverse, rd_len]; omega)]
theorem rdL_rev : ∀ ss : List Sc, rdL (ss.reverse.map swp) = (rdL ss).reverse
  | [] => rfl
  | s :: r => by
    rw [List.reverse_cons, List.map_append, rdL_app, rdL_rev r]
    show (rdL r).reverse ++ (rd (swp s) ++ []) = (rd s ++ rdL r).reverse
    rw [List.append_nil, rd_swp, List.reverse_append]
theorem jn_len : ∀ (ss : List Sc), (jn ss).length ≤ ss.length := by
  have key : ∀ (ss acc : List Sc), (ss.foldl jstep acc).length ≤ acc.length + ss.length := by
    intro ss
    induction ss with
    | nil => intro acc; exact Nat.le_refl _
    | cons s r ih =>
      intro acc
      have h := ih (jstep acc s)
      have h2 : (jstep acc s).length ≤ acc.length + 1 := by
        rcases List.eq_nil_or_concat acc with e | ⟨pre, t, e⟩
        · subst e
          exact Nat.le_refl _
        · rw [List.concat_eq_append] at e
          subst e
          rw [jstep_snoc]
          split
          · rw [List.length_append, List.length_append]
            show pre.length + 1 ≤ pre.length + 1 + 1
            omega
          · rw [List.length_append]
            exact Nat.le_refl _
      show (r.foldl jstep (jstep acc s)).length ≤ acc.length + (r.length + 1)
      omega
  intro ss
  have := key ss []
  simpa [jn] using this
/-! ### joined lists as they are printed -/
/-! ### a joined list stays so -/
theorem lo_hi (s : Sc) : lo s ≤ hi s := spn_le s
theorem merge {t s : Sc} (a : Apart t s) (h : absI (s.1 - t.2) = 1) : (lo (t.1, s.2) = lo t ∧ hi (t.1, s.2) = hi s ∧ hi t + 1 = lo s) ∨ (lo (t.1, s.2) = lo s ∧ hi (t.1, s.2) = hi t ∧ hi s + 1 = lo t) := by
  obtain ⟨u, v⟩ := t
  obtain ⟨x, y⟩ := s
  unfold Apart lo hi absI at *
  revert a h
  show ((if v > u then v else u) < (if y < x then y else x) ∨ (if y > x then y else x) < (if v < u then v else u)) → (if x - v < 0 then -(x - v) else x - v) = 1 →
    ((if y < u then y else u) = (if v < u then v else u) ∧ (if y > u then y else u) = (if y > x then y else x) ∧ (if v > u then v else u) + 1 = (if y < x then y else x)) ∨
    ((if y < u then y else u) = (if y < x then y else x) ∧ (if y > u then y else u) = (if v > u then v else u) ∧ (if y > x then y else x) + 1 = (if v < u then v else u))
  split <;> split <;> split <;> split <;> split <;> split <;> split <;> intros <;> omega
theorem merge_apart {t s z : Sc} (a : Apart t s) (h : absI (s.1 - t.2) = 1) (h1 : Apart z t) (h2 : Apart z s) : Apart z (t.1, s.2) := by
  have m := merge a h
  have c := lo_hi z
  unfold Apart at h1 h2 ⊢
  omega
theorem Apart.symm {s t : Sc} (h : Apart s t) : Apart t s := Or.symm h
theorem apart_step {acc r : List Sc} {s : Sc} (h : (acc ++ s :: r).Pairwise Apart) : (jstep acc s ++ r).Pairwise Apart := by
  rcases List.eq_nil_or_concat acc with e | ⟨pre, t, e⟩
  · subst e
    exact h
  · rw [List.concat_eq_append] at e
    subst e
    rw [jstep_snoc]
    by_cases hc : absI (s.1 - t.2) = 1
    · rw [if_pos hc]
      rw [List.append_assoc] at h ⊢
      obtain ⟨p1, p2, p3⟩ := List.pairwise_append.mp h
      obtain ⟨q1, q2⟩ := List.pairwise_cons.mp (show (t :: (s :: r)).Pairwise Apart from p2)
      obtain ⟨q3, q4⟩ := List.pairwise_cons.mp q2
      have ats := q1 s List.mem_cons_self
      refine List.pairwise_append.mpr ⟨p1, List.pairwise_cons.mpr ⟨fun z hz => ?_, q4⟩, fun a ha b hb => ?_⟩
      · exact (merge_apart ats hc (q1 z (List.mem_cons_of_mem _ hz)).symm (q3 z hz).symm).symm
      · rcases List.mem_cons.mp (show b ∈ (t.1, s.2) :: r from hb) with e | e
        · rw [e]
          exact merge_apart ats hc (p3 a ha t (List.mem_append_left _ (List.mem_singleton.mpr rfl))) (p3 a ha s (List.mem_append_right _ List.mem_cons_self))
        · exact p3 a ha b (List.mem_append_right _ (List.mem_cons_of_mem _ e))
    · rw [if_neg hc, List.append_assoc]
      exact h
theorem apart_jn {ss : List Sc} (h : ss.Pairwise Apart) : (jn ss).Pairwise Apart := by
  have key : ∀ (r acc : List Sc), (acc ++ r).Pairwise Apart → (r.foldl jstep acc).Pairwise Apart := by
    intro r
    induction r with
    | nil =>
      intro acc h
      rw [List.append_nil] at h
      exact h
    | cons s r ih => intro acc h; exact ih _ (apart_step h)
  exact key ss [] h
end Kb
namespace Kb
open PySem PySem.Spec PyProof.Rows L2
theorem small20 {n : Nat} (h : n ≤ 2 ^ 20) : n < sizeLine := Nat.lt_of_le_of_lt h (by decide)
theorem Pa.concat {H : Hp} {pre : List V} {v : V} {l : List Sc} (h : Paired (IsSc H) (pre ++ [v]) l) : ∃ (pre' : List Sc) (t : Sc), l = pre' ++ [t] ∧ Paired (IsSc H) pre pre' ∧ IsSc H v t := by
  have r : Paired (IsSc H) (v :: pre.reverse) l.reverse := by
    have z := Pa.rev h
    rw [List.reverse_append] at z
    exact z
  generalize e : l.reverse = m at r
  cases r with
  | @cons _ t _ q h1 h2 =>
    have z := congrArg List.reverse e
    rw [List.reverse_reverse, List.reverse_cons] at z
    have y := Pa.rev h2
    rw [List.reverse_reverse] at y
    exact ⟨q.reverse, t, z, y, h1⟩
theorem ix_last {α : Type} (pre : List α) (v : α) : ixN (pre ++ [v]).length (-1) = some pre.length := by
  unfold ixN
  rw [List.length_append]
  show (if (0 : Int) ≤ -1 then _ else if -(((pre.length + 1 : Nat)) : Int) ≤ -1 then some ((-1 : Int) + ((pre.length + 1 : Nat) : Int)).toNat else none) = _
  rw [if_neg (by decide), if_pos (by omega)]
  congr 1
  omega
theorem set_last {α : Type} (pre : List α) (v u : α) : (pre ++ [v]).set pre.length u = pre ++ [u] := by
  rw [List.set_append_right (h := Nat.le_refl _), Nat.sub_self]
  rfl
theorem eq_nil_or_snoc {α : Type} (l : List α) : l = [] ∨ ∃ (pre : List α) (t : α), l = pre ++ [t] := by
  rcases List.eq_nil_or_concat l with e | ⟨pre, t, e⟩
  · exact .inl e
  · exact .inr ⟨pre, t, by rw [e, List.concat_eq_append]⟩
def spJoined : Sp := fun vs H Q _ => ∃ (a : Addr) (ss : List Sc), vs = [.ref a] ∧ Scs H a ss ∧ ss.length ≤ 2 ^ 20 ∧ ∀ p H', H p = none → Ex H H' → Scs H' p (jn ss) → Q (.ref p) H'
def JW (H : Hp) (a p : Addr) (ss : List Sc) (i : Nat) (σ : L2.St) (H1 : Hp) : Prop := ∃ y2 y3 us, σ = [some (.ref a), some (.ref p), y2, y3] ∧ Ex H H1 ∧ H1 p = some (.lst us) ∧ Paired (IsSc H1) us (jn (ss.take i))
theorem jw_snoc {H : Hp} {a p : Addr} {ss : List Sc} {i : Nat} {s : Sc} (gs : ss[i]? = some s) : jn (ss.take (i + 1)) = jstep (jn (ss.take i)) s := by
  rw [List.take_add_one, gs]
  exact jn_snoc _ _
theorem jw_app {H H1 : Hp} {a p q : Addr} {ss : List Sc} {i : Nat} {x y : Int} {us : List V} (np : H p = none) (gs : ss[i]? = some (x, y)) (e : Ex H H1) (hp : H1 p = some (.lst us)) (pu : Paired (IsSc H1) us (jn (ss.take i))) (nq : H1 q = none)
    (hj : jstep (jn (ss.take i)) (x, y) = jn (ss.take i) ++ [(x, y)]) {σ : L2.St} (es : ∃ y2 y3, σ = [some (.ref a), some (.ref p), y2, y3]) : JW H a p ss (i + 1) σ (upd (upd H1 q (.tup [.int x, .int y])) p (.lst (us ++ [.ref q]))) := by
  obtain ⟨y2, y3, rfl⟩ := es
  have n : p ≠ q := ne_of_none hp nq
  refine ⟨y2, y3, us ++ [.ref q], rfl, (e.add nq).mut np, upd_same, ?_⟩
  rw [jw_snoc (H := H) (a := a) (p := p) gs, hj]
  exact Pa.lset ((upd_ne n).trans hp) (Pa.snoc (Pa.mono (Ex.new nq) pu) ⟨q, rfl, upd_same⟩)
theorem jw_set {H H1 : Hp} {a p q : Addr} {ss : List Sc} {i : Nat} {x y : Int} {pre : List V} {v : V} {pre' : List Sc} {t : Sc} (np : H p = none) (gs : ss[i]? = some (x, y)) (e : Ex H H1) (hp : H1 p = some (.lst (pre ++ [v]))) (pu : Paired (IsSc H1) pre pre') (nq : H1 q = none)
    (ej : jn (ss.take i) = pre' ++ [t]) (hc : absI (x - t.2) = 1) {σ : L2.St} (es : ∃ y2 y3, σ = [some (.ref a), some (.ref p), y2, y3]) : JW H a p ss (i + 1) σ (upd (upd H1 q (.tup [.int t.1, .int y])) p (.lst ((pre ++ [v]).set pre.length (.ref q)))) := by
  obtain ⟨y2, y3, rfl⟩ := es
  have n : p ≠ q := ne_of_none hp nq
  refine ⟨y2, y3, _, rfl, (e.add nq).mut np, upd_same, ?_⟩
  rw [jw_snoc (H := H) (a := a) (p := p) gs, ej, jstep_snoc, if_pos hc, set_last]
  exact Pa.lset ((upd_ne n).trans hp) (Pa.snoc (Pa.mono (Ex.new nq) pu) ⟨q, rfl, upd_same⟩)
def Sm (ss : List Sc) : Prop := Small ss ∧ ss.length ≤ 60
theorem Sm.sum {ss : List Sc} (h : Sm ss) : 0 ≤ psum ss ∧ psum ss ≤ 2400 := by
  have key : ∀ l : List Sc, (∀ s ∈ l, s ∈ ss) → 0 ≤ psum l ∧ psum l ≤ 40 * (l.length : Int) := by
    intro l
    induction l with
    | nil => intro _; exact ⟨Int.le_refl 0, Int.le_refl _⟩
    | cons s r ih =>
      intro hm
      have i := ih fun t ht => hm t (List.mem_cons_of_mem _ ht)
      have a := h.1.1.nn s (hm s List.mem_cons_self)
      have b := h.1.2 s (hm s List.mem_cons_self)
      have p := slen_pos s
      have sl : slen s ≤ 40 := by
        obtain ⟨a1, a2⟩ := a
        unfold slen
        split <;> omega
      show 0 ≤ slen s + psum r ∧ slen s + psum r ≤ 40 * ((r.length + 1 : Nat) : Int)
      omega
  have z := key ss fun _ h => h
  have := h.2
  omega
end Kb
namespace Kb
open PySem PySem.Spec PyProof.Rows L2
/-! ### min, max of a pair -/
section
variable {prog : Program} {w : World} {A : Around} {E : Value → Shared → Prop} {s : Shared}
theorem tup_iter {l : Addr} {its : Array Value} {Q : Value → Shared → Prop} (hl : s.heap.IsTuple l its)
    (h : ∀ s2 : Shared, s2 = { s with heap := s.heap.push { cls := .type "tuple_iterator", data := .fields #[.ref l, .int 0 0] } } → (s2.heap.IsTupleIter s.heap.objs.size l 0 ∧ s2.heap.IsTuple l its) → (∀ b ∈ [s.heap.objs.size, l], b < s2.heap.objs.size) → l ≠ s.heap.objs.size → Q (.ref s.heap.objs.size) s2) :
    wpAny (model prog w) A (pyIter (.ref l)) Q E s := by
  have lt : l < s.heap.objs.size := by
    obtain ⟨_, e, _⟩ := hl
    exact Heap.lt_size e
  refine wpAny_pyIter_tuple hl (h _ rfl ⟨⟨_, Heap.get?_push_size _ rfl, rfl, rfl⟩, hl.push _⟩ (fun b hb => ?_) (Nat.ne_of_lt lt))
  show b < (s.heap.push _).objs.size
  rw [Heap.size_push]
  rcases List.mem_cons.mp hb with e | e
  · rw [e]
    exact Nat.lt_succ_self _
  · rw [List.mem_singleton.mp e]
    exact Nat.lt_succ_of_lt lt
end
def fn2 (x y : Int) : Nat → Int := fun i => if i = 0 then x else y
theorem pair_at {x y : Int} {t u : Tok} (i : Nat) (v : Value) (h : (#[Value.int x t, Value.int y u] : Array Value)[i]? = some v) : ∃ k, v = .int (fn2 x y i) k := by
  match i, h with
  | 0, h =>
    cases h
    exact ⟨t, rfl⟩
  | 1, h =>
    cases h
    exact ⟨u, rfl⟩
  | i + 2, h => simp at h
section
variable {X : Cx}
theorem cr_minT (hc : X.calm = true) : CallR X (.builtin "min") (fun vs H Q => ∃ (a : Addr) (x y : Int), vs = [.ref a] ∧ H a = some (.tup [.int x, .int y]) ∧ Q (.int (if y < x then y else x)) H) := by
  intro pins s σ H vs us Q I r h
  obtain ⟨a, x, y, rfl, ha, q⟩ := h
  rw [Vals.ref1 r]
  obtain ⟨its, rv, pt, _⟩ := I.tuple (SqT.of ha)
  obtain ⟨u1, u2, rfl, ⟨t, rfl⟩, ⟨u, rfl⟩⟩ := vals2 rv
  refine call_min_walk (tup_iter (its := #[Value.int x t, Value.int y u]) pt fun s2 e st hfp ne => ?_)
  subst e
  refine ⟨_, _, _, _, _, _, _, rfl, Walks.tuple (A := X.A.in1) (I.ok.hd hc) _ a ne _, st, hfp, Nat.succ_pos 1, CmpOf.ints_lt (fn2 x y) pair_at, fun v h' tk hP hk => ?_⟩
  obtain ⟨k, rfl⟩ := pair_at _ _ hP
  obtain ⟨b1, b2⟩ := argBest_lt (fn2 x y) 1
  have c0 := b2 0 (by decide)
  have c1 := b2 1 (by decide)
  have e : fn2 x y (argBest (fun i j => decide (fn2 x y i < fn2 x y j)) 1) = if y < x then y else x := by
    generalize argBest (fun i j => decide (fn2 x y i < fn2 x y j)) 1 = m at b1 c0 c1
    have d : m = 0 ∨ m = 1 := by omega
    rcases d with rfl | rfl
    · have z : x ≤ y := c1
      show x = _
      rw [if_neg (by omega)]
    · have z : y ≤ x := c0
      show y = _
      split <;> omega
  refine ⟨.int _, H, I.kept (t' := tk) fun b o eo => hk b o (fun hm => ?_) (Heap.get?_push_of_some _ eo), ⟨k, rfl⟩, ?_⟩
  · rcases List.mem_cons.mp hm with e1 | hm
    · exact absurd (e1 ▸ Heap.lt_size eo) (Nat.lt_irrefl _)
    · cases hm
  · show Q (.int (fn2 x y (argBest (fun i j => decide (fn2 x y i < fn2 x y j)) 1))) H
    rw [e]
    exact q
theorem cr_maxT (hc : X.calm = true) : CallR X (.builtin "max") (fun vs H Q => ∃ (a : Addr) (x y : Int), vs = [.ref a] ∧ H a = some (.tup [.int x, .int y]) ∧ Q (.int (if y > x then y else x)) H) := by
  intro pins s σ H vs us Q I r h
  obtain ⟨a, x, y, rfl, ha, q⟩ := h
  rw [Vals.ref1 r]
  obtain ⟨its, rv, pt, _⟩ := I.tuple (SqT.of ha)
  obtain ⟨u1, u2, rfl, ⟨t, rfl⟩, ⟨u, rfl⟩⟩ := vals2 rv
  refine call_max_walk (tup_iter (its := #[Value.int x t, Value.int y u]) pt fun s2 e st hfp ne => ?_)
  subst e
  refine ⟨_, _, _, _, _, _, _, rfl, Walks.tuple (A := X.A.in1) (I.ok.hd hc) _ a ne _, st, hfp, Nat.succ_pos 1, CmpOf.ints_gt (fn2 x y) pair_at, fun v h' tk hP hk => ?_⟩
  obtain ⟨k, rfl⟩ := pair_at _ _ hP
  obtain ⟨b1, b2⟩ := argBest_gt (fn2 x y) 1
  have c0 := b2 0 (by decide)
  have c1 := b2 1 (by decide)
  have e : fn2 x y (argBest (fun i j => decide (fn2 x y i > fn2 x y j)) 1) = if y > x then y else x := by
    generalize argBest (fun i j => decide (fn2 x y i > fn2 x y j)) 1 = m at b1 c0 c1
    have d : m = 0 ∨ m = 1 := by omega
    rcases d with rfl | rfl
    · have z : y ≤ x := c1
      show x = _
      rw [if_neg (by omega)]
    · have z : x ≤ y := c0
      show y = _
      split <;> omega
  refine ⟨.int _, H, I.kept (t' := tk) fun b o eo => hk b o (fun hm => ?_) (Heap.get?_push_of_some _ eo), ⟨k, rfl⟩, ?_⟩
  · rcases List.mem_cons.mp hm with e1 | hm
    · exact absurd (e1 ▸ Heap.lt_size eo) (Nat.lt_irrefl _)
    · cases hm
  · show Q (.int (fn2 x y (argBest (fun i j => decide (fn2 x y i > fn2 x y j)) 1))) H
    rw [e]
    exact q
end
/-! ### parts of scans -/
def seg (a b : Int) : List Int := (List.range (b + 1 - a).toNat).map fun (m : Nat) => a + (m : Int)
theorem seg_nil {a b : Int} (h : b < a) : seg a b = [] := by
  unfold seg
  rw [show (b + 1 - a).toNat = 0 by omega]
  rfl
theorem seg_cons {a b : Int} (h : a ≤ b) : seg a b = a :: seg (a + 1) b := by
  unfold seg
  obtain ⟨n, hn⟩ : ∃ n : Nat, (b + 1 - a).toNat = n + 1 := ⟨(b + 1 - a).toNat - 1, by omega⟩
  rw [hn, show (b + 1 - (a + 1)).toNat = n by omega, List.range_succ_eq_map, List.map_cons, List.map_map]
  congr 1
  · show a + ((0 : Nat) : Int) = a
    omega
  · refine List.map_congr_left fun m _ => ?_
    show a + ((m + 1 : Nat) : Int) = a + 1 + (m : Int)
    omega
theorem rd_up {s : Sc} (h : s.1 ≤ s.2) : rd s = seg s.1 s.2 := by
  unfold rd seg stp slen
  rw [if_pos h, if_neg (by omega), show (s.2 - s.1 + 1).toNat = (s.2 + 1 - s.1).toNat by omega]
  refine List.map_congr_left fun m _ => ?_
  omega
theorem rd_dn {s : Sc} (h : s.2 ≤ s.1) : rd s = (seg s.2 s.1).reverse := by
  have e : s = swp (swp s) := rfl
  rw [e, rd_swp, rd_up (s := swp s) h]
  rfl
def ends (s : Sc) (l h : Int) : List Sc := [(lo s, if l - 1 < hi s then l - 1 else hi s), (if h + 1 > lo s then h + 1 else lo s, hi s)]
def hd (s : Sc) (m : Int) : Sc := (s.1, if s.1 ≤ s.2 then s.1 + ((if slen s < m then slen s else m) - 1) else s.1 - ((if slen s < m then slen s else m) - 1))
end Kb
namespace Kb
open PySem PySem.Spec PyProof.Rows L2
/-! ### a comprehension of two loops -/
section
variable {K : PySem.W.Frag} {a b : Addr} {xs ys : List V} {g g1 : TG} {tt tt1 : TT} {wi1 : TI} {te : TE} {vs vs1 : List Nat} {σ σ2 : L2.St} {H1 H4 : Hp} {D : Addr} {Qd N : Hp → Prop}
def InOk (g1 : TG) (tt1 : TT) (te : TE) (vs1 : List Nat) (σ2 : L2.St) (D : Addr) (N : Hp → Prop) (J : It) (H4 : Hp) : Prop :=
  ∃ W1 : Nat → Nat → Hp → Prop, (∃ m, W1 0 m H4) ∧ ∀ j k H, W1 j k H →
    (J.stop j H ∧ N H) ∨ (J.go j H ∧ ∃ N1 : Hp → Prop, (∀ H', N1 H' → ∃ k', k' < k ∧ W1 (j + 1) k' H') ∧ ∀ x H', J.yld j H x H' →
      g1 x (wipe σ2 vs1) H' fun σ3 H5 => wipe σ3 vs1 = wipe σ2 vs1 ∧ tt1 σ3 H5 fun c H6 => if c = true then te σ3 H6 fun y H7 => ∃ acc, H7 D = some (.lst acc) ∧ acc.length < sizeLine ∧ N1 (upd H7 D (.lst (acc ++ [y]))) else N1 H6)
theorem in_list (Pw : Nat → Hp → Prop) (h0 : Pw 0 H4) (hl : ∀ j H, j ≤ ys.length → Pw j H → SqL K H b ys)
    (hs : ∀ j x H, ys[j]? = some x → Pw j H → g1 x (wipe σ2 vs1) H fun σ3 H5 => wipe σ3 vs1 = wipe σ2 vs1 ∧ tt1 σ3 H5 fun c H6 => if c = true then te σ3 H6 fun y H7 => ∃ acc, H7 D = some (.lst acc) ∧ acc.length < sizeLine ∧ Pw (j + 1) (upd H7 D (.lst (acc ++ [y]))) else Pw (j + 1) H6)
    (hd : ∀ H, Pw ys.length H → N H) : InOk g1 tt1 te vs1 σ2 D N (Itl K b) H4 := by
  refine ⟨fun j k H => k = ys.length - j ∧ j ≤ ys.length ∧ Pw j H, ⟨ys.length, by simp, Nat.zero_le _, h0⟩, ?_⟩
  rintro j k H ⟨rfl, hj, p⟩
  have q := hl j H hj p
  by_cases lt : j < ys.length
  · refine .inr ⟨⟨ys, ys[j], q, List.getElem?_eq_getElem lt⟩, Pw (j + 1), fun H' p' => ⟨ys.length - (j + 1), by omega, rfl, lt, p'⟩, fun x H' y => ?_⟩
    rw [y.1]
    exact hs j x _ (y.2 ys q) p
  · rw [show j = ys.length by omega] at p ⊢
    exact .inl ⟨⟨ys, q, Nat.le_refl _⟩, hd H p⟩
theorem two_list (Pv : Nat → Hp → Prop) (h0 : Pv 0 (upd H1 D (.lst []))) (hl : ∀ i H, i ≤ xs.length → Pv i H → SqL K H a xs)
    (hs : ∀ i x H, xs[i]? = some x → Pv i H → g x (wipe σ vs) H fun σ2 H2 => wipe σ2 vs = wipe σ vs ∧ tt σ2 H2 fun c H3 => if c = true then wi1 σ2 H3 (InOk g1 tt1 te vs1 σ2 D (Pv (i + 1))) else Pv (i + 1) H3)
    (hd : ∀ H, Pv xs.length H → Qd H) :
    ∃ W : Nat → Nat → Hp → Prop, (∃ m, W 0 m (upd H1 D (.lst []))) ∧ ∀ i m H, W i m H →
      ((Itl K a).stop i H ∧ Qd H) ∨ ((Itl K a).go i H ∧ ∃ N : Hp → Prop, (∀ H', N H' → ∃ m', m' < m ∧ W (i + 1) m' H') ∧ ∀ x H', (Itl K a).yld i H x H' →
        g x (wipe σ vs) H' fun σ2 H2 => wipe σ2 vs = wipe σ vs ∧ tt σ2 H2 fun c H3 => if c = true then wi1 σ2 H3 (InOk g1 tt1 te vs1 σ2 D N) else N H3) := by
  refine ⟨fun i m H => m = xs.length - i ∧ i ≤ xs.length ∧ Pv i H, ⟨xs.length, by simp, Nat.zero_le _, h0⟩, ?_⟩
  rintro i m H ⟨rfl, hi, p⟩
  have q := hl i H hi p
  by_cases lt : i < xs.length
  · refine .inr ⟨⟨xs, xs[i], q, List.getElem?_eq_getElem lt⟩, Pv (i + 1), fun H' p' => ⟨xs.length - (i + 1), by omega, rfl, lt, p'⟩, fun x H' y => ?_⟩
    rw [y.1]
    exact hs i x _ (y.2 xs q) p
  · rw [show i = xs.length by omega] at p ⊢
    exact .inl ⟨⟨xs, q, Nat.le_refl _⟩, hd H p⟩
end
/-! ### promises of the parts -/
end Kb
namespace Kb
open PySem PySem.Spec PyProof.Rows L2
/-! ### ascending intervals, and what of a scan is in none of them -/
structure Asc (zs : List Sc) : Prop where
  le : ∀ t ∈ zs, t.1 ≤ t.2
  up : zs.Pairwise fun a b => a.2 < b.1
theorem Asc.next {zs : List Sc} (A : Asc zs) {i j : Nat} {a b : Sc} (hi : zs[i]? = some a) (hj : zs[j]? = some b) (h : i < j) : a.2 < b.1 := by
  obtain ⟨l1, rfl⟩ := List.getElem?_eq_some_iff.mp hi
  obtain ⟨l2, rfl⟩ := List.getElem?_eq_some_iff.mp hj
  exact List.pairwise_iff_getElem.mp A.up i j l1 l2 h
theorem Asc.leAt {zs : List Sc} (A : Asc zs) {i : Nat} {a : Sc} (hi : zs[i]? = some a) : a.1 ≤ a.2 := A.le _ (List.mem_of_getElem? hi)
theorem asc_of {ss zs : List Sc} (d : ss.Pairwise Apart) (p : zs.Perm (ss.map spn)) (o : zs.Pairwise fun a b => a.1 ≤ b.1) : Asc zs := by
  have d1 : (ss.map spn).Pairwise fun a b => a.2 < b.1 ∨ b.2 < a.1 := List.pairwise_map.mpr (d.imp fun h => h)
  have d2 : zs.Pairwise fun a b => a.2 < b.1 ∨ b.2 < a.1 := (p.pairwise_iff (R := fun a b : Sc => a.2 < b.1 ∨ b.2 < a.1) (fun {a b} h => h.symm)).mpr d1
  have w : ∀ z ∈ zs, z.1 ≤ z.2 := fun z hz => by
    obtain ⟨s, _, rfl⟩ := List.mem_map.mp (p.mem_iff.mp hz)
    exact spn_le s
  refine ⟨w, List.pairwise_iff_getElem.mpr fun i j hi hj h => ?_⟩
  have a := List.pairwise_iff_getElem.mp d2 i j hi hj h
  have b := List.pairwise_iff_getElem.mp o i j hi hj h
  have c := w _ (List.getElem_mem hi)
  have d := w _ (List.getElem_mem hj)
  omega
def out (zs : List Sc) (z : Int) : Bool := zs.all fun t => decide (z < t.1 ∨ t.2 < z)
theorem out_iff {zs : List Sc} {z : Int} : out zs z = true ↔ ∀ t ∈ zs, z < t.1 ∨ t.2 < z := by
  unfold out
  rw [List.all_eq_true]
  exact ⟨fun h t ht => of_decide_eq_true (h t ht), fun h t ht => decide_eq_true (h t ht)⟩
def outL (ts : List Sc) (z : Int) : Bool := !decide (z ∈ rdL ts)
theorem out_eq {ts zs : List Sc} (p : zs.Perm (ts.map spn)) (z : Int) : out zs z = outL ts z := by
  refine Bool.eq_iff_iff.mpr ⟨fun h => ?_, fun h => ?_⟩
  · have h := out_iff.mp h
    unfold outL
    rw [decide_eq_false]
    · rfl
    · intro m
      obtain ⟨s, hs, a, b⟩ := mem_rdL.mp m
      have k := h (spn s) (p.mem_iff.mpr (List.mem_map.mpr ⟨s, hs, rfl⟩))
      have k : z < lo s ∨ hi s < z := k
      omega
  · refine out_iff.mpr fun t ht => ?_
    obtain ⟨s, hs, rfl⟩ := List.mem_map.mp (p.mem_iff.mp ht)
    show z < lo s ∨ hi s < z
    have h : z ∉ rdL ts := fun m => by
      unfold outL at h
      rw [decide_eq_true m] at h
      cases h
    by_cases c : lo s ≤ z ∧ z ≤ hi s
    · exact (h (mem_rdL.mpr ⟨s, hs, c.1, c.2⟩)).elim
    · omega
theorem mem_seg {a b z : Int} : z ∈ seg a b ↔ a ≤ z ∧ z ≤ b := by
  unfold seg
  rw [List.mem_map]
  constructor
  · rintro ⟨m, hm, rfl⟩
    rw [List.mem_range] at hm
    omega
  · rintro ⟨h1, h2⟩
    exact ⟨(z - a).toNat, by rw [List.mem_range]; omega, by omega⟩
theorem seg_app {b c : Int} (h2 : b ≤ c) : ∀ (n : Nat) (a : Int), (b + 1 - a).toNat = n → a ≤ b + 1 → seg a b ++ seg (b + 1) c = seg a c
  | 0, a, e, h => by
    have : a = b + 1 := by omega
    rw [seg_nil (show b < a by omega), this]
    rfl
  | n + 1, a, e, h => by
    rw [seg_cons (show a ≤ b by omega), seg_cons (show a ≤ c by omega), List.cons_append, seg_app h2 n (a + 1) (by omega) (by omega)]
theorem seg_out {f : Int → Bool} {a b : Int} (h : ∀ z, a ≤ z → z ≤ b → f z = true) : (seg a b).filter f = seg a b :=
  List.filter_eq_self.mpr fun z hz => h z (mem_seg.mp hz).1 (mem_seg.mp hz).2
theorem seg_in {f : Int → Bool} {a b : Int} (h : ∀ z, a ≤ z → z ≤ b → f z = false) : (seg a b).filter f = [] :=
  List.filter_eq_nil_iff.mpr fun z hz => by rw [h z (mem_seg.mp hz).1 (mem_seg.mp hz).2]; decide
def ins (l g : Int) (t : Sc) : Bool := decide (l < t.1 ∧ t.2 < g)
/-- the walk along the intervals: k of them are behind, st is where the next row begins -/
structure OI (zs : List Sc) (l g : Int) (k : Nat) (st : Int) (L : List Sc) : Prop where
  rows : rdL L = (seg l (st - 1)).filter (out zs)
  ge : l ≤ st
  bel : ∀ (i : Nat) (t : Sc), zs[i]? = some t → i < k → t.2 < st
  abv : ∀ (i : Nat) (t : Sc), zs[i]? = some t → k ≤ i → st ≤ t.2
  src : st = l ∨ ∃ (j : Nat) (t : Sc), j < k ∧ zs[j]? = some t ∧ t.1 ≤ g ∧ st = t.2 + 1
  few : L.length ≤ ((zs.take k).filter (ins l g)).length + if st ≤ g then 0 else 1
theorem OI.start {zs : List Sc} {l g : Int} {k : Nat} (b : ∀ (i : Nat) (t : Sc), zs[i]? = some t → i < k → t.2 < l) (a : ∀ (i : Nat) (t : Sc), zs[i]? = some t → k ≤ i → l ≤ t.2) : OI zs l g k l [] := by
  refine ⟨?_, Int.le_refl _, b, a, .inl rfl, Nat.zero_le _⟩
  rw [seg_nil (by omega)]
  rfl
theorem rd_seg {a b : Int} (h : a ≤ b) : rd (a, b) = seg a b := rd_up h
theorem out_no {zs : List Sc} {z : Int} {t : Sc} (h : t ∈ zs) (a : t.1 ≤ z) (b : z ≤ t.2) : out zs z = false := by
  refine Bool.eq_false_iff.mpr fun y => ?_
  have := out_iff.mp y t h
  omega
/-- between what is behind and the next interval all addresses are outside -/
theorem OI.free {zs : List Sc} (A : Asc zs) {l g : Int} {k : Nat} {st : Int} {L : List Sc} (I : OI zs l g k st L) {z : Int} (h1 : st ≤ z) (h2 : ∀ t, zs[k]? = some t → z < t.1) : out zs z = true := by
  refine out_iff.mpr fun t ht => ?_
  obtain ⟨i, hi⟩ := List.getElem?_of_mem ht
  by_cases c : i < k
  · have := I.bel i t hi c
    omega
  · by_cases e : i = k
    · subst e
      exact .inl (h2 t hi)
    · have lk : k < zs.length := by
        have := (List.getElem?_eq_some_iff.mp hi).1
        omega
      have hk := List.getElem?_eq_getElem lk
      have a := A.next hk hi (by omega)
      have b := A.leAt hk
      have := h2 _ hk
      omega
theorem OI.le_at {zs : List Sc} (A : Asc zs) {l g : Int} {k : Nat} {st : Int} {L : List Sc} (I : OI zs l g k st L) {t : Sc} (hk : zs[k]? = some t) (lg : l ≤ g) (hg : t.1 ≤ g) : st ≤ g := by
  rcases I.src with e | ⟨j, u, hj, hu, _, e⟩
  · omega
  · have := A.next hu hk hj
    omega
theorem OI.step {zs : List Sc} (A : Asc zs) {l g : Int} {k : Nat} {st : Int} {L : List Sc} (I : OI zs l g k st L) {t : Sc} (hk : zs[k]? = some t) (lg : l ≤ g) (hg : t.1 ≤ g) :
    OI zs l g (k + 1) (t.2 + 1) (if st < t.1 then L ++ [(st, t.1 - 1)] else L) := by
  have tl := A.leAt hk
  have ta := I.abv k t hk (Nat.le_refl _)
  have sg := I.le_at A hk lg hg
  have ge := I.ge
  have tm := List.mem_of_getElem? hk
  refine ⟨?_, by omega, fun i u hu hi => ?_, fun i u hu hi => ?_, .inr ⟨k, t, Nat.lt_succ_self _, hk, hg, rfl⟩, ?_⟩
  · rw [show t.2 + 1 - 1 = t.2 by omega]
    by_cases c : st < t.1
    · rw [if_pos c, rdL_app, I.rows, show rdL [(st, t.1 - 1)] = rd (st, t.1 - 1) from List.append_nil _, rd_seg (by omega)]
      have e1 := seg_app (b := t.1 - 1) (c := t.2) (by omega) _ l rfl (by omega)
      have e2 := seg_app (b := st - 1) (c := t.1 - 1) (by omega) _ l rfl (by omega)
      rw [show st - 1 + 1 = st by omega] at e2
      rw [← e1, ← e2, List.filter_append, List.filter_append, seg_out (a := st) (b := t.1 - 1) fun z h1 h2 => I.free A h1 fun u hu => ?_, seg_in (a := t.1 - 1 + 1) fun z h1 h2 => out_no tm (by omega) h2, List.append_nil]
      rw [hk] at hu
      cases hu
      omega
    · rw [if_neg c, I.rows]
      have e1 := seg_app (b := st - 1) (c := t.2) (by omega) _ l rfl (by omega)
      rw [← e1, List.filter_append, seg_in (a := st - 1 + 1) fun z h1 h2 => out_no tm (by omega) h2, List.append_nil]
  · by_cases c : i < k
    · have := A.next hu hk c
      omega
    · have : i = k := by omega
      subst this
      rw [hk] at hu
      cases hu
      omega
  · have a := A.next hk hu (by omega)
    have b := A.leAt hu
    omega
  · have f := I.few
    rw [if_pos sg] at f
    have e : (zs.take (k + 1)).filter (ins l g) = (zs.take k).filter (ins l g) ++ if ins l g t = true then [t] else [] := by
      rw [List.take_add_one, hk, List.filter_append]
      congr 1
      show [t].filter _ = _
      rw [List.filter_cons]
      rfl
    rw [e, List.length_append]
    by_cases c : st < t.1
    · rw [if_pos c, List.length_append, List.length_singleton]
      by_cases d : t.2 + 1 ≤ g
      · rw [if_pos d, if_pos (show ins l g t = true from decide_eq_true ⟨by omega, by omega⟩), List.length_singleton]
        omega
      · rw [if_neg d]
        omega
    · rw [if_neg c]
      omega
theorem OI.stop {zs : List Sc} (A : Asc zs) {l g : Int} {k : Nat} {st : Int} {L : List Sc} (I : OI zs l g k st L) (hk : ∀ t, zs[k]? = some t → g < t.1) (lg : l ≤ g) :
    rdL (if st ≤ g then L ++ [(st, g)] else L) = (seg l g).filter (out zs) ∧ (if st ≤ g then L ++ [(st, g)] else L).length ≤ 1 + (zs.filter (ins l g)).length := by
  have ge := I.ge
  have f := I.few
  have tk : ((zs.take k).filter (ins l g)).length ≤ (zs.filter (ins l g)).length := ((List.take_sublist k zs).filter _).length_le
  by_cases c : st ≤ g
  · rw [if_pos c]
    rw [if_pos c] at f
    refine ⟨?_, by rw [List.length_append, List.length_singleton]; omega⟩
    rw [rdL_app, I.rows, show rdL [(st, g)] = rd (st, g) from List.append_nil _, rd_seg c]
    have e2 := seg_app (b := st - 1) (c := g) (by omega) _ l rfl (by omega)
    rw [show st - 1 + 1 = st by omega] at e2
    rw [← e2, List.filter_append, seg_out (a := st) fun z h1 h2 => I.free A h1 fun u hu => by have := hk u hu; omega]
  · rw [if_neg c]
    rw [if_neg c] at f
    refine ⟨?_, by omega⟩
    rcases I.src with e | ⟨j, u, hj, hu, hg, e⟩
    · omega
    · rw [I.rows]
      have e2 := seg_app (b := g) (c := st - 1) (by omega) _ l rfl (by omega)
      rw [← e2, List.filter_append, seg_in (a := g + 1) fun z h1 h2 => out_no (List.mem_of_getElem? hu) (by omega) (by omega), List.append_nil]
theorem OI.all {zs : List Sc} (A : Asc zs) {s : Sc} {k : Nat} {st : Int} {L : List Sc} (I : OI zs (lo s) (hi s) k st L) (hk : ∀ t, zs[k]? = some t → hi s < t.1) :
    rdL (if s.1 ≤ s.2 then (if st ≤ hi s then L ++ [(st, hi s)] else L) else (if st ≤ hi s then L ++ [(st, hi s)] else L).reverse.map swp) = (rd s).filter (out zs) := by
  have z := (I.stop A hk (lo_hi s)).1
  by_cases c : s.1 ≤ s.2
  · rw [if_pos c, z, rd_up c]
    unfold lo hi
    rw [if_neg (by omega)]
    congr 2
    split <;> omega
  · rw [if_neg c, rdL_rev, z, rd_dn (by omega), ← List.filter_reverse]
    unfold lo hi
    rw [if_pos (by omega), if_neg (by omega)]
/-! ### how many rows there are -/
def cntS (ss zs : List Sc) : Nat := (ss.map fun s => (zs.filter (ins (lo s) (hi s))).length).sum
theorem cntS_le (ss zs : List Sc) : cntS ss zs ≤ ss.length * zs.length := by
  unfold cntS
  induction ss with
  | nil => exact Nat.zero_le _
  | cons s r ih =>
    rw [List.map_cons, List.sum_cons, List.length_cons, Nat.succ_mul]
    have := List.length_filter_le (ins (lo s) (hi s)) zs
    omega
theorem cntS_apart {ss : List Sc} (d : ss.Pairwise Apart) : ∀ {zs : List Sc}, (∀ t ∈ zs, t.1 ≤ t.2) → cntS ss zs ≤ zs.length
  | [], _ => by
    unfold cntS
    rw [show (ss.map fun s => (([] : List Sc).filter (ins (lo s) (hi s))).length) = ss.map fun _ => 0 from rfl]
    clear d
    induction ss with
    | nil => exact Nat.le_refl _
    | cons s r ih => rw [List.map_cons, List.sum_cons]; exact (Nat.zero_add _).symm ▸ ih
  | z :: zs, h => by
    have ih := cntS_apart d (zs := zs) fun t ht => h t (List.mem_cons_of_mem _ ht)
    have hz := h z List.mem_cons_self
    have e : ∀ l : List Sc, cntS l (z :: zs) = cntS l zs + (l.filter fun s => ins (lo s) (hi s) z).length := by
      intro l
      induction l with
      | nil => rfl
      | cons s r ihr =>
        unfold cntS at ihr ⊢
        rw [List.map_cons, List.sum_cons, List.map_cons, List.sum_cons, ihr, List.filter_cons, List.filter_cons]
        split
        · rw [List.length_cons, List.length_cons]
          omega
        · omega
    have o : (ss.filter fun s => ins (lo s) (hi s) z).length ≤ 1 := by
      clear e ih h
      induction ss with
      | nil => exact Nat.zero_le _
      | cons s r ihr =>
        obtain ⟨d1, d2⟩ := List.pairwise_cons.mp d
        rw [List.filter_cons]
        split
        · rename_i c
          have c : lo s < z.1 ∧ z.2 < hi s := of_decide_eq_true c
          rw [List.filter_eq_nil_iff.mpr fun t ht y => ?_]
          · exact Nat.le_refl _
          · have y : lo t < z.1 ∧ z.2 < hi t := of_decide_eq_true y
            rcases d1 t ht with q | q <;> omega
        · exact ihr d2
    rw [e, List.length_cons]
    omega
theorem Apart.one (s : Sc) : [s].Pairwise Apart := List.pairwise_singleton _ _
/-! ### promises -/
def spReach : Sp := fun vs H Q _ => ∃ (p : Addr) (zs : List Sc) (a : Int), vs = [.ref p, .int a] ∧ Scs H p zs ∧ zs.length ≤ 2 ^ 20 ∧ Asc zs ∧
  ∀ k : Nat, k ≤ zs.length → (∀ (i : Nat) (t : Sc), zs[i]? = some t → i < k → t.2 < a) → (∀ (i : Nat) (t : Sc), zs[i]? = some t → k ≤ i → a ≤ t.2) → RetV (.int k) H Q
def spOutside : Sp := fun vs H Q _ => ∃ (v : V) (p : Addr) (s : Sc) (zs : List Sc), vs = [v, .ref p] ∧ IsSc H v s ∧ Scs H p zs ∧ zs.length ≤ 1000 ∧ Asc zs ∧
  ∀ q H' rows, H q = none → Ex H H' → Scs H' q rows → rdL rows = (rd s).filter (out zs) → rows.length ≤ 1 + (zs.filter (ins (lo s) (hi s))).length → Q (.ref q) H'
def spOthers : Sp := fun vs H Q _ => ∃ (a t : Addr) (ss ts : List Sc), vs = [.ref a, .ref t] ∧ Scs H a ss ∧ Scs H t ts ∧ ss.length ≤ 1000 ∧ ts.length ≤ 1000 ∧ ts.Pairwise Apart ∧
  ∀ p H' rows, H p = none → Ex H H' → Scs H' p rows → rdL rows = (rdL ss).filter (outL ts) → rows.length ≤ ss.length * (ts.length + 1) → (ss.Pairwise Apart → rows.length ≤ ss.length + ts.length) → Q (.ref p) H'
def ahead (ts ss : List Sc) : List Sc := jn (dup (rdL ts ++ (rdL ss).filter (outL ts)))
def spAhead : Sp := fun vs H Q _ => ∃ (t a : Addr) (ts ss : List Sc), vs = [.ref t, .ref a] ∧ Scs H t ts ∧ Scs H a ss ∧ ts.length ≤ 1000 ∧ ss.length ≤ 1000 ∧ ts.Pairwise Apart ∧
  ∀ p H', H p = none → Ex H H' → Scs H' p (ahead ts ss) → (ss.Pairwise Apart → (ahead ts ss).length ≤ 2 * ts.length + ss.length) → Q (.ref p) H'
end Kb
namespace Kb
/-! ### pieces of profiles, without a program -/
abbrev Pc := Int × Int × Int
def wt (G : Int → Int) : List Pc → Int
  | [] => 0
  | p :: r => p.2.2 * (G p.1 - G (p.2.1 + 1)) + wt G r
def ind (x y : Int) : Int := if y = x then 1 else 0
def chg (ps : List Pc) (x : Int) : Int := wt (ind x) ps
def sumG (c G : Int → Int) : List Int → Int
  | [] => 0
  | k :: r => c k * G k + sumG c G r
theorem wt_app (G : Int → Int) : ∀ a b : List Pc, wt G (a ++ b) = wt G a + wt G b
  | [], b => by simp [wt]
  | p :: r, b => by
    show _ + wt G (r ++ b) = _ + wt G r + wt G b
    rw [wt_app G r b]
    omega
theorem sumG_perm {c G : Int → Int} {a b : List Int} (h : a.Perm b) : sumG c G a = sumG c G b := by
  induction h with
  | nil => rfl
  | cons x _ ih =>
    show _ + _ = _ + _
    rw [ih]
  | swap x y l =>
    show c y * G y + (c x * G x + sumG c G l) = c x * G x + (c y * G y + sumG c G l)
    omega
  | trans _ _ h1 h2 => exact h1.trans h2
theorem sumG_filter {c G : Int → Int} : ∀ ks : List Int, sumG c G (ks.filter fun k => decide (c k ≠ 0)) = sumG c G ks
  | [] => rfl
  | k :: r => by
    rw [List.filter_cons]
    by_cases h : c k = 0
    · rw [if_neg (by simp [h]), sumG_filter r]
      show _ = c k * G k + _
      rw [h]
      omega
    · rw [if_pos (by simp [h])]
      show c k * G k + _ = c k * G k + _
      rw [sumG_filter r]
theorem sumG_add {c d G : Int → Int} : ∀ ks : List Int, sumG (fun x => c x + d x) G ks = sumG c G ks + sumG d G ks
  | [] => rfl
  | k :: r => by
    show (c k + d k) * G k + sumG _ G r = (c k * G k + _) + (d k * G k + _)
    rw [sumG_add r, Int.add_mul]
    omega
theorem sumG_sub {c d G : Int → Int} : ∀ ks : List Int, sumG (fun x => c x - d x) G ks = sumG c G ks - sumG d G ks
  | [] => rfl
  | k :: r => by
    show (c k - d k) * G k + sumG _ G r = (c k * G k + _) - (d k * G k + _)
    rw [sumG_sub r, Int.sub_mul]
    omega
theorem sumG_ind {t l : Int} {G : Int → Int} : ∀ {ks : List Int}, ks.Nodup → sumG (fun x => t * ind x l) G ks = if l ∈ ks then t * G l else 0
  | [], _ => by simp [sumG]
  | k :: r, nd => by
    have n := List.nodup_cons.mp nd
    show t * ind k l * G k + sumG _ G r = _
    rw [sumG_ind n.2]
    by_cases h : l = k
    · subst h
      rw [if_neg n.1, if_pos (List.mem_cons_self ..)]
      unfold ind
      rw [if_pos rfl]
      simp
    · have : ind k l = 0 := if_neg h
      rw [this]
      by_cases m : l ∈ r
      · rw [if_pos m, if_pos (List.mem_cons_of_mem _ m)]
        simp
      · rw [if_neg m, if_neg (by simp [h, m])]
        simp
theorem sumG_wt {G : Int → Int} {ks : List Int} (nd : ks.Nodup) : ∀ {ps : List Pc}, (∀ p ∈ ps, p.1 ∈ ks ∧ p.2.1 + 1 ∈ ks) → sumG (chg ps) G ks = wt G ps
  | [], _ => by
    have z : ∀ ks : List Int, sumG (chg []) G ks = 0 := fun ks => by
      induction ks with
      | nil => rfl
      | cons k r ih =>
        show 0 * G k + _ = 0
        rw [ih]
        omega
    exact z ks
  | p :: r, h => by
    have hp := h p (List.mem_cons_self ..)
    have e : chg (p :: r) = fun x => (fun x => (fun x => p.2.2 * ind x p.1) x - (fun x => p.2.2 * ind x (p.2.1 + 1)) x) x + chg r x := by
      funext x
      show p.2.2 * (ind x p.1 - ind x (p.2.1 + 1)) + wt (ind x) r = _
      rw [Int.mul_sub]
      rfl
    rw [e, sumG_add, sumG_sub, sumG_ind nd, sumG_ind nd, if_pos hp.1, if_pos hp.2, sumG_wt nd fun q hq => h q (List.mem_cons_of_mem _ hq)]
    show _ = p.2.2 * (G p.1 - G (p.2.1 + 1)) + _
    rw [Int.mul_sub]
/-! ### the rows between the turns -/
def rowsG (c : Int → Int) : List Int → Int → List Pc
  | [], _ => []
  | [_], _ => []
  | s :: f :: r, now => if now + c s ≠ 0 then (s, f - 1, now + c s) :: rowsG c (f :: r) (now + c s) else rowsG c (f :: r) (now + c s)
def lastD (s : Int) : List Int → Int
  | [] => s
  | f :: r => lastD f r
theorem rowsG_wt {c G : Int → Int} : ∀ (r : List Int) (s now : Int), wt G (rowsG c (s :: r) now) = sumG c G (s :: r) + now * G s - (now + sumG c (fun _ => 1) (s :: r)) * G (lastD s r)
  | [], s, now => by
    show 0 = c s * G s + 0 + now * G s - (now + (c s * 1 + 0)) * G s
    rw [Int.mul_one, Int.add_zero, Int.add_zero, Int.add_mul]
    omega
  | f :: r, s, now => by
    have ih := rowsG_wt (c := c) (G := G) r f (now + c s)
    have e1 : wt G (rowsG c (s :: f :: r) now) = (now + c s) * (G s - G f) + wt G (rowsG c (f :: r) (now + c s)) := by
      show wt G (if now + c s ≠ 0 then _ else _) = _
      by_cases h : now + c s = 0
      · rw [if_neg (by simp [h]), h]
        omega
      · rw [if_pos h]
        show (now + c s) * (G s - G (f - 1 + 1)) + _ = _
        rw [Int.sub_add_cancel]
    rw [e1, ih]
    show _ = c s * G s + sumG c G (f :: r) + now * G s - (now + (c s * 1 + sumG c (fun _ => 1) (f :: r))) * G (lastD f r)
    rw [Int.mul_one, ← Int.add_assoc now (c s), Int.mul_sub, Int.add_mul now (c s) (G s)]
    omega
/-- as few pieces as possible, ascending -/
def Can : List Pc → Prop
  | [] => True
  | p :: r => p.1 ≤ p.2.1 ∧ p.2.2 ≠ 0 ∧ (∀ q ∈ r.head?, p.2.1 < q.1 ∧ (p.2.1 + 1 = q.1 → p.2.2 ≠ q.2.2)) ∧ Can r
theorem rowsG_can {c : Int → Int} : ∀ (r : List Int) (s now : Int), (s :: r).Pairwise (· < ·) → (∀ x ∈ s :: r, c x ≠ 0) → Can (rowsG c (s :: r) now) ∧ ∀ q ∈ (rowsG c (s :: r) now).head?, s ≤ q.1 ∧ (s = q.1 → now ≠ q.2.2)
  | [], s, now, _, _ => ⟨trivial, fun q h => by cases h⟩
  | f :: r, s, now, o, h => by
    have o2 := List.pairwise_cons.mp o
    have lt : s < f := o2.1 f (List.mem_cons_self ..)
    have hs := h s (List.mem_cons_self ..)
    obtain ⟨ih1, ih2⟩ := rowsG_can r f (now + c s) o2.2 fun x hx => h x (List.mem_cons_of_mem _ hx)
    show Can (if now + c s ≠ 0 then _ else _) ∧ ∀ q ∈ (if now + c s ≠ 0 then _ else _ : List Pc).head?, _
    by_cases z : now + c s = 0
    · rw [if_neg (by simp [z])]
      refine ⟨ih1, fun q hq => ?_⟩
      have := ih2 q hq
      exact ⟨by omega, fun e => by omega⟩
    · rw [if_pos z]
      refine ⟨⟨by show s ≤ f - 1; omega, z, fun q hq => ?_, ih1⟩, fun q hq => ?_⟩
      · have := ih2 q hq
        exact ⟨by show f - 1 < q.1; omega, fun e => this.2 (by have e' : f - 1 + 1 = q.1 := e; omega)⟩
      · cases hq
        exact ⟨Int.le_refl _, fun _ e => hs (by have e' : now = now + c s := e; omega)⟩
theorem rowsG_len {c : Int → Int} : ∀ (r : List Int) (s now : Int), (rowsG c (s :: r) now).length ≤ r.length
  | [], s, now => Nat.le_refl _
  | f :: r, s, now => by
    have ih := rowsG_len (c := c) r f (now + c s)
    show (if now + c s ≠ 0 then _ else _ : List Pc).length ≤ _
    split
    · exact Nat.succ_le_succ ih
    · exact Nat.le_succ_of_le ih
/-- THE fact about flattened: rows with the same weights, as few as possible -/
theorem flat_ok {ps : List Pc} {ks ts : List Int} (nd : ks.Nodup) (hk : ∀ p ∈ ps, p.1 ∈ ks ∧ p.2.1 + 1 ∈ ks) (hp : ts.Perm (ks.filter fun k => decide (chg ps k ≠ 0))) (o : ts.Pairwise (· ≤ ·)) :
    Can (rowsG (chg ps) ts 0) ∧ (∀ G, wt G (rowsG (chg ps) ts 0) = wt G ps) ∧ (rowsG (chg ps) ts 0).length ≤ ks.length := by
  have tot : ∀ G, sumG (chg ps) G ts = wt G ps := fun G => by rw [sumG_perm hp, sumG_filter, sumG_wt nd hk]
  have nt : ts.Nodup := hp.nodup_iff.mpr (nd.sublist List.filter_sublist)
  have o2 : ts.Pairwise (· < ·) := by
    have := o.and nt
    exact this.imp fun ⟨a, b⟩ => by omega
  have hz : ∀ x ∈ ts, chg ps x ≠ 0 := fun x hx => by
    have := (List.mem_filter.mp (hp.mem_iff.mp hx)).2
    simpa using this
  have hl : ts.length ≤ ks.length := by
    rw [hp.length_eq]
    exact List.length_filter_le _ _
  cases ts with
  | nil =>
    refine ⟨trivial, fun G => ?_, Nat.zero_le _⟩
    rw [← tot G]
    rfl
  | cons s r =>
    refine ⟨(rowsG_can r s 0 o2 hz).1, fun G => ?_, Nat.le_trans (rowsG_len r s 0) (by have : (s :: r).length = r.length + 1 := rfl; omega)⟩
    rw [rowsG_wt, tot, tot]
    have one : wt (fun _ => 1) ps = 0 := by
      clear tot hz hk hp
      induction ps with
      | nil => rfl
      | cons p r ih =>
        show p.2.2 * (1 - 1) + wt _ r = 0
        rw [ih]
        simp
    rw [one]
    simp
/-! ### what weights tell -/
def at1 (p : Pc) (d : Int) : Int := if p.1 ≤ d ∧ d ≤ p.2.1 then p.2.2 else 0
def atP (ps : List Pc) (d : Int) : Int := (ps.map fun p => at1 p d).sum
def be1 (p : Pc) (s : Int) : Int := p.2.2 * max 0 (p.2.1 - max (p.1 - 1) s)
def bey (ps : List Pc) (s : Int) : Int := (ps.map fun p => be1 p s).sum
theorem atP_cons (p : Pc) (r : List Pc) (d : Int) : atP (p :: r) d = at1 p d + atP r d := by simp [atP]
theorem bey_cons (p : Pc) (r : List Pc) (d : Int) : bey (p :: r) d = be1 p d + bey r d := by simp [bey]
theorem atP_wt (d : Int) : ∀ {ps : List Pc}, (∀ p ∈ ps, p.1 ≤ p.2.1) → atP ps d = wt (fun y => if y ≤ d then 1 else 0) ps
  | [], _ => rfl
  | p :: r, h => by
    have hp := h p (List.mem_cons_self ..)
    rw [atP_cons, atP_wt d fun q hq => h q (List.mem_cons_of_mem _ hq)]
    show _ = p.2.2 * (_ - _) + _
    congr 1
    show _ = p.2.2 * ((if p.1 ≤ d then 1 else 0) - (if p.2.1 + 1 ≤ d then 1 else 0))
    unfold at1
    by_cases a : p.1 ≤ d
    · by_cases b : d ≤ p.2.1
      · rw [if_pos ⟨a, b⟩, if_pos a, if_neg (by omega)]
        omega
      · rw [if_neg (fun z => b z.2), if_pos a, if_pos (by omega)]
        omega
    · rw [if_neg (fun z => a z.1), if_neg a, if_neg (by omega)]
      omega
theorem Can.le : ∀ {rs : List Pc}, Can rs → ∀ p ∈ rs, p.1 ≤ p.2.1
  | p :: r, h, q, hq => by
    rcases List.mem_cons.mp hq with rfl | hq
    · exact h.1
    · exact Can.le h.2.2.2 q hq
theorem Can.above : ∀ {p : Pc} {r : List Pc}, Can (p :: r) → ∀ q ∈ r, p.2.1 < q.1
  | p, q :: r, h, x, hx => by
    have h1 := (h.2.2.1 q rfl).1
    rcases List.mem_cons.mp hx with rfl | hx
    · exact h1
    · have := Can.above h.2.2.2 x hx
      have := h.2.2.2.1
      omega
theorem atP_zero {ps : List Pc} {d : Int} (h : ∀ p ∈ ps, d < p.1 ∨ p.2.1 < d) : atP ps d = 0 := by
  induction ps with
  | nil => rfl
  | cons p r ih =>
    rw [atP_cons, ih fun q hq => h q (List.mem_cons_of_mem _ hq)]
    unfold at1
    rw [if_neg]
    · rfl
    · have := h p (List.mem_cons_self ..)
      omega
/-- in the fewest pieces each distance is told by one -/
theorem Can.at : ∀ {rs : List Pc}, Can rs → ∀ p ∈ rs, ∀ d, p.1 ≤ d → d ≤ p.2.1 → atP rs d = p.2.2
  | p :: r, h, q, hq, d, h1, h2 => by
    rw [atP_cons]
    rcases List.mem_cons.mp hq with rfl | hq
    · rw [atP_zero fun x hx => by have := Can.above h x hx; omega]
      unfold at1
      rw [if_pos ⟨h1, h2⟩]
      omega
    · rw [Can.at h.2.2.2 q hq d h1 h2]
      unfold at1
      rw [if_neg]
      · omega
      · have := Can.above h q hq
        omega
def Pok (p : Pc) : Prop := 1 ≤ p.1 ∧ p.1 ≤ p.2.1 ∧ 1 ≤ p.2.2
def tsum (ps : List Pc) : Int := (ps.map fun p => p.2.2).sum
theorem atP_le : ∀ {ps : List Pc}, (∀ p ∈ ps, Pok p) → ∀ d, 0 ≤ atP ps d ∧ atP ps d ≤ tsum ps
  | [], _, d => ⟨Int.le_refl _, Int.le_refl _⟩
  | p :: r, h, d => by
    have hp := h p (List.mem_cons_self ..)
    have ih := atP_le (fun q hq => h q (List.mem_cons_of_mem _ hq)) d
    have e : tsum (p :: r) = p.2.2 + tsum r := by simp [tsum]
    rw [atP_cons, e]
    unfold at1
    have := hp.2.2
    split <;> omega
theorem atP_pos {ps : List Pc} {d : Int} (h : atP ps d ≠ 0) : ∃ p ∈ ps, p.1 ≤ d ∧ d ≤ p.2.1 := by
  induction ps with
  | nil => exact absurd rfl h
  | cons p r ih =>
    by_cases c : p.1 ≤ d ∧ d ≤ p.2.1
    · exact ⟨p, List.mem_cons_self .., c⟩
    · rw [atP_cons] at h
      unfold at1 at h
      rw [if_neg c, Int.zero_add] at h
      obtain ⟨q, hq, e⟩ := ih h
      exact ⟨q, List.mem_cons_of_mem _ hq, e⟩
/-- pieces rs that tell the same as valid pieces ps -/
structure Tells (ps rs : List Pc) : Prop where
  can : Can rs
  wt : ∀ G, wt G rs = wt G ps
theorem Tells.at {ps rs : List Pc} (T : Tells ps rs) (h : ∀ p ∈ ps, Pok p) (d : Int) : atP rs d = atP ps d := by
  rw [atP_wt d T.can.le, atP_wt d fun p hp => (h p hp).2.1, T.wt]
theorem Tells.row {ps rs : List Pc} (T : Tells ps rs) (h : ∀ p ∈ ps, Pok p) {p : Pc} (hp : p ∈ rs) : 1 ≤ p.1 ∧ p.1 ≤ p.2.1 ∧ 1 ≤ p.2.2 ∧ p.2.2 ≤ tsum ps ∧ ∃ q ∈ ps, p.2.1 ≤ q.2.1 := by
  have le := T.can.le p hp
  have a1 := T.can.at p hp p.1 (Int.le_refl _) le
  have a2 := T.can.at p hp p.2.1 le (Int.le_refl _)
  rw [T.at h] at a1 a2
  have b := atP_le h p.1
  have nz : p.2.2 ≠ 0 := by
    have f : ∀ {rs : List Pc}, Can rs → ∀ p ∈ rs, p.2.2 ≠ 0 := by
      intro rs
      induction rs with
      | nil => intro _ p hp; cases hp
      | cons q r ih =>
        intro c p hp
        rcases List.mem_cons.mp hp with rfl | hp
        · exact c.2.1
        · exact ih c.2.2.2 p hp
    exact f T.can p hp
  obtain ⟨q, hq, q1, q2⟩ := atP_pos (ps := ps) (d := p.1) (by rw [a1]; exact nz)
  obtain ⟨q', hq', _, q2'⟩ := atP_pos (ps := ps) (d := p.2.1) (by rw [a2]; exact nz)
  have := h q hq
  exact ⟨by have := this.1; omega, le, by omega, by omega, q', hq', q2'⟩
/-! ### the least size -/
/-- two lists of the fewest pieces that tell the same are one -/
theorem Can.unique : ∀ {rs qs : List Pc}, Can rs → Can qs → (∀ d, atP rs d = atP qs d) → rs = qs := by
  have nil : ∀ {qs : List Pc}, Can qs → (∀ d, atP [] d = atP qs d) → qs = [] := by
    intro qs c h
    cases qs with
    | nil => rfl
    | cons q r =>
      have a := c.at q (List.mem_cons_self ..) q.1 (Int.le_refl _) c.1
      rw [← h] at a
      exact absurd a.symm c.2.1
  have lowest : ∀ {p q : Pc} {r s : List Pc}, Can (p :: r) → Can (q :: s) → (∀ d, atP (p :: r) d = atP (q :: s) d) → p.1 ≤ q.1 := by
    intro p q r s c1 c2 h
    by_cases z : p.1 ≤ q.1
    · exact z
    · have a := c2.at q (List.mem_cons_self ..) q.1 (Int.le_refl _) c2.1
      rw [← h, atP_zero fun x hx => by
        rcases List.mem_cons.mp hx with rfl | hx
        · omega
        · have := Can.above c1 x hx
          have := c1.1
          omega] at a
      exact absurd a.symm c2.2.1
  have ends : ∀ {p q : Pc} {r s : List Pc}, Can (p :: r) → Can (q :: s) → (∀ d, atP (p :: r) d = atP (q :: s) d) → p.1 = q.1 → p.2.2 = q.2.2 → p.2.1 ≤ q.2.1 := by
    intro p q r s c1 c2 h e1 e2
    by_cases z : p.2.1 ≤ q.2.1
    · exact z
    · have a := c1.at p (List.mem_cons_self ..) (q.2.1 + 1) (by have := c2.1; omega) (by omega)
      rw [h, atP_cons] at a
      unfold at1 at a
      rw [if_neg (by omega), Int.zero_add] at a
      obtain ⟨x, hx, x1, x2⟩ := atP_pos (by rw [a]; exact c1.2.1)
      have := Can.above c2 x hx
      have ex : x.1 = q.2.1 + 1 := by omega
      have ax := c2.2.2.2.at x hx (q.2.1 + 1) x1 x2
      rw [a] at ax
      cases s with
      | nil => cases hx
      | cons y s =>
        have hy := c2.2.2.1 y rfl
        rcases List.mem_cons.mp hx with rfl | hx
        · exact absurd (by rw [← ax, e2]) (hy.2 ex.symm)
        · have := Can.above c2.2.2.2 x hx
          have := c2.2.2.2.1
          omega
  intro rs
  induction rs with
  | nil => intro qs c1 c2 h; exact (nil c2 h).symm
  | cons p r ih =>
    intro qs c1 c2 h
    cases qs with
    | nil => exact absurd (nil c1 fun d => (h d).symm) (by simp)
    | cons q s =>
      have e1 : p.1 = q.1 := Int.le_antisymm (lowest c1 c2 h) (lowest c2 c1 fun d => (h d).symm)
      have e2 : p.2.2 = q.2.2 := by
        have a := c1.at p (List.mem_cons_self ..) p.1 (Int.le_refl _) c1.1
        have b := c2.at q (List.mem_cons_self ..) p.1 (by omega) (by have := c2.1; omega)
        rw [h] at a
        rw [← a, ← b]
      have e3 : p.2.1 = q.2.1 := Int.le_antisymm (ends c1 c2 h e1 e2) (ends c2 c1 (fun d => (h d).symm) e1.symm e2.symm)
      have ep : p = q := by
        obtain ⟨x, y, z⟩ := p
        obtain ⟨x', y', z'⟩ := q
        simp only at e1 e2 e3
        rw [e1, e2, e3]
      subst ep
      rw [ih c1.2.2.2 c2.2.2.2 fun d => by have := h d; rw [atP_cons, atP_cons] at this; omega]
end Kb
namespace Kb
open PySem PySem.Spec PyProof.Rows L2
/-! ### heaps that grow, while ponds are drawn from -/
def Plain : HO → Prop
  | .ext _ => False
  | _ => True
def Nx (H H' : Hp) : Prop := ∀ a o, H a = some o → ∃ o', H' a = some o' ∧ (Plain o → o' = o)
theorem Ex.nx {H H' : Hp} (e : Ex H H') : Nx H H' := fun a o h => ⟨o, e a o h, fun _ => rfl⟩
theorem Nx.refl (H : Hp) : Nx H H := (Ex.refl H).nx
theorem Nx.trans {H H1 H2 : Hp} (a : Nx H H1) (b : Nx H1 H2) : Nx H H2 := fun x o h => by
  obtain ⟨o1, h1, p1⟩ := a x o h
  obtain ⟨o2, h2, p2⟩ := b x o1 h1
  refine ⟨o2, h2, fun p => ?_⟩
  have e1 := p1 p
  subst e1
  exact p2 p
theorem Nx.at {H H' : Hp} {a : Addr} {o : HO} (e : Nx H H') (h : H a = some o) (p : Plain o := by trivial) : H' a = some o := by
  obtain ⟨o1, h1, p1⟩ := e a o h
  rw [h1, p1 p]
theorem Nx.back {H H' : Hp} {p : Addr} (e : Nx H H') (h : H' p = none) : H p = none := by
  cases h1 : H p with
  | none => rfl
  | some o =>
    obtain ⟨o1, h2, _⟩ := e p o h1
    rw [h] at h2
    cases h2
theorem Nx.add {H H' : Hp} {p : Addr} {o : HO} (e : Nx H H') (h : H' p = none) : Nx H (upd H' p o) := e.trans (Ex.new h).nx
theorem Nx.mut {H H' : Hp} {p : Addr} {o : HO} (e : Nx H H') (h : H p = none) : Nx H (upd H' p o) := fun a u ha => by
  rw [upd_ne (ne_of_none ha h)]
  exact e a u ha
/-! ### a pond: a list of three ints; its last one counts how often it was drawn from -/
structure Pn (n : Nat) (c t : Int) : Prop where
  c0 : 0 ≤ c
  c1 : c ≤ 10 ^ 45
  t0 : 0 ≤ t
  t1 : t ≤ (n : Int)
theorem Pn.mono {n m : Nat} {c t : Int} (h : Pn n c t) (le : n ≤ m) : Pn m c t := ⟨h.c0, h.c1, h.t0, by have := h.t1; omega⟩
def pondP (n : Nat) (b : Addr) (h : Heap) : Prop := ∃ (x c t : Int) (its : List Value) (k : Nat), Pn n c t ∧ Vals [V.int x, V.int c, V.int t] its ∧ h.get? b = some { cls := .type "list", data := .seq its.toArray k }
def pondO (n : Nat) (b : Addr) : HO := .ext (pondP n b)
theorem pond_ok {P : Program} {w : World} {H H1 : Hp} {h : Heap} {b : Addr} {n : Nat} {x c t : Int} (k : Pn n c t) (e : ObjOk P w H h b (.lst [.int x, .int c, .int t])) : ObjOk P w H1 h b (pondO n b) := by
  obtain ⟨_, its, m, r, g⟩ := e
  exact ⟨⟨x, c, t, its, m, k, r, g⟩, ⟨_, g⟩, fun h1 h2 p k => by
    obtain ⟨x, c, t, its, m, y, r, g⟩ := p
    exact ⟨x, c, t, its, m, y, r, k _ g⟩⟩
theorem pond_open {P : Program} {w : World} {H : Hp} {h : Heap} {b : Addr} {n : Nat} (ok : HOk P w H h) (e : H b = some (pondO n b)) : ∃ x c t : Int, Pn n c t ∧ HOk P w (upd H b (.lst [.int x, .int c, .int t])) h := by
  obtain ⟨⟨x, c, t, its, m, k, r, g⟩, _, _⟩ : ObjOk P w H h b (.ext (pondP n b)) := ok b _ e
  refine ⟨x, c, t, k, fun a o q => ?_⟩
  by_cases hb : a = b
  · subst hb
    rw [upd_same] at q
    cases q
    exact ⟨by show 3 ≤ sizeLine; decide, its, m, r, g⟩
  · rw [upd_ne hb] at q
    refine (ok a o q).stay (fun _ _ _ z => z) (fun d z => ?_) fun d xs z => ?_
    · rw [upd_ne]
      · exact z
      · intro y
        rw [y, e] at z
        cases (show HO.ext (pondP n b) = .own a from Option.some.inj z)
    · rw [upd_ne]
      · exact z
      · intro y
        rw [y, e] at z
        cases (show HO.ext (pondP n b) = .tup xs from Option.some.inj z)
theorem pond_close {P : Program} {w : World} {H : Hp} {h : Heap} {b : Addr} {n : Nat} {x c t : Int} (k : Pn n c t) (ok : HOk P w H h) (e : H b = some (.lst [.int x, .int c, .int t])) : HOk P w (upd H b (pondO n b)) h := fun a o q => by
  by_cases hb : a = b
  · subst hb
    rw [upd_same] at q
    cases q
    exact pond_ok k (ok a _ e)
  · rw [upd_ne hb] at q
    refine (ok a o q).stay (fun _ _ _ z => z) (fun d z => ?_) fun d xs z => ?_
    · rw [upd_ne]
      · exact z
      · intro y
        rw [y, e] at z
        cases z
    · rw [upd_ne]
      · exact z
      · intro y
        rw [y, e] at z
        cases z
/-- a promise about a list of three ints, said of a pond -/
theorem pond_fn {P : Program} {w : World} {K : PySem.W.Frag} {mg : Str → Option Value} {base : Heap} {k : Nat} {f : Addr} {fd : FuncData} {ps : List Str} {sp sp' : Sp} (F : FnOk P w K mg base CX0 k f fd ps sp)
    (h : ∀ vs H Q E, sp' vs H Q E → vs.length = ps.length ∧ ∃ b n m, H b = some (pondO n b) ∧ ∀ x c t : Int, Pn n c t → sp vs (upd H b (.lst [.int x, .int c, .int t])) (fun v H2 => ∃ x c t : Int, Pn m c t ∧ H2 b = some (.lst [.int x, .int c, .int t]) ∧ Q v (upd H2 b (pondO m b))) E) :
    FnOk P w K mg base CX0 k f fd ps sp' := by
  refine ⟨fun vs H Q E q => (h _ _ _ _ q).1, fun A outer s H args us vs Q E hr he hb hv hs => ?_⟩
  obtain ⟨_, b, n, m, eb, q⟩ := h _ _ _ _ hs
  obtain ⟨x, c, t, pk, ok⟩ := pond_open he.hok eb
  have ne : ∀ {d : Addr}, H d = none → d ≠ b := fun {d} n z => by
    rw [z, eb] at n
    cases n
  have e2 : Env0 P w K mg base A outer s (upd H b (.lst [.int x, .int c, .int t])) :=
    ⟨he.frames, he.mod, fun d o z => ⟨(he.bs d o z).1, by rw [upd_ne (ne (he.bs d o z).2)]; exact (he.bs d o z).2⟩, he.bsz, he.funs, fun d z => by rw [upd_ne (ne (he.frf d z))]; exact he.frf d z, ok, he.bare⟩
  refine codeAny_mono (F.run A outer s _ args us vs _ E hr e2 hb hv (q x c t pk)) fun r s' hq => ?_
  cases r with
  | error e => exact hq
  | ok fl =>
    cases fl with
    | next => exact hq
    | brk => exact hq
    | cont => exact hq
    | ret u =>
      obtain ⟨v, H2, os, bare, un, hok, r, x', c', t', k', e3, q3⟩ := hq
      have ne2 : ∀ {d : Addr}, H2 d = none → d ≠ b := fun {d} n z => by
        rw [z, e3] at n
        cases n
      have nb : ∀ {d : Addr} {o : HO}, H d = some o → o ≠ pondO n b → d ≠ b := fun {d o} z y e => by
        rw [e, eb] at z
        exact y (Option.some.inj z).symm
      refine ⟨v, _, os, bare, ?_, pond_close k' hok e3, r, q3⟩
      exact {
        keep := fun d o g n hf hx => un.keep d o g (by rw [upd_ne (ne n)]; exact n) hf hx
        slot := fun d o g n hf hx => un.slot d o g (by rw [upd_ne (ne n)]; exact n) hf hx
        free := fun d o g n hx => by
          have y := un.free d o g (by rw [upd_ne (ne n)]; exact n) hx
          rw [upd_ne (ne2 y)]
          exact y
        there := fun d o g hx => un.there d o g hx
        tups := fun d xs z => by
          have y : d ≠ b := nb z (by intro q; cases (show HO.tup xs = HO.ext (pondP n b) from q))
          rw [upd_ne y]
          exact un.tups d xs (by rw [upd_ne y]; exact z)
        frzs := fun d o u z => by
          have y : d ≠ b := nb z (by intro q; cases (show HO.frz o u = HO.ext (pondP n b) from q))
          rw [upd_ne y]
          exact un.frzs d o u (by rw [upd_ne y]; exact z)
        tbls := fun d xs z => by
          have y : d ≠ b := nb z (by intro q; cases (show HO.tbl xs = HO.ext (pondP n b) from q))
          rw [upd_ne y]
          exact un.tbls d xs (by rw [upd_ne y]; exact z) }
theorem pond_new {P : Program} {w : World} {K : PySem.W.Frag} {mg : Str → Option Value} {base : Heap} {k : Nat} {f : Addr} {fd : FuncData} {ps : List Str} {sp sp' : Sp} (F : FnOk P w K mg base CX0 k f fd ps sp)
    (h : ∀ vs H Q E, sp' vs H Q E → vs.length = ps.length ∧ sp vs H (fun v H2 => ∃ (b : Addr) (m : Nat) (x c t : Int), Pn m c t ∧ v = .ref b ∧ H b = none ∧ H2 b = some (.lst [.int x, .int c, .int t]) ∧ Q v (upd H2 b (pondO m b))) E) :
    FnOk P w K mg base CX0 k f fd ps sp' := by
  refine ⟨fun vs H Q E q => (h _ _ _ _ q).1, fun A outer s H args us vs Q E hr he hb hv hs => ?_⟩
  refine codeAny_mono (F.run A outer s _ args us vs _ E hr he hb hv (h _ _ _ _ hs).2) fun r s' hq => ?_
  cases r with
  | error e => exact hq
  | ok fl =>
    cases fl with
    | next => exact hq
    | brk => exact hq
    | cont => exact hq
    | ret u =>
      obtain ⟨v, H2, os, bare, un, hok, r, b, m, x', c', t', k', ev, e0, e3, q3⟩ := hq
      have ne2 : ∀ {d : Addr}, H2 d = none → d ≠ b := fun {d} n z => by
        rw [z, e3] at n
        cases n
      refine ⟨v, _, os, bare, ?_, pond_close k' hok e3, r, q3⟩
      exact {
        keep := un.keep
        slot := un.slot
        free := fun d o g n hx => by
          have y := un.free d o g n hx
          rw [upd_ne (ne2 y)]
          exact y
        there := un.there
        tups := fun d xs z => by
          rw [upd_ne (ne_of_none z e0)]
          exact un.tups d xs z
        frzs := fun d o u z => by
          rw [upd_ne (ne_of_none z e0)]
          exact un.frzs d o u z
        tbls := fun d xs z => by
          rw [upd_ne (ne_of_none z e0)]
          exact un.tbls d xs z }
/-! ### powers of great ints -/
def CPowW (i j : Int) : Prop := 0 ≤ j ∧ (Builtin.Int.intBits i : Int) * j ≤ 2 ^ 27
theorem op_powW {X : Cx} : OpR X (binaryOp .Pow) (rI CPowW fun i j => .int (i ^ j.toNat)) := opI fun _ _ _ _ _ _ _ hc q => pow_int hc.1 hc.2 q
theorem bits_le {i : Int} {n : Nat} (h : i.natAbs < 2 ^ n) (h0 : 0 < n) : Builtin.Int.intBits i ≤ n := by
  have := PySem.Flt.log2_lt_of h0 h
  unfold Builtin.Int.intBits
  split <;> omega
/-! ### lists of things at addresses -/
section
variable {α : Type} {R : V → α → Prop}
theorem Pr.len : ∀ {vs : List V} {ss : List α}, Paired R vs ss → vs.length = ss.length
  | _, _, .nil => rfl
  | _, _, .cons h t => congrArg (· + 1) (Pr.len t)
theorem Pr.get : ∀ {vs : List V} {ss : List α} {i : Nat} {v : V}, Paired R vs ss → vs[i]? = some v → ∃ s, ss[i]? = some s ∧ R v s
  | _, _, i, v, .nil, e => by simp at e
  | _, _, 0, v, .cons h t, e => by
    cases e
    exact ⟨_, rfl, h⟩
  | _, _, i + 1, v, .cons h t, e => Pr.get (i := i) t e
theorem Pr.mem : ∀ {vs : List V} {ss : List α}, Paired R vs ss → ∀ v ∈ vs, ∃ s ∈ ss, R v s
  | _, _, .cons h t, v, hv => by
    rcases List.mem_cons.mp hv with rfl | hv
    · exact ⟨_, List.mem_cons_self .., h⟩
    · obtain ⟨s, hs, r⟩ := Pr.mem t v hv
      exact ⟨s, List.mem_cons_of_mem _ hs, r⟩
theorem Pr.imp {S : V → α → Prop} (f : ∀ v s, R v s → S v s) : ∀ {vs : List V} {ss : List α}, Paired R vs ss → Paired S vs ss
  | _, _, .nil => .nil
  | _, _, .cons h t => .cons (f _ _ h) (Pr.imp f t)
theorem Pr.app : ∀ {vs us : List V} {ss ts : List α}, Paired R vs ss → Paired R us ts → Paired R (vs ++ us) (ss ++ ts)
  | _, _, _, _, .nil, b => b
  | _, _, _, _, .cons h t, b => .cons h (Pr.app t b)
theorem Pr.snoc {vs : List V} {ss : List α} {v : V} {s : α} (h : Paired R vs ss) (k : R v s) : Paired R (vs ++ [v]) (ss ++ [s]) := Pr.app h (.cons k .nil)
theorem Pr.drop : ∀ {vs : List V} {ss : List α} (n : Nat), Paired R vs ss → Paired R (vs.drop n) (ss.drop n)
  | _, _, 0, h => h
  | _, _, _ + 1, .nil => .nil
  | _, _, n + 1, .cons _ t => Pr.drop n t
theorem Pr.take : ∀ {vs : List V} {ss : List α} (n : Nat), Paired R vs ss → Paired R (vs.take n) (ss.take n)
  | _, _, 0, _ => .nil
  | _, _, _ + 1, .nil => .nil
  | _, _, n + 1, .cons h t => .cons h (Pr.take n t)
end
/-! ### pieces as tuples -/
def IsPc (H : Hp) (v : V) (p : Pc) : Prop := ∃ t, v = .ref t ∧ H t = some (.tup [.int p.1, .int p.2.1, .int p.2.2])
theorem IsPc.nx {H H' : Hp} {v : V} {p : Pc} (e : Nx H H') (h : IsPc H v p) : IsPc H' v p := by
  obtain ⟨t, h1, h2⟩ := h
  exact ⟨t, h1, e.at h2⟩
theorem IsPc.lset {H : Hp} {D : Addr} {us us' : List V} {v : V} {p : Pc} (hD : H D = some (.lst us)) (h : IsPc H v p) : IsPc (upd H D (.lst us')) v p := by
  obtain ⟨t, e, ht⟩ := h
  exact ⟨t, e, by rw [upd_ne (ne_of ht hD (by intro z; cases z))]; exact ht⟩
abbrev PaP (H : Hp) (vs : List V) (ps : List Pc) : Prop := Paired (IsPc H) vs ps
theorem PaP.nx {H H' : Hp} (e : Nx H H') {vs : List V} {ps : List Pc} (h : PaP H vs ps) : PaP H' vs ps := Pr.imp (fun _ _ r => r.nx e) h
theorem PaP.mono {H H' : Hp} (e : Ex H H') {vs : List V} {ps : List Pc} (h : PaP H vs ps) : PaP H' vs ps := h.nx e.nx
theorem PaP.lset {H : Hp} {D : Addr} {us us' : List V} (hD : H D = some (.lst us)) {vs : List V} {ps : List Pc} (h : PaP H vs ps) : PaP (upd H D (.lst us')) vs ps := Pr.imp (fun _ _ r => r.lset hD) h
def Pcs (H : Hp) (a : Addr) (ps : List Pc) : Prop := ∃ vs, H a = some (.lst vs) ∧ PaP H vs ps
theorem Pcs.nx {H H' : Hp} {a : Addr} {ps : List Pc} (e : Nx H H') (h : Pcs H a ps) : Pcs H' a ps := by
  obtain ⟨vs, h1, h2⟩ := h
  exact ⟨vs, e.at h1, h2.nx e⟩
theorem Pcs.mono {H H' : Hp} {a : Addr} {ps : List Pc} (e : Ex H H') (h : Pcs H a ps) : Pcs H' a ps := h.nx e.nx
/-- what a def hands back that draws from ponds: this value, and the heap has grown -/
def Pd (H : Hp) (b : Addr) (n : Nat) : Prop := ∃ m, m ≤ n ∧ H b = some (pondO m b)
theorem Pd.ex {H H' : Hp} {b : Addr} {n : Nat} (e : Ex H H') (h : Pd H b n) : Pd H' b n := by
  obtain ⟨m, l, h⟩ := h
  exact ⟨m, l, e _ _ h⟩
theorem Pd.mono {H : Hp} {b : Addr} {n n' : Nat} (h : Pd H b n) (l : n ≤ n') : Pd H b n' := by
  obtain ⟨m, l', h⟩ := h
  exact ⟨m, Nat.le_trans l' l, h⟩
theorem Pd.lset {H : Hp} {D b : Addr} {n : Nat} {us us' : List V} (hD : H D = some (.lst us)) (h : Pd H b n) : Pd (upd H D (.lst us')) b n := by
  obtain ⟨m, l, h⟩ := h
  exact ⟨m, l, by rw [upd_ne (ne_of h hD (by intro z; cases (show HO.ext _ = HO.lst us from z)))]; exact h⟩
def RetN (v : V) (b : Addr) (n : Nat) (H : Hp) (Q : VK) : Prop := ∀ H', Nx H H' → Pd H' b n → Q v H'
end Kb
namespace Kb
open PySem PySem.Spec PyProof.Rows L2 StX
/-! ### own classes: made, read, called -/
structure DMk (P : Program) (w : World) (K : PySem.W.Frag) (mg : Str → Option Value) (base : Heap) (x : Str) (C : Addr) (k : Nat) (ps : List Str) (sp : Sp) : Prop where
  ex : ∃ f fd, Mk K C f ∧ mg x = some (.ref C) ∧ Binds K fd ps [] ∧ FnOk P w K mg base CX0 k f fd ps sp
structure DMt (P : Program) (w : World) (K : PySem.W.Frag) (mg : Str → Option Value) (base : Heap) (C : Addr) (m : Str) (k : Nat) (ps : List Str) (sp : Sp) : Prop where
  ex : ∃ f fd, Cls K C ∧ Meth K C m f ∧ Binds K fd ps [] ∧ FnOk P w K mg base CX0 k f fd ps sp
structure DCl (P : Program) (w : World) (K : PySem.W.Frag) (mg : Str → Option Value) (base : Heap) (C : Addr) (k : Nat) (ps : List Str) (sp : Sp) : Prop where
  ex : ∃ f fd, CallO K C f ∧ Binds K fd ps [] ∧ FnOk P w K mg base CX0 k f fd ps sp
section
variable {X : Cx} {C : Addr} {k k' : Nat} {ps : List Str} {sp : Sp} {pos apos p : Pos} {o e : Expr} {es : List Expr} {t : TA} {te : TE}
theorem pe_mk {x : Str} (D : DMk X.prog X.w X.K X.mg X.base x C k ps sp) (hr : Room k' X.A) (ha : PA X (e :: es) t) (hk : k + 1 ≤ k' := by decide) (hg : Gl X x := by rfl) (hdb : (x == ("__debug__" : Str)) = false := by decide)
    (he : starEach (e :: es) X.env = (false, eval e X.env) :: starEach es X.env := by rfl) (hpl : (backTo pos (starEach es X.env)).any (·.1) = false := by rfl) : PE X (.Call (.Name x p) (e :: es) [] pos) (tMake C sp [] E0 t) := by
  obtain ⟨f, fd, h1, h2, h3, h4⟩ := D.ex
  exact pe_make h1 h4 (hr.mono hk) hg h2 h3 .nil pass0 ha hdb he hpl
theorem pe_cl (D : DCl X.prog X.w X.K X.mg X.base C k ps sp) (hr : Room k' X.A) (ho : PE X o te) (ha : PA X (e :: es) t) (hk : k ≤ k' := by decide)
    (ht : eval (.Call o (e :: es) [] pos) X.env = (do callWith pos (← eval o X.env) [] (backTo pos (starEach (e :: es) X.env)) (backToKw pos (keywordEach [] X.env))) := by rfl)
    (he : starEach (e :: es) X.env = (false, eval e X.env) :: starEach es X.env := by rfl) (hpl : (backTo pos (starEach es X.env)).any (·.1) = false := by rfl) :
    PE X (.Call o (e :: es) [] pos) (tCallO X C (fun vs H Q E => sp (vs ++ []) H Q E) E0 te t) := by
  obtain ⟨f, fd, h1, h3, h4⟩ := D.ex
  exact pe_callO ho h1 ((h4.raw h3 .nil).mono hk) hr pass0 ha ht he hpl
end
/-! ### the object of a profile -/
theorem is_cp : ¬ (("cold" : Str) = "_pieces") := by decide +kernel
def pf (c : Int) (l : Addr) : List (Str × V) := [("cold", .int c), ("_pieces", .ref l)]
theorem pf_put (c : Int) (l : Addr) : putF "_pieces" (.ref l) (putF "cold" (.int c) []) = pf c l := by
  show (if ("cold" : Str) = "_pieces" then [(("cold" : Str), V.ref l)] else (("cold" : Str), V.int c) :: putF "_pieces" (.ref l) []) = _
  rw [if_neg is_cp]
  rfl
theorem pf_cold (c : Int) (l : Addr) : (pf c l).lookup ("cold" : Str) = some (.int c) := by
  rw [← pf_put, lookup_putF, if_neg is_cp, lookup_putF, if_pos rfl]
theorem pf_pieces (c : Int) (l : Addr) : (pf c l).lookup ("_pieces" : Str) = some (.ref l) := by
  rw [← pf_put, lookup_putF, if_pos rfl]
/-- at x stands a profile with so many cold accesses and just these pieces -/
def PfAt (C : Addr) (H : Hp) (x : Addr) (c : Int) (rs : List Pc) : Prop := ∃ dx l, H x = some (.ins C dx (pf c l)) ∧ Pcs H l rs
theorem PfAt.nx {C : Addr} {H H' : Hp} {x : Addr} {c : Int} {rs : List Pc} (e : Nx H H') (h : PfAt C H x c rs) : PfAt C H' x c rs := by
  obtain ⟨dx, l, h1, h2⟩ := h
  exact ⟨dx, l, e.at h1, h2.nx e⟩
theorem PfAt.mono {C : Addr} {H H' : Hp} {x : Addr} {c : Int} {rs : List Pc} (e : Ex H H') (h : PfAt C H x c rs) : PfAt C H' x c rs := h.nx e.nx
/-- pieces of which no number is too great to be multiplied -/
def Bd (rs : List Pc) : Prop := ∀ p ∈ rs, Pok p ∧ p.2.1 ≤ 10 ^ 300 ∧ p.2.2 ≤ 10 ^ 300
/-- valid pieces, ascending, of numbers that are not too great -/
structure Val (ps : List Pc) : Prop where
  bd : ∀ p ∈ ps, Pok p ∧ p.2.1 ≤ 10 ^ 200 ∧ p.2.2 ≤ 10 ^ 200
  asc : ps.Pairwise fun a b => a.2.1 < b.1
  few : ps.length ≤ 200000
theorem Val.pok {ps : List Pc} (V : Val ps) : ∀ p ∈ ps, Pok p := fun p hp => (V.bd p hp).1
theorem Val.tsum_le {ps : List Pc} (V : Val ps) : tsum ps ≤ 200000 * 10 ^ 200 := by
  have go : ∀ ps : List Pc, (∀ p ∈ ps, p.2.2 ≤ 10 ^ 200) → tsum ps ≤ (ps.length : Int) * 10 ^ 200 := by
    intro ps
    induction ps with
    | nil => intro _; exact Int.le_refl _
    | cons p r ih =>
      intro h
      have e : tsum (p :: r) = p.2.2 + tsum r := by simp [tsum]
      have := ih fun q hq => h q (List.mem_cons_of_mem _ hq)
      have := h p (List.mem_cons_self ..)
      rw [e, List.length_cons, Int.natCast_add, Int.add_mul]
      omega
  have := go ps fun p hp => (V.bd p hp).2.2
  have := Int.mul_le_mul_of_nonneg_right (show (ps.length : Int) ≤ 200000 from by have := V.few; omega) (show (0 : Int) ≤ 10 ^ 200 by decide)
  omega
theorem Val.tells {ps rs : List Pc} (V : Val ps) (T : Tells ps rs) : Bd rs := fun p hp => by
  obtain ⟨a, b, c, d, q, hq, e⟩ := T.row V.pok hp
  have := V.tsum_le
  have := (V.bd q hq).2.1
  have g : (200000 : Int) * 10 ^ 200 ≤ 10 ^ 300 := by decide +kernel
  have g2 : (10 : Int) ^ 200 ≤ 10 ^ 300 := by decide +kernel
  exact ⟨⟨a, b, c⟩, by omega, by omega⟩
end Kb
namespace Kb
/-! ### corners -/
theorem Can.asc : ∀ {rs : List Pc}, Can rs → rs.Pairwise fun a b => a.2.1 < b.1
  | [], _ => List.Pairwise.nil
  | p :: r, h => List.pairwise_cons.mpr ⟨fun q hq => Can.above h q hq, Can.asc h.2.2.2⟩
/-! ### distances one by one -/
def reps (l : Int) (n t : Nat) : List Int := (List.range n).flatMap fun (m : Nat) => List.replicate t (l + (m : Int))
def evp (p : Pc) : List Int := reps p.1 (p.2.1 + 1 - p.1).toNat p.2.2.toNat
def ev (ps : List Pc) : List Int := ps.flatMap evp
theorem reps_succ (l : Int) (n t : Nat) : reps l (n + 1) t = reps l n t ++ List.replicate t (l + (n : Int)) := by
  unfold reps
  rw [List.range_succ, List.flatMap_append]
  simp
theorem reps_count (l : Int) (n t : Nat) (d : Int) : (reps l n t).count d = if l ≤ d ∧ d < l + (n : Int) then t else 0 := by
  induction n with
  | zero => rw [if_neg (by omega)]; simp [reps]
  | succ n ih =>
    rw [reps_succ, List.count_append, ih, List.count_replicate]
    by_cases e : l + (n : Int) = d
    · rw [if_neg (by omega), if_pos (by simp [e]), if_pos (by omega)]
      omega
    · rw [if_neg (show ¬ ((l + (n : Int)) == d) = true by simp [e])]
      by_cases c : l ≤ d ∧ d < l + (n : Int)
      · rw [if_pos c, if_pos (by omega)]
        omega
      · rw [if_neg c, if_neg (by omega)]
theorem reps_over (l : Int) (n t : Nat) (s : Int) : (((reps l n t).filter fun z => decide (z > s)).length : Int) = (t : Int) * max 0 (l + (n : Int) - 1 - max (l - 1) s) := by
  induction n with
  | zero =>
    rw [show max (0 : Int) (l + ((0 : Nat) : Int) - 1 - max (l - 1) s) = 0 by omega]
    simp [reps]
  | succ n ih =>
    rw [reps_succ, List.filter_append, List.length_append, Int.natCast_add, ih]
    by_cases c : l + (n : Int) > s
    · have : ((List.replicate t (l + (n : Int))).filter fun z => decide (z > s)) = List.replicate t (l + (n : Int)) := by
        rw [List.filter_eq_self]
        intro z hz
        rw [(List.mem_replicate.mp hz).2]
        exact decide_eq_true c
      rw [this, List.length_replicate, show max (0 : Int) (l + ((n + 1 : Nat) : Int) - 1 - max (l - 1) s) = max 0 (l + (n : Int) - 1 - max (l - 1) s) + 1 by omega, Int.mul_add, Int.mul_one]
    · have : ((List.replicate t (l + (n : Int))).filter fun z => decide (z > s)) = [] := by
        rw [List.filter_eq_nil_iff]
        intro z hz
        rw [(List.mem_replicate.mp hz).2]
        simpa using c
      rw [this, show max (0 : Int) (l + ((n + 1 : Nat) : Int) - 1 - max (l - 1) s) = max 0 (l + (n : Int) - 1 - max (l - 1) s) by omega]
      simp
theorem ev_count : ∀ {ps : List Pc}, (∀ p ∈ ps, Pok p) → ∀ d, ((ev ps).count d : Int) = atP ps d
  | [], _, d => rfl
  | p :: r, h, d => by
    have hp := h p (List.mem_cons_self ..)
    obtain ⟨h1, h2, h3⟩ := hp
    have e : ev (p :: r) = evp p ++ ev r := by simp [ev]
    rw [e, List.count_append, Int.natCast_add, ev_count (fun q hq => h q (List.mem_cons_of_mem _ hq)) d, atP_cons]
    congr 1
    unfold evp
    rw [reps_count]
    unfold at1
    by_cases c : p.1 ≤ d ∧ d ≤ p.2.1
    · rw [if_pos c, if_pos (by omega)]
      omega
    · rw [if_neg c, if_neg (by omega)]
      rfl
theorem ev_over : ∀ {ps : List Pc}, (∀ p ∈ ps, Pok p) → ∀ s, (((ev ps).filter fun z => decide (z > s)).length : Int) = bey ps s
  | [], _, d => rfl
  | p :: r, h, s => by
    have hp := h p (List.mem_cons_self ..)
    obtain ⟨h1, h2, h3⟩ := hp
    have e : ev (p :: r) = evp p ++ ev r := by simp [ev]
    rw [e, List.filter_append, List.length_append, Int.natCast_add, ev_over (fun q hq => h q (List.mem_cons_of_mem _ hq)) s, bey_cons]
    congr 1
    unfold evp be1
    rw [reps_over, show ((p.2.2.toNat : Nat) : Int) = p.2.2 by omega, show p.1 + ((p.2.1 + 1 - p.1).toNat : Int) - 1 = p.2.1 by omega]
theorem sum_filter_bey (ps : List Pc) (s : Int) (h : ∀ p ∈ ps, p.1 ≤ p.2.1) : (((ps.filter fun p => decide (p.2.1 > s)).map fun p => (p.2.1 - max (p.1 - 1) s) * p.2.2).sum) = bey ps s := by
  induction ps with
  | nil => rfl
  | cons p r ih =>
    have hp := h p (List.mem_cons_self ..)
    have i := ih fun q hq => h q (List.mem_cons_of_mem _ hq)
    rw [List.filter_cons, bey_cons, ← i]
    unfold be1
    by_cases c : p.2.1 > s
    · rw [if_pos (decide_eq_true c), List.map_cons, List.sum_cons, show max 0 (p.2.1 - max (p.1 - 1) s) = p.2.1 - max (p.1 - 1) s by omega, Int.mul_comm]
    · rw [if_neg (by simpa using c), show max 0 (p.2.1 - max (p.1 - 1) s) = 0 by omega]
      omega
end Kb
namespace Kb
open PySem PySem.Spec PyProof.Rows L2
abbrev AscP (ps : List Pc) : Prop := ps.Pairwise fun a b => a.2.1 < b.1
def spIsPiece : Sp := fun vs H Q _ => ∃ (v : V) (p : Pc), vs = [v] ∧ IsPc H v p ∧ Pok p ∧ RetV (.bl true) H Q
def spArePieces : Sp := fun vs H Q _ => ∃ (a : Addr) (ps : List Pc), vs = [.ref a] ∧ Pcs H a ps ∧ (∀ p ∈ ps, Pok p) ∧ AscP ps ∧ ps.length ≤ 400000 ∧ RetV (.bl true) H Q
def spCheckSize : Sp := fun vs H Q _ => ∃ i : Int, vs = [.int i] ∧ 0 ≤ i ∧ RetV .non H Q
def spCheckDist : Sp := fun vs H Q _ => ∃ (c : Int) (a : Addr) (ps : List Pc), vs = [.int c, .ref a] ∧ 0 ≤ c ∧ Pcs H a ps ∧ (∀ p ∈ ps, Pok p) ∧ AscP ps ∧ ps.length ≤ 400000 ∧ RetV .non H Q
def spFlat : Sp := fun vs H Q _ => ∃ (a : Addr) (ps : List Pc), vs = [.ref a] ∧ Pcs H a ps ∧ ps.length ≤ 200000 ∧ ∀ p H' rs, H p = none → Ex H H' → Pcs H' p rs → Tells ps rs → rs.length ≤ 2 * ps.length → Q (.ref p) H'
def spBeyond : Sp := fun vs H Q _ => ∃ (a : Addr) (rs : List Pc) (s : Int), vs = [.ref a, .int s] ∧ Pcs H a rs ∧ Bd rs ∧ rs.length ≤ 400000 ∧ 0 ≤ s ∧ RetV (.int (bey rs s)) H Q
/-- a profile as the methods want it -/
structure Pf (C : Addr) (H : Hp) (x : Addr) (c : Int) (rs : List Pc) : Prop where
  at_ : PfAt C H x c rs
  bd : Bd rs
  can : Can rs
  few : rs.length ≤ 400000
theorem Pf.nx {C : Addr} {H H' : Hp} {x : Addr} {c : Int} {rs : List Pc} (e : Nx H H') (h : Pf C H x c rs) : Pf C H' x c rs := ⟨h.at_.nx e, h.bd, h.can, h.few⟩
theorem Pf.mono {C : Addr} {H H' : Hp} {x : Addr} {c : Int} {rs : List Pc} (e : Ex H H') (h : Pf C H x c rs) : Pf C H' x c rs := h.nx e.nx
def spCallP (C : Addr) : Sp := fun vs H Q _ => ∃ (x : Addr) (c : Int) (rs : List Pc) (s : Int), vs = [.ref x, .int s] ∧ Pf C H x c rs ∧ 0 ≤ s ∧ RetV (.int (c + bey rs s)) H Q
def spPond0 (K : PySem.W.Frag) : Sp := fun vs H Q _ => ∃ (a : Addr) (ns : List Int) (k : Int), vs = [.ref a, .int k] ∧ SqL K H a (ns.map V.int) ∧ 0 ≤ k ∧ k ≤ 100 ∧ ∀ b H' x c t, H b = none → Ex H H' → H' b = some (.lst [.int x, .int c, .int t]) → Pn 0 c t → Q (.ref b) H'
def spPond (K : PySem.W.Frag) : Sp := fun vs H Q _ => ∃ (a : Addr) (ns : List Int) (k : Int), vs = [.ref a, .int k] ∧ SqL K H a (ns.map V.int) ∧ 0 ≤ k ∧ k ≤ 100 ∧ ∀ b H', H b = none → Ex H H' → Pd H' b 0 → Q (.ref b) H'
def spDip0 : Sp := fun vs H Q _ => ∃ (b : Addr) (many x c t : Int) (n : Nat), vs = [.ref b, .int many] ∧ H b = some (.lst [.int x, .int c, .int t]) ∧ Pn n c t ∧ n ≤ 2 ^ 60 ∧ 1 ≤ many ∧ many ≤ 10 ^ 600 ∧
  ∀ r H' x' t', 0 ≤ r → r < many → (∀ a o, a ≠ b → H a = some o → H' a = some o) → H' b = some (.lst [.int x', .int c, .int t']) → Pn (n + 1) c t' → Q (.int r) H'
def spDip : Sp := fun vs H Q _ => ∃ (b : Addr) (many : Int) (n : Nat), vs = [.ref b, .int many] ∧ Pd H b n ∧ n ≤ 2 ^ 60 ∧ 1 ≤ many ∧ many ≤ 10 ^ 600 ∧ ∀ r, 0 ≤ r → r < many → RetN (.int r) b (n + 1) H Q
/-- pieces drawn with numbers up to wide -/
structure Drawn (wide : Int) (ps : List Pc) : Prop where
  ok : ∀ p ∈ ps, Pok p ∧ p.2.1 - p.1 < wide ∧ p.2.2 ≤ wide ∧ p.2.1 ≤ wide * (3 * ps.length)
  asc : AscP ps
theorem pick3 {p : Int → Prop} {n x y z : Int} (h0 : 0 ≤ n) (h3 : n < 3) (hx : p x) (hy : p y) (hz : p z) : ∃ m, atI [V.int x, V.int y, V.int z] n = some (.int m) ∧ p m := by
  rcases (show n = 0 ∨ n = 1 ∨ n = 2 by omega) with rfl | rfl | rfl
  · exact ⟨x, rfl, hx⟩
  · exact ⟨y, rfl, hy⟩
  · exact ⟨z, rfl, hz⟩
theorem pick2' {p : Int → Prop} {n x y : Int} (h0 : 0 ≤ n) (h2 : n < 2) (hx : p x) (hy : p y) : ∃ m, atI [V.int x, V.int y] n = some (.int m) ∧ p m := by
  rcases (show n = 0 ∨ n = 1 by omega) with rfl | rfl
  · exact ⟨x, rfl, hx⟩
  · exact ⟨y, rfl, hy⟩
end Kb
namespace Kb
open PySem PySem.Spec PyProof.Rows L2
/-! ### a dict of ints to ints -/
structure DI (kvs : List (Key × V)) (f : Int → Int) (ks : List Int) : Prop where
  keys : kvs.map (·.1) = ks.map Sum.inl
  nd : ks.Nodup
  val : ∀ n : Int, valV kvs (Sum.inl n) = if n ∈ ks then some (.int (f n)) else none
  zero : ∀ n, n ∉ ks → f n = 0
theorem DI.nil : DI [] (fun _ => 0) [] := ⟨rfl, List.nodup_nil, fun n => rfl, fun _ _ => rfl⟩
theorem DI.getD {kvs : List (Key × V)} {f : Int → Int} {ks : List Int} (h : DI kvs f ks) (n : Int) : (valV kvs (Sum.inl n)).getD (.int 0) = .int (f n) := by
  rw [h.val]
  by_cases c : n ∈ ks
  · rw [if_pos c]
    rfl
  · rw [if_neg c, h.zero n c]
    rfl
theorem DI.len {kvs : List (Key × V)} {f : Int → Int} {ks : List Int} (h : DI kvs f ks) : kvs.length = ks.length := by
  have := congrArg List.length h.keys
  rwa [List.length_map, List.length_map] at this
theorem DI.put {kvs : List (Key × V)} {f : Int → Int} {ks : List Int} (h : DI kvs f ks) (k v : Int) :
    ∃ ks', DI (putK kvs (Sum.inl k) (.int v)) (fun x => if x = k then v else f x) ks' ∧ k ∈ ks' ∧ (∀ x ∈ ks, x ∈ ks') ∧ ks'.length ≤ ks.length + 1 := by
  by_cases c : k ∈ ks
  · refine ⟨ks, ⟨?_, h.nd, fun n => ?_, fun n hn => ?_⟩, c, fun _ x => x, Nat.le_succ _⟩
    · unfold putK
      rw [valV_any, h.val, if_pos c, if_pos (show (some (V.int (f k))).isSome = true from rfl), List.map_map, ← h.keys]
      refine List.map_congr_left fun kv _ => ?_
      show (if kv.1 = Sum.inl k then (kv.1, V.int v) else kv).1 = kv.1
      split <;> rfl
    · rw [valV_put, h.val]
      by_cases e : n = k
      · subst e
        rw [if_pos rfl, if_pos c, if_pos rfl]
      · rw [if_neg (fun z => e (Sum.inl.inj z)), if_neg e]
    · show (if n = k then v else f n) = 0
      rw [if_neg (fun z : n = k => hn (by rw [z]; exact c)), h.zero n hn]
  · refine ⟨ks ++ [k], ⟨?_, ?_, fun n => ?_, fun n hn => ?_⟩, by simp, fun x hx => List.mem_append_left _ hx, by simp⟩
    · rw [putK_new _ (by rw [h.val, if_neg c]), List.map_append, List.map_append, h.keys]
      rfl
    · rw [List.nodup_append]
      refine ⟨h.nd, by simp, fun x hx y hy e => ?_⟩
      rw [List.mem_singleton.mp hy] at e
      exact c (e ▸ hx)
    · rw [valV_put, h.val]
      by_cases e : n = k
      · subst e
        rw [if_pos rfl, if_pos (by simp), if_pos rfl]
      · rw [if_neg (fun z => e (Sum.inl.inj z)), if_neg e]
        by_cases m : n ∈ ks
        · rw [if_pos m, if_pos (List.mem_append_left _ m)]
        · rw [if_neg m, if_neg (by simp [m, e])]
    · show (if n = k then v else f n) = 0
      rw [if_neg (fun z : n = k => hn (by simp [z])), h.zero n (fun z => hn (List.mem_append_left _ z))]
theorem DI.at {kvs : List (Key × V)} {f : Int → Int} {ks : List Int} (h : DI kvs f ks) {i : Nat} {k : Key} {v : V} (e : kvs[i]? = some (k, v)) : ∃ n, ks[i]? = some n ∧ k = Sum.inl n ∧ valV kvs (Sum.inl n) = some (.int (f n)) := by
  have z : (kvs.map (·.1))[i]? = some k := by rw [List.getElem?_map, e]; rfl
  rw [h.keys, List.getElem?_map] at z
  cases g : ks[i]? with
  | none => rw [g] at z; cases z
  | some n =>
    rw [g] at z
    cases z
    exact ⟨n, rfl, rfl, by rw [h.val, if_pos (List.mem_of_getElem? g)]⟩
theorem DI.congr {kvs : List (Key × V)} {f g : Int → Int} {ks : List Int} (h : DI kvs f ks) (e : ∀ x, g x = f x) : DI kvs g ks := by
  have : g = f := funext e
  rw [this]
  exact h
/-! ### the turns of flattened -/
theorem chg_snoc {ps : List Pc} {i : Nat} {p : Pc} (e : ps[i]? = some p) (x : Int) : chg (ps.take (i + 1)) x = chg (ps.take i) x + (if x = p.1 then p.2.2 else 0) - (if x = p.2.1 + 1 then p.2.2 else 0) := by
  rw [List.take_add_one, e]
  unfold chg
  rw [wt_app]
  show _ + (p.2.2 * (ind x p.1 - ind x (p.2.1 + 1)) + 0) = _
  unfold ind
  by_cases a : p.1 = x
  · by_cases b : p.2.1 + 1 = x
    · rw [if_pos a, if_pos b, if_pos a.symm, if_pos b.symm]
      omega
    · rw [if_pos a, if_neg b, if_pos a.symm, if_neg (fun z => b z.symm)]
      omega
  · by_cases b : p.2.1 + 1 = x
    · rw [if_neg a, if_pos b, if_neg (fun z => a z.symm), if_pos b.symm]
      omega
    · rw [if_neg a, if_neg b, if_neg (fun z => a z.symm), if_neg (fun z => b z.symm)]
      omega
theorem rowsG_step {c : Int → Int} {ts : List Int} {i : Nat} {s f now : Int} (e1 : ts[i]? = some s) (e2 : ts[i + 1]? = some f) :
    rowsG c (ts.drop i) now = (if now + c s ≠ 0 then [(s, f - 1, now + c s)] else []) ++ rowsG c (ts.drop (i + 1)) (now + c s) := by
  obtain ⟨l1, rfl⟩ := List.getElem?_eq_some_iff.mp e1
  obtain ⟨l2, rfl⟩ := List.getElem?_eq_some_iff.mp e2
  rw [List.drop_eq_getElem_cons l1, List.drop_eq_getElem_cons l2]
  show (if now + c ts[i] ≠ 0 then _ else _) = _
  split <;> rfl
theorem rowsG_end {c : Int → Int} {ts : List Int} {now : Int} (i : Nat) (h : ts.length - 1 ≤ i) : rowsG c (ts.drop i) now = [] := by
  have : (ts.drop i).length ≤ 1 := by rw [List.length_drop]; omega
  match ts.drop i, this with
  | [], _ => rfl
  | [_], _ => rfl
  | _ :: _ :: _, h => exact absurd h (by simp)
theorem cut_one (vs : List V) : cutV vs (some 1) none = vs.drop 1 := by
  unfold cutV
  rw [show HT.sIx vs.length 0 (some 1) = min 1 vs.length from HT.sIx_nat vs.length 0 1, HT.sIx_none]
  cases vs with
  | nil => rfl
  | cons z r =>
    rw [List.length_cons, show min 1 (r.length + 1) = 1 by omega]
    exact List.take_of_length_le (by rw [List.length_drop, List.length_cons]; exact Nat.le_refl _)
theorem max_if (a b : Int) : (if b > a then b else a) = max a b := by split <;> omega
/-- what has no attributes but its own -/
structure Ptx (K : PySem.W.Frag) (C : Addr) : Prop where
  cl : Cls K C
  nC : NoAttr K C "cold"
  nP : NoAttr K C "_pieces"
theorem filt_snoc {ps : List Pc} {i : Nat} {p : Pc} (f : Pc → Bool) (h : ps[i]? = some p) : (ps.take (i + 1)).filter f = (ps.take i).filter f ++ if f p = true then [p] else [] := by
  rw [List.take_add_one, h, List.filter_append]
  show _ ++ List.filter f [p] = _
  rw [List.filter_cons]
  rfl
theorem filt_le {ps : List Pc} {i : Nat} (f : Pc → Bool) : ((ps.take i).filter f).length ≤ i := by
  have z := List.length_filter_le f (ps.take i)
  rw [List.length_take] at z
  omega
theorem mk_ex0 {C : Addr} {H : Hp} {x dx : Addr} (nx : H x = none) (ndx : H dx = none) : Ex H (upd (upd H dx (.own x)) x (.ins C dx [])) := fun b o hb => by
  rw [upd_ne (ne_of_none hb nx), upd_ne (ne_of_none hb ndx)]
  exact hb
theorem mk_ex {C : Addr} {H H' : Hp} {x dx : Addr} (nx : H x = none) (ndx : H dx = none) (fr : ∀ b o, b ≠ x → (upd (upd H dx (.own x)) x (.ins C dx [])) b = some o → H' b = some o) : Ex H H' := fun b o hb => by
  refine fr b o (ne_of_none hb nx) ?_
  rw [upd_ne (ne_of_none hb nx), upd_ne (ne_of_none hb ndx)]
  exact hb
theorem show_ints {ns : List Int} (h : ∀ n ∈ ns, 0 ≤ n ∧ n < 10 ^ 500) (l : ns.length ≤ 3000) : (pdI ns).showable = true ∧ (pdI ns).hasDict = false ∧ (pdI ns).depth ≤ 60 ∧ (pdI ns).shown.length ≤ sizeLine := by
  have big : (10 : Nat) ^ 500 < 2 ^ 1700 := by decide +kernel
  have l2 : ∀ z : Int, 0 ≤ z → z < 10 ^ 500 → decide (z.natAbs.log2 < 1920) = true := fun z a b => decide_eq_true (Nat.lt_trans (PySem.Flt.log2_lt_of (k := 1700) (by decide) (Nat.lt_of_le_of_lt (show z.natAbs ≤ 10 ^ 500 by omega) big)) (by decide))
  have s2 : ∀ z : Int, 0 ≤ z → z < 10 ^ 500 → (PyData.shown (.int z)).length ≤ 510 := fun z a b => by
    have := PyProof.Rows.toString_length_le (k := 500) a (by decide) b
    exact Nat.le_trans this (by decide)
  have key : ∀ l : List Int, (∀ n ∈ l, 0 ≤ n ∧ n < 10 ^ 500) → PyData.showableAll (l.map PyData.int) = true ∧ PyData.hasDictAll (l.map PyData.int) = false ∧ PyData.leavesShortAll 510 (l.map PyData.int) = true ∧ PyData.bulkAll (l.map PyData.int) ≤ 10 * l.length ∧ PyData.depthAll (l.map PyData.int) = 0 := by
    intro l
    induction l with
    | nil => intro _; exact ⟨rfl, rfl, rfl, Nat.zero_le _, rfl⟩
    | cons s r ih =>
      intro hl
      obtain ⟨i1, i2, i3, i4, i5⟩ := ih fun t ht => hl t (List.mem_cons_of_mem _ ht)
      obtain ⟨a1, a2⟩ := hl s List.mem_cons_self
      refine ⟨?_, ?_, ?_, ?_, ?_⟩
      · show (decide (s.natAbs.log2 < 1920) && PyData.showableAll (r.map PyData.int)) = true
        rw [l2 _ a1 a2, i1]
        rfl
      · show (false || PyData.hasDictAll (r.map PyData.int)) = false
        rw [i2]
        rfl
      · show (decide ((PyData.shown (.int s)).length ≤ 510) && PyData.leavesShortAll 510 (r.map PyData.int)) = true
        rw [decide_eq_true (s2 _ a1 a2), i3]
        rfl
      · simp only [List.map_cons, PyData.bulkAll, PyData.bulk, List.length_cons]
        omega
      · show max 0 (PyData.depthAll (r.map PyData.int)) = 0
        omega
  obtain ⟨i1, i2, i3, i4, i5⟩ := key ns h
  refine ⟨i1, i2, ?_, ?_⟩
  · show PyData.depthAll (ns.map PyData.int) + 1 ≤ 60
    omega
  · have z := PyData.shown_le_bulk 510 (by decide) (pdI ns) i3
    have e : (pdI ns).bulk ≤ 10 * ns.length + 10 := by
      simp only [pdI, PyData.bulk]
      omega
    have y := Nat.mul_le_mul_left (510 + 2) e
    rw [sizeLine_eq]
    omega
theorem ne_refl {α : Type} [DecidableEq α] {a b : α} (h : a = b) {A B : Prop} (k : B) : if (!decide (a = b)) = true then A else B := by
  rw [decide_eq_true h]
  exact iteF k
end Kb
namespace Kb
open PySem PySem.Spec PyProof.Rows L2 StX
/-! ### own operators: ==, !=, +, * of instances of an own class -/
inductive Ty2 (H : Hp) : V → Value → Prop where
  | non : Ty2 H .non (.type "NoneType")
  | bl (b : Bool) : Ty2 H (.bl b) (.type "bool")
  | int (i : Int) : Ty2 H (.int i) (.type "int")
  | str (x : Str) : Ty2 H (.str x) (.type "str")
  | lst {a : Addr} {xs : List V} (e : H a = some (.lst xs)) : Ty2 H (.ref a) (.type "list")
  | tup {a : Addr} {xs : List V} (e : H a = some (.tup xs)) : Ty2 H (.ref a) (.type "tuple")
  | dK {a : Addr} {kvs : List (Key × V)} (e : H a = some (.dK kvs)) : Ty2 H (.ref a) (.type "dict")
  | ins {a C dx : Addr} {fs : List (Str × V)} (e : H a = some (.ins C dx fs)) : Ty2 H (.ref a) (.ref C)
section
variable {X : Cx} {pins : List (Addr × Obj)} {σ : L2.St} {H : Hp} {s : Shared}
theorem looks_cls {M : Model} {h : Heap} {a : Addr} {o : Obj} (e : h.get? a = some o) : PySem.W.Looks M h (typeOf (.ref a)) o.cls := (PySem.W.Looks.ld e).andThen .now
theorem looks_typeIs {M : Model} {a : Addr} {T : String} (e : s.TypeIs (.ref a) T) : PySem.W.Looks M s.heap (typeOf (.ref a)) (.type T) := by
  obtain ⟨o, h1, h2⟩ := e
  rw [← h2]
  exact looks_cls h1
theorem ty_looks {M : Model} {y : V} {u t : Value} (I : Inv X pins σ H s) (r : RelV y u) (ty : Ty2 H y t) : PySem.W.Looks M s.heap (typeOf u) t := by
  cases ty with
  | non =>
    cases (show u = Value.none from r)
    exact PySem.W.Looks.of_pure rfl
  | bl b =>
    cases (show u = Value.bool b from r)
    exact PySem.W.Looks.of_pure rfl
  | int i =>
    obtain ⟨tk, rfl⟩ := r
    exact PySem.W.Looks.of_pure rfl
  | str x =>
    obtain ⟨tk, rfl⟩ := r
    exact PySem.W.Looks.of_pure rfl
  | lst e =>
    cases (show u = Value.ref _ from r)
    obtain ⟨its, rv, hl, hz⟩ := I.list (SqL.of e)
    exact looks_typeIs hl.isList.typeIs
  | tup e =>
    cases (show u = Value.ref _ from r)
    obtain ⟨its, rv, hl, hz⟩ := I.tuple (SqT.of e)
    exact looks_typeIs hl.typeIs
  | dK e =>
    cases (show u = Value.ref _ from r)
    exact looks_typeIs (dict_typeIs I (DGet.k (k := Sum.inl 0) e))
  | ins e =>
    cases (show u = Value.ref _ from r)
    obtain ⟨mA, J, _⟩ := ins_get I.hok e
    obtain ⟨od, J, _⟩ := J.look
    exact J.type
/-- an own def run on values, somewhere below the running body -/
theorem own_run {C : Addr} {k : Nat} {f : Addr} {fd : FuncData} {ps : List Str} {sp : Sp} {A : Around} {us : List Value} {vs : List V} {Q : VK} {E' : Value → Shared → Prop} (F : FnOk X.prog X.w X.K X.mg X.base CX0 k f fd ps sp) (hb : Binds X.K fd ps []) (hr : Room k A) (hfr : A.frames = X.A.frames)
    (I : Inv X pins σ H s) (r : Vals vs us) (h : sp vs H Q E0) : wpAny (model X.prog X.w) A (call (.ref f) us) (fun w' s' => ∃ v H', Inv X pins σ H' s' ∧ RelV v w' ∧ Q v H') E' s := by
  have e0 : Env0 X.prog X.w X.K X.mg X.base A X.stack s H := by
    have e := I.env0
    exact ⟨by rw [hfr]; exact e.frames, e.mod, e.bs, e.bsz, e.funs, e.frf, e.hok, e.bare⟩
  have hl := F.len _ _ _ _ h
  refine wpAny_call (codeAny_mono (F.run A X.stack s H ⟨us, []⟩ us vs Q E0 hr e0 (by
    have := hb s us I.kIn (by rw [List.append_nil, ← r.length]; exact hl)
    rw [List.append_nil] at this
    exact this) r h) fun fr s' hq => ?_)
  cases fr with
  | error e => exact hq.elim
  | ok fl =>
    cases fl with
    | ret w' =>
      obtain ⟨z, H', I', rz, q⟩ := I.after hq
      exact ⟨z, H', I', rz, q⟩
    | next => exact False.elim hq
    | brk => exact False.elim hq
    | cont => exact False.elim hq
/-- its answer is a truth -/
def rOwnB (K : PySem.W.Frag) (C : Addr) (sp : Sp) (flip : Bool) : R2 := fun x y H Q => ∃ a dx fs t, x = .ref a ∧ H a = some (.ins C dx fs) ∧ Ty2 H y t ∧ PySem.W.notFirst K C t = true ∧ sp [x, y] H (fun v H' => ∃ k : Bool, v = .bl k ∧ Q (.bl (if flip then !k else k)) H') E0
theorem op_ownEq {C : Addr} {k k' : Nat} {sp : Sp} (D : DMt X.prog X.w X.K X.mg X.base C "__eq__" k ["self", "other"] sp) (hr : Room k' X.A) (hk : k ≤ k' := by decide) : OpR X (compareOp .Eq) (rOwnB X.K C sp false) := by
  intro pins s σ H x y v u Q I rx ry hq
  obtain ⟨f, fd, hcl, hm, hb, F⟩ := D.ex
  obtain ⟨a, dx, fs, t, rfl, ha, ty, nf, q⟩ := hq
  cases (show v = Value.ref a from rx)
  obtain ⟨mA, J, _⟩ := ins_get I.hok ha
  obtain ⟨od, J, _⟩ := J.look
  obtain ⟨m, hF⟩ := I.fr
  refine PySem.W.cmp_K (op := .Eq) (tb := t) (hr.mono hk).units0 hF I.ok.mod.kin J (ty_looks I ry ty) nf hm.at_ hm.fn ?_
  refine wpAny_mono (own_run (C := C) F hb (hr.mono hk) rfl I (.cons (show RelV (V.ref a) (Value.ref a) from rfl) (.cons ry .nil)) q) (fun w' s' z => ?_) fun _ _ e => e
  obtain ⟨v', H', I', rv, b, rfl, q'⟩ := z
  cases (show w' = Value.bool b from rv)
  exact ⟨.bl b, H', I', rfl, q'⟩
end
end Kb
namespace Kb
/-! ### pieces put together -/
theorem atP_app (a b : List Pc) (d : Int) : atP (a ++ b) d = atP a d + atP b d := by simp [atP]
theorem Can.one {p : Pc} (h1 : p.1 ≤ p.2.1) (h2 : p.2.2 ≠ 0) : Can [p] := ⟨h1, h2, fun q hq => (by cases hq), trivial⟩
theorem Can.ext : ∀ {pre : List Pc} {q : Pc} {h : Int}, Can (pre ++ [q]) → q.2.1 ≤ h → Can (pre ++ [(q.1, h, q.2.2)])
  | [], q, h, c, k => ⟨by have := c.1; show q.1 ≤ h; omega, c.2.1, fun x hx => (by cases hx), trivial⟩
  | [x], q, h, c, k => ⟨c.1, c.2.1, fun y hy => by cases hy; exact c.2.2.1 q rfl, Can.ext (pre := []) c.2.2.2 k⟩
  | x :: y :: r, q, h, c, k => ⟨c.1, c.2.1, fun z hz => c.2.2.1 z hz, Can.ext (pre := y :: r) c.2.2.2 k⟩
end Kb
namespace Kb
open PySem PySem.Spec PyProof.Rows L2 StX
/-! ### lists of pieces as data -/
def pdPc (p : Pc) : PyData := .tuple [.int p.1, .int p.2.1, .int p.2.2]
def pdPs (ps : List Pc) : PyData := .list (ps.map pdPc)
theorem Pcs.dp {K : PySem.W.Frag} {H : Hp} {a : Addr} {ps : List Pc} (h : Pcs H a ps) : Dp K H (.ref a) (pdPs ps) := by
  obtain ⟨vs, ha, pa⟩ := h
  have all : ∀ {vs : List V} {ps : List Pc}, PaP H vs ps → DpAll K H vs (ps.map pdPc) := by
    intro vs ps p
    induction p with
    | nil => exact .nil
    | cons h t ih =>
      obtain ⟨t0, rfl, ht⟩ := h
      exact .cons (.tup (SqT.of ht) (.cons (.int _) (.cons (.int _) (.cons (.int _) .nil)))) ih
  exact .lst (SqL.of ha) (all pa)
def Bn (n : Int) : Prop := 0 ≤ n ∧ n < 10 ^ 500
/-! ### promises -/
/-- what isinstance, == and != want of the class, beside its own attributes -/
structure Pof (K : PySem.W.Frag) (C : Addr) : Prop where
  cl : Cls K C
  ha : PySem.W.findIn K (.ref C) "__class__" = some (some (.builtin "object.__class__"))
  hn : PySem.W.specialIn K (.builtin "object.__class__") "__get__" = some (some (.builtin "getset_descriptor.__get__"))
  htk : PySem.W.takesIn K (.builtin "object.__class__") = some true
  hm : PySem.W.mroIn K C (.type "object") = some true
  me : PySem.W.kitOne K (.ref C) (.ref C) = some true
/-- a kind of values that is not of the class -/
def Oth (K : PySem.W.Frag) (C : Addr) (t : Value) : Prop := PySem.W.kitOne K t (.ref C) = some false ∧ PySem.W.notFirst K C t = true
theorem Ty2.tyx {K : PySem.W.Frag} {H : Hp} {y : V} {t : Value} (h : Ty2 H y t) (ni : ∀ a dx fs, ¬ (y = V.ref a ∧ ∃ C, H a = some (.ins C dx fs))) : TyX K H y t := by
  cases h with
  | non => exact .base .non
  | bl b => exact .base (.bl b)
  | int i => exact .base (.int i)
  | str x => exact .base (.str x)
  | lst e => exact .base (.lst e)
  | tup e => exact .base (.tup e)
  | dK e => exact .base (.dK e)
  | ins e => exact absurd ⟨rfl, _, e⟩ (ni _ _ _)
def spInitF (C : Addr) : Sp := fun vs H Q _ => ∃ (x dx : Addr) (c : Int) (a : Addr) (ps : List Pc), vs = [.ref x, .int c, .ref a] ∧ H x = some (.ins C dx []) ∧ 0 ≤ c ∧ Pcs H a ps ∧ Val ps ∧
  ∀ H' rs l, (∀ b o, b ≠ x → H b = some o → H' b = some o) → Pf C H' x c rs → Tells ps rs → H l = none → H' x = some (.ins C dx (pf c l)) → Q .non H'
/-- a pair of a number of cold accesses and a list of pieces -/
def IsNr (H : Hp) (v : V) (z : Int × List Pc) : Prop := ∃ t g, v = .ref t ∧ H t = some (.tup [.int z.1, .ref g]) ∧ Pcs H g z.2
theorem IsNr.nx {H H' : Hp} {v : V} {z : Int × List Pc} (e : Nx H H') (h : IsNr H v z) : IsNr H' v z := by
  obtain ⟨t, g, h1, h2, h3⟩ := h
  exact ⟨t, g, h1, e.at h2, h3.nx e⟩
end Kb
namespace Kb
open PySem PySem.Spec PyProof.Rows L2 StX
/-! ### own + and * -/
/-! ### sums and multiples of pieces -/
/-- numbers of at most m digits -/
structure Sz (m : Nat) (rs : List Pc) : Prop where
  can : Can rs
  pok : ∀ p ∈ rs, Pok p
  hi : ∀ p ∈ rs, p.2.1 ≤ 10 ^ 100
  tm : ∀ p ∈ rs, p.2.2 ≤ 10 ^ m
theorem Sz.val {m : Nat} {rs : List Pc} (S : Sz m rs) (hm : m ≤ 200) (l : rs.length ≤ 200000) : Val rs := by
  have g : (10 : Int) ^ 100 ≤ 10 ^ 200 := by decide +kernel
  have g2 : (10 : Int) ^ m ≤ 10 ^ 200 := by
    have := Nat.pow_le_pow_right (show 0 < 10 by decide) hm
    have e : ∀ k : Nat, ((10 : Int) ^ k) = ((10 ^ k : Nat) : Int) := fun k => by rw [Int.natCast_pow]; rfl
    rw [e, e]
    exact Int.ofNat_le.mpr this
  exact ⟨fun p hp => ⟨S.pok p hp, Int.le_trans (S.hi p hp) g, Int.le_trans (S.tm p hp) g2⟩, S.can.asc, l⟩
/-- what flattened makes of pieces that tell f, each distance up to a top and at most B times -/
theorem Sz.of {m : Nat} {qs rs : List Pc} (T : Tells qs rs) (ok : ∀ p ∈ qs, Pok p) (hi : ∀ p ∈ qs, p.2.1 ≤ 10 ^ 100) (tm : ∀ d, atP qs d ≤ 10 ^ m) : Sz m rs := by
  refine ⟨T.can, fun p hp => ?_, fun p hp => ?_, fun p hp => ?_⟩
  · obtain ⟨a, b, c, _⟩ := T.row ok hp
    exact ⟨a, b, c⟩
  · obtain ⟨a, b, c, d, q, hq, e⟩ := T.row ok hp
    exact Int.le_trans e (hi q hq)
  · have := T.can.at p hp p.1 (Int.le_refl _) (T.can.le p hp)
    rw [T.at ok] at this
    rw [← this]
    exact tm _
/-- the pieces with their times multiplied -/
def mulP (ps : List Pc) (n : Int) : List Pc := ps.map fun p => (p.1, p.2.1, p.2.2 * n)
theorem atP_mul (ps : List Pc) (n d : Int) : atP (mulP ps n) d = atP ps d * n := by
  induction ps with
  | nil => show (0 : Int) = 0 * n; simp
  | cons p r ih =>
    show atP ((p.1, p.2.1, p.2.2 * n) :: mulP r n) d = _
    rw [atP_cons, atP_cons, ih, Int.add_mul]
    congr 1
    unfold at1
    show (if p.1 ≤ d ∧ d ≤ p.2.1 then p.2.2 * n else 0) = _
    split
    · rfl
    · simp
/-! ### pieces between all ends -/
end Kb
namespace Kb
open PySem PySem.Spec PyProof.Rows L2 StX
theorem Sz.mono {m n : Nat} {rs : List Pc} (S : Sz m rs) (h : m ≤ n) : Sz n rs := ⟨S.can, S.pok, S.hi, fun p hp => Int.le_trans (S.tm p hp) (by
  have := Nat.pow_le_pow_right (show 0 < 10 by decide) h
  have e : ∀ k : Nat, ((10 : Int) ^ k) = ((10 ^ k : Nat) : Int) := fun k => by rw [Int.natCast_pow]; rfl
  rw [e, e]
  exact Int.ofNat_le.mpr this)⟩
def spCheckProf (C : Addr) : Sp := fun vs H Q _ => ∃ (z dz : Addr) (fs : List (Str × V)), vs = [.ref z] ∧ H z = some (.ins C dz fs) ∧ RetV .non H Q
end Kb
namespace Kb
open PySem PySem.Spec PyProof.Rows L2 TL
/-! ### the parts of programs -/
inductive Pg where
  | nil
  | sc (s : Sc) (r : Pg)
  | rp (n : Int) (b r : Pg)
deriving DecidableEq
namespace Pg
def app : Pg → Pg → Pg
  | nil, g => g
  | sc s r, g => sc s (r.app g)
  | rp n b r, g => rp n b (r.app g)
def scs : Pg → List Sc
  | nil => []
  | sc s r => s :: r.scs
  | rp _ b r => b.scs ++ r.scs
def cnt : Pg → Int
  | nil => 0
  | sc s r => slen s + r.cnt
  | rp n b r => n * b.cnt + r.cnt
def dep : Pg → Nat
  | nil => 0
  | sc _ r => r.dep
  | rp _ b r => max (b.dep + 1) r.dep
def len : Pg → Nat
  | nil => 0
  | sc _ r => r.len + 1
  | rp _ _ r => r.len + 1
theorem app_nil : ∀ g : Pg, g.app nil = g
  | nil => rfl
  | sc s r => congrArg (sc s) (app_nil r)
  | rp n b r => congrArg (rp n b) (app_nil r)
theorem app_assoc : ∀ a b c : Pg, (a.app b).app c = a.app (b.app c)
  | nil, _, _ => rfl
  | sc s r, b, c => congrArg (sc s) (app_assoc r b c)
  | rp n x r, b, c => congrArg (rp n x) (app_assoc r b c)
theorem scs_app : ∀ a b : Pg, (a.app b).scs = a.scs ++ b.scs
  | nil, _ => rfl
  | sc s r, b => congrArg (s :: ·) (scs_app r b)
  | rp n x r, b => by
    show x.scs ++ (r.app b).scs = x.scs ++ r.scs ++ b.scs
    rw [scs_app r b, List.append_assoc]
theorem cnt_app : ∀ a b : Pg, (a.app b).cnt = a.cnt + b.cnt
  | nil, b => (Int.zero_add _).symm
  | sc s r, b => by
    show slen s + (r.app b).cnt = slen s + r.cnt + b.cnt
    rw [cnt_app r b, Int.add_assoc]
  | rp n x r, b => by
    show n * x.cnt + (r.app b).cnt = n * x.cnt + r.cnt + b.cnt
    rw [cnt_app r b, Int.add_assoc]
theorem len_app : ∀ a b : Pg, (a.app b).len = a.len + b.len
  | nil, b => (Nat.zero_add _).symm
  | sc s r, b => by
    show (r.app b).len + 1 = r.len + 1 + b.len
    rw [len_app r b]
    omega
  | rp n x r, b => by
    show (r.app b).len + 1 = r.len + 1 + b.len
    rw [len_app r b]
    omega
theorem dep_app : ∀ a b : Pg, (a.app b).dep = max a.dep b.dep
  | nil, b => (Nat.zero_max _).symm
  | sc s r, b => dep_app r b
  | rp n x r, b => by
    show max (x.dep + 1) (r.app b).dep = max (max (x.dep + 1) r.dep) b.dep
    rw [dep_app r b, Nat.max_assoc]
end Pg
/-- numbers within their bounds, no empty repeat -/
def SOk (B : Int) (s : Sc) : Prop := 0 ≤ s.1 ∧ s.1 ≤ B ∧ 0 ≤ s.2 ∧ s.2 ≤ B
def Pg.Ok (B : Int) : Pg → Prop
  | .nil => True
  | .sc s r => SOk B s ∧ r.Ok B
  | .rp n b r => 2 ≤ n ∧ n ≤ B ∧ b ≠ .nil ∧ b.Ok B ∧ r.Ok B
theorem Pg.Ok.app {B : Int} : ∀ {a b : Pg}, a.Ok B → b.Ok B → (a.app b).Ok B
  | .nil, _, _, h => h
  | .sc s r, b, h, k => ⟨h.1, Pg.Ok.app h.2 k⟩
  | .rp n x r, b, h, k => ⟨h.1, h.2.1, h.2.2.1, h.2.2.2.1, Pg.Ok.app h.2.2.2.2 k⟩
theorem Pg.Ok.mono {B C : Int} (le : B ≤ C) : ∀ {a : Pg}, a.Ok B → a.Ok C
  | .nil, _ => trivial
  | .sc s r, h => ⟨⟨h.1.1, Int.le_trans h.1.2.1 le, h.1.2.2.1, Int.le_trans h.1.2.2.2 le⟩, h.2.mono le⟩
  | .rp n x r, h => ⟨h.1, Int.le_trans h.2.1 le, h.2.2.1, h.2.2.2.1.mono le, h.2.2.2.2.mono le⟩
theorem Pg.Ok.mem {B : Int} : ∀ {a : Pg}, a.Ok B → ∀ s ∈ a.scs, SOk B s
  | .nil, _, s, h => by cases h
  | .sc s r, h, t, m => by
    rcases List.mem_cons.mp m with e | m
    · exact e ▸ h.1
    · exact h.2.mem t m
  | .rp n x r, h, t, m => by
    rcases List.mem_append.mp m with m | m
    · exact h.2.2.2.1.mem t m
    · exact h.2.2.2.2.mem t m
theorem Pg.len_le : ∀ {B : Int} {a : Pg}, a.Ok B → a.len ≤ a.scs.length
  | _, .nil, _ => Nat.le_refl _
  | B, .sc s r, h => Nat.succ_le_succ (Pg.len_le h.2)
  | B, .rp n x r, h => by
    show r.len + 1 ≤ (x.scs ++ r.scs).length
    rw [List.length_append]
    have a := Pg.len_le h.2.2.2.2
    have b := Pg.len_le h.2.2.2.1
    have c : 1 ≤ x.len := by
      cases x with
      | nil => exact (h.2.2.1 rfl).elim
      | sc _ _ => exact Nat.succ_le_succ (Nat.zero_le _)
      | rp _ _ _ => exact Nat.succ_le_succ (Nat.zero_le _)
    omega
/-! ### words -/
def nw (i : Int) : Str := Str.ofString (toString i)
def dash : Str := "-"
def opW : Str := "("
def clW : Str := ")"
def scw (s : Sc) : Str := if s.1 = s.2 then nw s.1 else nw s.1 ++ dash ++ nw s.2
inductive Tk where
  | op
  | cl (n : Int)
  | sc (s : Sc)
def Tk.wd : Tk → Str
  | .op => opW
  | .cl n => clW ++ nw n
  | .sc s => scw s
def Pg.toks : Pg → List Tk
  | .nil => []
  | .sc s r => .sc s :: r.toks
  | .rp n b r => .op :: (b.toks ++ .cl n :: r.toks)
def Pg.wl (g : Pg) : List Str := g.toks.map Tk.wd
theorem toks_app : ∀ a b : Pg, (a.app b).toks = a.toks ++ b.toks
  | .nil, _ => rfl
  | .sc s r, b => congrArg (Tk.sc s :: ·) (toks_app r b)
  | .rp n x r, b => by
    show Tk.op :: (x.toks ++ Tk.cl n :: (r.app b).toks) = (Tk.op :: (x.toks ++ Tk.cl n :: r.toks)) ++ b.toks
    rw [toks_app r b]
    simp
theorem wl_app (a b : Pg) : (a.app b).wl = a.wl ++ b.wl := by
  unfold Pg.wl
  rw [toks_app, List.map_append]
theorem wl_rp (n : Int) (b r : Pg) : (Pg.rp n b r).wl = opW :: (b.wl ++ (clW ++ nw n) :: r.wl) := by
  show List.map Tk.wd (Tk.op :: (b.toks ++ Tk.cl n :: r.toks)) = _
  rw [List.map_cons, List.map_append, List.map_cons]
  rfl
/-- how many words there are -/
theorem toks_len : ∀ {B : Int} {g : Pg}, g.Ok B → g.toks.length ≤ (2 * g.dep + 1) * g.scs.length
  | _, .nil, _ => Nat.zero_le _
  | B, .sc s r, h => by
    have a := toks_len h.2
    show r.toks.length + 1 ≤ (2 * r.dep + 1) * (r.scs.length + 1)
    rw [Nat.mul_succ]
    omega
  | B, .rp n x r, h => by
    have a := toks_len h.2.2.2.2
    have b := toks_len h.2.2.2.1
    have c : 1 ≤ x.scs.length := by
      have := Pg.len_le h.2.2.2.1
      cases x with
      | nil => exact (h.2.2.1 rfl).elim
      | sc _ _ => exact Nat.le_trans (Nat.succ_le_succ (Nat.zero_le _)) this
      | rp _ _ _ => exact Nat.le_trans (Nat.succ_le_succ (Nat.zero_le _)) this
    show (x.toks ++ Tk.cl n :: r.toks).length + 1 ≤ (2 * max (x.dep + 1) r.dep + 1) * (x.scs ++ r.scs).length
    rw [List.length_append, List.length_append, List.length_cons]
    obtain ⟨d, hd⟩ : ∃ d, d = max (x.dep + 1) r.dep := ⟨_, rfl⟩
    rw [← hd]
    have h1 : x.dep + 1 ≤ d := by omega
    have h2 : r.dep ≤ d := by omega
    have k1 : (2 * x.dep + 1) * x.scs.length ≤ (2 * d - 1) * x.scs.length := Nat.mul_le_mul_right _ (by omega)
    have k2 : (2 * r.dep + 1) * r.scs.length ≤ (2 * d + 1) * r.scs.length := Nat.mul_le_mul_right _ (by omega)
    have k3 : (2 * d + 1) * x.scs.length = (2 * d - 1) * x.scs.length + 2 * x.scs.length := by rw [← Nat.add_mul]; congr 1; omega
    rw [Nat.mul_add, k3]
    omega
end Kb
namespace Kb
open PySem PySem.Spec PyProof.Rows L2 TL
/-! ### the letters of words -/
theorem tl_nw {i : Int} (h : 0 ≤ i) : tl (nw i) = numL i.toNat := by
  obtain ⟨n, rfl⟩ := Int.eq_ofNat_of_zero_le h
  rw [Int.toNat_natCast]
  exact tl_num n
theorem nw_digit {i : Int} (h : 0 ≤ i) : ∀ c ∈ tl (nw i), 48 ≤ c ∧ c ≤ 57 := by
  rw [tl_nw h]
  exact numL_digits _
theorem nw_ne {i : Int} (h : 0 ≤ i) : tl (nw i) ≠ [] := by
  rw [tl_nw h]
  exact numL_ne _
theorem nw_len {i : Int} (h : 0 ≤ i) {k : Nat} (hk : 0 < k) (b : i < 10 ^ k) : (nw i).length ≤ k := by
  rw [len_tl, tl_nw h]
  refine numL_len hk ?_
  have e : (((10 : Nat) ^ k : Nat) : Int) = (10 : Int) ^ k := by simp
  omega
theorem nw_pos {i : Int} (h : 0 ≤ i) : 1 ≤ (nw i).length := by
  rw [len_tl]
  exact List.length_pos_iff.mpr (nw_ne h)
theorem nw_int {i : Int} (h : 0 ≤ i) (b : i < 10 ^ 600) : intText? (nw i) = some i := by
  obtain ⟨n, rfl⟩ := Int.eq_ofNat_of_zero_le h
  refine int_num ?_
  have l := nw_len (i := (n : Int)) h (k := 600) (by decide) b
  rw [len_tl, tl_nw h, Int.toNat_natCast] at l
  omega
theorem all_tl (x : Str) (p : Nat → Bool) : x.cps.all p = (tl x).all p := by
  rw [← Array.all_toList]
theorem nw_ascii {i : Int} (h : 0 ≤ i) : Txt.isascii (nw i) = true := by
  unfold Txt.isascii
  rw [all_tl, List.all_eq_true]
  intro c hc
  have := nw_digit h c hc
  exact decide_eq_true (by omega)
theorem dig10 : ∀ k : Fin 10, Unicode.isDigit (48 + k.val) = true := by decide +kernel
theorem isDig {c : Nat} (a : 48 ≤ c) (b : c ≤ 57) : Unicode.isDigit c = true := by
  have := dig10 ⟨c - 48, by omega⟩
  rwa [show 48 + (⟨c - 48, by omega⟩ : Fin 10).val = c from by show 48 + (c - 48) = c; omega] at this
theorem nw_isdigit {i : Int} (h : 0 ≤ i) : Txt.isdigit (nw i) = true := by
  unfold Txt.isdigit
  have := nw_pos h
  rw [decide_eq_true (show (nw i).length > 0 by omega), Bool.true_and, all_tl, List.all_eq_true]
  intro c hc
  have := nw_digit h c hc
  exact isDig this.1 this.2
theorem starts1 (x : Str) (c : Nat) : Txt.startswith x ⟨#[c]⟩ = decide ((tl x)[0]? = some c) := by
  have h := PySem.StrLaws.subAt_one x c 0
  unfold Txt.startswith
  refine Bool.eq_iff_iff.mpr ⟨fun y => ?_, fun y => ?_⟩
  · obtain ⟨y1, y2⟩ := Bool.and_eq_true_iff.mp y
    exact decide_eq_true (h.mp ⟨of_decide_eq_true y1, y2⟩)
  · obtain ⟨y1, y2⟩ := h.mpr (of_decide_eq_true y)
    exact Bool.and_eq_true_iff.mpr ⟨decide_eq_true y1, y2⟩
theorem cl_eq : clW = ⟨#[41]⟩ := by decide +kernel
theorem op_eq' : opW = ⟨#[40]⟩ := by decide +kernel
theorem dash_eq : dash = ⟨#[45]⟩ := by decide +kernel
theorem tl_cl : tl clW = [41] := by rw [cl_eq]
theorem tl_op : tl opW = [40] := by rw [op_eq']
theorem tl_dash : tl dash = [45] := by rw [dash_eq]
theorem numL_head {n : Nat} (h : n ≠ 0) : ∃ c r, numL n = c :: r ∧ 49 ≤ c := by
  induction n using Nat.strongRecOn with
  | _ n ih =>
    by_cases l : n < 10
    · exact ⟨48 + n, [], numL_lt l, by omega⟩
    · obtain ⟨c, r, e, k⟩ := ih (n / 10) (by omega) (by omega)
      exact ⟨c, r ++ [48 + n % 10], by rw [numL_step (by omega), e]; rfl, k⟩
/-- no number but 0 begins with 0 -/
theorem nw_zero {i : Int} (h : 0 ≤ i) : (tl (nw i))[0]? = some 48 ↔ i = 0 := by
  rw [tl_nw h]
  constructor
  · intro e
    by_cases z : i.toNat = 0
    · omega
    · obtain ⟨c, r, e2, k⟩ := numL_head z
      rw [e2] at e
      cases e
      omega
  · intro e
    subst e
    rw [show (0 : Int).toNat = 0 from rfl, numL_lt (by decide)]
    rfl
theorem nw_free {i : Int} (h : 0 ≤ i) {c : Nat} (k : c < 48 ∨ 57 < c) : c ∉ tl (nw i) := fun m => by
  have := nw_digit h c m
  omega
theorem nw_first {i : Int} (h : 0 ≤ i) : ∃ c r, tl (nw i) = c :: r ∧ 48 ≤ c ∧ c ≤ 57 := by
  cases e : tl (nw i) with
  | nil => exact (nw_ne h e).elim
  | cons c r =>
    have := nw_digit h c (by rw [e]; exact List.mem_cons_self)
    exact ⟨c, r, rfl, this.1, this.2⟩
theorem tl_scw (s : Sc) : tl (scw s) = if s.1 = s.2 then tl (nw s.1) else tl (nw s.1) ++ 45 :: tl (nw s.2) := by
  unfold scw
  split
  · rfl
  · rw [tl_append, tl_append, tl_dash, List.append_assoc]
    rfl
def TkOk (B : Int) : Tk → Prop
  | .op => True
  | .cl n => 2 ≤ n ∧ n ≤ B
  | .sc s => SOk B s
theorem toks_ok {B : Int} : ∀ {g : Pg}, g.Ok B → ∀ t ∈ g.toks, TkOk B t
  | .nil, _, t, h => by cases h
  | .sc s r, h, t, m => by
    rcases List.mem_cons.mp m with e | m
    · exact e ▸ h.1
    · exact toks_ok h.2 t m
  | .rp n x r, h, t, m => by
    rcases List.mem_cons.mp m with e | m
    · exact e ▸ trivial
    rcases List.mem_append.mp m with m | m
    · exact toks_ok h.2.2.2.1 t m
    rcases List.mem_cons.mp m with e | m
    · exact e ▸ ⟨h.1, h.2.1⟩
    · exact toks_ok h.2.2.2.2 t m
theorem scw_first {B : Int} {s : Sc} (h : SOk B s) : ∃ c r, tl (scw s) = c :: r ∧ 48 ≤ c ∧ c ≤ 57 := by
  obtain ⟨c, r, e, k⟩ := nw_first h.1
  rw [tl_scw]
  split
  · exact ⟨c, r, e, k⟩
  · exact ⟨c, r ++ 45 :: tl (nw s.2), by rw [e]; rfl, k⟩
theorem wd_space {B : Int} {t : Tk} (h : TkOk B t) : 32 ∉ tl t.wd := by
  cases t with
  | op =>
    show 32 ∉ tl opW
    rw [tl_op]
    decide
  | cl n =>
    show 32 ∉ tl (clW ++ nw n)
    have h : 2 ≤ n ∧ n ≤ B := h
    rw [tl_append, tl_cl]
    intro m
    rcases List.mem_append.mp m with m | m
    · revert m
      decide
    · exact nw_free (show 0 ≤ n by omega) (.inl (by decide)) m
  | sc s =>
    have h : SOk B s := h
    show 32 ∉ tl (scw s)
    rw [tl_scw]
    split
    · exact nw_free h.1 (.inl (by decide))
    · intro m
      rcases List.mem_append.mp m with m | m
      · exact nw_free h.1 (.inl (by decide)) m
      · rcases List.mem_cons.mp m with m | m
        · revert m
          decide
        · exact nw_free h.2.2.1 (.inl (by decide)) m
theorem wd_len {B : Int} {t : Tk} (h : TkOk B t) {k : Nat} (hk : 0 < k) (hB : B < 10 ^ k) : 1 ≤ t.wd.length ∧ t.wd.length ≤ 2 * k + 1 := by
  cases t with
  | op =>
    show 1 ≤ opW.length ∧ opW.length ≤ _
    rw [len_tl, tl_op]
    show 1 ≤ 1 ∧ 1 ≤ 2 * k + 1
    omega
  | cl n =>
    show 1 ≤ (clW ++ nw n).length ∧ (clW ++ nw n).length ≤ _
    have h : 2 ≤ n ∧ n ≤ B := h
    have := nw_len (show 0 ≤ n by omega) hk (by omega)
    rw [len_tl] at this
    rw [len_tl, tl_append, tl_cl, List.length_append]
    show 1 ≤ 1 + _ ∧ 1 + _ ≤ _
    omega
  | sc s =>
    have h : SOk B s := h
    show 1 ≤ (scw s).length ∧ (scw s).length ≤ _
    have a := nw_len h.1 hk (by have := h.2.1; omega)
    have b := nw_len h.2.2.1 hk (by have := h.2.2.2; omega)
    have c := nw_pos h.1
    rw [len_tl] at a b c
    rw [len_tl, tl_scw]
    split
    · omega
    · rw [List.length_append, List.length_cons]
      omega
theorem wl_space {B : Int} {g : Pg} (h : g.Ok B) : ∀ w ∈ g.wl, 32 ∉ tl w := fun w m => by
  obtain ⟨t, ht, rfl⟩ := List.mem_map.mp m
  exact wd_space (toks_ok h t ht)
def spW : Str := " "
theorem tl_sp : tl spW = [32] := by
  rw [show spW = ⟨#[32]⟩ from by decide +kernel]
/-- the text of a program -/
def txt (g : Pg) : Str := Txt.join spW g.wl
theorem toks_ne {g : Pg} (h : g ≠ .nil) : g.toks ≠ [] := by
  cases g with
  | nil => exact (h rfl).elim
  | sc s r => simp [Pg.toks]
  | rp n b r => simp [Pg.toks]
theorem wl_ne {g : Pg} (h : g ≠ .nil) : g.wl ≠ [] := fun e => toks_ne h (List.map_eq_nil_iff.mp e)
theorem txt_split {B : Int} {g : Pg} (h : g.Ok B) (ne : g ≠ .nil) : Txt.split (txt g) spW = g.wl :=
  split_join tl_sp (by decide +kernel) (wl_ne ne) (wl_space h)
theorem sum_le_of {ws : List Str} {k : Nat} (h : ∀ w ∈ ws, w.length ≤ k) : (ws.map (·.length)).sum ≤ ws.length * k := by
  induction ws with
  | nil => exact Nat.zero_le _
  | cons w r ih =>
    rw [List.map_cons, List.sum_cons, List.length_cons, Nat.succ_mul]
    have := h w List.mem_cons_self
    have := ih fun x hx => h x (List.mem_cons_of_mem _ hx)
    omega
theorem join_len (ws : List Str) : (Txt.join spW ws).length ≤ (ws.map (·.length)).sum + ws.length * spW.length := by
  rw [join_eq]
  have s1 : spW.length = 1 := by rw [len_tl, tl_sp]; rfl
  have go : ∀ ps : List Str, (Str.join spW ps).length ≤ (ps.map (·.length)).sum + ps.length * spW.length := by
    intro ps
    rw [s1]
    induction ps with
    | nil => exact Nat.zero_le _
    | cons p r ih =>
      cases r with
      | nil =>
        show p.length ≤ p.length + 0 + _
        omega
      | cons q r =>
        show (p ++ spW ++ Str.join spW (q :: r)).length ≤ _
        rw [len_tl, tl_append, tl_append, List.length_append, List.length_append, ← len_tl, ← len_tl, ← len_tl, s1, List.map_cons, List.sum_cons, List.length_cons]
        omega
  exact go ws
theorem txt_big {B : Int} {g : Pg} (h : g.Ok B) {k : Nat} (hk : 0 < k) (hB : B < 10 ^ k) : (g.wl.map (·.length)).sum + g.wl.length * spW.length ≤ g.toks.length * (2 * k + 2) := by
  have a := sum_le_of (ws := g.wl) (k := 2 * k + 1) fun w m => by
    obtain ⟨t, ht, rfl⟩ := List.mem_map.mp m
    exact (wd_len (toks_ok h t ht) hk hB).2
  have s1 : spW.length = 1 := by rw [len_tl, tl_sp]; rfl
  have e : g.wl.length = g.toks.length := List.length_map _
  rw [s1]
  rw [e] at a ⊢
  rw [show 2 * k + 2 = (2 * k + 1) + 1 from rfl, Nat.mul_add, Nat.mul_one]
  omega
theorem txt_pos {B : Int} {g : Pg} (h : g.Ok B) (ne : g ≠ .nil) : txt g ≠ Str.empty := fun e => by
  have s := txt_split h ne
  have a : tl (txt g) = [] := by rw [e]; rfl
  unfold txt at a
  rw [join_eq, tl_join, tl_sp] at a
  cases hg : g.wl with
  | nil => exact wl_ne ne hg
  | cons w r =>
    rw [hg] at a
    have wn : tl w ≠ [] := by
      have m : w ∈ g.wl := by rw [hg]; exact List.mem_cons_self
      obtain ⟨t, ht, rfl⟩ := List.mem_map.mp m
      have tk := toks_ok h t ht
      cases t with
      | op => show tl opW ≠ []; rw [tl_op]; decide
      | cl n => show tl (clW ++ nw n) ≠ []; rw [tl_append, tl_cl]; simp
      | sc s =>
        obtain ⟨c, r, e, _⟩ := scw_first tk
        show tl (scw s) ≠ []
        rw [e]
        simp
    cases r with
    | nil => exact wn a
    | cons q r =>
      have a : tl w ++ ([32] ++ joinL [32] ((q :: r).map tl)) = [] := a
      exact wn (List.append_eq_nil_iff.mp a).1
/-! ### reading words -/
theorem scw_part {B : Int} {s : Sc} (h : SOk B s) : Txt.partition (scw s) dash = if s.1 = s.2 then (nw s.1, Str.empty, Str.empty) else (nw s.1, dash, nw s.2) := by
  unfold scw
  split
  · exact partition_none tl_dash (nw_free h.1 (.inl (by decide)))
  · exact partition_app tl_dash (nw_free h.1 (.inl (by decide)))
theorem cl_ne_op (n : Int) : clW ++ nw n ≠ opW := fun e => by
  have e2 : tl (clW ++ nw n) = tl opW := by rw [e]
  rw [tl_append, tl_cl, tl_op] at e2
  simp at e2
theorem sc_ne_op {B : Int} {s : Sc} (h : SOk B s) : scw s ≠ opW := fun e => by
  have e2 : tl (scw s) = tl opW := by rw [e]
  obtain ⟨c, r, e3, k⟩ := scw_first h
  rw [e3, tl_op] at e2
  simp at e2
  omega
theorem cl_starts (n : Int) : Txt.startswith (clW ++ nw n) clW = true := by
  have := starts1 (clW ++ nw n) 41
  rw [← cl_eq] at this
  rw [this, tl_append, tl_cl]
  rfl
theorem sc_starts {B : Int} {s : Sc} (h : SOk B s) : Txt.startswith (scw s) clW = false := by
  have := starts1 (scw s) 41
  rw [← cl_eq] at this
  obtain ⟨c, r, e3, k⟩ := scw_first h
  rw [this, e3]
  refine decide_eq_false fun e => ?_
  cases e
  omega
/-! ### the words of a program, read by a stack of at most D bodies, at most M scans -/
def step (D M : Nat) : Tk → List Pg × Nat → Option (List Pg × Nat)
  | .op, (st, m) => if st.length < D then some (.nil :: st, m) else none
  | .cl n, (b :: c :: st, m) => if b ≠ .nil then some (c.app (.rp n b .nil) :: st, m) else none
  | .cl _, _ => none
  | .sc s, (b :: st, m) => if m + 1 ≤ M then some (b.app (.sc s .nil) :: st, m + 1) else none
  | .sc _, ([], _) => none
def run (D M : Nat) : List Tk → List Pg × Nat → Option (List Pg × Nat)
  | [], u => some u
  | t :: r, u => (step D M t u).bind (run D M r)
theorem run_app (D M : Nat) : ∀ (a b : List Tk) (u : List Pg × Nat), run D M (a ++ b) u = (run D M a u).bind (run D M b)
  | [], b, u => rfl
  | t :: r, b, u => by
    show (step D M t u).bind (run D M (r ++ b)) = ((step D M t u).bind (run D M r)).bind (run D M b)
    cases step D M t u with
    | none => rfl
    | some v => exact run_app D M r b v
theorem run_toks {D M : Nat} {B : Int} : ∀ (g b : Pg) (st : List Pg) (m : Nat), g.Ok B → st.length + 1 + g.dep ≤ D → m + g.scs.length ≤ M → run D M g.toks (b :: st, m) = some (b.app g :: st, m + g.scs.length)
  | .nil, b, st, m, _, _, _ => by
    rw [Pg.app_nil]
    rfl
  | .sc s r, b, st, m, h, d, l => by
    have l : m + (r.scs.length + 1) ≤ M := l
    show ((if m + 1 ≤ M then some (b.app (.sc s .nil) :: st, m + 1) else none).bind (run D M r.toks)) = _
    rw [if_pos (by omega)]
    show run D M r.toks (b.app (.sc s .nil) :: st, m + 1) = _
    rw [run_toks r _ st (m + 1) h.2 d (by omega), Pg.app_assoc]
    show some (b.app (.sc s r) :: st, m + 1 + r.scs.length) = some (b.app (.sc s r) :: st, m + (r.scs.length + 1))
    rw [show m + 1 + r.scs.length = m + (r.scs.length + 1) by omega]
  | .rp n x r, b, st, m, h, d, l => by
    have l : m + (x.scs ++ r.scs).length ≤ M := l
    rw [List.length_append] at l
    have d : st.length + 1 + max (x.dep + 1) r.dep ≤ D := d
    show ((if (b :: st).length < D then some (Pg.nil :: b :: st, m) else none).bind (run D M (x.toks ++ Tk.cl n :: r.toks))) = _
    rw [if_pos (by rw [List.length_cons]; omega)]
    show run D M (x.toks ++ Tk.cl n :: r.toks) (Pg.nil :: b :: st, m) = _
    rw [run_app, run_toks x .nil (b :: st) m h.2.2.2.1 (by rw [List.length_cons]; omega) (by omega)]
    show run D M (Tk.cl n :: r.toks) (x :: b :: st, m + x.scs.length) = _
    show ((if x ≠ .nil then some (b.app (.rp n x .nil) :: st, m + x.scs.length) else none).bind (run D M r.toks)) = _
    rw [if_pos h.2.2.1]
    show run D M r.toks (b.app (.rp n x .nil) :: st, m + x.scs.length) = _
    rw [run_toks r _ st _ h.2.2.2.2 (by omega) (by omega), Pg.app_assoc]
    show some (b.app (.rp n x r) :: st, m + x.scs.length + r.scs.length) = some (b.app (.rp n x r) :: st, m + (x.scs ++ r.scs).length)
    rw [List.length_append, Nat.add_assoc]
/-- a run that comes to its end takes each of its steps -/
theorem run_at {D M : Nat} {l : List Tk} {u f : List Pg × Nat} (h : run D M l u = some f) {i : Nat} {t : Tk} (ht : l[i]? = some t) {v : List Pg × Nat} (hv : run D M (l.take i) u = some v) : ∃ v', step D M t v = some v' ∧ run D M (l.take (i + 1)) u = some v' := by
  have e : l = l.take i ++ t :: l.drop (i + 1) := by
    obtain ⟨hi, rfl⟩ := List.getElem?_eq_some_iff.mp ht
    rw [← List.drop_eq_getElem_cons hi, List.take_append_drop]
  have h2 := h
  rw [e, run_app, hv] at h2
  have h2 : (step D M t v).bind (run D M (l.drop (i + 1))) = some f := h2
  cases hs : step D M t v with
  | none =>
    rw [hs] at h2
    cases h2
  | some v' =>
    refine ⟨v', rfl, ?_⟩
    rw [List.take_add_one, ht, run_app, hv]
    show (step D M t v).bind (run D M []) = _
    rw [hs]
    rfl
theorem step_op {D M : Nat} {st : List Pg} {m : Nat} {v' : List Pg × Nat} (h : step D M .op (st, m) = some v') : st.length < D ∧ v' = (.nil :: st, m) := by
  have h : (if st.length < D then some (Pg.nil :: st, m) else none) = some v' := h
  split at h
  · cases h
    exact ⟨by assumption, rfl⟩
  · cases h
theorem step_cl {D M : Nat} {n : Int} {st : List Pg} {m : Nat} {v' : List Pg × Nat} (h : step D M (.cl n) (st, m) = some v') : ∃ b c r, st = b :: c :: r ∧ b ≠ .nil ∧ v' = (c.app (.rp n b .nil) :: r, m) := by
  match st, h with
  | [], h => cases h
  | [_], h => cases h
  | b :: c :: r, h =>
    have h : (if b ≠ .nil then some (c.app (.rp n b .nil) :: r, m) else none) = some v' := h
    split at h
    · cases h
      exact ⟨b, c, r, rfl, by assumption, rfl⟩
    · cases h
theorem step_sc {D M : Nat} {s : Sc} {st : List Pg} {m : Nat} {v' : List Pg × Nat} (h : step D M (.sc s) (st, m) = some v') : ∃ b r, st = b :: r ∧ m + 1 ≤ M ∧ v' = (b.app (.sc s .nil) :: r, m + 1) := by
  match st, h with
  | [], h => cases h
  | b :: r, h =>
    have h : (if m + 1 ≤ M then some (b.app (.sc s .nil) :: r, m + 1) else none) = some v' := h
    split at h
    · cases h
      exact ⟨b, r, rfl, by assumption, rfl⟩
    · cases h
/-- what holds of the open bodies -/
def Dp0 (D : Nat) : List Pg → Prop
  | [] => True
  | x :: r => x.dep + (r.length + 1) ≤ D ∧ Dp0 D r
def lens (st : List Pg) : Nat := (st.map Pg.len).sum
def scss (st : List Pg) : Nat := (st.map fun g => g.scs.length).sum
theorem step_inv {D M : Nat} {B : Int} {t : Tk} {st st' : List Pg} {m m' : Nat} (h : step D M t (st, m) = some (st', m')) (tk : TkOk B t) (d : Dp0 D st) (o : ∀ x ∈ st, x.Ok B) (sm : scss st ≤ m) : Dp0 D st' ∧ lens st' ≤ lens st + 1 ∧ (∀ x ∈ st', x.Ok B) ∧ scss st' ≤ m' ∧ (m ≤ M → m' ≤ M) := by
  cases t with
  | op =>
    obtain ⟨l5, e⟩ := step_op h
    cases e
    refine ⟨⟨?_, d⟩, ?_, fun x hx => ?_, ?_, id⟩
    · show 0 + _ ≤ D
      omega
    · show 0 + lens st ≤ _
      omega
    · rcases List.mem_cons.mp hx with e | hx
      · rw [e]; trivial
      · exact o x hx
    · show 0 + scss st ≤ _
      omega
  | cl n =>
    obtain ⟨b, c, r, rfl, bn, e⟩ := step_cl h
    cases e
    obtain ⟨d1, d2, d3⟩ := d
    have tk : 2 ≤ n ∧ n ≤ B := tk
    refine ⟨⟨?_, d3⟩, ?_, fun x hx => ?_, ?_, id⟩
    · rw [Pg.dep_app]
      show max c.dep (max (b.dep + 1) 0) + _ ≤ D
      rw [List.length_cons] at d1
      omega
    · show (c.app (.rp n b .nil)).len + lens r ≤ b.len + (c.len + lens r) + 1
      rw [Pg.len_app]
      show c.len + 1 + _ ≤ _
      omega
    · rcases List.mem_cons.mp hx with e | hx
      · rw [e]
        exact (o c (List.mem_cons_of_mem _ List.mem_cons_self)).app ⟨tk.1, tk.2, bn, o b List.mem_cons_self, trivial⟩
      · exact o x (List.mem_cons_of_mem _ (List.mem_cons_of_mem _ hx))
    · have sm : b.scs.length + (c.scs.length + scss r) ≤ m := sm
      show (c.app (.rp n b .nil)).scs.length + scss r ≤ m
      rw [Pg.scs_app, List.length_append]
      show c.scs.length + (b.scs ++ []).length + _ ≤ _
      rw [List.append_nil]
      omega
  | sc s =>
    obtain ⟨b, r, rfl, l, e⟩ := step_sc h
    cases e
    obtain ⟨d1, d2⟩ := d
    refine ⟨⟨?_, d2⟩, ?_, fun x hx => ?_, ?_, fun _ => l⟩
    · rw [Pg.dep_app]
      show max b.dep 0 + _ ≤ D
      omega
    · show (b.app (.sc s .nil)).len + lens r ≤ b.len + lens r + 1
      rw [Pg.len_app]
      show b.len + 1 + _ ≤ _
      omega
    · rcases List.mem_cons.mp hx with e | hx
      · rw [e]
        exact (o b List.mem_cons_self).app ⟨tk, trivial⟩
      · exact o x (List.mem_cons_of_mem _ hx)
    · have sm : b.scs.length + scss r ≤ m := sm
      show (b.app (.sc s .nil)).scs.length + scss r ≤ m + 1
      rw [Pg.scs_app, List.length_append]
      show b.scs.length + 1 + _ ≤ _
      omega
/-! ### scans among the words -/
end Kb
namespace Kb
open PySem PySem.Spec PyProof.Rows L2 TL
/-! ### parts in the heap -/
/-- tuples stay -/
def Kp (H H' : Hp) : Prop := ∀ a xs, H a = some (.tup xs) → H' a = some (.tup xs)
theorem Ex.kp {H H' : Hp} (e : Ex H H') : Kp H H' := fun a xs h => e a _ h
theorem Nx.kp {H H' : Hp} (e : Nx H H') : Kp H H' := fun a xs h => e.at h
theorem Kp.refl (H : Hp) : Kp H H := fun _ _ h => h
theorem Kp.trans {H H1 H2 : Hp} (a : Kp H H1) (b : Kp H1 H2) : Kp H H2 := fun x xs h => b x xs (a x xs h)
theorem Kp.lst {H : Hp} {p : Addr} {xs : List V} {o : HO} (h : H p = some (.lst xs)) : Kp H (upd H p o) := fun a ys e => by
  rw [upd_ne]
  · exact e
  · intro z
    rw [z, h] at e
    cases e
def Its (H : Hp) : Pg → List V → Prop
  | .nil, vs => vs = []
  | .sc s r, vs => ∃ v us, vs = v :: us ∧ IsSc H v s ∧ Its H r us
  | .rp n b r, vs => ∃ t u bs us, vs = .ref t :: us ∧ H t = some (.tup [.int n, .ref u]) ∧ H u = some (.tup bs) ∧ Its H b bs ∧ Its H r us
def IsPg (H : Hp) (v : V) (g : Pg) : Prop := ∃ t vs, v = .ref t ∧ H t = some (.tup vs) ∧ Its H g vs
theorem IsSc.kp {H H' : Hp} (k : Kp H H') {v : V} {s : Sc} (h : IsSc H v s) : IsSc H' v s := by
  obtain ⟨t, h1, h2⟩ := h
  exact ⟨t, h1, k _ _ h2⟩
theorem Its.kp {H H' : Hp} (k : Kp H H') : ∀ {g : Pg} {vs : List V}, Its H g vs → Its H' g vs
  | .nil, _, h => h
  | .sc s r, _, ⟨v, us, e, h, t⟩ => ⟨v, us, e, h.kp k, t.kp k⟩
  | .rp n b r, _, ⟨t, u, bs, us, e, h1, h2, h3, h4⟩ => ⟨t, u, bs, us, e, k _ _ h1, k _ _ h2, h3.kp k, h4.kp k⟩
theorem IsPg.kp {H H' : Hp} (k : Kp H H') {v : V} {g : Pg} (h : IsPg H v g) : IsPg H' v g := by
  obtain ⟨t, vs, e, h1, h2⟩ := h
  exact ⟨t, vs, e, k _ _ h1, h2.kp k⟩
theorem IsPg.mono {H H' : Hp} (e : Ex H H') {v : V} {g : Pg} (h : IsPg H v g) : IsPg H' v g := h.kp e.kp
theorem Its.len {H : Hp} : ∀ {g : Pg} {vs : List V}, Its H g vs → vs.length = g.len
  | .nil, _, h => by rw [show _ = [] from h]; rfl
  | .sc s r, _, ⟨v, us, e, h, t⟩ => by rw [e, List.length_cons, t.len]; rfl
  | .rp n b r, _, ⟨t, u, bs, us, e, h1, h2, h3, h4⟩ => by rw [e, List.length_cons, h4.len]; rfl
theorem Its.app {H : Hp} : ∀ {a b : Pg} {vs us : List V}, Its H a vs → Its H b us → Its H (a.app b) (vs ++ us)
  | .nil, b, vs, us, h, k => by
    rw [show vs = [] from h]
    exact k
  | .sc s r, b, _, us, ⟨v, ws, e, h, t⟩, k => ⟨v, ws ++ us, by rw [e]; rfl, h, t.app k⟩
  | .rp n x r, b, _, us, ⟨t, u, bs, ws, e, h1, h2, h3, h4⟩, k => ⟨t, u, bs, ws ++ us, by rw [e]; rfl, h1, h2, h3, h4.app k⟩
/-- the part with an index, what is ahead of it and what is behind it -/
theorem Its.get {H : Hp} {v : V} {b : Pg} : ∀ {a : Pg} {vs : List V}, Its H (a.app b) vs → vs[a.len]? = some v →
    (∃ s r, b = .sc s r ∧ IsSc H v s) ∨ ∃ n x r t u bs, b = .rp n x r ∧ v = .ref t ∧ H t = some (.tup [.int n, .ref u]) ∧ H u = some (.tup bs) ∧ Its H x bs
  | .nil, vs, h, e => by
    have h : Its H b vs := h
    have e : vs[0]? = some v := e
    cases b with
    | nil =>
      rw [show vs = [] from h] at e
      cases e
    | sc s r =>
      obtain ⟨w, us, rfl, h1, _⟩ := h
      cases e
      exact .inl ⟨s, r, rfl, h1⟩
    | rp n x r =>
      obtain ⟨t, u, bs, us, rfl, h1, h2, h3, _⟩ := h
      cases e
      exact .inr ⟨n, x, r, t, u, bs, rfl, rfl, h1, h2, h3⟩
  | .sc s r, _, ⟨w, us, rfl, h, t⟩, e => Its.get (a := r) t e
  | .rp n x r, _, ⟨t, u, bs, us, rfl, h1, h2, h3, h4⟩, e => Its.get (a := r) h4 e
theorem Pg.len_zero {g : Pg} (h : g.len = 0) : g = .nil := by
  cases g with
  | nil => rfl
  | sc s r => exact (Nat.succ_ne_zero _ h).elim
  | rp n b r => exact (Nat.succ_ne_zero _ h).elim
/-- a walk that has come to the end -/
theorem Its.done {H : Hp} {a b : Pg} {vs : List V} (h : Its H (a.app b) vs) (e : a.len = vs.length) : b = .nil := by
  have := h.len
  rw [Pg.len_app] at this
  exact Pg.len_zero (by omega)
theorem Pg.sc_app (a : Pg) (s : Sc) (r : Pg) : a.app (.sc s r) = (a.app (.sc s .nil)).app r := by
  rw [Pg.app_assoc]
  rfl
theorem Pg.rp_app (a : Pg) (n : Int) (x r : Pg) : a.app (.rp n x r) = (a.app (.rp n x .nil)).app r := by
  rw [Pg.app_assoc]
  rfl
/-! ### parts as data -/
def pdG : Pg → List PyData
  | .nil => []
  | .sc s r => pdS s :: pdG r
  | .rp n b r => .tuple [.int n, .tuple (pdG b)] :: pdG r
def pdP (g : Pg) : PyData := .tuple (pdG g)
theorem its_dp {K : PySem.W.Frag} {H : Hp} : ∀ {g : Pg} {vs : List V}, Its H g vs → DpAll K H vs (pdG g)
  | .nil, vs, h => by
    rw [show vs = [] from h]
    exact .nil
  | .sc s r, vs, h => by
    obtain ⟨v, us, rfl, ⟨t0, rfl, ht⟩, t⟩ := h
    exact .cons (.tup (SqT.of ht) (.cons (.int _) (.cons (.int _) .nil))) (its_dp t)
  | .rp n b r, _, ⟨t, u, bs, us, rfl, h1, h2, h3, h4⟩ => .cons (.tup (SqT.of h1) (.cons (.int _) (.cons (.tup (SqT.of h2) (its_dp h3)) .nil))) (its_dp h4)
theorem IsPg.dp {K : PySem.W.Frag} {H : Hp} {v : V} {g : Pg} (h : IsPg H v g) : Dp K H v (pdP g) := by
  obtain ⟨t, vs, rfl, h1, h2⟩ := h
  exact .tup (SqT.of h1) (its_dp h2)
theorem eqv_G : ∀ g h : Pg, PyData.eqvAll (pdG g) (pdG h) = decide (g = h)
  | .nil, .nil => rfl
  | .nil, .sc _ _ => rfl
  | .nil, .rp _ _ _ => rfl
  | .sc _ _, .nil => rfl
  | .rp _ _ _, .nil => rfl
  | .sc s r, .sc t q => by
    show (PyData.eqv (pdS s) (pdS t) && PyData.eqvAll (pdG r) (pdG q)) = _
    rw [eqv_S, eqv_G r q, Bool.eq_iff_iff]
    simp
  | .sc s r, .rp n b q => by
    show (((s.1 == n) && (false && true)) && _) = _
    rw [Bool.false_and, Bool.and_false, Bool.false_and]
    exact (decide_eq_false (by intro z; cases z)).symm
  | .rp n b r, .sc t q => by
    show (((n == t.1) && (false && true)) && _) = _
    rw [Bool.false_and, Bool.and_false, Bool.false_and]
    exact (decide_eq_false (by intro z; cases z)).symm
  | .rp n b r, .rp m c q => by
    show (((n == m) && (PyData.eqvAll (pdG b) (pdG c) && true)) && PyData.eqvAll (pdG r) (pdG q)) = _
    rw [eqv_G b c, eqv_G r q, Bool.eq_iff_iff]
    simp [and_assoc]
theorem eqv_Pg (g h : Pg) : PyData.eqv (pdP g) (pdP h) = decide (g = h) := eqv_G g h
theorem lay_G : ∀ g : Pg, PyData.canLayAll0 (pdG g) = true
  | .nil => rfl
  | .sc s r => by
    show (PyData.canLay0 (pdS s) && PyData.canLayAll0 (pdG r)) = true
    rw [lay_G r]
    rfl
  | .rp n b r => by
    show ((true && (PyData.canLayAll0 (pdG b) && true)) && PyData.canLayAll0 (pdG r)) = true
    rw [lay_G b, lay_G r]
    rfl
theorem dep_G : ∀ g : Pg, PyData.depthAll (pdG g) ≤ 2 * g.dep + 1
  | .nil => Nat.zero_le _
  | .sc s r => by
    show max (PyData.depth (pdS s)) (PyData.depthAll (pdG r)) ≤ 2 * r.dep + 1
    have := dep_G r
    have : PyData.depth (pdS s) = 1 := rfl
    omega
  | .rp n b r => by
    show max (max 0 (max (PyData.depthAll (pdG b) + 1) 0) + 1) (PyData.depthAll (pdG r)) ≤ 2 * max (b.dep + 1) r.dep + 1
    have := dep_G r
    have := dep_G b
    omega
theorem shaped_Pg {g : Pg} (h : g.dep ≤ 30) : SeqAt.shaped (pdP g) = true := by
  show (PyData.canLayAll0 (pdG g) && decide (PyData.depthAll (pdG g) + 1 ≤ 64)) = true
  have := dep_G g
  rw [lay_G, decide_eq_true (by omega)]
  rfl
/-! ### how many accesses there are -/
theorem Pg.cnt_nn : ∀ {B : Int} {g : Pg}, g.Ok B → 0 ≤ g.cnt
  | _, .nil, _ => Int.le_refl 0
  | B, .sc s r, h => by
    have := Pg.cnt_nn h.2
    have := slen_pos s
    show 0 ≤ slen s + r.cnt
    omega
  | B, .rp n x r, h => by
    have a := Pg.cnt_nn h.2.2.2.2
    have b := Pg.cnt_nn h.2.2.2.1
    have c := Int.mul_nonneg (show 0 ≤ n by have := h.1; omega) b
    show 0 ≤ n * x.cnt + r.cnt
    omega
theorem slen_le {B : Int} {s : Sc} (h : SOk B s) : slen s ≤ B + 1 := by
  obtain ⟨a, b, c, d⟩ := h
  unfold slen
  split <;> omega
theorem Pg.cnt_le : ∀ {B : Int} {g : Pg} {k : Nat}, 0 ≤ B → g.Ok B → g.dep ≤ k → g.cnt ≤ (g.scs.length : Int) * (B + 1) ^ (k + 1)
  | B, .nil, k, _, _, _ => by
    show (0 : Int) ≤ ((0 : Nat) : Int) * _
    simp
  | B, .sc s r, k, hB, h, d => by
    have a := Pg.cnt_le (k := k) hB h.2 d
    have b := slen_le h.1
    have p : (1 : Int) ≤ (B + 1) ^ k := by
      have := Int.pow_pos (n := B + 1) (m := k) (by omega)
      omega
    have c : B + 1 ≤ (B + 1) ^ (k + 1) := by
      rw [Int.pow_succ]
      have := Int.mul_le_mul_of_nonneg_right p (show 0 ≤ B + 1 by omega)
      omega
    show slen s + r.cnt ≤ ((r.scs.length + 1 : Nat) : Int) * _
    rw [Int.natCast_add, Int.add_mul]
    omega
  | B, .rp n x r, k, hB, h, d => by
    have d : max (x.dep + 1) r.dep ≤ k := d
    obtain ⟨j, rfl⟩ : ∃ j, k = j + 1 := ⟨k - 1, by omega⟩
    have a := Pg.cnt_le (k := j + 1) hB h.2.2.2.2 (by omega)
    have b := Pg.cnt_le (k := j) hB h.2.2.2.1 (by omega)
    have z := Pg.cnt_nn h.2.2.2.1
    have m := Int.mul_le_mul (show n ≤ B + 1 by have := h.2.1; omega) b z (show 0 ≤ B + 1 by omega)
    have e : (B + 1) * ((x.scs.length : Int) * (B + 1) ^ (j + 1)) = (x.scs.length : Int) * (B + 1) ^ (j + 1 + 1) := by
      rw [Int.pow_succ (B + 1) (j + 1), ← Int.mul_assoc, Int.mul_comm (B + 1) (x.scs.length : Int), Int.mul_assoc, Int.mul_comm (B + 1) ((B + 1) ^ (j + 1))]
    rw [e] at m
    show n * x.cnt + r.cnt ≤ ((x.scs ++ r.scs).length : Int) * _
    rw [List.length_append, Int.natCast_add, Int.add_mul]
    omega
end Kb
namespace Kb
open PySem PySem.Spec PyProof.Rows L2 TL
/-! ### names that are still the built-in ones -/
structure Bt2 (mg : Str → Option Value) : Prop extends Bt mg where
  str : mg "str" = none
  enumerate : mg "enumerate" = none
  reversed : mg "reversed" = none
/-! ### promises -/
def spIsRep : Sp := fun vs H Q _ => ∃ v : V, vs = [v] ∧ ((∃ s, IsSc H v s ∧ RetV (.bl false) H Q) ∨ (∃ t n u bs, v = .ref t ∧ H t = some (.tup [.int n, .ref u]) ∧ H u = some (.tup bs) ∧ RetV (.bl true) H Q))
def BB (B : Int) : Prop := 0 ≤ B ∧ B + 1 ≤ 2 ^ 400
def spRdD : Sp := fun vs H Q _ => ∃ (i : Int) (m : Int), vs = [.str (nw i), .int m] ∧ 0 ≤ i ∧ i < 10 ^ 600 ∧ ((nw i).length : Int) ≤ m ∧ RetV (.int i) H Q
def spRdN : Sp := fun vs H Q _ => ∃ (i : Int), vs = [.str (nw i)] ∧ 0 ≤ i ∧ i ≤ 10 ^ 30 ∧ RetV (.int i) H Q
def spRdS : Sp := fun vs H Q _ => ∃ (s : Sc), vs = [.str (scw s)] ∧ SOk (10 ^ 30) s ∧ ∀ t H', H t = none → Ex H H' → H' t = some (.tup [.int s.1, .int s.2]) → Q (.ref t) H'
def spRdT : Sp := fun vs H Q _ => ∃ (n : Int), vs = [.str (clW ++ nw n)] ∧ 2 ≤ n ∧ n ≤ 10 ^ 30 ∧ RetV (.int n) H Q
/-- a text that is that of a program within the limits -/
structure Lim (g : Pg) : Prop where
  ok : g.Ok (10 ^ 30)
  dep : g.dep ≤ 5
  few : g.scs.length ≤ 40
def spRead : Sp := fun vs H Q _ => ∃ (g : Pg), vs = [.str (txt g)] ∧ Lim g ∧ ∀ v H', Ex H H' → IsPg H' v g → Q v H'
theorem Lim.toks {g : Pg} (h : Lim g) : g.toks.length ≤ 440 := by
  have := toks_len h.ok
  have a := Nat.mul_le_mul (show 2 * g.dep + 1 ≤ 11 by have := h.dep; omega) h.few
  omega
theorem Lim.big {g : Pg} (h : Lim g) : (g.wl.map (·.length)).sum + g.wl.length * spW.length ≤ 2 ^ 18 := by
  have a := txt_big h.ok (k := 31) (by decide) (by decide +kernel)
  have b := Nat.mul_le_mul_right (2 * 31 + 2) h.toks
  omega
theorem Lim.txt {g : Pg} (h : Lim g) : (txt g).length ≤ 2 ^ 18 := Nat.le_trans (join_len _) h.big
theorem mx (e : Nat) : e ≤ 600 → ((10 : Int) ^ e) ≤ 10 ^ 600 := fun h => by
  have : (10 : Int) ^ 600 = 10 ^ e * 10 ^ (600 - e) := by rw [← Int.pow_add]; congr 1; omega
  rw [this]
  have p := Int.pow_pos (n := 10) (m := e) (by decide)
  have q := Int.pow_pos (n := 10) (m := 600 - e) (by decide)
  have := Int.mul_le_mul_of_nonneg_left (show (1 : Int) ≤ 10 ^ (600 - e) by omega) (show (0 : Int) ≤ 10 ^ e by omega)
  omega
theorem log_nw {n : Int} (h : 0 ≤ n) (b : n < 10 ^ 500) : n.natAbs.log2 < 1920 := by
  refine Nat.lt_of_lt_of_le (PySem.Flt.log2_lt_of (k := 1661) (by decide) ?_) (by decide)
  have e : ((10 : Int) ^ 500) = ((10 ^ 500 : Nat) : Int) := by simp
  have : n.natAbs < 10 ^ 500 := by omega
  exact Nat.lt_of_lt_of_le this (by decide +kernel)
end Kb
namespace Kb
open PySem PySem.Spec PyProof.Rows L2 TL
section
variable {K : PySem.W.Frag} {a : Addr} {xs : List V} {g : TG}
/-- for i, x in enumerate(xs) -/
theorem for_enum {tb : TS} {D : Ends} {σ : L2.St} {H : Hp} (Pv : Nat → L2.St → Hp → Prop) (h0 : Pv 0 σ H) (hl : ∀ i σ H, i ≤ xs.length → Pv i σ H → SqL K H a xs)
    (hs : ∀ i x T σ H, xs[i]? = some x → H T = none → Pv i σ H → g (.ref T) σ (upd H T (.tup [.int (i : Nat), x])) fun σ2 H2 => tb { D with nx := Pv (i + 1), ct := Pv (i + 1), bk := D.nx } σ2 H2) (hd : ∀ σ H, Pv xs.length σ H → D.nx σ H) :
    ∃ W : Nat → Nat → L2.St → Hp → Prop, (∃ m, W 0 m σ H) ∧ ∀ i m σ H, W i m σ H →
      ((Ite K a).stop i H ∧ D.nx σ H) ∨ ((Ite K a).go i H ∧ ∃ N : L2.St → Hp → Prop, (∀ σ' H', N σ' H' → ∃ m', m' < m ∧ W (i + 1) m' σ' H') ∧ ∀ x H', (Ite K a).yld i H x H' → g x σ H' fun σ2 H2 => tb { D with nx := N, ct := N, bk := D.nx } σ2 H2) := by
  refine ⟨fun i m σ H => m = xs.length - i ∧ i ≤ xs.length ∧ Pv i σ H, ⟨xs.length, by simp, Nat.zero_le _, h0⟩, ?_⟩
  rintro i m σ H ⟨rfl, hi, p⟩
  have q1 := hl i σ H hi p
  by_cases hlt : i < xs.length
  · have g1 : xs[i]? = some xs[i] := List.getElem?_eq_getElem hlt
    refine .inr ⟨⟨_, _, q1, g1⟩, Pv (i + 1), fun σ' H' p' => ⟨xs.length - (i + 1), by omega, rfl, hlt, p'⟩, fun v H' y => ?_⟩
    obtain ⟨T, x1, rfl, nT, rfl, f1⟩ := y
    exact hs i x1 T σ H (f1 xs q1) nT p
  · have e : i = xs.length := by omega
    subst e
    exact .inl ⟨⟨xs, q1, Nat.le_refl _⟩, hd σ H p⟩
end
theorem cut_cl (n : Int) : cutS (clW ++ nw n) (some 1) none = nw n := by
  refine ext_tl ?_
  unfold cutS
  show ((clW ++ nw n).cps.toList.drop _).take _ = _
  have e : (clW ++ nw n).cps.toList = 41 :: tl (nw n) := by
    show tl (clW ++ nw n) = _
    rw [tl_append, tl_cl]
    rfl
  have l : (clW ++ nw n).length = (tl (nw n)).length + 1 := by rw [len_tl, tl_append, tl_cl, List.length_append]; exact Nat.add_comm _ _
  rw [e, l, HT.sIx_none, show HT.sIx ((tl (nw n)).length + 1) 0 (some 1) = min 1 ((tl (nw n)).length + 1) from HT.sIx_nat _ 0 1, show min 1 ((tl (nw n)).length + 1) = 1 by omega]
  show (tl (nw n)).take _ = _
  rw [show (tl (nw n)).length + 1 - 1 = (tl (nw n)).length by omega, List.take_length]
/-- the open bodies, the innermost one first -/
def Bod (H : Hp) (p : Addr) (st : List Pg) : Prop := ∃ us, H p = some (.lst us.reverse) ∧ Paired (IsPg H) us st
theorem Pp.kp {H H' : Hp} (k : Kp H H') : ∀ {vs : List V} {gs : List Pg}, Paired (IsPg H) vs gs → Paired (IsPg H') vs gs
  | _, _, .nil => .nil
  | _, _, .cons h t => .cons (h.kp k) (Pp.kp k t)
theorem Pp.len {H : Hp} : ∀ {vs : List V} {gs : List Pg}, Paired (IsPg H) vs gs → vs.length = gs.length
  | _, _, .nil => rfl
  | _, _, .cons h t => congrArg (· + 1) (Pp.len t)
theorem Bod.mono {H H' : Hp} (e : Ex H H') {p : Addr} {st : List Pg} (h : Bod H p st) : Bod H' p st := by
  obtain ⟨us, h1, h2⟩ := h
  exact ⟨us, e _ _ h1, Pp.kp e.kp h2⟩
end Kb
namespace Kb
open PySem PySem.Spec PyProof.Rows L2 TL
/-! ### the object of a program -/
structure Tpg (K : PySem.W.Frag) (C : Addr) : Prop where
  cl : Cls K C
  nP : NoAttr K C "parts"
def pgF (t : V) : List (Str × V) := [("parts", t)]
theorem pgF_put (t : V) : putF "parts" t [] = pgF t := rfl
theorem pgF_get (t : V) : (pgF t).lookup ("parts" : Str) = some t := by
  rw [← pgF_put, lookup_putF, if_pos rfl]
def PgAt (C : Addr) (H : Hp) (x : Addr) (g : Pg) : Prop := ∃ dx t, H x = some (.ins C dx (pgF t)) ∧ IsPg H t g
theorem PgAt.nx {C : Addr} {H H' : Hp} {x : Addr} {g : Pg} (e : Nx H H') (h : PgAt C H x g) : PgAt C H' x g := by
  obtain ⟨dx, t, h1, h2⟩ := h
  exact ⟨dx, t, e.at h1, h2.kp e.kp⟩
theorem PgAt.mono {C : Addr} {H H' : Hp} {x : Addr} {g : Pg} (e : Ex H H') (h : PgAt C H x g) : PgAt C H' x g := h.nx e.nx
/-- a program whose numbers and words are not too many -/
structure Med (g : Pg) : Prop where
  ok : g.Ok (10 ^ 63)
  dep : g.dep < 12
  few : g.toks.length ≤ 100000
theorem scs_toks : ∀ g : Pg, g.scs.length ≤ g.toks.length
  | .nil => Nat.le_refl _
  | .sc s r => Nat.succ_le_succ (scs_toks r)
  | .rp n b r => by
    show (b.scs ++ r.scs).length ≤ (Tk.op :: (b.toks ++ Tk.cl n :: r.toks)).length
    have := scs_toks b
    have := scs_toks r
    rw [List.length_append, List.length_cons, List.length_append, List.length_cons]
    omega
theorem Med.scs {g : Pg} (h : Med g) : g.scs.length ≤ 100000 := Nat.le_trans (scs_toks g) h.few
theorem Med.txt {g : Pg} (h : Med g) : (g.wl.map (·.length)).sum + g.wl.length * spW.length ≤ 16777216 := by
  have a := txt_big h.ok (k := 64) (by decide) (by decide +kernel)
  have b := Nat.mul_le_mul_right (2 * 64 + 2) h.few
  omega
def spInitPg (C : Addr) : Sp := fun vs H Q _ => ∃ (x dx : Addr) (g : Pg), vs = [.ref x, .str (txt g)] ∧ H x = some (.ins C dx []) ∧ Lim g ∧ ∀ H', (∀ b o, b ≠ x → H b = some o → H' b = some o) → PgAt C H' x g → Q .non H'
def spEqPg (K : PySem.W.Frag) (C : Addr) : Sp := fun vs H Q _ => ∃ (x : Addr) (g : Pg) (y : V), vs = [.ref x, y] ∧ PgAt C H x g ∧ g.dep ≤ 30 ∧
  ((∃ z h, y = .ref z ∧ PgAt C H z h ∧ h.dep ≤ 30 ∧ RetV (.bl (decide (g = h))) H Q) ∨ (∃ t, Ty2 H y t ∧ (∀ a dx fs, ¬ (y = V.ref a ∧ ∃ C, H a = some (.ins C dx fs))) ∧ Oth K C t ∧ RetV (.bl false) H Q))
end Kb
namespace Kb
open PySem PySem.Spec PyProof.Rows L2 TL
/-! ### promises of the law's own words -/
theorem l2s (a b : Str) : (a ++ b).length = a.length + b.length := Str.length_append a b
theorem dash_len : dash.length = 1 := by rw [len_tl, tl_dash]; rfl
theorem cl_len : clW.length = 1 := by rw [len_tl, tl_cl]; rfl
theorem app_ok {B : Int} : ∀ {a b : Pg}, (a.app b).Ok B → a.Ok B ∧ b.Ok B
  | .nil, b, h => ⟨trivial, h⟩
  | .sc s r, b, h => ⟨⟨h.1, (app_ok (a := r) h.2).1⟩, (app_ok (a := r) h.2).2⟩
  | .rp n x r, b, h => ⟨⟨h.1, h.2.1, h.2.2.1, h.2.2.2.1, (app_ok (a := r) h.2.2.2.2).1⟩, (app_ok (a := r) h.2.2.2.2).2⟩
end Kb
namespace Kb
open PySem PySem.Spec PyProof.Rows L2 TL
/-! ### what is printed of a program -/
theorem Lim.cnt {g : Pg} (h : Lim g) : Bn g.cnt := by
  have a := Pg.cnt_nn h.ok
  have b := Pg.cnt_le (k := 5) (by decide +kernel) h.ok h.dep
  have c := Int.mul_le_mul_of_nonneg_right (show (g.scs.length : Int) ≤ 40 by have := h.few; omega) (show (0 : Int) ≤ (10 ^ 30 + 1) ^ (5 + 1) by decide +kernel)
  have d : (40 : Int) * (10 ^ 30 + 1) ^ (5 + 1) ≤ 10 ^ 500 := by decide +kernel
  have e : (0 : Int) ≤ 10 ^ 500 := by decide +kernel
  unfold Bn
  omega
end Kb
namespace Kb
open PySem PySem.Spec PyProof.Rows L2 TL
/-! ### another word in a word's place -/
theorem cut_at (vs : List V) (i : Nat) (h : i ≤ vs.length) : cutV vs none (some (i : Int)) = vs.take i := by
  unfold cutV
  rw [HT.sIx_none, HT.sIx_nat, Nat.sub_zero, List.drop_zero, Nat.min_eq_left h]
theorem cut_from (vs : List V) (i : Nat) (h : i ≤ vs.length) : cutV vs (some (i : Int)) none = vs.drop i := by
  unfold cutV
  rw [HT.sIx_none, HT.sIx_nat, Nat.min_eq_left h]
  exact List.take_of_length_le (by rw [List.length_drop]; omega)
end Kb
namespace Kb
open PySem PySem.Spec PyProof.Rows L2 TL
/-! ### own ~ -/
/-! ### programs backwards and repeated -/
namespace Pg
def back : Pg → Pg
  | nil => nil
  | sc s r => r.back.app (sc (swp s) nil)
  | rp n b r => r.back.app (rp n b.back nil)
theorem back_app : ∀ a b : Pg, (a.app b).back = b.back.app a.back
  | nil, b => (app_nil b.back).symm
  | sc s r, b => by
    show (r.app b).back.app (sc (swp s) nil) = b.back.app (r.back.app (sc (swp s) nil))
    rw [back_app r b, app_assoc]
  | rp n x r, b => by
    show (r.app b).back.app (rp n x.back nil) = b.back.app (r.back.app (rp n x.back nil))
    rw [back_app r b, app_assoc]
theorem back_back : ∀ g : Pg, g.back.back = g
  | nil => rfl
  | sc s r => by
    show (r.back.app (sc (swp s) nil)).back = _
    rw [back_app, back_back r]
    rfl
  | rp n x r => by
    show (r.back.app (rp n x.back nil)).back = _
    rw [back_app, back_back r]
    show rp n x.back.back r = _
    rw [back_back x]
theorem back_ne {g : Pg} (h : g ≠ nil) : g.back ≠ nil := fun e => h (by rw [← back_back g, e]; rfl)
theorem back_dep : ∀ g : Pg, g.back.dep = g.dep
  | nil => rfl
  | sc s r => by
    show (r.back.app (sc (swp s) nil)).dep = r.dep
    rw [dep_app, back_dep r]
    show max r.dep 0 = _
    omega
  | rp n x r => by
    show (r.back.app (rp n x.back nil)).dep = max (x.dep + 1) r.dep
    rw [dep_app, back_dep r]
    show max r.dep (max (x.back.dep + 1) 0) = _
    rw [back_dep x]
    omega
theorem back_scs : ∀ g : Pg, g.back.scs.length = g.scs.length
  | nil => rfl
  | sc s r => by
    show (r.back.app (sc (swp s) nil)).scs.length = r.scs.length + 1
    rw [scs_app, List.length_append, back_scs r]
    rfl
  | rp n x r => by
    show (r.back.app (rp n x.back nil)).scs.length = (x.scs ++ r.scs).length
    rw [scs_app, List.length_append, back_scs r, List.length_append]
    show r.scs.length + (x.back.scs ++ []).length = _
    rw [List.append_nil, back_scs x, Nat.add_comm]
theorem back_ok {B : Int} : ∀ {g : Pg}, g.Ok B → g.back.Ok B
  | nil, _ => trivial
  | sc s r, h => (back_ok h.2).app ⟨⟨h.1.2.2.1, h.1.2.2.2, h.1.1, h.1.2.1⟩, trivial⟩
  | rp n x r, h => (back_ok h.2.2.2.2).app ⟨h.1, h.2.1, back_ne h.2.2.1, back_ok h.2.2.2.1, trivial⟩
theorem last : ∀ a : Pg, a ≠ nil → (∃ (b : Pg) (s : Sc), a = b.app (sc s nil)) ∨ ∃ (b : Pg) (n : Int) (x : Pg), a = b.app (rp n x nil)
  | nil, h => (h rfl).elim
  | sc s r, _ => by
    by_cases c : r = nil
    · subst c
      exact .inl ⟨nil, s, rfl⟩
    · rcases last r c with ⟨a, t, e⟩ | ⟨a, n, x, e⟩
      · exact .inl ⟨sc s a, t, congrArg (sc s) e⟩
      · exact .inr ⟨sc s a, n, x, congrArg (sc s) e⟩
  | rp m y r, _ => by
    by_cases c : r = nil
    · subst c
      exact .inr ⟨nil, m, y, rfl⟩
    · rcases last r c with ⟨a, t, e⟩ | ⟨a, n, x, e⟩
      · exact .inl ⟨rp m y a, t, congrArg (rp m y) e⟩
      · exact .inr ⟨rp m y a, n, x, congrArg (rp m y) e⟩
theorem mid_dep (a x r : Pg) (n : Int) : x.dep < (a.app (rp n x r)).dep := by
  rw [dep_app]
  show _ < max _ (max (x.dep + 1) r.dep)
  omega
def rep (g : Pg) (n : Int) : Pg := if n = 0 then nil else if n = 1 ∨ g = nil then g else rp n g nil
theorem rep_ok {B : Int} {g : Pg} {n : Int} (h : g.Ok B) (h0 : 0 ≤ n) (h1 : n ≤ B) : (g.rep n).Ok B := by
  unfold rep
  split
  · trivial
  · split
    · exact h
    · rename_i a b
      exact ⟨by omega, h1, fun e => b (.inr e), h, trivial⟩
theorem rep_dep (g : Pg) (n : Int) : (g.rep n).dep ≤ g.dep + 1 := by
  unfold rep
  split
  · exact Nat.zero_le _
  · split
    · omega
    · show max (g.dep + 1) 0 ≤ _
      omega
theorem rep_scs (g : Pg) (n : Int) : (g.rep n).scs.length ≤ g.scs.length := by
  unfold rep
  split
  · exact Nat.zero_le _
  · split
    · exact Nat.le_refl _
    · show (g.scs ++ []).length ≤ _
      rw [List.append_nil]
      exact Nat.le_refl _
end Pg
/-! ### promises -/
/-- what the law compares: not much wider than what a text may say -/
structure Wid (g : Pg) : Prop where
  ok : g.Ok (10 ^ 30)
  dep : g.dep ≤ 6
  few : g.scs.length ≤ 52
theorem Wid.toks {g : Pg} (h : Wid g) : g.toks.length ≤ 676 := by
  have := toks_len h.ok
  have a := Nat.mul_le_mul (show 2 * g.dep + 1 ≤ 13 by have := h.dep; omega) h.few
  omega
theorem Wid.back {g : Pg} (h : Wid g) : Wid g.back := ⟨Pg.back_ok h.ok, by rw [Pg.back_dep]; exact h.dep, by rw [Pg.back_scs]; exact h.few⟩
theorem Wid.rep {g : Pg} (h : Lim g) {n : Int} (h0 : 0 ≤ n) (h1 : n ≤ 10 ^ 30) : Wid (g.rep n) := ⟨Pg.rep_ok h.ok h0 h1, by have := Pg.rep_dep g n; have := h.dep; omega, by have := Pg.rep_scs g n; have := h.few; omega⟩
theorem Wid.app {g h : Pg} (a : Lim g) (b : Lim h) (l : h.scs.length ≤ 12 ∨ g.scs.length ≤ 12) : Wid (g.app h) := ⟨a.ok.app b.ok, by rw [Pg.dep_app]; have := a.dep; have := b.dep; omega, by
  rw [Pg.scs_app, List.length_append]
  have := a.few
  have := b.few
  omega⟩
/-! ### how deep words are -/
end Kb
namespace Kb
open PySem PySem.Spec PyProof.Rows L2 TL
theorem wl_len (g : Pg) : g.wl.length = g.toks.length := List.length_map _
theorem pow_bits {B : Int} (hB : BB B) {k : Nat} : (B + 1) ^ k ≤ 2 ^ (400 * k) := by
  obtain ⟨h0, h1⟩ := hB
  induction k with
  | zero => simp
  | succ k ih =>
    rw [Int.pow_succ, Nat.mul_succ, Int.pow_add]
    exact Int.mul_le_mul ih h1 (by omega) (by have := Int.pow_pos (n := 2) (m := 400 * k) (by decide); omega)
theorem cnt_bits {B : Int} {g : Pg} {d : Nat} (hB : BB B) (h : g.Ok B) (hd : g.dep < d) (few : g.scs.length ≤ 2 ^ 18) : 0 ≤ g.cnt ∧ g.cnt < 2 ^ (400 * d + 20) := by
  have a := Pg.cnt_nn h
  have b := Pg.cnt_le (k := d - 1) hB.1 h (by omega)
  rw [show d - 1 + 1 = d by omega] at b
  have c := pow_bits hB (k := d)
  have p := Int.pow_pos (n := 2) (m := 400 * d) (by decide)
  have m := Int.mul_le_mul (show (g.scs.length : Int) ≤ 2 ^ 18 by omega) c (by have := Int.pow_pos (n := B + 1) (m := d) (by have := hB.1; omega); omega) (by decide)
  refine ⟨a, ?_⟩
  rw [Int.pow_add]
  omega
theorem abs_lt {n : Int} {k : Nat} (h0 : 0 ≤ n) (h : n < 2 ^ k) : n.natAbs < 2 ^ k := by
  have e : ((2 : Int) ^ k) = ((2 ^ k : Nat) : Int) := by simp
  omega
theorem size64' {n : Nat} (h : n ≤ 2 ^ 20) : n ≤ sizeLine := Nat.le_of_lt (small20 h)
theorem lim_nil : Lim .nil := ⟨trivial, Nat.zero_le _, Nat.zero_le _⟩
theorem txt_none : Str.ofString "" = txt .nil := by decide +kernel
def BkAt (H : Hp) (p : Addr) (v : V) (g : Pg) : Prop := ∃ r, v = .ref r ∧ r ≠ p ∧ H r = some (.lst (g.back.wl.map V.str))
theorem Bk.mono {H H' : Hp} {p : Addr} (e : Ex H H') : ∀ {vs : List V} {gs : List Pg}, Paired (BkAt H p) vs gs → Paired (BkAt H' p) vs gs
  | _, _, .nil => .nil
  | _, _, .cons ⟨r, h1, h2, h3⟩ t => .cons ⟨r, h1, h2, e _ _ h3⟩ (Bk.mono e t)
theorem Bk.mut {H : Hp} {p : Addr} {o : HO} : ∀ {vs : List V} {gs : List Pg}, Paired (BkAt H p) vs gs → Paired (BkAt (upd H p o) p) vs gs
  | _, _, .nil => .nil
  | _, _, .cons ⟨r, h1, h2, h3⟩ t => .cons ⟨r, h1, h2, by rw [upd_ne h2]; exact h3⟩ (Bk.mut t)
theorem Pq.cons {R : V → Pg → Prop} {vs : List V} {g : Pg} {gs : List Pg} (h : Paired R vs (g :: gs)) : ∃ v us, vs = v :: us ∧ R v g ∧ Paired R us gs := by
  cases h with
  | cons h t => exact ⟨_, _, rfl, h, t⟩
theorem Pq.len {R : V → Pg → Prop} {vs : List V} {gs : List Pg} (h : Paired R vs gs) : vs.length = gs.length := by
  induction h with
  | nil => rfl
  | cons _ _ ih => exact congrArg (· + 1) ih
/-! ### programs as the laws draw them: tuples of words in lists -/
def scanW : Str := "scan"
def againW : Str := "again"
/-- the items of a list of nodes; its inner lists are of the kind N -/
def ItsQ (N : Addr → Prop) (H : Hp) : Pg → List V → Prop
  | .nil, vs => vs = []
  | .sc s r, vs => ∃ t us, vs = .ref t :: us ∧ H t = some (.tup [.str scanW, .int s.1, .int s.2]) ∧ ItsQ N H r us
  | .rp n b r, vs => ∃ t l bs us, vs = .ref t :: us ∧ H t = some (.tup [.str againW, .ref l, .int n]) ∧ N l ∧ H l = some (.lst bs) ∧ ItsQ N H b bs ∧ ItsQ N H r us
def IsQ (N : Addr → Prop) (H : Hp) (a : Addr) (g : Pg) : Prop := ∃ vs, H a = some (.lst vs) ∧ ItsQ N H g vs
abbrev Any : Addr → Prop := fun _ => True
theorem ItsQ.nx {N M : Addr → Prop} {H H' : Hp} (e : Nx H H') (im : ∀ l, N l → M l) : ∀ {g : Pg} {vs : List V}, ItsQ N H g vs → ItsQ M H' g vs
  | .nil, _, h => h
  | .sc s r, _, ⟨t, us, e1, h1, h2⟩ => ⟨t, us, e1, e.at h1, h2.nx e im⟩
  | .rp n b r, _, ⟨t, l, bs, us, e1, h1, n1, h2, h3, h4⟩ => ⟨t, l, bs, us, e1, e.at h1, im l n1, e.at h2, h3.nx e im, h4.nx e im⟩
theorem ItsQ.ex {N : Addr → Prop} {H H' : Hp} (e : Ex H H') {g : Pg} {vs : List V} (h : ItsQ N H g vs) : ItsQ N H' g vs := h.nx e.nx fun _ => id
theorem IsQ.nx {N M : Addr → Prop} {H H' : Hp} {a : Addr} {g : Pg} (e : Nx H H') (im : ∀ l, N l → M l) (h : IsQ N H a g) : IsQ M H' a g := by
  obtain ⟨vs, h1, h2⟩ := h
  exact ⟨vs, e.at h1, h2.nx e im⟩
theorem ItsQ.mut {N : Addr → Prop} {H : Hp} {p : Addr} {xs : List V} {o : HO} (hp : H p = some (.lst xs)) (np : ∀ l, N l → l ≠ p) : ∀ {g : Pg} {vs : List V}, ItsQ N H g vs → ItsQ N (upd H p o) g vs
  | .nil, _, h => h
  | .sc s r, _, ⟨t, us, e1, h1, h2⟩ => ⟨t, us, e1, (Kp.lst hp) _ _ h1, h2.mut hp np⟩
  | .rp n b r, _, ⟨t, l, bs, us, e1, h1, n1, h2, h3, h4⟩ => ⟨t, l, bs, us, e1, (Kp.lst hp) _ _ h1, n1, by rw [upd_ne (np l n1)]; exact h2, h3.mut hp np, h4.mut hp np⟩
theorem ItsQ.len {N : Addr → Prop} {H : Hp} : ∀ {g : Pg} {vs : List V}, ItsQ N H g vs → vs.length = g.len
  | .nil, _, h => by rw [show _ = [] from h]; rfl
  | .sc s r, _, ⟨t, us, e, h, k⟩ => by rw [e, List.length_cons, k.len]; rfl
  | .rp n b r, _, ⟨t, l, bs, us, e, h1, _, h2, h3, h4⟩ => by rw [e, List.length_cons, h4.len]; rfl
theorem ItsQ.app {N : Addr → Prop} {H : Hp} : ∀ {a b : Pg} {vs us : List V}, ItsQ N H a vs → ItsQ N H b us → ItsQ N H (a.app b) (vs ++ us)
  | .nil, b, vs, us, h, k => by
    rw [show vs = [] from h]
    exact k
  | .sc s r, b, _, us, ⟨t, ws, e, h, k⟩, k' => ⟨t, ws ++ us, by rw [e]; rfl, h, k.app k'⟩
  | .rp n x r, b, _, us, ⟨t, l, bs, ws, e, h1, n1, h2, h3, h4⟩, k => ⟨t, l, bs, ws ++ us, by rw [e]; rfl, h1, n1, h2, h3, h4.app k⟩
/-- the node with an index, what is ahead of it and what is behind it -/
theorem ItsQ.get {N : Addr → Prop} {H : Hp} {v : V} {b : Pg} : ∀ {a : Pg} {vs : List V}, ItsQ N H (a.app b) vs → vs[a.len]? = some v →
    (∃ s r t, b = .sc s r ∧ v = .ref t ∧ H t = some (.tup [.str scanW, .int s.1, .int s.2])) ∨ ∃ n x r t l bs, b = .rp n x r ∧ v = .ref t ∧ H t = some (.tup [.str againW, .ref l, .int n]) ∧ N l ∧ H l = some (.lst bs) ∧ ItsQ N H x bs
  | .nil, vs, h, e => by
    have h : ItsQ N H b vs := h
    have e : vs[0]? = some v := e
    cases b with
    | nil =>
      rw [show vs = [] from h] at e
      cases e
    | sc s r =>
      obtain ⟨t, us, rfl, h1, _⟩ := h
      cases e
      exact .inl ⟨s, r, t, rfl, rfl, h1⟩
    | rp n x r =>
      obtain ⟨t, l, bs, us, rfl, h1, n1, h2, h3, _⟩ := h
      cases e
      exact .inr ⟨n, x, r, t, l, bs, rfl, rfl, h1, n1, h2, h3⟩
  | .sc s r, _, ⟨t, us, e1, h, k⟩, e => by
    subst e1
    exact ItsQ.get (a := r) k e
  | .rp n x r, _, ⟨t, l, bs, us, e1, h1, _, h2, h3, h4⟩, e => by
    subst e1
    exact ItsQ.get (a := r) h4 e
theorem ItsQ.done {N : Addr → Prop} {H : Hp} {a b : Pg} {vs : List V} (h : ItsQ N H (a.app b) vs) (e : a.len = vs.length) : b = .nil := by
  have := h.len
  rw [Pg.len_app] at this
  exact Pg.len_zero (by omega)
def nodeK (M : Nat) : Nat → Nat
  | 0 => 1
  | d + 1 => 1 + M * (nodeK M d + 4)
/-- what the laws draw -/
structure Dwn (deep most wide : Int) (g : Pg) : Prop where
  ok : g.Ok (10 ^ 30)
  lt : ∀ s ∈ g.scs, s.1 < wide ∧ s.2 < wide
  dep : (g.dep : Int) ≤ deep
  few : (g.scs.length : Int) ≤ most
  one : 1 ≤ g.scs.length
def spNodes (d : Nat) : Sp := fun vs H Q _ => ∃ (b : Addr) (most deep wide high : Int) (M n : Nat), vs = [.ref b, .int most, .int deep, .int wide, .int high] ∧ Pd H b n ∧ 1 ≤ most ∧ most ≤ M ∧ M ≤ 1000 ∧ n + nodeK M d ≤ 2 ^ 50 ∧ 0 ≤ deep ∧ deep < d ∧ d ≤ 10 ∧ 1 ≤ wide ∧ wide ≤ 10 ^ 30 ∧ 1 ≤ high ∧ high + 1 ≤ 10 ^ 30 ∧
  ∀ p H' g, H p = none → Nx H H' → Pd H' b (n + nodeK M d) → IsQ (fun l => H l = none) H' p g → Dwn deep most wide g → Q (.ref p) H'
def spNScans (d : Nat) : Sp := fun vs H Q _ => ∃ (a : Addr) (g : Pg), vs = [.ref a] ∧ IsQ Any H a g ∧ g.dep < d ∧ g.scs.length ≤ 2 ^ 18 ∧ ∀ p H' us, H p = none → Ex H H' → H' p = some (.lst us) → us.length = g.scs.length → Q (.ref p) H'
def spNLen (d : Nat) : Sp := fun vs H Q _ => ∃ (a : Addr) (g : Pg) (B : Int), vs = [.ref a] ∧ IsQ Any H a g ∧ g.dep < d ∧ d ≤ 100 ∧ BB B ∧ g.Ok B ∧ g.scs.length ≤ 2 ^ 18 ∧ RetV (.int g.cnt) H Q
def spNWords (d : Nat) : Sp := fun vs H Q _ => ∃ (a : Addr) (g : Pg), vs = [.ref a] ∧ IsQ Any H a g ∧ g.dep < d ∧ g.Ok (10 ^ 30) ∧ g.toks.length ≤ 2 ^ 18 ∧ ∀ p H', Ex H H' → H' p = some (.lst (g.wl.map V.str)) → Q (.ref p) H'
end Kb
namespace Kb
open PySem PySem.Spec PyProof.Rows L2 TL
/-! ### what a program reads -/
def adr (s : Sc) (p : Int) : Int := if s.1 ≤ s.2 then s.1 + p else s.1 - p
def rdS (s : Sc) : List Int := (List.range (slen s).toNat).map fun (j : Nat) => adr s (j : Int)
def Pg.rd : Pg → List Int
  | .nil => []
  | .sc s r => rdS s ++ r.rd
  | .rp n b r => (List.replicate n.toNat b.rd).flatten ++ r.rd
theorem rdS_len (s : Sc) : ((rdS s).length : Int) = slen s := by
  unfold rdS
  rw [List.length_map, List.length_range]
  have := slen_pos s
  omega
theorem rd_app : ∀ a b : Pg, (a.app b).rd = a.rd ++ b.rd
  | .nil, _ => rfl
  | .sc s r, b => by
    show rdS s ++ (r.app b).rd = rdS s ++ r.rd ++ b.rd
    rw [rd_app r b, List.append_assoc]
  | .rp n x r, b => by
    show _ ++ (r.app b).rd = _ ++ r.rd ++ b.rd
    rw [rd_app r b, List.append_assoc]
theorem flat_len (n : Nat) (l : List Int) : ((List.replicate n l).flatten).length = n * l.length := by
  rw [List.length_flatten, List.map_replicate, List.sum_replicate_nat]
theorem prd_len : ∀ {B : Int} {g : Pg}, g.Ok B → (g.rd.length : Int) = g.cnt
  | _, .nil, _ => rfl
  | B, .sc s r, h => by
    show ((rdS s ++ r.rd).length : Int) = slen s + r.cnt
    rw [List.length_append, Int.natCast_add, rdS_len, prd_len h.2]
  | B, .rp n x r, h => by
    show (((List.replicate n.toNat x.rd).flatten ++ r.rd).length : Int) = n * x.cnt + r.cnt
    rw [List.length_append, Int.natCast_add, flat_len, Int.natCast_mul, prd_len h.2.2.2.1, prd_len h.2.2.2.2]
    have : (n.toNat : Int) = n := by have := h.1; omega
    rw [this]
theorem adr_bound {B : Int} {s : Sc} (h : SOk B s) {p : Int} (h0 : 0 ≤ p) (h1 : p < slen s) : 0 ≤ adr s p ∧ adr s p ≤ B := by
  obtain ⟨a, b, c, d⟩ := h
  unfold slen at h1
  unfold adr
  split <;> split at h1 <;> omega
theorem rd_bound : ∀ {B : Int} {g : Pg}, g.Ok B → ∀ z ∈ g.rd, 0 ≤ z ∧ z ≤ B
  | _, .nil, _, z, h => by cases h
  | B, .sc s r, h, z, m => by
    rcases List.mem_append.mp m with m | m
    · obtain ⟨j, hj, rfl⟩ := List.mem_map.mp m
      have := List.mem_range.mp hj
      exact adr_bound h.1 (by omega) (by omega)
    · exact rd_bound h.2 z m
  | B, .rp n x r, h, z, m => by
    rcases List.mem_append.mp m with m | m
    · obtain ⟨l, hl, m⟩ := List.mem_flatten.mp m
      rw [(List.mem_replicate.mp hl).2] at m
      exact rd_bound h.2.2.2.1 z m
    · exact rd_bound h.2.2.2.2 z m
/-- the part of a list of nodes -/
theorem ItsQ.split {N : Addr → Prop} {H : Hp} : ∀ {a b : Pg} {vs : List V}, ItsQ N H (a.app b) vs → ItsQ N H a (vs.take a.len) ∧ ItsQ N H b (vs.drop a.len)
  | .nil, b, vs, h => ⟨rfl, h⟩
  | .sc s r, b, _, ⟨t, us, e, h1, h2⟩ => by
    subst e
    obtain ⟨k1, k2⟩ := ItsQ.split (a := r) h2
    exact ⟨⟨t, us.take r.len, rfl, h1, k1⟩, k2⟩
  | .rp n x r, b, _, ⟨t, l, bs, us, e, h1, n1, h2, h3, h4⟩ => by
    subst e
    obtain ⟨k1, k2⟩ := ItsQ.split (a := r) h4
    exact ⟨⟨t, l, bs, us.take r.len, rfl, h1, n1, h2, h3, k1⟩, k2⟩
/-! ### promises -/
def spNReads (d : Nat) : Sp := fun vs H Q _ => ∃ (a : Addr) (g : Pg) (B : Int), vs = [.ref a] ∧ IsQ Any H a g ∧ g.dep < d ∧ g.Ok B ∧ g.cnt ≤ 2 ^ 20 ∧ ∀ p H', Ex H H' → H' p = some (.lst (g.rd.map V.int)) → H p = none → Q (.ref p) H'
def spSmall : Sp := fun vs H Q _ => ∃ (b : Addr) (most deep wide limit : Int) (n : Nat), vs = [.ref b, .int most, .int deep, .int wide, .int limit] ∧ Pd H b n ∧ 1 ≤ most ∧ most ≤ 100 ∧ n ≤ 2 ^ 45 ∧ 0 ≤ deep ∧ deep ≤ 3 ∧ 1 ≤ wide ∧ wide ≤ 10 ^ 29 ∧ 4 ≤ limit ∧
  ∀ p H' g, Nx H H' → Pd H' b (n + 2 ^ 40) → IsQ Any H' p g → Dwn deep most wide g → g.cnt ≤ limit → Q (.ref p) H'
def spMade (C : Addr) : Sp := fun vs H Q _ => ∃ (a : Addr) (g : Pg), vs = [.ref a] ∧ IsQ Any H a g ∧ Lim g ∧ ∀ p H', H p = none → Ex H H' → PgAt C H' p g → Q (.ref p) H'
end Kb
namespace PySem
open Sem (wp)
open Builtin Builtin.Str
end PySem
namespace Kb
open PySem PySem.Spec PyProof.Rows L2 StX TL
/-! ### a program cut in two -/
theorem Its.split {H : Hp} : ∀ {a b : Pg} {vs : List V}, Its H (a.app b) vs → Its H a (vs.take a.len) ∧ Its H b (vs.drop a.len)
  | .nil, b, vs, h => ⟨rfl, h⟩
  | .sc s r, b, _, ⟨v, us, e, h1, h2⟩ => by
    subst e
    obtain ⟨k1, k2⟩ := Its.split (a := r) h2
    exact ⟨⟨v, us.take r.len, rfl, h1, k1⟩, k2⟩
  | .rp n x r, b, _, ⟨t, u, bs, us, e, h1, h2, h3, h4⟩ => by
    subst e
    obtain ⟨k1, k2⟩ := Its.split (a := r) h4
    exact ⟨⟨t, u, bs, us.take r.len, rfl, h1, h2, h3, k1⟩, k2⟩
end Kb
namespace Kb
open PySem PySem.Spec PyProof.Rows L2 TL
def pdLL (xs : List (List Int)) : PyData := .list (xs.map pdI)
theorem shaped_LL (xs : List (List Int)) : SeqAt.shaped (pdLL xs) = true := by
  have h : PyData.canLayAll0 (xs.map pdI) = true ∧ PyData.depthAll (xs.map pdI) ≤ 1 := by
    induction xs with
    | nil => exact ⟨rfl, Nat.zero_le _⟩
    | cons x r ih =>
      have s1 : PyData.canLayAll0 (x.map PyData.int) = true ∧ PyData.depthAll (x.map PyData.int) = 0 := by
        induction x with
        | nil => exact ⟨rfl, rfl⟩
        | cons a b ih2 =>
          refine ⟨?_, ?_⟩
          · show (true && PyData.canLayAll0 (b.map PyData.int)) = true
            rw [ih2.1]
            rfl
          · show max 0 (PyData.depthAll (b.map PyData.int)) = 0
            rw [ih2.2]
            rfl
      refine ⟨?_, ?_⟩
      · show (PyData.canLayAll0 (x.map PyData.int) && PyData.canLayAll0 (r.map pdI)) = true
        rw [s1.1, ih.1]
        rfl
      · show max (PyData.depthAll (x.map PyData.int) + 1) (PyData.depthAll (r.map pdI)) ≤ 1
        have := ih.2
        omega
  show (PyData.canLayAll0 (xs.map pdI) && decide (PyData.depthAll (xs.map pdI) + 1 ≤ 64)) = true
  rw [h.1, decide_eq_true (by have := h.2; omega)]
  rfl
theorem eqv_LL : ∀ xs ys : List (List Int), PyData.eqv (pdLL xs) (pdLL ys) = decide (xs = ys)
  | [], [] => rfl
  | [], _ :: _ => rfl
  | _ :: _, [] => rfl
  | x :: r, y :: q => by
    show (PyData.eqv (pdI x) (pdI y) && PyData.eqv (pdLL r) (pdLL q)) = _
    rw [eqv_I, eqv_LL r q, Bool.eq_iff_iff]
    simp
def IlAt (H : Hp) (D : Addr) (v : V) (ns : List Int) : Prop := ∃ p, v = .ref p ∧ p ≠ D ∧ H p = some (.lst (ns.map V.int))
theorem IlAt.mono {H H' : Hp} {D : Addr} (e : Ex H H') {v : V} {ns : List Int} (h : IlAt H D v ns) : IlAt H' D v ns := by
  obtain ⟨p, h1, h2, h3⟩ := h
  exact ⟨p, h1, h2, e _ _ h3⟩
theorem IlAt.mut {H : Hp} {D : Addr} {o : HO} {v : V} {ns : List Int} (h : IlAt H D v ns) : IlAt (upd H D o) D v ns := by
  obtain ⟨p, h1, h2, h3⟩ := h
  exact ⟨p, h1, h2, by rw [upd_ne h2]; exact h3⟩
/-! ### a dict of lists, by the numbers from 0 on -/
theorem Pz.len {α β : Type} {R : α → β → Prop} {xs : List α} {ys : List β} (h : Paired R xs ys) : xs.length = ys.length := by
  induction h with
  | nil => rfl
  | cons _ _ ih => rw [List.length_cons, List.length_cons, ih]
theorem Pz.imp {α β : Type} {R S : α → β → Prop} (f : ∀ a b, R a b → S a b) {xs : List α} {ys : List β} (h : Paired R xs ys) : Paired S xs ys := by
  induction h with
  | nil => exact .nil
  | cons h _ ih => exact .cons (f _ _ h) ih
theorem Pz.snoc {α β : Type} {R : α → β → Prop} {x : α} {y : β} {xs : List α} {ys : List β} (h : Paired R xs ys) (r : R x y) : Paired R (xs ++ [x]) (ys ++ [y]) := by
  induction h with
  | nil => exact .cons r .nil
  | cons h _ ih => exact .cons h ih
end Kb
namespace Kb
open PySem PySem.Spec PyProof.Rows L2 StX TL
/-! ### the different numbers of a list -/
def lstR : List Int → List Int
  | [] => []
  | x :: xs => x :: (lstR xs).filter fun z => !decide (z = x)
/-- in the order of the last ones, the latest first -/
def lstF (xs : List Int) : List Int := lstR xs.reverse
theorem mem_lstR {z : Int} : ∀ {xs : List Int}, z ∈ lstR xs ↔ z ∈ xs
  | [] => Iff.rfl
  | x :: xs => by
    show z ∈ x :: (lstR xs).filter _ ↔ _
    rw [List.mem_cons, List.mem_cons, List.mem_filter, mem_lstR]
    by_cases c : z = x
    · simp [c]
    · simp [c]
theorem lstR_nodup : ∀ xs : List Int, (lstR xs).Nodup
  | [] => .nil
  | x :: xs => by
    refine List.nodup_cons.mpr ⟨fun h => ?_, (lstR_nodup xs).filter _⟩
    have := (List.mem_filter.mp h).2
    simp at this
theorem lstR_app : ∀ a b : List Int, lstR (a ++ b) = lstR a ++ (lstR b).filter fun z => !decide (z ∈ a)
  | [], b => by
    show lstR b = [] ++ _
    rw [List.nil_append]
    exact (List.filter_eq_self.mpr fun z _ => by simp).symm
  | x :: a, b => by
    show x :: (lstR (a ++ b)).filter _ = x :: (lstR a).filter _ ++ (lstR b).filter _
    rw [lstR_app a b, List.filter_append, List.filter_filter]
    show x :: (_ ++ _) = x :: (_ ++ _)
    congr 2
    refine List.filter_congr fun z _ => ?_
    by_cases c : z = x <;> by_cases d : z ∈ a <;> simp [c, d]
theorem lstR_id : ∀ {xs : List Int}, xs.Nodup → lstR xs = xs
  | [], _ => rfl
  | x :: xs, h => by
    obtain ⟨h1, h2⟩ := List.nodup_cons.mp h
    show x :: (lstR xs).filter _ = x :: xs
    rw [lstR_id h2]
    congr 1
    refine List.filter_eq_self.mpr fun z hz => ?_
    have : z ≠ x := fun e => h1 (e ▸ hz)
    simp [this]
theorem mem_lstF {z : Int} {xs : List Int} : z ∈ lstF xs ↔ z ∈ xs := by
  unfold lstF
  rw [mem_lstR, List.mem_reverse]
theorem lstF_nodup (xs : List Int) : (lstF xs).Nodup := lstR_nodup _
theorem lstF_app (a b : List Int) : lstF (a ++ b) = lstF b ++ (lstF a).filter fun z => !decide (z ∈ b) := by
  unfold lstF
  rw [List.reverse_append, lstR_app]
  congr 1
  refine List.filter_congr fun z _ => ?_
  simp
theorem lstF_snoc (a : List Int) (x : Int) : lstF (a ++ [x]) = x :: (lstF a).filter fun z => !decide (z = x) := by
  rw [lstF_app]
  show x :: _ = _
  congr 1
  refine List.filter_congr fun z _ => ?_
  simp
theorem lstF_rep (b : List Int) : ∀ n : Nat, lstF (List.replicate (n + 1) b).flatten = lstF b
  | 0 => by
    show lstF (b ++ []) = _
    rw [List.append_nil]
  | n + 1 => by
    rw [List.replicate_succ', List.flatten_append]
    show lstF (_ ++ (b ++ [])) = _
    rw [List.append_nil, lstF_app]
    have : (lstF (List.replicate (n + 1) b).flatten).filter (fun z => !decide (z ∈ b)) = [] := by
      refine List.filter_eq_nil_iff.mpr fun z hz => ?_
      rw [lstF_rep b n] at hz
      have := mem_lstF.mp hz
      simp [this]
    rw [this, List.append_nil]
theorem lstF_len {xs l : List Int} (h : ∀ z ∈ xs, z ∈ l) : (lstF xs).length ≤ l.length :=
  (lstF_nodup xs).length_le_of_subset fun z hz => h z (mem_lstF.mp hz)
/-! ### the scans of numbers that are all different -/
theorem rd_rdS (s : Sc) : rd s = rdS s := by
  unfold rd rdS
  congr 1
  funext m
  unfold adr stp
  split <;> omega
theorem rd_nodup (s : Sc) : (rd s).Nodup := by
  refine List.nodup_iff_pairwise_ne.mpr ?_
  rw [List.pairwise_iff_getElem]
  intro i j hi hj hij e
  have a := List.getElem?_eq_getElem hi
  have b := List.getElem?_eq_getElem hj
  rw [rd_len] at hi hj
  rw [rd_get hi] at a
  rw [rd_get hj, ← e, ← a] at b
  have b := Option.some.inj b
  split at b <;> omega
theorem sc_cases (t : Sc) : (t.1 ≤ t.2 ∧ slen t = t.2 - t.1 + 1 ∧ lo t = t.1 ∧ hi t = t.2) ∨ (t.2 < t.1 ∧ slen t = t.1 - t.2 + 1 ∧ lo t = t.2 ∧ hi t = t.1) := by
  unfold slen lo hi
  by_cases c : t.1 ≤ t.2
  · refine .inl ⟨c, ?_, ?_, ?_⟩
    · rw [if_neg (by omega)]
    · rw [if_neg (by omega)]
    · split <;> omega
  · refine .inr ⟨by omega, ?_, ?_, ?_⟩
    · rw [if_pos (by omega)]
      omega
    · rw [if_pos (by omega)]
    · rw [if_neg (by omega)]
theorem absI_one {x : Int} (h : absI x = 1) : x = 1 ∨ x = -1 := by
  unfold absI at h
  split at h <;> omega
theorem rd_join {t s : Sc} (a : Apart t s) (h : absI (s.1 - t.2) = 1) : rd (t.1, s.2) = rd t ++ rd s := by
  have lt := rd_len t
  have ls := rd_len s
  have pt := slen_pos t
  have ps := slen_pos s
  have eh := absI_one h
  have et := sc_cases t
  have es := sc_cases s
  have ej := sc_cases (t.1, s.2)
  dsimp only at ej
  unfold Apart at a
  have len : slen (t.1, s.2) = slen t + slen s := by omega
  refine List.ext_getElem? fun j => ?_
  by_cases c : j < (slen t).toNat
  · rw [List.getElem?_append_left (by omega), rd_get c, rd_get (by omega)]
    dsimp only
    congr 1
    split <;> split <;> omega
  · rw [List.getElem?_append_right (by omega)]
    by_cases d : j < (slen t).toNat + (slen s).toNat
    · rw [rd_get (by omega), rd_get (by omega)]
      dsimp only
      rw [lt, show ((j - (slen t).toNat : Nat) : Int) = (j : Int) - slen t by omega]
      congr 1
      split <;> split <;> omega
    · rw [List.getElem?_eq_none (by have := rd_len (t.1, s.2); omega), List.getElem?_eq_none (by omega)]
theorem rdL_jstep {acc : List Sc} {s : Sc} (h : ∀ t ∈ acc, Apart t s) : rdL (jstep acc s) = rdL acc ++ rd s := by
  rcases eq_nil_or_snoc acc with rfl | ⟨pre, t, rfl⟩
  · rw [jstep_nil]
    show rd s ++ [] = [] ++ rd s
    rw [List.append_nil, List.nil_append]
  · rw [jstep_snoc]
    split
    · rename_i c
      rw [rdL_app, rdL_app]
      show rdL pre ++ (rd (t.1, s.2) ++ []) = rdL pre ++ (rd t ++ []) ++ rd s
      rw [rd_join (h t (List.mem_append_right _ List.mem_cons_self)) c, List.append_nil, List.append_nil, List.append_assoc]
    · rw [rdL_app]
      show _ ++ (rd s ++ []) = _
      rw [List.append_nil]
theorem rdL_fold : ∀ (ss acc : List Sc), (acc ++ ss).Pairwise Apart → rdL (ss.foldl jstep acc) = rdL acc ++ rdL ss
  | [], acc, _ => (List.append_nil _).symm
  | s :: ss, acc, h => by
    have h1 := apart_step h
    show rdL (ss.foldl jstep (jstep acc s)) = rdL acc ++ (rd s ++ rdL ss)
    rw [rdL_fold ss _ h1, rdL_jstep, List.append_assoc]
    intro t ht
    exact (List.pairwise_append.mp h).2.2 t ht s List.mem_cons_self
theorem rdL_jn {ss : List Sc} (h : ss.Pairwise Apart) : rdL (jn ss) = rdL ss := rdL_fold ss [] h
theorem rdL_dup : ∀ xs : List Int, rdL (dup xs) = xs
  | [] => rfl
  | x :: xs => by
    show rd (x, x) ++ rdL (dup xs) = x :: xs
    rw [rdL_dup xs, rd_rdS]
    unfold rdS
    rw [show slen (x, x) = 1 from by unfold slen; dsimp only; split <;> omega]
    show adr (x, x) 0 :: xs = x :: xs
    unfold adr
    rw [if_pos (Int.le_refl _), Int.add_zero]
theorem apart_dup {xs : List Int} (h : xs.Nodup) : (dup xs).Pairwise Apart := by
  unfold dup
  refine List.pairwise_map.mpr (List.Pairwise.imp (fun {a b} (n : a ≠ b) => ?_) (List.nodup_iff_pairwise_ne.mp h))
  unfold Apart lo hi
  dsimp only
  split <;> split <;> omega
/-- the tidy list of different numbers -/
def tdy (xs : List Int) : List Sc := jn (dup xs)
theorem rdL_tdy {xs : List Int} (h : xs.Nodup) : rdL (tdy xs) = xs := by
  unfold tdy
  rw [rdL_jn (apart_dup h), rdL_dup]
theorem tdy_apart {xs : List Int} (h : xs.Nodup) : (tdy xs).Pairwise Apart := apart_jn (apart_dup h)
theorem tdy_len (xs : List Int) : (tdy xs).length ≤ xs.length := Nat.le_trans (jn_len _) (Nat.le_of_eq (List.length_map _))
theorem tdy_rd (s : Sc) : tdy (rd s) = [s] := by
  have h := jn_rdL [s]
  rw [show rdL [s] = rd s from List.append_nil _] at h
  exact h
theorem ahead_tdy {a b : List Int} (ha : a.Nodup) (hb : b.Nodup) : ahead (tdy a) (tdy b) = tdy (a ++ b.filter fun z => !decide (z ∈ a)) := by
  unfold ahead
  rw [rdL_tdy ha, rdL_tdy hb]
  unfold tdy
  congr 3
  refine List.filter_congr fun z _ => ?_
  unfold outL
  rw [show rdL (jn (dup a)) = a from rdL_tdy ha]
/-- the place of a number -/
def ixo : List Int → Int → Option Nat
  | [], _ => none
  | y :: ys, x => if y = x then some 0 else (ixo ys x).map (· + 1)
theorem ixo_none {x : Int} : ∀ {l : List Int}, x ∉ l → ixo l x = none
  | [], _ => rfl
  | y :: ys, h => by
    show (if y = x then some 0 else (ixo ys x).map (· + 1)) = none
    rw [if_neg fun (e : y = x) => h (e ▸ List.mem_cons_self), ixo_none fun e => h (List.mem_cons_of_mem _ e)]
    rfl
theorem ixo_some {x : Int} : ∀ {l : List Int}, x ∈ l → ∃ j, ixo l x = some j ∧ l[j]? = some x ∧ ∀ m, m < j → l[m]? ≠ some x
  | [], h => by cases h
  | y :: ys, h => by
    by_cases c : y = x
    · exact ⟨0, if_pos c, by rw [← c]; rfl, fun m hm => absurd hm (Nat.not_lt_zero _)⟩
    · have h' : x ∈ ys := by
        rcases List.mem_cons.mp h with e | e
        · exact absurd e.symm c
        · exact e
      obtain ⟨j, h1, h2, h3⟩ := ixo_some h'
      refine ⟨j + 1, ?_, h2, fun m hm => ?_⟩
      · show (if y = x then some 0 else (ixo ys x).map (· + 1)) = _
        rw [if_neg c, h1]
        rfl
      · cases m with
        | zero => exact fun e => c (Option.some.inj e)
        | succ m => exact h3 m (by omega)
/-! ### promises -/
theorem rdL_snoc {ss : List Sc} {i : Nat} {s : Sc} (e : ss[i]? = some s) : rdL (ss.take (i + 1)) = rdL (ss.take i) ++ rd s := by
  rw [List.take_add_one, e, rdL_app]
  show _ ++ (rd s ++ []) = _
  rw [List.append_nil]
theorem cntS_snoc {ss zs : List Sc} {i : Nat} {s : Sc} (e : ss[i]? = some s) : cntS (ss.take (i + 1)) zs = cntS (ss.take i) zs + (zs.filter (ins (lo s) (hi s))).length := by
  unfold cntS
  rw [List.take_add_one, e, List.map_append, List.sum_append]
  rfl
end Kb
namespace Kb
open PySem PySem.Spec PyProof.Rows L2 StX TL
/-! ### lists of numbers and None -/
def farO (p : List Int) (x : Int) : Option Int := (ixo (lstF p) x).map fun (j : Nat) => (j : Int) + 1
theorem SqL.nxx {K : PySem.W.Frag} {H H' : Hp} {a : Addr} {xs : List V} (e : Nx H H') (h : SqL K H a xs) : SqL K H' a xs := by
  rcases h with (h | ⟨o, h⟩) | h
  · exact .inl (.inl (e.at h))
  · exact .inl (.inr ⟨o, e.at h⟩)
  · exact .inr h
def wv0 : Pg := .sc (0, 9) (.sc (5, 14) .nil)
end Kb
namespace SrtO
open PySem PySem.Spec PyProof.Rows L2
/-! ### tuples of three ints and a bool, by their first -/
abbrev Q4 := Int × Int × Int × Bool
def IsQuad (h : Heap) (v : Value) (k : Q4) : Prop := ∃ a o t u r n, v = .ref a ∧ h.get? a = some o ∧ o.cls = .type "tuple" ∧ o.data = .seq #[.int k.1 t, .int k.2.1 u, .int k.2.2.1 r, .bool k.2.2.2] n
theorem IsQuad.keeps {h h' : Heap} {v : Value} {k : Q4} (p : IsQuad h v k) (kk : ∀ b o, h.get? b = some o → o.cls = .type "tuple" → h'.get? b = some o) : IsQuad h' v k := by
  obtain ⟨a, o, t, u, r, n, e, ho, hc, hd⟩ := p
  exact ⟨a, o, t, u, r, n, e, kk _ _ ho hc, hc, hd⟩
theorem firsts_q {h : Heap} : ∀ {vs : List Value}, (∀ v ∈ vs, ∃ k, IsQuad h v k) → ∃ fs : List Value, PySem.W.KatTups h vs fs ∧ fs.length = vs.length ∧ ∀ f ∈ fs, ∃ x t, f = Value.int x t
  | [], _ => ⟨[], PySem.W.KatTups.nil, rfl, fun _ hm => by simp at hm⟩
  | v :: vs, hp => by
    obtain ⟨fs, h1, h2, h3⟩ := firsts_q (vs := vs) fun v' hm => hp v' (List.mem_cons_of_mem _ hm)
    obtain ⟨k, a, o, t, u, r, n, e, ho, hc, hd⟩ := hp v (List.mem_cons_self ..)
    subst e
    refine ⟨.int k.1 t :: fs, PySem.W.KatTups.cons ho hc hd rfl h1, by rw [List.length_cons, List.length_cons, h2], fun f hm => ?_⟩
    rcases List.mem_cons.mp hm with rfl | hm
    · exact ⟨_, t, rfl⟩
    · exact h3 f hm
section
variable {prog : Program} {w : World} {A : Around} {E : Value → Shared → Prop} {s : Shared}
theorem swo_fst (k : Value → Q4) : Swo fun v u => decide ((k v).1 < (k u).1) := by
  refine ⟨fun x y h => ?_, fun x y z h1 h2 => ?_⟩
  · have a := of_decide_eq_true h
    exact decide_eq_false (by omega)
  · have a := of_decide_eq_false h1
    have b := of_decide_eq_false h2
    exact decide_eq_false (by omega)
theorem quad_cmp {vs : List Value} {k : Value → Q4} (hp : ∀ v ∈ vs, IsQuad s.heap v (k v)) (inj : ∀ v ∈ vs, ∀ u ∈ vs, (k v).1 = (k u).1 → k v = k u) : Cmp prog w A s (tuples' true) (fun p => p.1 ∈ vs) (lt2 fun v u => decide ((k v).1 < (k u).1)) := by
  intro p q hm hm'
  have h1 := hp _ hm
  have h2 := hp _ hm'
  have ij := inj _ hm _ hm'
  show wpAny (model prog w) A (keyLt' (tuples' true) p.1 q.1) (fun r s' => s' = s ∧ r = decide ((k p.1).1 < (k q.1).1)) (fun _ _ => False) s
  generalize k p.1 = K1 at h1 ij ⊢
  generalize k q.1 = K2 at h2 ij ⊢
  obtain ⟨a, o, t, u, r, n, e, ho, hc, hd⟩ := h1
  obtain ⟨a', o', t', u', r', n', e', ho', hc', hd'⟩ := h2
  rw [e, e']
  refine PySem.W.kat_lt ho hd ho' hd' ?_
  show PySem.W.KatLex prog w A true (decide (4 < 4)) _ [(.int K1.1 t, .int K2.1 t'), (.int K1.2.1 u, .int K2.2.1 u'), (.int K1.2.2.1 r, .int K2.2.2.1 r'), (.bool K1.2.2.2, .bool K2.2.2.2)] 0 s
  refine PySem.W.kat_cons (SeqAt.EqAt.int_int K1.1 t K2.1 t' prog w _ _ ?_)
  refine PySem.W.kat_go (fun e1 => ?_) (fun e1 => ?_)
  · have ex : K1.1 = K2.1 := by simpa using e1
    have ek := ij ex
    subst ek
    refine PySem.W.kat_yes (PySem.W.kat_cons (SeqAt.EqAt.int_int K1.2.1 u K1.2.1 u' prog w _ _ ?_))
    rw [beq_self_eq_true]
    refine PySem.W.kat_yes (PySem.W.kat_cons (SeqAt.EqAt.int_int K1.2.2.1 r K1.2.2.1 r' prog w _ _ ?_))
    rw [beq_self_eq_true]
    refine PySem.W.kat_yes (PySem.W.kat_cons (SeqAt.EqAt.bool_bool K1.2.2.2 K1.2.2.2 prog w _ _ ?_))
    rw [beq_self_eq_true]
    exact PySem.W.kat_yes (PySem.W.kat_nil ⟨rfl, (decide_eq_false (Int.lt_irrefl _)).symm⟩)
  · exact PySem.W.kat_no (oneLt_int ⟨rfl, rfl⟩)
theorem quads_sortable {a : Addr} {vs : List Value} {k : Value → Q4} (h0 : 0 < vs.length) (hp : ∀ v ∈ vs, IsQuad s.heap v (k v)) (inj : ∀ v ∈ vs, ∀ u ∈ vs, (k v).1 = (k u).1 → k v = k u) (ha : ∀ o, s.heap.get? a = some o → o.cls ≠ .type "tuple") : SortableO prog w A s a vs fun v u => decide ((k v).1 < (k u).1) := by
  intro h' keep
  have hp' : ∀ v ∈ vs, IsQuad h' v (k v) := fun v hm => (hp v hm).keeps fun b o e c => keep b o (fun z => by subst z; exact ha o e c) e
  obtain ⟨fs, h1, h2, h3⟩ := firsts_q fun v hm => ⟨_, hp' v hm⟩
  refine ⟨tuples' true, fun Q E hq => ?_, quad_cmp (s := { s with heap := h' }) hp' inj⟩
  refine PySem.W.kat_kind (T := .type "int") h1 (by omega) (fun f hm => ?_) (by rfl) ?_
  · obtain ⟨x, t, rfl⟩ := h3 f hm
    exact PySem.W.Looks.now
  · have e : (Value.type "int" != Value.type "tuple") = true := by first | decide +kernel | rfl | decide
    rw [e]
    exact hq
theorem sorted_quads {l : Addr} {vs : List Value} {k : Value → Q4} {Q : Value → Shared → Prop} (hl : s.heap.IsList l vs.toArray) (hz : vs.length ≤ sizeLine) (hp : ∀ v ∈ vs, IsQuad s.heap v (k v)) (inj : ∀ v ∈ vs, ∀ u ∈ vs, (k v).1 = (k u).1 → k v = k u)
    (h : ∀ (h' : Heap) (d : Addr) (out : List Value), Srtd (fun v u => decide ((k v).1 < (k u).1)) out → out.Perm vs → (∀ b o, s.heap.get? b = some o → h'.get? b = some o) → s.heap.objs.size ≤ d → (∃ n, h'.get? d = some (seqObj "list" out.toArray n)) → Q (.ref d) { s with heap := h' }) :
    wpAny (model prog w) A (call (.builtin "sorted") [.ref l]) Q E s := by
  refine sorted_ord (swo_fst k) hl hz (fun h2 h₁ a ha kk => ?_) fun out hs hb => ?_
  · refine quads_sortable (s := { s with heap := h₁ }) (by omega) (fun v hm => (hp v hm).keeps fun b o e _ => (kk b o e).2) inj fun o e => ?_
    have e' : some o = some (seqObj "list" vs.toArray 0) := e.symm.trans ha
    cases e'
    intro c
    exact absurd (Value.type.inj c) (by decide)
  · exact h _ _ out hs hb.perm (fun b o e => sortedAll_old e) (Nat.le_succ _) (sortedAll_at s.heap vs out.toArray)
end
end SrtO
namespace Kb
open PySem PySem.Spec PyProof.Rows L2
/-- sorted(xs), xs a list of tuples of three ints and a bool, of which no two with one first are unlike -/
def rSortedQ (K : PySem.W.Frag) : List V → Hp → VK → Prop := fun vs H Q => ∃ (a : Addr) (xs : List V) (k : V → SrtO.Q4), vs = [V.ref a] ∧ SqL K H a xs ∧ (∀ x ∈ xs, ∃ t, x = V.ref t ∧ H t = some (.tup [.int (k x).1, .int (k x).2.1, .int (k x).2.2.1, .bl (k x).2.2.2])) ∧ (∀ x ∈ xs, ∀ y ∈ xs, (k x).1 = (k y).1 → k x = k y) ∧
  ∀ ys p, ys.Perm xs → ys.Pairwise (fun x y => (k x).1 ≤ (k y).1) → H p = none → Q (.ref p) (upd H p (.lst ys))
theorem vals4 {x y z b : V} {us : List Value} (r : Vals [x, y, z, b] us) : ∃ u1 u2 u3 u4, us = [u1, u2, u3, u4] ∧ RelV x u1 ∧ RelV y u2 ∧ RelV z u3 ∧ RelV b u4 := by
  cases r with
  | cons r1 r2 =>
    cases r2 with
    | cons r2 r3 =>
      cases r3 with
      | cons r3 r4 =>
        cases r4 with
        | cons r4 r5 =>
          cases r5
          exact ⟨_, _, _, _, rfl, r1, r2, r3, r4⟩
section
variable {X : Cx}
theorem cr_sortedQ : CallR X (.builtin "sorted") (rSortedQ X.K) := by
  intro pins s σ H vs us Q I r h
  obtain ⟨a, xs, k, rfl, hs, hx, inj, q⟩ := h
  obtain ⟨its, rv, hl, hz⟩ := I.list hs
  obtain ⟨u, rfl, ru⟩ := vals1 r
  obtain rfl : u = Value.ref a := ru
  obtain ⟨e1, e2⟩ := refs_back rv fun x m => by
    obtain ⟨t, e, _⟩ := hx x m
    exact ⟨t, e⟩
  have bk : ∀ v ∈ its, backV v ∈ xs := fun v hv => by
    rw [e1]
    exact List.mem_map.mpr ⟨_, hv, rfl⟩
  refine SrtO.sorted_quads (k := fun u => k (backV u)) hl.isList (by rw [← rv.length]; exact hz) (fun v hv => ?_) (fun v hv u hu e => inj _ (bk v hv) _ (bk u hu) e) fun h' d out h1 h2 kp hd hn => ?_
  · obtain ⟨t, rfl⟩ := e2 v hv
    have hm : V.ref t ∈ xs := bk _ hv
    obtain ⟨t', e, ht⟩ := hx _ hm
    cases e
    obtain ⟨_, its2, r2, o, ho, hc, n, hd⟩ := I.hok _ _ ht
    obtain ⟨u1, u2, u3, u4, rfl, ri, rj, rl, rb⟩ := vals4 r2
    obtain ⟨t1, rfl⟩ := ri
    obtain ⟨t2, rfl⟩ := rj
    obtain ⟨t3, rfl⟩ := rl
    obtain rfl : u4 = Value.bool _ := rb
    exact ⟨t, o, t1, t2, t3, n, rfl, ho, hc, hd⟩
  · have h3 : ∀ u ∈ out, ∃ a, u = Value.ref a := fun u hu => e2 u (h2.mem_iff.mp hu)
    obtain ⟨n, hn⟩ := hn
    have hb : (out.map backV).Perm xs := by
      rw [e1]
      exact h2.map backV
    refine ⟨.ref d, upd H d (.lst (out.map backV)), I.laid (t' := s.toks) kp hd ⟨?_, out, n, vals_back h3, hn⟩, rfl, q _ d hb ?_ (I.hok.fresh hd)⟩
    · rw [hb.length_eq]
      exact hz
    · refine List.pairwise_map.mpr (h1.imp fun {v u} hvu => ?_)
      have := of_decide_eq_false hvu
      omega
end
end Kb
namespace Kb
open PySem PySem.Spec PyProof.Rows L2 TL
/-! ### scans with their places; what two lists of scans have in common -/
abbrev Rw := Int × Int × Int × Bool
def pls : List Sc → Int → List Rw
  | [], _ => []
  | s :: r, acc => (lo s, hi s, acc, decide (s.1 ≤ s.2)) :: pls r (acc + slen s)
def plOf (x : Rw) (z : Int) : Int := x.2.2.1 + (if x.2.2.2 = true then z - x.1 else x.2.1 - z)
theorem pls_mem {x : Rw} : ∀ {ss : List Sc} {acc : Int}, x ∈ pls ss acc → ∃ s ∈ ss, x.1 = lo s ∧ x.2.1 = hi s
  | [], _, h => by cases h
  | s :: r, acc, h => by
    rcases List.mem_cons.mp h with rfl | h
    · exact ⟨s, List.mem_cons_self, rfl, rfl⟩
    · obtain ⟨t, ht, e⟩ := pls_mem h
      exact ⟨t, List.mem_cons_of_mem _ ht, e⟩
theorem pls_le {x : Rw} {ss : List Sc} {acc : Int} (h : x ∈ pls ss acc) : x.1 ≤ x.2.1 := by
  obtain ⟨s, _, e1, e2⟩ := pls_mem h
  have := lo_hi s
  omega
theorem pls_len : ∀ (ss : List Sc) (acc : Int), (pls ss acc).length = ss.length
  | [], _ => rfl
  | s :: r, acc => congrArg (· + 1) (pls_len r _)
theorem pls_get {x : Rw} {z : Int} : ∀ {ss : List Sc} {acc : Int}, x ∈ pls ss acc → x.1 ≤ z → z ≤ x.2.1 → 0 ≤ plOf x z - acc ∧ (rdL ss)[(plOf x z - acc).toNat]? = some z
  | [], _, h, _, _ => by cases h
  | s :: r, acc, h, h1, h2 => by
    have sp := slen_pos s
    have sc := sc_cases s
    have ls := rd_len s
    show _ ∧ (rd s ++ rdL r)[(plOf x z - acc).toNat]? = some z
    rcases List.mem_cons.mp h with rfl | h
    · unfold plOf
      dsimp only at h1 h2 ⊢
      by_cases c : s.1 ≤ s.2
      · rw [if_pos (decide_eq_true c)]
        refine ⟨by omega, ?_⟩
        rw [List.getElem?_append_left (by omega), rd_get (by omega), if_pos c]
        congr 1
        omega
      · rw [if_neg (by rw [decide_eq_false c]; exact Bool.false_ne_true)]
        refine ⟨by omega, ?_⟩
        rw [List.getElem?_append_left (by omega), rd_get (by omega), if_neg c]
        congr 1
        omega
    · obtain ⟨a, b⟩ := pls_get h h1 h2
      refine ⟨by omega, ?_⟩
      rw [List.getElem?_append_right (by omega), ← b]
      congr 1
      omega
theorem pls_of {z : Int} : ∀ {ss : List Sc} (acc : Int), z ∈ rdL ss → ∃ x ∈ pls ss acc, x.1 ≤ z ∧ z ≤ x.2.1
  | [], _, h => by cases h
  | s :: r, acc, h => by
    rcases List.mem_append.mp h with h | h
    · obtain ⟨a, b⟩ := mem_rd.mp h
      exact ⟨_, List.mem_cons_self, a, b⟩
    · obtain ⟨x, hx, e⟩ := pls_of (acc + slen s) h
      exact ⟨x, List.mem_cons_of_mem _ hx, e⟩
theorem pls_apart : ∀ {ss : List Sc} (acc : Int), ss.Pairwise Apart → (pls ss acc).Pairwise fun x y => x.2.1 < y.1 ∨ y.2.1 < x.1
  | [], _, _ => .nil
  | s :: r, acc, h => by
    obtain ⟨h1, h2⟩ := List.pairwise_cons.mp h
    refine List.pairwise_cons.mpr ⟨fun x hx => ?_, pls_apart _ h2⟩
    obtain ⟨t, ht, e1, e2⟩ := pls_mem hx
    have := h1 t ht
    unfold Apart at this
    dsimp only
    omega
def mxI (a b : Int) : Int := if b > a then b else a
def mnI (a b : Int) : Int := if b < a then b else a
theorem mxI_le (a b : Int) : a ≤ mxI a b ∧ b ≤ mxI a b ∧ (mxI a b = a ∨ mxI a b = b) := by
  unfold mxI
  split <;> omega
theorem mnI_le (a b : Int) : mnI a b ≤ a ∧ mnI a b ≤ b ∧ (mnI a b = a ∨ mnI a b = b) := by
  unfold mnI
  split <;> omega
/-- the interval that two of them have in common -/
def blo (b : Rw × Rw) : Int := mxI b.1.1 b.2.1
def bhi (b : Rw × Rw) : Int := mnI b.1.2.1 b.2.2.1
def shr : List Rw → List Rw → List (Rw × Rw)
  | x :: xs, y :: ys => (if blo (x, y) ≤ bhi (x, y) then [(x, y)] else []) ++ (if x.2.1 ≤ y.2.1 then shr xs (y :: ys) else shr (x :: xs) ys)
  | [], _ => []
  | _ :: _, [] => []
termination_by a b => a.length + b.length
theorem shr_cons (x : Rw) (xs : List Rw) (y : Rw) (ys : List Rw) : shr (x :: xs) (y :: ys) = (if blo (x, y) ≤ bhi (x, y) then [(x, y)] else []) ++ (if x.2.1 ≤ y.2.1 then shr xs (y :: ys) else shr (x :: xs) ys) := by
  rw [shr]
theorem shr_nil (b : List Rw) : shr [] b = [] := by rw [shr]
theorem shr_nil2 (a : List Rw) : shr a [] = [] := by
  cases a <;> rw [shr]
structure Asr (A : List Rw) : Prop where
  asc : A.Pairwise fun x y => x.2.1 < y.1
  le : ∀ x ∈ A, x.1 ≤ x.2.1
theorem Asr.tail {x : Rw} {A : List Rw} (h : Asr (x :: A)) : Asr A := ⟨(List.pairwise_cons.mp h.asc).2, fun y hy => h.le y (List.mem_cons_of_mem _ hy)⟩
theorem Asr.head {x : Rw} {A : List Rw} (h : Asr (x :: A)) : ∀ y ∈ A, x.2.1 < y.1 := (List.pairwise_cons.mp h.asc).1
theorem shr_mem : ∀ (n : Nat) {A B : List Rw}, A.length + B.length = n → ∀ b ∈ shr A B, b.1 ∈ A ∧ b.2 ∈ B ∧ blo b ≤ bhi b
  | n, [], B, _, b, h => by
    rw [shr_nil] at h
    cases h
  | n, x :: xs, [], _, b, h => by
    rw [shr_nil2] at h
    cases h
  | n, x :: xs, y :: ys, hn, b, h => by
    rw [shr_cons] at h
    rcases List.mem_append.mp h with h | h
    · split at h
      · rename_i c
        rw [List.mem_singleton.mp h]
        exact ⟨List.mem_cons_self, List.mem_cons_self, c⟩
      · cases h
    · simp only [List.length_cons] at hn
      split at h
      · obtain ⟨h1, h2, h3⟩ := shr_mem (n - 1) (A := xs) (B := y :: ys) (by simp only [List.length_cons]; omega) b h
        exact ⟨List.mem_cons_of_mem _ h1, h2, h3⟩
      · obtain ⟨h1, h2, h3⟩ := shr_mem (n - 1) (A := x :: xs) (B := ys) (by simp only [List.length_cons]; omega) b h
        exact ⟨h1, List.mem_cons_of_mem _ h2, h3⟩
theorem shr_asc : ∀ (n : Nat) {A B : List Rw}, A.length + B.length = n → Asr A → Asr B → (shr A B).Pairwise fun b c => bhi b < blo c
  | n, [], B, _, _, _ => by
    rw [shr_nil]
    exact .nil
  | n, x :: xs, [], _, _, _ => by
    rw [shr_nil2]
    exact .nil
  | n, x :: xs, y :: ys, hn, hA, hB => by
    rw [shr_cons]
    simp only [List.length_cons] at hn
    have m0 := mnI_le x.2.1 y.2.1
    by_cases c : x.2.1 ≤ y.2.1
    · rw [if_pos c]
      have ih := shr_asc (n - 1) (A := xs) (B := y :: ys) (by simp only [List.length_cons]; omega) hA.tail hB
      split
      · refine List.pairwise_cons.mpr ⟨fun b hb => ?_, ih⟩
        obtain ⟨h1, _, _⟩ := shr_mem _ rfl b hb
        have a := hA.head _ h1
        have m1 := mxI_le b.1.1 b.2.1
        show mnI x.2.1 y.2.1 < mxI b.1.1 b.2.1
        omega
      · exact ih
    · rw [if_neg c]
      have ih := shr_asc (n - 1) (A := x :: xs) (B := ys) (by simp only [List.length_cons]; omega) hA hB.tail
      split
      · refine List.pairwise_cons.mpr ⟨fun b hb => ?_, ih⟩
        obtain ⟨_, h1, _⟩ := shr_mem _ rfl b hb
        have a := hB.head _ h1
        have m1 := mxI_le b.1.1 b.2.1
        show mnI x.2.1 y.2.1 < mxI b.1.1 b.2.1
        omega
      · exact ih
theorem shr_all : ∀ (n : Nat) {A B : List Rw}, A.length + B.length = n → Asr A → Asr B → ∀ x ∈ A, ∀ y ∈ B, blo (x, y) ≤ bhi (x, y) → (x, y) ∈ shr A B
  | n, [], B, _, _, _, x, hx, _, _, _ => by cases hx
  | n, x0 :: xs, [], _, _, _, x, hx, y, hy, _ => by cases hy
  | n, x0 :: xs, y0 :: ys, hn, hA, hB, x, hx, y, hy, h => by
    rw [shr_cons]
    simp only [List.length_cons] at hn
    have m0 := mnI_le x.2.1 y.2.1
    have m1 := mxI_le x.1 y.1
    have h' : mxI x.1 y.1 ≤ mnI x.2.1 y.2.1 := h
    by_cases c : x0.2.1 ≤ y0.2.1
    · rw [if_pos c]
      rcases List.mem_cons.mp hx with rfl | hx
      · rcases List.mem_cons.mp hy with rfl | hy
        · rw [if_pos h]
          exact List.mem_append_left _ List.mem_cons_self
        · have := hB.head y hy
          omega
      · exact List.mem_append_right _ (shr_all (n - 1) (by simp only [List.length_cons]; omega) hA.tail hB x hx y hy h)
    · rw [if_neg c]
      rcases List.mem_cons.mp hy with rfl | hy
      · rcases List.mem_cons.mp hx with rfl | hx
        · rw [if_pos h]
          exact List.mem_append_left _ List.mem_cons_self
        · have := hA.head x hx
          omega
      · exact List.mem_append_right _ (shr_all (n - 1) (by simp only [List.length_cons]; omega) hA hB.tail x hx y hy h)
theorem shr_len : ∀ (n : Nat) {A B : List Rw}, A.length + B.length = n → (shr A B).length ≤ n
  | n, [], B, _ => by
    rw [shr_nil]
    exact Nat.zero_le _
  | n, x :: xs, [], _ => by
    rw [shr_nil2]
    exact Nat.zero_le _
  | n, x :: xs, y :: ys, hn => by
    rw [shr_cons, List.length_append]
    simp only [List.length_cons] at hn
    have l1 : (if blo (x, y) ≤ bhi (x, y) then [(x, y)] else []).length ≤ 1 := by
      split
      · exact Nat.le_refl _
      · exact Nat.zero_le _
    by_cases c : x.2.1 ≤ y.2.1
    · rw [if_pos c]
      have := shr_len (n - 1) (A := xs) (B := y :: ys) (by simp only [List.length_cons]; omega)
      omega
    · rw [if_neg c]
      have := shr_len (n - 1) (A := x :: xs) (B := ys) (by simp only [List.length_cons]; omega)
      omega
end Kb
namespace Kb
open PySem PySem.Spec PyProof.Rows L2 TL
theorem seg_length (a b : Int) : ((seg a b).length : Int) = if a ≤ b then b - a + 1 else 0 := by
  unfold seg
  rw [List.length_map, List.length_range]
  split <;> omega
theorem seg_lt {a b z : Int} (h1 : a ≤ z) (h2 : z ≤ b) : (((seg a b).filter fun w => decide (w < z)).length : Int) = z - a := by
  rw [← seg_app (b := z - 1) (c := b) (by omega) _ a rfl (by omega), List.filter_append, seg_out, seg_in, List.append_nil, seg_length]
  · split <;> omega
  · intro w h3 h4
    exact decide_eq_false (by omega)
  · intro w h3 h4
    exact decide_eq_true (by omega)
theorem seg_gt {a b z : Int} (h1 : a ≤ z) (h2 : z ≤ b) : (((seg a b).filter fun w => decide (z < w)).length : Int) = b - z := by
  rw [← seg_app (b := z) (c := b) h2 _ a rfl (by omega), List.filter_append, seg_in, seg_out, List.nil_append, seg_length]
  · split <;> omega
  · intro w h3 h4
    exact decide_eq_true (by omega)
  · intro w h3 h4
    exact decide_eq_false (by omega)
theorem seg_eq (a b z : Int) : (((seg a b).filter fun w => decide (w = z)).length : Int) = if a ≤ z ∧ z ≤ b then 1 else 0 := by
  split
  · rename_i h
    rw [← seg_app (b := z) (c := b) h.2 _ a rfl (by omega), List.filter_append, ← seg_app (b := z - 1) (c := z) (by omega) _ a rfl (by omega), List.filter_append]
    have e1 : (seg a (z - 1)).filter (fun w => decide (w = z)) = [] := seg_in fun w h3 h4 => decide_eq_false (by omega)
    have e2 : (seg (z - 1 + 1) z).filter (fun w => decide (w = z)) = seg (z - 1 + 1) z := seg_out fun w h3 h4 => decide_eq_true (by omega)
    have e3 : (seg (z + 1) b).filter (fun w => decide (w = z)) = [] := seg_in fun w h3 h4 => decide_eq_false (by omega)
    rw [e1, e2, e3, List.nil_append, List.append_nil, seg_length]
    split <;> omega
  · rename_i h
    rw [seg_in]
    · rfl
    · intro w h3 h4
      exact decide_eq_false (by omega)
/-! ### blocks -/
def stPl (x : Rw) (l h : Int) : Int := if x.2.2.2 = true then x.2.2.1 + l - x.1 else x.2.2.1 + x.2.1 - h
def bp (b : Rw × Rw) : Int := stPl b.1 (blo b) (bhi b)
def bq (b : Rw × Rw) : Int := stPl b.2 (blo b) (bhi b)
def bn (b : Rw × Rw) : Int := bhi b - blo b + 1
def bg (b : Rw × Rw) : Bool := b.1.2.2.2 == b.2.2.2.2
def off (u : Bool) (b : Rw × Rw) (z : Int) : Int := if u = true then z - blo b else bhi b - z
theorem pl_bp (b : Rw × Rw) (z : Int) : plOf b.1 z = bp b + off b.1.2.2.2 b z := by
  unfold plOf bp stPl off
  split <;> omega
theorem pl_bq (b : Rw × Rw) (z : Int) : plOf b.2 z = bq b + off b.2.2.2.2 b z := by
  unfold plOf bq stPl off
  split <;> omega
theorem off_bd (u : Bool) {b : Rw × Rw} {z : Int} (h1 : blo b ≤ z) (h2 : z ≤ bhi b) : 0 ≤ off u b z ∧ off u b z < bn b := by
  unfold off bn
  split <;> omega
structure Blk (P : List (Rw × Rw)) : Prop where
  asc : P.Pairwise fun b c => bhi b < blo c
  ne : ∀ b ∈ P, blo b ≤ bhi b
  injL : ∀ b ∈ P, ∀ c ∈ P, ∀ z w, blo b ≤ z → z ≤ bhi b → blo c ≤ w → w ≤ bhi c → plOf b.1 z = plOf c.1 w → z = w
  injF : ∀ b ∈ P, ∀ c ∈ P, ∀ z w, blo b ≤ z → z ≤ bhi b → blo c ≤ w → w ≤ bhi c → plOf b.2 z = plOf c.2 w → z = w
/-- a place within a block is that of an address -/
theorem at_off (u : Bool) {b : Rw × Rw} {t : Int} (h0 : 0 ≤ t) (h1 : t < bn b) : ∃ z, blo b ≤ z ∧ z ≤ bhi b ∧ off u b z = t := by
  unfold bn at h1
  cases u
  · exact ⟨bhi b - t, by omega, by omega, by unfold off; rw [if_neg (by decide)]; omega⟩
  · exact ⟨blo b + t, by omega, by omega, by unfold off; rw [if_pos rfl]; omega⟩
theorem apart_places {b c : Rw × Rw} (nb : blo b ≤ bhi b) (nc : blo c ≤ bhi c) (dis : bhi b < blo c ∨ bhi c < blo b)
    {p : Rw × Rw → Int} {u : Rw × Rw → Bool} (inj : ∀ z w, blo b ≤ z → z ≤ bhi b → blo c ≤ w → w ≤ bhi c → p b + off (u b) b z = p c + off (u c) c w → z = w) : p b + bn b ≤ p c ∨ p c + bn c ≤ p b := by
  by_cases h1 : p b + bn b ≤ p c
  · exact .inl h1
  by_cases h2 : p c + bn c ≤ p b
  · exact .inr h2
  exfalso
  have n1 : bn b = bhi b - blo b + 1 := rfl
  have n2 : bn c = bhi c - blo c + 1 := rfl
  -- a place of both
  by_cases h3 : p b ≤ p c
  · obtain ⟨z, z1, z2, z3⟩ := at_off (u b) (b := b) (t := p c - p b) (by omega) (by omega)
    obtain ⟨w, w1, w2, w3⟩ := at_off (u c) (b := c) (t := 0) (Int.le_refl _) (by omega)
    have := inj z w z1 z2 w1 w2 (by omega)
    omega
  · obtain ⟨z, z1, z2, z3⟩ := at_off (u b) (b := b) (t := 0) (Int.le_refl _) (by omega)
    obtain ⟨w, w1, w2, w3⟩ := at_off (u c) (b := c) (t := p b - p c) (by omega) (by omega)
    have := inj z w z1 z2 w1 w2 (by omega)
    omega
def sgB (b : Rw × Rw) : List Int := seg (blo b) (bhi b)
def czB (c b : Rw × Rw) (z : Int) : Int := (((sgB c).filter fun w => decide (plOf c.1 w < plOf b.1 z ∧ plOf c.2 w < plOf b.2 z)).length : Int)
def inB (b c : Rw × Rw) : Int := if bp c < bp b ∧ bq c < bq b then bn c else 0
theorem cz_other {P : List (Rw × Rw)} (K : Blk P) {b c : Rw × Rw} (hb : b ∈ P) (hc : c ∈ P) (dis : bhi b < blo c ∨ bhi c < blo b) {z : Int} (h1 : blo b ≤ z) (h2 : z ≤ bhi b) : czB c b z = inB b c := by
  have nb := K.ne b hb
  have nc := K.ne c hc
  have dp := apart_places nb nc dis (p := bp) (u := fun b => b.1.2.2.2) fun z w z1 z2 w1 w2 e => K.injL b hb c hc z w z1 z2 w1 w2 (by rw [pl_bp, pl_bp]; exact e)
  have dq := apart_places nb nc dis (p := bq) (u := fun b => b.2.2.2.2) fun z w z1 z2 w1 w2 e => K.injF b hb c hc z w z1 z2 w1 w2 (by rw [pl_bq, pl_bq]; exact e)
  have ob := off_bd b.1.2.2.2 h1 h2
  have ob' := off_bd b.2.2.2.2 h1 h2
  unfold czB inB sgB
  by_cases c1 : bp c < bp b ∧ bq c < bq b
  · rw [if_pos c1, seg_out, seg_length, if_pos nc]
    · rfl
    · intro w w1 w2
      have oc := off_bd c.1.2.2.2 w1 w2
      have oc' := off_bd c.2.2.2.2 w1 w2
      refine decide_eq_true ?_
      rw [pl_bp, pl_bp, pl_bq, pl_bq]
      omega
  · rw [if_neg c1, seg_in]
    · rfl
    · intro w w1 w2
      have oc := off_bd c.1.2.2.2 w1 w2
      have oc' := off_bd c.2.2.2.2 w1 w2
      refine decide_eq_false ?_
      rw [pl_bp, pl_bp, pl_bq, pl_bq]
      omega
theorem cz_self {b : Rw × Rw} {z : Int} (h1 : blo b ≤ z) (h2 : z ≤ bhi b) : czB b b z = inB b b + (if bg b = true then off b.2.2.2.2 b z else 0) := by
  unfold czB inB
  rw [if_neg (by omega), Int.zero_add]
  have e : ((sgB b).filter fun w => decide (plOf b.1 w < plOf b.1 z ∧ plOf b.2 w < plOf b.2 z)) = (sgB b).filter fun w => decide (off b.1.2.2.2 b w < off b.1.2.2.2 b z ∧ off b.2.2.2.2 b w < off b.2.2.2.2 b z) := by
    refine List.filter_congr fun w _ => ?_
    rw [pl_bp, pl_bp, pl_bq, pl_bq]
    congr 1
    exact propext ⟨fun h => by omega, fun h => by omega⟩
  rw [e]
  unfold bg sgB off
  cases b.1.2.2.2 <;> cases b.2.2.2.2
  · show (((seg (blo b) (bhi b)).filter fun w => decide (bhi b - w < bhi b - z ∧ bhi b - w < bhi b - z)).length : Int) = bhi b - z
    refine Eq.trans ?_ (seg_gt h1 h2)
    congr 2
    refine List.filter_congr fun w _ => ?_
    congr 1
    exact propext ⟨fun h => by omega, fun h => by omega⟩
  · show (((seg (blo b) (bhi b)).filter fun w => decide (bhi b - w < bhi b - z ∧ w - blo b < z - blo b)).length : Int) = 0
    rw [seg_in]
    · rfl
    · intro w w1 w2
      exact decide_eq_false (by omega)
  · show (((seg (blo b) (bhi b)).filter fun w => decide (w - blo b < z - blo b ∧ bhi b - w < bhi b - z)).length : Int) = 0
    rw [seg_in]
    · rfl
    · intro w w1 w2
      exact decide_eq_false (by omega)
  · show (((seg (blo b) (bhi b)).filter fun w => decide (w - blo b < z - blo b ∧ w - blo b < z - blo b)).length : Int) = z - blo b
    refine Eq.trans ?_ (seg_lt h1 h2)
    congr 2
    refine List.filter_congr fun w _ => ?_
    congr 1
    exact propext ⟨fun h => by omega, fun h => by omega⟩
def sumI {α : Type} (f : α → Int) : List α → Int
  | [] => 0
  | x :: xs => f x + sumI f xs
theorem sumI_app {α : Type} (f : α → Int) : ∀ a b : List α, sumI f (a ++ b) = sumI f a + sumI f b
  | [], b => (Int.zero_add _).symm
  | x :: a, b => by
    show f x + sumI f (a ++ b) = f x + sumI f a + sumI f b
    rw [sumI_app f a b, Int.add_assoc]
theorem sumI_congr {α : Type} {f g : α → Int} : ∀ {l : List α}, (∀ x ∈ l, f x = g x) → sumI f l = sumI g l
  | [], _ => rfl
  | x :: l, h => by
    show f x + sumI f l = g x + sumI g l
    rw [h x List.mem_cons_self, sumI_congr fun y hy => h y (List.mem_cons_of_mem _ hy)]
theorem filter_flat {α β : Type} (f : α → List β) (q : β → Bool) : ∀ l : List α, (((l.flatMap f).filter q).length : Int) = sumI (fun x => (((f x).filter q).length : Int)) l
  | [] => rfl
  | x :: l => by
    rw [List.flatMap_cons, List.filter_append, List.length_append, Int.natCast_add, filter_flat f q l]
    rfl
/-- how many of them are ahead in both -/
theorem cz_sum {P : List (Rw × Rw)} (K : Blk P) {b : Rw × Rw} (hb : b ∈ P) {z : Int} (h1 : blo b ≤ z) (h2 : z ≤ bhi b) : sumI (fun c => czB c b z) P = sumI (inB b) P + (if bg b = true then off b.2.2.2.2 b z else 0) := by
  obtain ⟨P1, P2, e⟩ := List.append_of_mem hb
  have m1 : ∀ c ∈ P1, c ∈ P ∧ bhi c < blo b := fun c hc => by
    have a := K.asc
    rw [e] at a
    exact ⟨by rw [e]; exact List.mem_append_left _ hc, (List.pairwise_append.mp a).2.2 c hc b List.mem_cons_self⟩
  have m2 : ∀ c ∈ P2, c ∈ P ∧ bhi b < blo c := fun c hc => by
    have a := K.asc
    rw [e] at a
    exact ⟨by rw [e]; exact List.mem_append_right _ (List.mem_cons_of_mem _ hc), (List.pairwise_cons.mp (List.pairwise_append.mp a).2.1).1 c hc⟩
  have s1 : sumI (fun c => czB c b z) P1 = sumI (inB b) P1 := sumI_congr fun c hc => cz_other K hb (m1 c hc).1 (.inr (m1 c hc).2) h1 h2
  have s2 : sumI (fun c => czB c b z) P2 = sumI (inB b) P2 := sumI_congr fun c hc => cz_other K hb (m2 c hc).1 (.inl (m2 c hc).2) h1 h2
  have s3 := cz_self h1 h2
  rw [e, sumI_app, sumI_app, s1]
  show _ + (czB b b z + sumI (fun c => czB c b z) P2) = _ + (inB b b + sumI (inB b) P2) + _
  rw [s2, s3]
  omega
/-! ### the distances -/
def cI (f g : Int → Int) (Z : List Int) (z : Int) : Int := ((Z.filter fun w => decide (f w < f z ∧ g w < g z)).length : Int)
def dI (f g : Int → Int) (Z : List Int) (z : Int) : Int := 1 + f z + g z - cI f g Z z
def hI (f g : Int → Int) (Z : List Int) (d : Int) : Int := ((Z.filter fun z => decide (dI f g Z z = d)).length : Int)
def zB (P : List (Rw × Rw)) : List Int := P.flatMap sgB
def baseB (P : List (Rw × Rw)) (b : Rw × Rw) : Int := 1 + bp b + bq b - sumI (inB b) P
def pcB (P : List (Rw × Rw)) (b : Rw × Rw) : Int × Int × Int := if bg b = true then (baseB P b, baseB P b + bn b - 1, 1) else (baseB P b + bn b - 1, baseB P b + bn b - 1, bn b)
theorem cI_perm {f g : Int → Int} {Z W : List Int} (h : Z.Perm W) (z : Int) : cI f g Z z = cI f g W z := by
  unfold cI
  rw [(h.filter _).length_eq]
theorem hI_perm {f g : Int → Int} {Z W : List Int} (h : Z.Perm W) (d : Int) : hI f g Z d = hI f g W d := by
  unfold hI dI
  rw [(h.filter _).length_eq]
  congr 2
  refine List.filter_congr fun z _ => ?_
  rw [cI_perm h]
theorem dist_B {P : List (Rw × Rw)} (K : Blk P) {f g : Int → Int} (hf : ∀ b ∈ P, ∀ z, blo b ≤ z → z ≤ bhi b → f z = plOf b.1 z ∧ g z = plOf b.2 z) (b : Rw × Rw) (hb : b ∈ P) (z : Int) (h1 : blo b ≤ z) (h2 : z ≤ bhi b) : dI f g (zB P) z = baseB P b + (if bg b = true then off b.2.2.2.2 b z else bn b - 1) := by
  have c : cI f g (zB P) z = sumI (fun c => czB c b z) P := by
    unfold cI zB
    rw [filter_flat]
    refine sumI_congr fun c hc => ?_
    unfold czB
    congr 2
    refine List.filter_congr fun w hw => ?_
    obtain ⟨w1, w2⟩ := mem_seg.mp hw
    rw [(hf c hc w w1 w2).1, (hf c hc w w1 w2).2, (hf b hb z h1 h2).1, (hf b hb z h1 h2).2]
  unfold dI baseB
  rw [c, cz_sum K hb h1 h2, (hf b hb z h1 h2).1, (hf b hb z h1 h2).2, pl_bp, pl_bq]
  by_cases g1 : bg b = true
  · rw [if_pos g1, if_pos g1]
    have : b.1.2.2.2 = b.2.2.2.2 := by
      unfold bg at g1
      simpa using g1
    rw [this]
    omega
  · rw [if_neg g1, if_neg g1]
    have : off b.1.2.2.2 b z + off b.2.2.2.2 b z = bn b - 1 := by
      unfold bg at g1
      unfold off bn
      cases h3 : b.1.2.2.2 <;> cases h4 : b.2.2.2.2 <;> rw [h3, h4] at g1
      · exact (g1 rfl).elim
      · rw [if_neg (by decide), if_pos rfl]
        omega
      · rw [if_pos rfl, if_neg (by decide)]
        omega
      · exact (g1 rfl).elim
    omega
theorem hist_B {P : List (Rw × Rw)} (K : Blk P) {f g : Int → Int} (hf : ∀ b ∈ P, ∀ z, blo b ≤ z → z ≤ bhi b → f z = plOf b.1 z ∧ g z = plOf b.2 z) (d : Int) : hI f g (zB P) d = atP (P.map (pcB P)) d := by
  have dist := dist_B K hf
  unfold hI
  rw [show zB P = P.flatMap sgB from rfl, filter_flat]
  have key : ∀ Q : List (Rw × Rw), (∀ b ∈ Q, b ∈ P) → sumI (fun b => (((sgB b).filter fun z => decide (dI f g (P.flatMap sgB) z = d)).length : Int)) Q = atP (Q.map (pcB P)) d := by
    intro Q
    induction Q with
    | nil => intro _; rfl
    | cons b Q ih =>
      intro hQ
      have hb := hQ b List.mem_cons_self
      have nb := K.ne b hb
      rw [List.map_cons, atP_cons]
      show _ + _ = at1 (pcB P b) d + _
      rw [ih fun c hc => hQ c (List.mem_cons_of_mem _ hc)]
      congr 1
      have e : ((sgB b).filter fun z => decide (dI f g (P.flatMap sgB) z = d)) = (sgB b).filter fun z => decide (baseB P b + (if bg b = true then off b.2.2.2.2 b z else bn b - 1) = d) := by
        refine List.filter_congr fun z hz => ?_
        obtain ⟨z1, z2⟩ := mem_seg.mp hz
        rw [show P.flatMap sgB = zB P from rfl, dist b hb z z1 z2]
      show (((sgB b).filter fun z => decide (dI f g (P.flatMap sgB) z = d)).length : Int) = at1 (pcB P b) d
      rw [e]
      unfold pcB at1 sgB
      have n1 : bn b = bhi b - blo b + 1 := rfl
      by_cases g1 : bg b = true
      · rw [if_pos g1]
        dsimp only
        by_cases u : b.2.2.2.2 = true
        · have e2 : ((seg (blo b) (bhi b)).filter fun z => decide (baseB P b + (if bg b = true then off b.2.2.2.2 b z else bn b - 1) = d)) = (seg (blo b) (bhi b)).filter fun z => decide (z = d - baseB P b + blo b) := by
            refine List.filter_congr fun z _ => ?_
            rw [if_pos g1]
            unfold off
            rw [if_pos u]
            congr 1
            exact propext ⟨fun h => by omega, fun h => by omega⟩
          rw [e2, seg_eq]
          split <;> split <;> omega
        · have e2 : ((seg (blo b) (bhi b)).filter fun z => decide (baseB P b + (if bg b = true then off b.2.2.2.2 b z else bn b - 1) = d)) = (seg (blo b) (bhi b)).filter fun z => decide (z = bhi b - (d - baseB P b)) := by
            refine List.filter_congr fun z _ => ?_
            rw [if_pos g1]
            unfold off
            rw [if_neg u]
            congr 1
            exact propext ⟨fun h => by omega, fun h => by omega⟩
          rw [e2, seg_eq]
          split <;> split <;> omega
      · rw [if_neg g1]
        dsimp only
        by_cases c : d = baseB P b + bn b - 1
        · rw [seg_out, seg_length, if_pos nb, if_pos (by omega)]
          · rfl
          · intro z _ _
            rw [if_neg g1]
            exact decide_eq_true (by omega)
        · rw [seg_in, if_neg (by omega)]
          · rfl
          · intro z _ _
            rw [if_neg g1]
            exact decide_eq_false (by omega)
  exact key P fun b hb => hb
end Kb
namespace Kb
open PySem PySem.Spec PyProof.Rows L2 TL
theorem rdL_nodup : ∀ {ss : List Sc}, ss.Pairwise Apart → (rdL ss).Nodup
  | [], _ => .nil
  | s :: r, h => by
    obtain ⟨h1, h2⟩ := List.pairwise_cons.mp h
    show (rd s ++ rdL r).Nodup
    rw [List.nodup_append]
    refine ⟨rd_nodup s, rdL_nodup h2, fun a ha b hb e => ?_⟩
    subst e
    obtain ⟨t, ht, a1, a2⟩ := mem_rdL.mp hb
    have m := mem_rd.mp ha
    have := h1 t ht
    unfold Apart at this
    omega
theorem asr_of {ss : List Sc} {A : List Rw} (d : ss.Pairwise Apart) (p : A.Perm (pls ss 0)) (o : A.Pairwise fun x y => x.1 ≤ y.1) : Asr A := by
  have le : ∀ x ∈ A, x.1 ≤ x.2.1 := fun x hx => pls_le (p.mem_iff.mp hx)
  have d2 : A.Pairwise fun x y => x.2.1 < y.1 ∨ y.2.1 < x.1 := (p.pairwise_iff (R := fun x y : Rw => x.2.1 < y.1 ∨ y.2.1 < x.1) (fun {a b} h => h.symm)).mpr (pls_apart 0 d)
  refine ⟨?_, le⟩
  rw [List.pairwise_iff_getElem] at *
  intro i j hi hj hij
  have a := d2 i j hi hj hij
  have b := o i j hi hj hij
  have c := le _ (List.getElem_mem hj)
  omega
theorem nodup_ix {l : List Int} (nd : l.Nodup) {i j : Nat} {z : Int} (h1 : l[i]? = some z) (h2 : l[j]? = some z) : i = j :=
  (List.getElem?_inj (List.getElem?_eq_some_iff.mp h1).1 nd).mp (h1.trans h2.symm)
/-- the place of a number in a list, as an int -/
def ixI (l : List Int) (z : Int) : Int := match ixo l z with
  | some j => (j : Int)
  | none => 0
theorem ixI_at {l : List Int} (nd : l.Nodup) {j : Nat} {z : Int} (h : l[j]? = some z) : ixI l z = (j : Int) := by
  obtain ⟨k, h1, h2, _⟩ := ixo_some (List.mem_of_getElem? h)
  unfold ixI
  rw [h1, nodup_ix nd h2 h]
theorem ixI_nn (l : List Int) (z : Int) : 0 ≤ ixI l z := by
  unfold ixI
  split <;> omega
theorem ixI_inj {l : List Int} {z w : Int} (hz : z ∈ l) (hw : w ∈ l) (e : ixI l z = ixI l w) : z = w := by
  obtain ⟨j, h1, h2, _⟩ := ixo_some hz
  obtain ⟨k, h3, h4, _⟩ := ixo_some hw
  unfold ixI at e
  rw [h1, h3] at e
  have : j = k := by
    have e : (j : Int) = (k : Int) := e
    omega
  subst this
  rw [h2] at h4
  exact Option.some.inj h4
theorem ixI_lt {l : List Int} {z : Int} (hz : z ∈ l) : ixI l z < l.length := by
  obtain ⟨j, h1, h2, _⟩ := ixo_some hz
  unfold ixI
  rw [h1]
  have := (List.getElem?_eq_some_iff.mp h2).1
  show (j : Int) < _
  omega
structure Srt (ls : List Sc) (A : List Rw) : Prop where
  dis : ls.Pairwise Apart
  perm : A.Perm (pls ls 0)
  ord : A.Pairwise fun x y => x.1 ≤ y.1
theorem Srt.asr {ls : List Sc} {A : List Rw} (h : Srt ls A) : Asr A := asr_of h.dis h.perm h.ord
theorem Srt.at {ls : List Sc} {A : List Rw} (h : Srt ls A) {x : Rw} (hx : x ∈ A) {z : Int} (h1 : x.1 ≤ z) (h2 : z ≤ x.2.1) : 0 ≤ plOf x z ∧ (rdL ls)[(plOf x z).toNat]? = some z := by
  obtain ⟨a, b⟩ := pls_get (h.perm.mem_iff.mp hx) h1 h2
  rw [Int.sub_zero] at a b
  exact ⟨a, b⟩
theorem in_blk {b : Rw × Rw} {z : Int} (h1 : blo b ≤ z) (h2 : z ≤ bhi b) : (b.1.1 ≤ z ∧ z ≤ b.1.2.1) ∧ b.2.1 ≤ z ∧ z ≤ b.2.2.1 := by
  have a := mxI_le b.1.1 b.2.1
  have c := mnI_le b.1.2.1 b.2.2.1
  unfold blo at h1
  unfold bhi at h2
  omega
theorem blk_of {ls fs : List Sc} {A B : List Rw} (hA : Srt ls A) (hB : Srt fs B) : Blk (shr A B) := by
  refine ⟨shr_asc _ rfl hA.asr hB.asr, fun b hb => (shr_mem _ rfl b hb).2.2, fun b hb c hc z w z1 z2 w1 w2 e => ?_, fun b hb c hc z w z1 z2 w1 w2 e => ?_⟩
  · obtain ⟨a1, a2⟩ := hA.at (shr_mem _ rfl b hb).1 (in_blk z1 z2).1.1 (in_blk z1 z2).1.2
    obtain ⟨a3, a4⟩ := hA.at (shr_mem _ rfl c hc).1 (in_blk w1 w2).1.1 (in_blk w1 w2).1.2
    rw [e, a4] at a2
    exact (Option.some.inj a2).symm
  · obtain ⟨a1, a2⟩ := hB.at (shr_mem _ rfl b hb).2.1 (in_blk z1 z2).2.1 (in_blk z1 z2).2.2
    obtain ⟨a3, a4⟩ := hB.at (shr_mem _ rfl c hc).2.1 (in_blk w1 w2).2.1 (in_blk w1 w2).2.2
    rw [e, a4] at a2
    exact (Option.some.inj a2).symm
theorem zB_nodup : ∀ {P : List (Rw × Rw)}, P.Pairwise (fun b c => bhi b < blo c) → (zB P).Nodup
  | [], _ => .nil
  | b :: P, h => by
    obtain ⟨h1, h2⟩ := List.pairwise_cons.mp h
    show (sgB b ++ zB P).Nodup
    rw [List.nodup_append]
    refine ⟨?_, zB_nodup h2, fun x hx y hy e => ?_⟩
    · unfold sgB seg
      refine List.nodup_iff_pairwise_ne.mpr (List.pairwise_map.mpr ((List.nodup_iff_pairwise_ne.mp List.nodup_range).imp fun {i j} hij e => hij (by omega)))
    · subst e
      obtain ⟨c, hc, hy⟩ := List.mem_flatMap.mp hy
      have := h1 c hc
      have a := mem_seg.mp hx
      have b := mem_seg.mp hy
      omega
theorem zB_mem {ls fs : List Sc} {A B : List Rw} (hA : Srt ls A) (hB : Srt fs B) {z : Int} : z ∈ zB (shr A B) ↔ z ∈ rdL fs ∧ z ∈ rdL ls := by
  constructor
  · intro h
    obtain ⟨b, hb, hz⟩ := List.mem_flatMap.mp h
    obtain ⟨z1, z2⟩ := mem_seg.mp hz
    obtain ⟨m1, m2, _⟩ := shr_mem _ rfl b hb
    exact ⟨List.mem_of_getElem? (hB.at m2 (in_blk z1 z2).2.1 (in_blk z1 z2).2.2).2, List.mem_of_getElem? (hA.at m1 (in_blk z1 z2).1.1 (in_blk z1 z2).1.2).2⟩
  · rintro ⟨h1, h2⟩
    obtain ⟨x, hx, x1, x2⟩ := pls_of 0 h2
    obtain ⟨y, hy, y1, y2⟩ := pls_of 0 h1
    have a := mxI_le x.1 y.1
    have c := mnI_le x.2.1 y.2.1
    have l1 : blo (x, y) ≤ z := by
      show mxI x.1 y.1 ≤ z
      omega
    have l2 : z ≤ bhi (x, y) := by
      show z ≤ mnI x.2.1 y.2.1
      omega
    exact List.mem_flatMap.mpr ⟨(x, y), shr_all _ rfl hA.asr hB.asr x (hA.perm.mem_iff.mpr hx) y (hB.perm.mem_iff.mpr hy) (by omega), mem_seg.mpr ⟨l1, l2⟩⟩
theorem zB_perm {ls fs : List Sc} {A B : List Rw} (hA : Srt ls A) (hB : Srt fs B) : (zB (shr A B)).Perm ((rdL fs).filter fun z => decide (z ∈ rdL ls)) := by
  refine (List.perm_ext_iff_of_nodup (zB_nodup (shr_asc _ rfl hA.asr hB.asr)) ((rdL_nodup hB.dis).filter _)).mpr fun z => ?_
  rw [zB_mem hA hB, List.mem_filter, decide_eq_true_iff]
/-- the numbers of straight distances -/
def stH (L F : List Int) (d : Int) : Int := hI (ixI L) (ixI F) (F.filter fun z => decide (z ∈ L)) d
theorem ix_blk {ls fs : List Sc} {A B : List Rw} (hA : Srt ls A) (hB : Srt fs B) : ∀ b ∈ shr A B, ∀ z, blo b ≤ z → z ≤ bhi b → ixI (rdL ls) z = plOf b.1 z ∧ ixI (rdL fs) z = plOf b.2 z := fun b hb z z1 z2 => by
  obtain ⟨m1, m2, _⟩ := shr_mem _ rfl b hb
  obtain ⟨a1, a2⟩ := hA.at m1 (in_blk z1 z2).1.1 (in_blk z1 z2).1.2
  obtain ⟨a3, a4⟩ := hB.at m2 (in_blk z1 z2).2.1 (in_blk z1 z2).2.2
  rw [ixI_at (rdL_nodup hA.dis) a2, ixI_at (rdL_nodup hB.dis) a4]
  omega
theorem straight_hist {ls fs : List Sc} {A B : List Rw} (hA : Srt ls A) (hB : Srt fs B) (d : Int) : atP ((shr A B).map (pcB (shr A B))) d = stH (rdL ls) (rdL fs) d := by
  unfold stH
  rw [← hist_B (blk_of hA hB) (ix_blk hA hB) d]
  exact hI_perm (zB_perm hA hB) d
/-- distances are 1 and more, and not beyond the numbers of both lists -/
theorem dI_bd {L F : List Int} (nL : L.Nodup) (nF : F.Nodup) {z : Int} (hz : z ∈ F) (hl : z ∈ L) : 1 ≤ dI (ixI L) (ixI F) (F.filter fun z => decide (z ∈ L)) z ∧ dI (ixI L) (ixI F) (F.filter fun z => decide (z ∈ L)) z ≤ L.length + F.length := by
  have a := ixI_lt hz
  have b := ixI_lt hl
  have a0 := ixI_nn F z
  have b0 := ixI_nn L z
  have c : cI (ixI L) (ixI F) (F.filter fun z => decide (z ∈ L)) z ≤ ixI L z := by
    unfold cI
    have sub : (((F.filter fun z => decide (z ∈ L)).filter fun w => decide (ixI L w < ixI L z ∧ ixI F w < ixI F z)).map fun w => (ixI L w).toNat).length ≤ (List.range (ixI L z).toNat).length := by
      refine List.Nodup.length_le_of_subset ?_ fun j hj => ?_
      · refine List.nodup_iff_pairwise_ne.mpr (List.pairwise_map.mpr ?_)
        have nd := List.nodup_iff_pairwise_ne.mp ((nF.filter fun z => decide (z ∈ L)).filter fun w => decide (ixI L w < ixI L z ∧ ixI F w < ixI F z))
        refine nd.imp_of_mem fun {x y} hx hy ne e => ne ?_
        have mx := of_decide_eq_true (List.mem_filter.mp (List.mem_filter.mp hx).1).2
        have my := of_decide_eq_true (List.mem_filter.mp (List.mem_filter.mp hy).1).2
        exact ixI_inj mx my (by have := ixI_nn L x; have := ixI_nn L y; omega)
      · obtain ⟨w, hw, rfl⟩ := List.mem_map.mp hj
        have := (of_decide_eq_true (List.mem_filter.mp hw).2).1
        have := ixI_nn L w
        exact List.mem_range.mpr (by omega)
    rw [List.length_map, List.length_range] at sub
    omega
  have c0 : 0 ≤ cI (ixI L) (ixI F) (F.filter fun z => decide (z ∈ L)) z := Int.natCast_nonneg _
  unfold dI
  omega
theorem pcB_ok {ls fs : List Sc} {A B : List Rw} (hA : Srt ls A) (hB : Srt fs B) : ∀ b ∈ shr A B, Pok (pcB (shr A B) b) ∧ (pcB (shr A B) b).2.1 ≤ (rdL ls).length + (rdL fs).length ∧ bn b ≤ (rdL ls).length + (rdL fs).length := fun b hb => by
  have K := blk_of hA hB
  have nb := K.ne b hb
  have n1 : bn b = bhi b - blo b + 1 := rfl
  have nL := rdL_nodup hA.dis
  have nF := rdL_nodup hB.dis
  have D : ∀ z, blo b ≤ z → z ≤ bhi b → 1 ≤ baseB (shr A B) b + (if bg b = true then off b.2.2.2.2 b z else bn b - 1) ∧ baseB (shr A B) b + (if bg b = true then off b.2.2.2.2 b z else bn b - 1) ≤ (rdL ls).length + (rdL fs).length := fun z z1 z2 => by
    have e := dist_B K (ix_blk hA hB) b hb z z1 z2
    have m : z ∈ zB (shr A B) := List.mem_flatMap.mpr ⟨b, hb, mem_seg.mpr ⟨z1, z2⟩⟩
    have m := (zB_mem hA hB).mp m
    have d := dI_bd nL nF m.1 m.2
    rw [← e]
    unfold dI at d ⊢
    rw [cI_perm (zB_perm hA hB)]
    exact d
  obtain ⟨z, z1, z2, z3⟩ := at_off b.2.2.2.2 (b := b) (t := 0) (Int.le_refl _) (by omega)
  obtain ⟨w, w1, w2, w3⟩ := at_off b.2.2.2.2 (b := b) (t := bn b - 1) (by omega) (by omega)
  have dz := D z z1 z2
  have dw := D w w1 w2
  rw [z3] at dz
  rw [w3] at dw
  unfold pcB Pok
  by_cases g : bg b = true
  · rw [if_pos g] at dz dw ⊢
    dsimp only
    omega
  · rw [if_neg g] at dz dw ⊢
    dsimp only
    have a1 := ixI_lt ((zB_mem hA hB).mp (List.mem_flatMap.mpr ⟨b, hb, mem_seg.mpr ⟨z1, z2⟩⟩)).1
    have := (ix_blk hA hB b hb z z1 z2).2
    have := (ix_blk hA hB b hb w w1 w2).2
    rw [pl_bq] at *
    have a2 := ixI_lt ((zB_mem hA hB).mp (List.mem_flatMap.mpr ⟨b, hb, mem_seg.mpr ⟨w1, w2⟩⟩)).1
    have a3 := ixI_nn (rdL fs) z
    omega
end Kb
namespace Kb
open PySem PySem.Spec PyProof.Rows L2 TL
/-! ### rows in the heap -/
def IsRw (H : Hp) (v : V) (x : Rw) : Prop := ∃ t, v = .ref t ∧ H t = some (.tup [.int x.1, .int x.2.1, .int x.2.2.1, .bl x.2.2.2])
def Rws (H : Hp) (p : Addr) (rs : List Rw) : Prop := ∃ vs, H p = some (.lst vs) ∧ Paired (IsRw H) vs rs
theorem IsRw.mono {H H' : Hp} (e : Ex H H') {v : V} {x : Rw} (h : IsRw H v x) : IsRw H' v x := by
  obtain ⟨t, rfl, h⟩ := h
  exact ⟨t, rfl, e _ _ h⟩
theorem IsRw.lset {H : Hp} {p : Addr} {us : List V} {o : HO} (hp : H p = some (.lst us)) {v : V} {x : Rw} (h : IsRw H v x) : IsRw (upd H p o) v x := by
  obtain ⟨t, rfl, h⟩ := h
  refine ⟨t, rfl, ?_⟩
  rw [upd_ne]
  · exact h
  · intro e
    rw [e, hp] at h
    cases h
theorem Rws.mono {H H' : Hp} (e : Ex H H') {p : Addr} {rs : List Rw} (h : Rws H p rs) : Rws H' p rs := by
  obtain ⟨vs, h1, h2⟩ := h
  exact ⟨vs, e _ _ h1, Pz.imp (fun _ _ => IsRw.mono e) h2⟩
theorem Pz.get {α β : Type} {R : α → β → Prop} {x : α} : ∀ {xs : List α} {ys : List β} {i : Nat}, Paired R xs ys → xs[i]? = some x → ∃ y, ys[i]? = some y ∧ R x y
  | _, _, i, .nil, e => by simp at e
  | _, _, 0, .cons h t, e => by
    cases e
    exact ⟨_, rfl, h⟩
  | _, _, i + 1, .cons h t, e => Pz.get (i := i) t e
theorem Pz.get2 {α β : Type} {R : α → β → Prop} {y : β} : ∀ {xs : List α} {ys : List β} {i : Nat}, Paired R xs ys → ys[i]? = some y → ∃ x, xs[i]? = some x ∧ R x y
  | _, _, i, .nil, e => by simp at e
  | _, _, 0, .cons h t, e => by
    cases e
    exact ⟨_, rfl, h⟩
  | _, _, i + 1, .cons h t, e => Pz.get2 (i := i) t e
/-- one item more in a list of rows -/
theorem Rws.snoc {H : Hp} {p t : Addr} {vs : List V} {rs : List Rw} {x : Rw} (hp : H p = some (.lst vs)) (h : Paired (IsRw H) vs rs) (nt : t ≠ p) (ht : H t = some (.tup [.int x.1, .int x.2.1, .int x.2.2.1, .bl x.2.2.2])) : Rws (upd H p (.lst (vs ++ [.ref t]))) p (rs ++ [x]) :=
  ⟨_, upd_same, Pz.snoc (Pz.imp (fun _ _ => IsRw.lset hp) h) ⟨t, rfl, by rw [upd_ne nt]; exact ht⟩⟩
theorem pls_app : ∀ (a : List Sc) (s : Sc) (acc : Int), pls (a ++ [s]) acc = pls a acc ++ [(lo s, hi s, acc + psum a, decide (s.1 ≤ s.2))]
  | [], s, acc => by
    show [_] = [_]
    rw [show psum [] = 0 from rfl, Int.add_zero]
  | x :: a, s, acc => by
    show _ :: pls (a ++ [s]) (acc + slen x) = _ :: (pls a (acc + slen x) ++ [_])
    rw [pls_app a s, show psum (x :: a) = slen x + psum a from rfl, Int.add_assoc]
/-- the row that a value of the heap is -/
def kR (H : Hp) : V → Rw
  | .ref t => match H t with
    | some (.tup [.int a, .int b, .int c, .bl u]) => (a, b, c, u)
    | _ => (0, 0, 0, false)
  | _ => (0, 0, 0, false)
theorem kR_of {H : Hp} {v : V} {x : Rw} (h : IsRw H v x) : kR H v = x := by
  obtain ⟨t, rfl, h⟩ := h
  unfold kR
  dsimp only
  rw [h]
theorem kR_map {H : Hp} : ∀ {vs : List V} {rs : List Rw}, Paired (IsRw H) vs rs → vs.map (kR H) = rs
  | _, _, .nil => rfl
  | _, _, .cons h t => by rw [List.map_cons, kR_of h, kR_map t]
theorem kR_pair {H : Hp} : ∀ {vs : List V}, (∀ v ∈ vs, IsRw H v (kR H v)) → Paired (IsRw H) vs (vs.map (kR H))
  | [], _ => .nil
  | v :: vs, h => .cons (h v List.mem_cons_self) (kR_pair fun u hu => h u (List.mem_cons_of_mem _ hu))
theorem kR_mem {H : Hp} {vs : List V} {rs : List Rw} (p : Paired (IsRw H) vs rs) : ∀ v ∈ vs, IsRw H v (kR H v) := fun v hv => by
  obtain ⟨i, hi⟩ := List.getElem?_of_mem hv
  obtain ⟨x, _, h⟩ := Pz.get p hi
  rw [kR_of h]
  exact h
theorem pls_inj {ss : List Sc} (d : ss.Pairwise Apart) {x y : Rw} (hx : x ∈ pls ss 0) (hy : y ∈ pls ss 0) (e : x.1 = y.1) : x = y := by
  have w := pls_apart 0 d
  have a := pls_le hx
  have b := pls_le hy
  obtain ⟨i, hi, rfl⟩ := List.getElem_of_mem hx
  obtain ⟨j, hj, rfl⟩ := List.getElem_of_mem hy
  rw [List.pairwise_iff_getElem] at w
  rcases Nat.lt_trichotomy i j with h | h | h
  · have := w i j hi hj h
    omega
  · subst h
    rfl
  · have := w j i hj hi h
    omega
theorem sort_ok {H : Hp} {us : List V} {ss : List Sc} (d : ss.Pairwise Apart) (pu : Paired (IsRw H) us (pls ss 0)) :
    (∀ x ∈ us, ∃ t, x = V.ref t ∧ H t = some (.tup [.int (kR H x).1, .int (kR H x).2.1, .int (kR H x).2.2.1, .bl (kR H x).2.2.2])) ∧ (∀ x ∈ us, ∀ y ∈ us, (kR H x).1 = (kR H y).1 → kR H x = kR H y) ∧
      ∀ ys, ys.Perm us → ys.Pairwise (fun x y => (kR H x).1 ≤ (kR H y).1) → Srt ss (ys.map (kR H)) ∧ Paired (IsRw H) ys (ys.map (kR H)) := by
  have m : ∀ x ∈ us, kR H x ∈ pls ss 0 := fun x hx => by
    rw [← kR_map pu]
    exact List.mem_map_of_mem hx
  refine ⟨kR_mem pu, fun x hx y hy e => pls_inj d (m x hx) (m y hy) e, fun ys hp ho => ⟨⟨d, ?_, ?_⟩, kR_pair fun v hv => kR_mem pu v (hp.mem_iff.mp hv)⟩⟩
  · rw [← kR_map pu]
    exact hp.map _
  · exact List.pairwise_map.mpr ho
def rwB (b : Rw × Rw) : Rw := (bp b, bq b, bn b, bg b)
def srB (P : List (Rw × Rw)) (b : Rw × Rw) : Rw := (bq b, bn b, if bg b = true then baseB P b else baseB P b + bn b - 1, bg b)
theorem in_sum (b : Rw × Rw) : ∀ P : List (Rw × Rw), ((P.filter fun c => decide (bp c < bp b ∧ bq c < bq b)).map bn).sum = sumI (inB b) P
  | [] => rfl
  | c :: P => by
    show _ = inB b c + sumI (inB b) P
    rw [← in_sum b P]
    unfold inB
    by_cases h : bp c < bp b ∧ bq c < bq b
    · rw [if_pos h]
      simp [h]
    · rw [if_neg h]
      simp [h]
theorem filtA {α : Type} {ps : List α} {i : Nat} {p : α} (f : α → Bool) (h : ps[i]? = some p) : (ps.take (i + 1)).filter f = (ps.take i).filter f ++ if f p = true then [p] else [] := by
  rw [List.take_add_one, h, List.filter_append]
  show _ ++ List.filter f [p] = _
  rw [List.filter_cons]
  rfl
theorem filtA_le {α : Type} {ps : List α} {i : Nat} (f : α → Bool) : ((ps.take i).filter f).length ≤ i := by
  have z := List.length_filter_le f (ps.take i)
  rw [List.length_take] at z
  omega
/-! ### promises -/
def spPlaced : Sp := fun vs H Q _ => ∃ (a : Addr) (ss : List Sc), vs = [.ref a] ∧ Scs H a ss ∧ ss.length ≤ 2 ^ 18 ∧ ∀ p H', H p = none → Ex H H' → Rws H' p (pls ss 0) → Q (.ref p) H'
def spStartOf : Sp := fun vs H Q _ => ∃ (v : V) (x : Rw) (l h : Int), vs = [v, .int l, .int h] ∧ IsRw H v x ∧ RetV (.int (stPl x l h)) H Q
structure Two (H : Hp) (a c : Addr) (ls fs : List Sc) : Prop where
  l : Scs H a ls
  f : Scs H c fs
  l18 : ls.length ≤ 2 ^ 18
  f18 : fs.length ≤ 2 ^ 18
  la : ls.Pairwise Apart
  fa : fs.Pairwise Apart
def spShared : Sp := fun vs H Q _ => ∃ (a c : Addr) (ls fs : List Sc), vs = [.ref a, .ref c] ∧ Two H a c ls fs ∧ ∀ p H' A B, H p = none → Ex H H' → Srt ls A → Srt fs B → Rws H' p ((shr A B).map rwB) → Q (.ref p) H'
def spRows : Sp := fun vs H Q _ => ∃ (a c : Addr) (ls fs : List Sc), vs = [.ref a, .ref c] ∧ Two H a c ls fs ∧ ∀ p H' A B, H p = none → Ex H H' → Srt ls A → Srt fs B → Rws H' p ((shr A B).map (srB (shr A B))) → Q (.ref p) H'
def spPieces : Sp := fun vs H Q _ => ∃ (a c : Addr) (ls fs : List Sc), vs = [.ref a, .ref c] ∧ Two H a c ls fs ∧ ∀ p H' A B, H p = none → Ex H H' → Srt ls A → Srt fs B → Pcs H' p ((shr A B).map (pcB (shr A B))) → Q (.ref p) H'
theorem shr_few {ls fs : List Sc} {A B : List Rw} (hA : Srt ls A) (hB : Srt fs B) : (shr A B).length ≤ ls.length + fs.length := by
  have := shr_len _ (A := A) (B := B) rfl
  have a := hA.perm.length_eq
  have b := hB.perm.length_eq
  rw [pls_len] at a b
  omega
theorem Two.mono {H H' : Hp} (e : Ex H H') {a c : Addr} {ls fs : List Sc} (h : Two H a c ls fs) : Two H' a c ls fs := ⟨h.l.mono e, h.f.mono e, h.l18, h.f18, h.la, h.fa⟩
end Kb
namespace Kb
open PySem PySem.Spec PyProof.Rows L2 TL
/-! ### between -/
theorem two_parts {α : Type} (f : α → Bool) : ∀ l : List α, (l.filter f).length + (l.filter fun z => !f z).length = l.length
  | [] => rfl
  | x :: l => by
    have ih := two_parts f l
    cases h : f x
    · simp [h]
      omega
    · simp [h]
      omega
theorem pcs_pok {ls fs : List Sc} {A B : List Rw} (hA : Srt ls A) (hB : Srt fs B) : ∀ p ∈ (shr A B).map (pcB (shr A B)), Pok p ∧ p.2.1 ≤ psum ls + psum fs ∧ p.2.2 ≤ psum ls + psum fs := fun p hp => by
  obtain ⟨b, hb, rfl⟩ := List.mem_map.mp hp
  obtain ⟨a, c, d⟩ := pcB_ok hA hB b hb
  rw [rdL_len, rdL_len] at c d
  refine ⟨a, c, ?_⟩
  have z := a.1
  have nb := (shr_mem _ rfl b hb).2.2
  have e : bn b = bhi b - blo b + 1 := rfl
  unfold pcB
  split
  · dsimp only
    omega
  · exact d
theorem stH_bd (L F : List Int) (d : Int) : 0 ≤ stH L F d ∧ stH L F d ≤ F.length := by
  unfold stH hI
  refine ⟨Int.natCast_nonneg _, ?_⟩
  have a := List.length_filter_le (fun z => decide (dI (ixI L) (ixI F) (F.filter fun z => decide (z ∈ L)) z = d)) (F.filter fun z => decide (z ∈ L))
  have b := List.length_filter_le (fun z => decide (z ∈ L)) F
  omega
end Kb
namespace Kb
open PySem PySem.Spec PyProof.Rows L2 TL
/-! ### the words of P17 -/
structure Dst (m : Int) (l : List Int) : Prop where
  nd : l.Nodup
  bd : ∀ z ∈ l, 0 ≤ z ∧ z < m
theorem Dst.len {m : Int} {l : List Int} (h : Dst m l) : l.length ≤ m.toNat := by
  have sub : (l.map Int.toNat).length ≤ (List.range m.toNat).length := by
    refine List.Nodup.length_le_of_subset ?_ fun j hj => ?_
    · refine List.nodup_iff_pairwise_ne.mpr (List.pairwise_map.mpr ?_)
      refine (List.nodup_iff_pairwise_ne.mp h.nd).imp_of_mem fun {x y} hx hy ne e => ne ?_
      have := h.bd x hx
      have := h.bd y hy
      omega
    · obtain ⟨w, hw, rfl⟩ := List.mem_map.mp hj
      have := h.bd w hw
      exact List.mem_range.mpr (by omega)
  rwa [List.length_map, List.length_range] at sub
theorem Dst.sub {m : Int} {l k : List Int} (h : Dst m l) (s : k.Sublist l) : Dst m k := ⟨h.nd.sublist s, fun z hz => h.bd z (s.subset hz)⟩
theorem Dst.put {m : Int} {l k : List Int} (h : Dst m l) (g : Dst m k) : Dst m (k ++ l.filter fun z => !decide (z ∈ k)) := by
  refine ⟨List.nodup_append.mpr ⟨g.nd, h.nd.filter _, fun a ha b hb e => ?_⟩, fun z hz => ?_⟩
  · subst e
    have := (List.mem_filter.mp hb).2
    rw [decide_eq_true ha] at this
    cases this
  · rcases List.mem_append.mp hz with hz | hz
    · exact g.bd z hz
    · exact h.bd z (List.mem_filter.mp hz).1
/-- what is drawn so far, and what is left -/
structure Mix (m : Nat) (sp fl : List Int) : Prop where
  nd : sp.Nodup
  bd : ∀ z ∈ sp, 0 ≤ z ∧ z < m
  fd : fl.Nodup
  fb : ∀ z ∈ fl, ∃ w : Int, z = 3 * w ∧ 0 ≤ w ∧ w < m ∧ w ∉ sp
  len : fl.length + sp.length = m
theorem Mix.step {m : Nat} {sp fl : List Int} (h : Mix m sp fl) {k : Nat} {w : Int} (e : sp[k]? = some w) : Mix m (sp.eraseIdx k) (fl ++ [3 * w]) := by
  have mw := List.mem_of_getElem? e
  obtain ⟨kl, ek⟩ := List.getElem?_eq_some_iff.mp e
  have sub : ∀ z, z ∈ sp.eraseIdx k → z ∈ sp := fun z hz => (List.eraseIdx_sublist sp k).subset hz
  have nw : w ∉ sp.eraseIdx k := fun z => by
    obtain ⟨i, hi, ne, e2⟩ := List.mem_eraseIdx_iff_getElem.mp z
    exact ne (nodup_ix h.nd (List.getElem?_eq_some_iff.mpr ⟨hi, e2⟩) e)
  refine ⟨h.nd.sublist (List.eraseIdx_sublist sp k), fun z hz => h.bd z (sub z hz), List.nodup_append.mpr ⟨h.fd, by simp, fun a ha b hb q => ?_⟩, fun z hz => ?_, ?_⟩
  · obtain ⟨v, rfl, _, _, nv⟩ := h.fb a ha
    rw [List.mem_singleton.mp hb] at q
    have : v = w := by omega
    exact nv (this ▸ mw)
  · rcases List.mem_append.mp hz with hz | hz
    · obtain ⟨v, rfl, v0, v1, nv⟩ := h.fb z hz
      exact ⟨v, rfl, v0, v1, fun q => nv (sub v q)⟩
    · rw [List.mem_singleton.mp hz]
      exact ⟨w, rfl, (h.bd w mw).1, (h.bd w mw).2, nw⟩
  · have l := h.len
    rw [List.length_append, List.length_singleton, List.length_eraseIdx_of_lt kl]
    omega
theorem PaS.nx {H H' : Hp} (e : Nx H H') {vs : List V} {ss : List Sc} (h : Paired (IsSc H) vs ss) : Paired (IsSc H') vs ss := Pr.imp (fun _ _ r => by
  obtain ⟨t, e1, ht⟩ := r
  exact ⟨t, e1, e.at ht⟩) h
theorem rdL_cons (s : Sc) (r : List Sc) : rdL (s :: r) = rd s ++ rdL r := rfl
end Kb
namespace Kb
open PySem PySem.Spec PyProof.Rows L2 TL
theorem Scs.nx {H H' : Hp} (e : Nx H H') {a : Addr} {ss : List Sc} (h : Scs H a ss) : Scs H' a ss := by
  obtain ⟨vs, h1, h2⟩ := h
  exact ⟨vs, e.at h1, PaS.nx e h2⟩
/-- two lists of scans in a tuple, that tell of these addresses -/
def IsPrS (H : Hp) (E O : List Int) (v : V) : Prop := ∃ (t l r : Addr) (ls fs : List Sc), v = .ref t ∧ H t = some (.tup [.ref l, .ref r]) ∧ Scs H l ls ∧ Scs H r fs ∧ rdL ls = E ∧ rdL fs = O ∧ ls.length ≤ 120 ∧ fs.length ≤ 120
theorem IsPrS.nx {H H' : Hp} (e : Nx H H') {E O : List Int} {v : V} (h : IsPrS H E O v) : IsPrS H' E O v := by
  obtain ⟨t, l, r, ls, fs, h1, h2, h3, h4, h5⟩ := h
  exact ⟨t, l, r, ls, fs, h1, e.at h2, h3.nx e, h4.nx e, h5⟩
end Kb
namespace Kb
open PySem PySem.Spec PyProof.Rows L2 TL
theorem SqL.nx {K : PySem.W.Frag} {H H' : Hp} {a : Addr} {xs : List V} (e : Nx H H') (h : SqL K H a xs) : SqL K H' a xs := by
  rcases h with (h | ⟨o, h⟩) | h
  · exact .inl (.inl (e.at h))
  · exact .inl (.inr ⟨o, e.at h⟩)
  · exact .inr h
def IsPrI (H : Hp) (v : V) : Prop := ∃ (t l r : Addr) (E O : List Int), v = .ref t ∧ H t = some (.tup [.ref l, .ref r]) ∧ H l = some (.lst (E.map V.int)) ∧ H r = some (.lst (O.map V.int)) ∧ Dst 16 E ∧ Dst 16 O
theorem IsPrI.nx {H H' : Hp} (e : Nx H H') {v : V} (h : IsPrI H v) : IsPrI H' v := by
  obtain ⟨t, l, r, E, O, h1, h2, h3, h4, h5⟩ := h
  exact ⟨t, l, r, E, O, h1, e.at h2, e.at h3, e.at h4, h5⟩
end Kb
namespace Kb
open PySem PySem.Spec PyProof.Rows L2 TL
/-! ### heaps that grow, while ponds are drawn from and one list changes -/
def Nu (u : Addr) (H H' : Hp) : Prop := ∀ a o, a ≠ u → H a = some o → ∃ o', H' a = some o' ∧ (Plain o → o' = o)
theorem Nu.trans {u : Addr} {H H1 H2 : Hp} (a : Nu u H H1) (b : Nu u H1 H2) : Nu u H H2 := fun x o ne h => by
  obtain ⟨o1, h1, p1⟩ := a x o ne h
  obtain ⟨o2, h2, p2⟩ := b x o1 ne h1
  refine ⟨o2, h2, fun p => ?_⟩
  have e1 := p1 p
  subst e1
  exact p2 p
theorem Nu.at {u : Addr} {H H' : Hp} {a : Addr} {o : HO} (e : Nu u H H') (ne : a ≠ u) (h : H a = some o) (p : Plain o := by trivial) : H' a = some o := by
  obtain ⟨o1, h1, p1⟩ := e a o ne h
  rw [h1, p1 p]
theorem Nu.back {u : Addr} {H H' : Hp} {p : Addr} {o : HO} (e : Nu u H H') (hu : H' u = some o) (h : H' p = none) : H p = none := by
  cases h1 : H p with
  | none => rfl
  | some o1 =>
    have ne : p ≠ u := fun z => by
      rw [z, hu] at h
      cases h
    obtain ⟨o2, h2, _⟩ := e p o1 ne h1
    rw [h] at h2
    cases h2
theorem Nu.set {u : Addr} {H H' : Hp} {o : HO} (e : Nu u H H') : Nu u H (upd H' u o) := fun a o1 ne h => by
  rw [upd_ne ne]
  exact e a o1 ne h
theorem Nu.mut {u : Addr} {H H' : Hp} {p : Addr} {o : HO} (e : Nu u H H') (h : H p = none) : Nu u H (upd H' p o) := fun a o1 ne ha => by
  rw [upd_ne (ne_of_none ha h)]
  exact e a o1 ne ha
/-- the list that changed is new -/
theorem Nu.nx {u : Addr} {H0 H H' : Hp} (e0 : Nx H0 H) (n : H0 u = none) (e : Nu u H H') : Nx H0 H' := fun a o h => by
  obtain ⟨o1, h1, p1⟩ := e0 a o h
  obtain ⟨o2, h2, p2⟩ := e a o1 (ne_of_none h n) h1
  refine ⟨o2, h2, fun p => ?_⟩
  have e1 := p1 p
  subst e1
  exact p2 p
/-! ### programs as other laws draw them: pairs in lists -/
/-- the items of a list of nodes; its inner lists are of the kind N -/
def ItsT (N : Addr → Prop) (H : Hp) : Pg → List V → Prop
  | .nil, vs => vs = []
  | .sc s r, vs => ∃ t us, vs = .ref t :: us ∧ H t = some (.tup [.int s.1, .int s.2]) ∧ ItsT N H r us
  | .rp n b r, vs => ∃ t l bs us, vs = .ref t :: us ∧ H t = some (.tup [.ref l, .int n]) ∧ N l ∧ H l = some (.lst bs) ∧ ItsT N H b bs ∧ ItsT N H r us
def IsT (N : Addr → Prop) (H : Hp) (a : Addr) (g : Pg) : Prop := ∃ vs, H a = some (.lst vs) ∧ ItsT N H g vs
theorem ItsT.nx {N M : Addr → Prop} {H H' : Hp} (e : Nx H H') (im : ∀ l, N l → M l) : ∀ {g : Pg} {vs : List V}, ItsT N H g vs → ItsT M H' g vs
  | .nil, _, h => h
  | .sc s r, _, ⟨t, us, e1, h1, h2⟩ => ⟨t, us, e1, e.at h1, h2.nx e im⟩
  | .rp n b r, _, ⟨t, l, bs, us, e1, h1, n1, h2, h3, h4⟩ => ⟨t, l, bs, us, e1, e.at h1, im l n1, e.at h2, h3.nx e im, h4.nx e im⟩
theorem ItsT.ex {N : Addr → Prop} {H H' : Hp} (e : Ex H H') {g : Pg} {vs : List V} (h : ItsT N H g vs) : ItsT N H' g vs := h.nx e.nx fun _ => id
theorem IsT.nx {N M : Addr → Prop} {H H' : Hp} {a : Addr} {g : Pg} (e : Nx H H') (im : ∀ l, N l → M l) (h : IsT N H a g) : IsT M H' a g := by
  obtain ⟨vs, h1, h2⟩ := h
  exact ⟨vs, e.at h1, h2.nx e im⟩
theorem ItsT.mut {N : Addr → Prop} {H : Hp} {p : Addr} {xs : List V} {o : HO} (hp : H p = some (.lst xs)) (np : ∀ l, N l → l ≠ p) : ∀ {g : Pg} {vs : List V}, ItsT N H g vs → ItsT N (upd H p o) g vs
  | .nil, _, h => h
  | .sc s r, _, ⟨t, us, e1, h1, h2⟩ => ⟨t, us, e1, (Kp.lst hp) _ _ h1, h2.mut hp np⟩
  | .rp n b r, _, ⟨t, l, bs, us, e1, h1, n1, h2, h3, h4⟩ => ⟨t, l, bs, us, e1, (Kp.lst hp) _ _ h1, n1, by rw [upd_ne (np l n1)]; exact h2, h3.mut hp np, h4.mut hp np⟩
theorem ItsT.len {N : Addr → Prop} {H : Hp} : ∀ {g : Pg} {vs : List V}, ItsT N H g vs → vs.length = g.len
  | .nil, _, h => by rw [show _ = [] from h]; rfl
  | .sc s r, _, ⟨t, us, e, h, k⟩ => by rw [e, List.length_cons, k.len]; rfl
  | .rp n b r, _, ⟨t, l, bs, us, e, h1, _, h2, h3, h4⟩ => by rw [e, List.length_cons, h4.len]; rfl
theorem ItsT.app {N : Addr → Prop} {H : Hp} : ∀ {a b : Pg} {vs us : List V}, ItsT N H a vs → ItsT N H b us → ItsT N H (a.app b) (vs ++ us)
  | .nil, b, vs, us, h, k => by
    rw [show vs = [] from h]
    exact k
  | .sc s r, b, _, us, ⟨t, ws, e, h, k⟩, k' => ⟨t, ws ++ us, by rw [e]; rfl, h, k.app k'⟩
  | .rp n x r, b, _, us, ⟨t, l, bs, ws, e, h1, n1, h2, h3, h4⟩, k => ⟨t, l, bs, ws ++ us, by rw [e]; rfl, h1, n1, h2, h3, h4.app k⟩
theorem ItsT.get {N : Addr → Prop} {H : Hp} {v : V} {b : Pg} : ∀ {a : Pg} {vs : List V}, ItsT N H (a.app b) vs → vs[a.len]? = some v →
    (∃ s r t, b = .sc s r ∧ v = .ref t ∧ H t = some (.tup [.int s.1, .int s.2])) ∨ ∃ n x r t l bs, b = .rp n x r ∧ v = .ref t ∧ H t = some (.tup [.ref l, .int n]) ∧ N l ∧ H l = some (.lst bs) ∧ ItsT N H x bs
  | .nil, vs, h, e => by
    have h : ItsT N H b vs := h
    have e : vs[0]? = some v := e
    cases b with
    | nil =>
      rw [show vs = [] from h] at e
      cases e
    | sc s r =>
      obtain ⟨t, us, rfl, h1, _⟩ := h
      cases e
      exact .inl ⟨s, r, t, rfl, rfl, h1⟩
    | rp n x r =>
      obtain ⟨t, l, bs, us, rfl, h1, n1, h2, h3, _⟩ := h
      cases e
      exact .inr ⟨n, x, r, t, l, bs, rfl, rfl, h1, n1, h2, h3⟩
  | .sc s r, _, ⟨t, us, e1, h, k⟩, e => by
    subst e1
    exact ItsT.get (a := r) k e
  | .rp n x r, _, ⟨t, l, bs, us, e1, h1, _, h2, h3, h4⟩, e => by
    subst e1
    exact ItsT.get (a := r) h4 e
theorem ItsT.done {N : Addr → Prop} {H : Hp} {a b : Pg} {vs : List V} (h : ItsT N H (a.app b) vs) (e : a.len = vs.length) : b = .nil := by
  have := h.len
  rw [Pg.len_app] at this
  exact Pg.len_zero (by omega)
/-! ### the addresses of a set -/
end Kb
namespace Kb
open PySem PySem.Spec PyProof.Rows L2 TL
/-! ### how often each distance occurs in what is read -/
def dsO : List Int → List Int → List (Option Int)
  | _, [] => []
  | p, y :: ys => farO p y :: dsO (p ++ [y]) ys
theorem dsO_app : ∀ (p a b : List Int), dsO p (a ++ b) = dsO p a ++ dsO (p ++ a) b
  | p, [], b => by
    rw [List.append_nil]
    rfl
  | p, y :: a, b => by
    show farO p y :: dsO (p ++ [y]) (a ++ b) = farO p y :: (dsO (p ++ [y]) a ++ dsO (p ++ y :: a) b)
    rw [dsO_app (p ++ [y]) a b, List.append_assoc]
    rfl
def cO (d : Int) (l : List (Option Int)) : Int := ((l.filter fun o => decide (o = some d)).length : Int)
theorem cO_app (d : Int) (a b : List (Option Int)) : cO d (a ++ b) = cO d a + cO d b := by
  unfold cO
  rw [List.filter_append, List.length_append, Int.natCast_add]
theorem cO_one (d : Int) (o : Option Int) : cO d [o] = if o = some d then 1 else 0 := by
  unfold cO
  by_cases c : o = some d
  · simp [c]
  · simp [c]
def DH (xs : List Int) (d : Int) : Int := cO d (dsO [] xs)
theorem ixo_mid : ∀ {a b : List Int} {y : Int}, y ∉ a → ixo (a ++ y :: b) y = some a.length
  | [], b, y, _ => by
    show (if y = y then some 0 else _) = _
    rw [if_pos rfl]
    rfl
  | x :: a, b, y, h => by
    have hx : ¬ x = y := fun e => h (e ▸ List.mem_cons_self)
    show (if x = y then some 0 else (ixo (a ++ y :: b) y).map (· + 1)) = _
    rw [if_neg hx, ixo_mid fun m => h (List.mem_cons_of_mem _ m)]
    rfl
theorem sameLen {a b : List Int} (na : a.Nodup) (nb : b.Nodup) (h : ∀ z, z ∈ a ↔ z ∈ b) : a.length = b.length :=
  ((List.perm_ext_iff_of_nodup na nb).mpr h).length_eq
theorem lst_len (xs : List Int) : (lstF xs).length = (lstR xs).length := sameLen (lstF_nodup xs) (lstR_nodup xs) fun z => mem_lstF.trans mem_lstR.symm
theorem farO_in {xs ys : List Int} {y : Int} (h : y ∈ ys) : farO (xs ++ ys) y = farO ys y := by
  obtain ⟨a, b, e⟩ := List.append_of_mem (mem_lstF.mpr h)
  have na : y ∉ a := by
    have := lstF_nodup ys
    rw [e] at this
    exact fun m => (List.nodup_append.mp this).2.2 y m y List.mem_cons_self rfl
  unfold farO
  rw [lstF_app, e, List.append_assoc]
  rw [show a ++ ((y :: b) ++ (lstF xs).filter fun z => !decide (z ∈ ys)) = a ++ y :: (b ++ (lstF xs).filter fun z => !decide (z ∈ ys)) from rfl, ixo_mid na, ixo_mid na]
theorem farO_out {p : List Int} {y : Int} (h : y ∉ p) : farO p y = none := by
  unfold farO
  rw [ixo_none fun m => h (mem_lstF.mp m)]
  rfl
theorem lstR_snoc (ys : List Int) (y : Int) : lstR (ys ++ [y]) = lstR ys ++ if y ∈ ys then [] else [y] := by
  rw [lstR_app]
  congr 1
  show [y].filter _ = _
  by_cases c : y ∈ ys <;> simp [c]
theorem ixI_snoc {F : List Int} {y z : Int} (h : z ∈ F) : ixI (F ++ [y]) z = ixI F z := by
  obtain ⟨a, b, rfl⟩ := List.append_of_mem h
  by_cases c : z ∈ a
  · obtain ⟨j, h1, h2, h3⟩ := ixo_some c
    have go : ∀ b : List Int, ixo (a ++ b) z = some j := by
      intro b
      have m : z ∈ a ++ b := List.mem_append_left _ c
      obtain ⟨k, k1, k2, k3⟩ := ixo_some m
      rw [k1]
      have lj := (List.getElem?_eq_some_iff.mp h2).1
      by_cases ck : k < a.length
      · rw [List.getElem?_append_left ck] at k2
        by_cases g : k < j
        · exact (h3 k g k2).elim
        · by_cases g2 : j < k
          · exact (k3 j g2 (by rw [List.getElem?_append_left lj]; exact h2)).elim
          · congr 1
            omega
      · exact (k3 j (by omega) (by rw [List.getElem?_append_left lj]; exact h2)).elim
    unfold ixI
    rw [List.append_assoc, go, go]
  · unfold ixI
    rw [List.append_assoc]
    rw [show a ++ ((z :: b) ++ [y]) = a ++ z :: (b ++ [y]) from rfl, ixo_mid c, ixo_mid c]
theorem ixI_mid {a b : List Int} {y : Int} (h : y ∉ a) : ixI (a ++ y :: b) y = (a.length : Int) := by
  unfold ixI
  rw [ixo_mid h]
theorem before_mid {a b : List Int} {y w : Int} (nd : (a ++ y :: b).Nodup) (hw : w ∈ a ++ y :: b) : ixI (a ++ y :: b) w < (a.length : Int) ↔ w ∈ a := by
  obtain ⟨j, h1, h2, h3⟩ := ixo_some hw
  have e := ixI_at nd h2
  rw [e]
  have lj := (List.getElem?_eq_some_iff.mp h2).1
  constructor
  · intro h
    rw [List.getElem?_append_left (by omega)] at h2
    exact List.mem_of_getElem? h2
  · intro m
    obtain ⟨k, hk⟩ := List.mem_iff_getElem?.mp m
    have lk := (List.getElem?_eq_some_iff.mp hk).1
    have hk' : (a ++ y :: b)[k]? = some w := by rw [List.getElem?_append_left lk]; exact hk
    have := nodup_ix nd h2 hk'
    omega
/-- one more number at the end of the second list -/
theorem stH_snoc {L F : List Int} (nL : L.Nodup) (nF : (F ++ [y]).Nodup) (d : Int) : stH L (F ++ [y]) d = stH L F d + if y ∈ L ∧ 1 + ixI L y + (F.length : Int) - ((F.filter fun w => decide (w ∈ L ∧ ixI L w < ixI L y)).length : Int) = d then 1 else 0 := by
  have yF : y ∉ F := fun m => (List.nodup_append.mp nF).2.2 y m y List.mem_cons_self rfl
  have nF' : F.Nodup := (List.nodup_append.mp nF).1
  have iy : ixI (F ++ [y]) y = (F.length : Int) := ixI_mid yF
  have lt : ∀ w ∈ F, ixI (F ++ [y]) w < (F.length : Int) := fun w hw => by
    rw [ixI_snoc hw]
    exact ixI_lt hw
  have eZ : (F ++ [y]).filter (fun z => decide (z ∈ L)) = F.filter (fun z => decide (z ∈ L)) ++ if y ∈ L then [y] else [] := by
    rw [List.filter_append]
    congr 1
    by_cases c : y ∈ L <;> simp [c]
  have old : ∀ z ∈ F.filter (fun z => decide (z ∈ L)), dI (ixI L) (ixI (F ++ [y])) ((F ++ [y]).filter fun z => decide (z ∈ L)) z = dI (ixI L) (ixI F) (F.filter fun z => decide (z ∈ L)) z := fun z hz => by
    have zF := (List.mem_filter.mp hz).1
    unfold dI cI
    rw [ixI_snoc zF, eZ, List.filter_append]
    have e2 : (if y ∈ L then [y] else []).filter (fun w => decide (ixI L w < ixI L z ∧ ixI (F ++ [y]) w < ixI F z)) = [] := by
      refine List.filter_eq_nil_iff.mpr fun w hw => ?_
      have : w = y := by
        split at hw
        · exact List.mem_singleton.mp hw
        · cases hw
      subst this
      rw [decide_eq_true_eq, iy]
      have := ixI_lt zF
      omega
    rw [e2, List.append_nil]
    congr 3
    refine List.filter_congr fun w hw => ?_
    rw [ixI_snoc (List.mem_filter.mp hw).1]
  unfold stH hI
  have e1 : (((F ++ [y]).filter fun z => decide (z ∈ L)).filter fun z => decide (dI (ixI L) (ixI (F ++ [y])) ((F ++ [y]).filter fun z => decide (z ∈ L)) z = d))
      = ((F.filter fun z => decide (z ∈ L)).filter fun z => decide (dI (ixI L) (ixI F) (F.filter fun z => decide (z ∈ L)) z = d)) ++ ((if y ∈ L then [y] else []).filter fun z => decide (dI (ixI L) (ixI (F ++ [y])) ((F ++ [y]).filter fun z => decide (z ∈ L)) z = d)) := by
    conv => lhs; arg 2; rw [eZ]
    rw [List.filter_append]
    congr 1
    exact List.filter_congr fun z hz => by rw [old z hz]
  rw [e1, List.length_append, Int.natCast_add]
  congr 1
  by_cases c : y ∈ L
  · rw [if_pos c]
    have ed : dI (ixI L) (ixI (F ++ [y])) ((F ++ [y]).filter fun z => decide (z ∈ L)) y = 1 + ixI L y + (F.length : Int) - ((F.filter fun w => decide (w ∈ L ∧ ixI L w < ixI L y)).length : Int) := by
      unfold dI cI
      rw [iy, eZ, if_pos c, List.filter_append]
      have e2 : [y].filter (fun w => decide (ixI L w < ixI L y ∧ ixI (F ++ [y]) w < (F.length : Int))) = [] := by
        refine List.filter_eq_nil_iff.mpr fun w hw => ?_
        rw [List.mem_singleton.mp hw, decide_eq_true_eq]
        omega
      rw [e2, List.append_nil, List.filter_filter]
      congr 3
      refine List.filter_congr fun w hw => ?_
      have := lt w hw
      by_cases c1 : w ∈ L <;> by_cases c2 : ixI L w < ixI L y <;> simp [c1, c2, this]
    by_cases g : 1 + ixI L y + (F.length : Int) - ((F.filter fun w => decide (w ∈ L ∧ ixI L w < ixI L y)).length : Int) = d
    · rw [if_pos ⟨c, g⟩]
      show (([y].filter _).length : Int) = 1
      rw [List.filter_cons, if_pos (decide_eq_true (ed.trans g))]
      rfl
    · rw [if_neg fun h => g h.2]
      show (([y].filter _).length : Int) = 0
      rw [List.filter_cons, if_neg (by rw [decide_eq_true_eq]; exact fun h => g (ed.symm.trans h))]
      rfl
  · rw [if_neg c, if_neg fun h => c h.1]
    rfl
theorem farO_new {xs ys : List Int} {y : Int} (hx : y ∈ xs) (hy : y ∉ ys) : farO (xs ++ ys) y = some (1 + ixI (lstF xs) y + ((lstR ys).length : Int) - (((lstR ys).filter fun w => decide (w ∈ lstF xs ∧ ixI (lstF xs) w < ixI (lstF xs) y)).length : Int)) := by
  obtain ⟨a, b, e⟩ := List.append_of_mem (mem_lstF.mpr hx)
  have nd := lstF_nodup xs
  rw [e] at nd
  have na : y ∉ a := fun m => (List.nodup_append.mp nd).2.2 y m y List.mem_cons_self rfl
  have nd1 : a.Nodup := (List.nodup_append.mp nd).1
  unfold farO
  rw [lstF_app, e, ixI_mid na]
  have ef : (a ++ y :: b).filter (fun z => !decide (z ∈ ys)) = (a.filter fun z => !decide (z ∈ ys)) ++ y :: (b.filter fun z => !decide (z ∈ ys)) := by
    rw [List.filter_append, List.filter_cons, if_pos (by simp [hy])]
  rw [ef, ← List.append_assoc, ixo_mid]
  · show some ((((lstF ys) ++ a.filter fun z => !decide (z ∈ ys)).length : Int) + 1) = _
    congr 1
    rw [List.length_append, lst_len]
    have tp := two_parts (fun z => decide (z ∈ ys)) a
    have el : (a.filter fun z => decide (z ∈ ys)).length = ((lstR ys).filter fun w => decide (w ∈ a ++ y :: b ∧ ixI (a ++ y :: b) w < (a.length : Int))).length := by
      refine sameLen (nd1.filter _) ((lstR_nodup ys).filter _) fun z => ?_
      rw [List.mem_filter, List.mem_filter, decide_eq_true_eq, decide_eq_true_eq, mem_lstR]
      constructor
      · rintro ⟨h1, h2⟩
        have m : z ∈ a ++ y :: b := List.mem_append_left _ h1
        exact ⟨h2, m, (before_mid nd m).mpr h1⟩
      · rintro ⟨h1, m, h2⟩
        exact ⟨(before_mid nd m).mp h2, h1⟩
    omega
  · intro m
    rcases List.mem_append.mp m with m | m
    · exact hy (mem_lstF.mp m)
    · exact na (List.mem_filter.mp m).1
theorem cO_behind (d : Int) (xs : List Int) : ∀ (n : Nat) (ys : List Int), ys.length = n → cO d (dsO xs ys) = cO d (dsO [] ys) + stH (lstF xs) (lstR ys) d
  | 0, ys, h => by
    have : ys = [] := List.length_eq_zero_iff.mp h
    subst this
    show (0 : Int) = 0 + stH (lstF xs) [] d
    rfl
  | n + 1, ys, h => by
    rcases eq_nil_or_snoc ys with rfl | ⟨ys, y, rfl⟩
    · cases h
    rw [List.length_append, List.length_singleton] at h
    have ih := cO_behind d xs n ys (by omega)
    rw [dsO_app, dsO_app, cO_app, cO_app, ih, lstR_snoc]
    show _ + cO d [farO (xs ++ ys) y] = _ + cO d [farO ([] ++ ys) y] + _
    rw [List.nil_append, cO_one, cO_one]
    by_cases c : y ∈ ys
    · rw [farO_in c, if_pos c, List.append_nil]
      omega
    · rw [if_neg c, farO_out c, if_neg (show ¬ (none : Option Int) = some d from by intro z; cases z)]
      have nF : (lstR ys ++ [y]).Nodup := by
        have := lstR_nodup (ys ++ [y])
        rwa [lstR_snoc, if_neg c] at this
      rw [stH_snoc (lstF_nodup xs) nF]
      by_cases cx : y ∈ xs
      · rw [farO_new cx c]
        by_cases g : 1 + ixI (lstF xs) y + ((lstR ys).length : Int) - (((lstR ys).filter fun w => decide (w ∈ lstF xs ∧ ixI (lstF xs) w < ixI (lstF xs) y)).length : Int) = d
        · rw [if_pos (congrArg some g), if_pos ⟨mem_lstF.mpr cx, g⟩]
          omega
        · rw [if_neg fun e => g (Option.some.inj e), if_neg fun e => g e.2]
          omega
      · have nm : y ∉ xs ++ ys := fun m => (List.mem_append.mp m).elim cx c
        rw [farO_out nm, if_neg (show ¬ (none : Option Int) = some d from by intro z; cases z), if_neg fun e => cx (mem_lstF.mp e.1)]
        omega
theorem DH_app (xs ys : List Int) (d : Int) : DH (xs ++ ys) d = DH xs d + DH ys d + stH (lstF xs) (lstR ys) d := by
  unfold DH
  rw [dsO_app, cO_app, List.nil_append, cO_behind d xs _ ys rfl]
  omega
theorem lstR_rep (b : List Int) : ∀ n : Nat, lstR (List.replicate (n + 1) b).flatten = lstR b
  | 0 => by
    show lstR (b ++ []) = _
    rw [List.append_nil]
  | n + 1 => by
    rw [List.replicate_succ, List.flatten_cons, lstR_app]
    have : (lstR (List.replicate (n + 1) b).flatten).filter (fun z => !decide (z ∈ b)) = [] := by
      refine List.filter_eq_nil_iff.mpr fun z hz => ?_
      rw [lstR_rep b n] at hz
      have := mem_lstR.mp hz
      simp [this]
    rw [this, List.append_nil]
theorem DH_rep (b : List Int) (d : Int) : ∀ n : Nat, DH (List.replicate (n + 1) b).flatten d = ((n : Int) + 1) * DH b d + (n : Int) * stH (lstF b) (lstR b) d
  | 0 => by
    show DH (b ++ []) d = _
    rw [List.append_nil]
    simp
  | n + 1 => by
    rw [List.replicate_succ', List.flatten_append]
    show DH (_ ++ (b ++ [])) d = _
    rw [List.append_nil, DH_app, DH_rep b d n, lstF_rep]
    rw [show ((n + 1 : Nat) : Int) = (n : Int) + 1 by omega, Int.add_mul, Int.add_mul, Int.add_mul, Int.add_mul, Int.one_mul, Int.one_mul]
    omega
theorem DH_nodup : ∀ (n : Nat) {xs : List Int}, xs.length = n → xs.Nodup → ∀ d, DH xs d = 0
  | 0, xs, h, _, d => by
    have : xs = [] := List.length_eq_zero_iff.mp h
    subst this
    rfl
  | n + 1, xs, h, nd, d => by
    rcases eq_nil_or_snoc xs with rfl | ⟨ys, y, rfl⟩
    · cases h
    rw [List.length_append, List.length_singleton] at h
    obtain ⟨n1, _, n3⟩ := List.nodup_append.mp nd
    have yn : y ∉ ys := fun m => n3 y m y List.mem_cons_self rfl
    have ih := DH_nodup n (show ys.length = n by omega) n1 d
    unfold DH at ih ⊢
    rw [dsO_app, cO_app, ih]
    show 0 + cO d [farO ([] ++ ys) y] = 0
    rw [List.nil_append, farO_out yn]
    rfl
/-! ### scans between cuts -/
def Al (A : List Int) (ss : List Sc) : Prop := ∀ s ∈ ss, lo s ∈ A ∧ hi s + 1 ∈ A
theorem Al.mono {A B : List Int} (h : ∀ z ∈ A, z ∈ B) {ss : List Sc} (a : Al A ss) : Al B ss := fun s hs => ⟨h _ (a s hs).1, h _ (a s hs).2⟩
theorem Al.count {A : List Int} {ss : List Sc} (ap : ss.Pairwise Apart) (a : Al A ss) : ss.length ≤ A.length := by
  have nd : (ss.map lo).Nodup := List.nodup_iff_pairwise_ne.mpr (List.pairwise_map.mpr (ap.imp fun {s t} h e => by
    have := lo_hi s
    have := lo_hi t
    unfold Apart at h
    omega))
  have := nd.length_le_of_subset (l₂ := A) fun z hz => by
    obtain ⟨s, hs, rfl⟩ := List.mem_map.mp hz
    exact (a s hs).1
  rwa [List.length_map] at this
end Kb
namespace Kb
open PySem PySem.Spec PyProof.Rows L2 TL
theorem firsts_app (X Y : List Int) : ahead (tdy (lstR X)) (tdy (lstR Y)) = tdy (lstR (X ++ Y)) := by
  rw [ahead_tdy (lstR_nodup _) (lstR_nodup _), lstR_app]
  congr 2
  refine List.filter_congr fun z _ => ?_
  congr 1
  exact decide_eq_decide.mpr mem_lstR
theorem lasts_app (X Y : List Int) : ahead (tdy (lstF Y)) (tdy (lstF X)) = tdy (lstF (X ++ Y)) := by
  rw [ahead_tdy (lstF_nodup _) (lstF_nodup _), lstF_app]
  congr 2
  refine List.filter_congr fun z _ => ?_
  congr 1
  exact decide_eq_decide.mpr mem_lstF
theorem psum_tdy {xs : List Int} (h : xs.Nodup) : psum (tdy xs) = (xs.length : Int) := by
  rw [← rdL_len, rdL_tdy h]
theorem DH_bd (xs : List Int) (d : Int) : 0 ≤ DH xs d ∧ DH xs d ≤ xs.length := by
  unfold DH cO
  have l : ∀ (p ys : List Int), (dsO p ys).length = ys.length := by
    intro p ys
    induction ys generalizing p with
    | nil => rfl
    | cons y ys ih =>
      show (dsO (p ++ [y]) ys).length + 1 = ys.length + 1
      rw [ih]
  have := List.length_filter_le (fun o => decide (o = some d)) (dsO [] xs)
  rw [l] at this
  omega
theorem at_mem {ps : List Pc} (ok : ∀ p ∈ ps, Pok p) {p : Pc} (hp : p ∈ ps) : p.2.2 ≤ atP ps p.1 := by
  obtain ⟨a, b, rfl⟩ := List.append_of_mem hp
  have pa := (atP_le (ps := a) (fun q hq => ok q (List.mem_append_left _ hq)) p.1).1
  have pb := (atP_le (ps := b) (fun q hq => ok q (List.mem_append_right _ (List.mem_cons_of_mem _ hq))) p.1).1
  have k := ok p hp
  rw [atP_app, atP_cons]
  have : at1 p p.1 = p.2.2 := if_pos ⟨Int.le_refl _, k.2.1⟩
  omega
/-! ### three: first reads, last reads, pieces of distances -/
structure Tp (Z : Int) (X : List Int) (ps : List Pc) : Prop where
  ok : ∀ p ∈ ps, Pok p ∧ p.2.1 ≤ 2 * Z
  at_ : ∀ d, atP ps d = DH X d
theorem Tp.pok {Z : Int} {X : List Int} {ps : List Pc} (h : Tp Z X ps) : ∀ p ∈ ps, Pok p := fun p hp => (h.ok p hp).1
theorem Tp.tm {Z : Int} {X : List Int} {ps : List Pc} (h : Tp Z X ps) {p : Pc} (hp : p ∈ ps) : p.2.2 ≤ X.length := by
  have a := at_mem h.pok hp
  rw [h.at_] at a
  have := (DH_bd X p.1).2
  omega
def IsTr (H : Hp) (v : V) (X : List Int) (ps : List Pc) : Prop := ∃ t f l c, v = .ref t ∧ H t = some (.tup [.ref f, .ref l, .ref c]) ∧ Scs H f (tdy (lstR X)) ∧ Scs H l (tdy (lstF X)) ∧ Pcs H c ps
theorem IsTr.mono {H H' : Hp} (e : Ex H H') {v : V} {X : List Int} {ps : List Pc} (h : IsTr H v X ps) : IsTr H' v X ps := by
  obtain ⟨t, f, l, c, e1, h1, h2, h3, h4⟩ := h
  exact ⟨t, f, l, c, e1, e _ _ h1, h2.mono e, h3.mono e, h4.mono e⟩
/-- how many scans the tidy lists have, and how many addresses there are -/
structure Fs (M : Nat) (Z : Int) (X : List Int) : Prop where
  f : (tdy (lstR X)).length ≤ M
  l : (tdy (lstF X)).length ≤ M
  z : ((lstR X).length : Int) ≤ Z
theorem Fs.of {M : Nat} {l : List Int} (h : l.length ≤ M) {X : List Int} (i : ∀ z ∈ X, z ∈ l) : Fs M (M : Int) X := by
  have a := lstF_len i
  have e := lst_len X
  have b := tdy_len (lstR X)
  have c := tdy_len (lstF X)
  exact ⟨by omega, by omega, by omega⟩
theorem straight_tp {X Y : List Int} {A B : List Rw} {M N : Nat} {Z : Int} (fx : Fs M Z X) (fy : Fs N Z Y) (hA : Srt (tdy (lstF X)) A) (hB : Srt (tdy (lstR Y)) B) : (∀ p ∈ (shr A B).map (pcB (shr A B)), Pok p ∧ p.2.1 ≤ 2 * Z) ∧ (∀ d, atP ((shr A B).map (pcB (shr A B))) d = stH (lstF X) (lstR Y) d) ∧ ((shr A B).map (pcB (shr A B))).length ≤ M + N := by
  refine ⟨fun p hp => ?_, fun d => ?_, ?_⟩
  · have h := pcs_pok hA hB p hp
    rw [psum_tdy (lstF_nodup _), psum_tdy (lstR_nodup _), lst_len] at h
    have := fx.z
    have := fy.z
    exact ⟨h.1, by omega⟩
  · rw [straight_hist hA hB, rdL_tdy (lstF_nodup _), rdL_tdy (lstR_nodup _)]
  · rw [List.length_map]
    have := shr_few hA hB
    have := fx.l
    have := fy.f
    omega
theorem mulP_at (ps : List Pc) (n : Int) (d : Int) : atP (mulP ps n) d = n * atP ps d := by
  rw [atP_mul, Int.mul_comm]
theorem mulP_ok {ps : List Pc} {n Z : Int} (n1 : 1 ≤ n) (h : ∀ p ∈ ps, Pok p ∧ p.2.1 ≤ Z) : ∀ p ∈ mulP ps n, Pok p ∧ p.2.1 ≤ Z := fun p hp => by
  obtain ⟨q, hq, rfl⟩ := List.mem_map.mp hp
  obtain ⟨⟨a, b, c⟩, d⟩ := h q hq
  have := Int.mul_le_mul c n1 (by decide) (by omega)
  exact ⟨⟨a, b, by show 1 ≤ q.2.2 * n; omega⟩, d⟩
theorem Tp.app {Z : Int} {X Y : List Int} {ps qs ss : List Pc} (a : Tp Z X ps) (b : Tp Z Y qs) (s1 : ∀ p ∈ ss, Pok p ∧ p.2.1 ≤ 2 * Z) (s2 : ∀ d, atP ss d = stH (lstF X) (lstR Y) d) : Tp Z (X ++ Y) (ps ++ qs ++ ss) := by
  refine ⟨fun p hp => ?_, fun d => ?_⟩
  · rcases List.mem_append.mp hp with hp | hp
    · rcases List.mem_append.mp hp with hp | hp
      · exact a.ok p hp
      · exact b.ok p hp
    · exact s1 p hp
  · rw [atP_app, atP_app, a.at_, b.at_, s2, DH_app]
theorem Tp.nil (Z : Int) : Tp Z [] [] := ⟨fun p hp => (by cases hp), fun d => rfl⟩
theorem Tp.one (Z : Int) {X : List Int} (nd : X.Nodup) : Tp Z X [] := ⟨fun p hp => (by cases hp), fun d => (DH_nodup _ rfl nd d).symm⟩
/-- programs all of whose beginnings are so -/
inductive Fw (p : List Int → Prop) : Pg → Prop where
  | mk {g : Pg} (h1 : ∀ a b, g = Pg.app a b → p a.rd) (h2 : ∀ a n x r, g = Pg.app a (.rp n x r) → Fw p x) (h3 : ∀ a s r, g = Pg.app a (.sc s r) → p (rd s)) : Fw p g
/-- all parts, those of repeats too, and one more for each repeat -/
def Pg.nds : Pg → Nat
  | .nil => 0
  | .sc _ r => r.nds + 1
  | .rp _ b r => b.nds + r.nds + 2
theorem nds_app : ∀ a b : Pg, (a.app b).nds = a.nds + b.nds
  | .nil, b => (Nat.zero_add _).symm
  | .sc s r, b => by
    show (r.app b).nds + 1 = r.nds + 1 + b.nds
    rw [nds_app r b]
    omega
  | .rp n x r, b => by
    show x.nds + (r.app b).nds + 2 = x.nds + r.nds + 2 + b.nds
    rw [nds_app r b]
    omega
/-! ### promises -/
def spMulT : Sp := fun vs H Q _ => ∃ (a : Addr) (ps : List Pc) (n : Int), vs = [.ref a, .int n] ∧ Pcs H a ps ∧ ps.length ≤ 2 ^ 18 ∧ (∀ p ∈ ps, 1 ≤ p.2.2 ∧ p.2.2 ≤ 10 ^ 300) ∧ 0 ≤ n ∧ n ≤ 10 ^ 100 ∧ ∀ p H', H p = none → Ex H H' → Pcs H' p (mulP ps n) → Q (.ref p) H'
def spBehind : Sp := fun vs H Q _ => ∃ (v u : V) (X Y : List Int) (ps qs : List Pc) (M N : Nat) (Z : Int), vs = [v, u] ∧ IsTr H v X ps ∧ IsTr H u Y qs ∧ Tp Z X ps ∧ Tp Z Y qs ∧ Fs M Z X ∧ Fs N Z Y ∧ M ≤ 1000 ∧ N ≤ 1000 ∧ ps.length + qs.length ≤ 2 ^ 18 ∧
  ∀ w H' rs, Ex H H' → IsTr H' w (X ++ Y) rs → Tp Z (X ++ Y) rs → rs.length ≤ ps.length + qs.length + (M + N) → Q w H'
def spTimes3 : Sp := fun vs H Q _ => ∃ (v : V) (X : List Int) (ps : List Pc) (n : Int) (M : Nat) (Z : Int), vs = [v, .int n] ∧ IsTr H v X ps ∧ Tp Z X ps ∧ Fs M Z X ∧ M ≤ 1000 ∧ ps.length ≤ 2 ^ 17 ∧ (X.length : Int) ≤ 10 ^ 300 ∧ 2 ≤ n ∧ n ≤ 10 ^ 100 ∧
  ∀ w H' rs, Ex H H' → IsTr H' w (List.replicate n.toNat X).flatten rs → Tp Z (List.replicate n.toNat X).flatten rs → rs.length ≤ ps.length + 2 * M → Q w H'
def spThree (d : Nat) : Sp := fun vs H Q _ => ∃ (v : V) (g : Pg) (Bd : Int) (M : Nat) (Z : Int), vs = [v] ∧ IsPg H v g ∧ g.dep < d ∧ g.Ok Bd ∧ Bd ≤ 10 ^ 100 ∧ Fw (Fs M Z) g ∧ g.cnt ≤ 10 ^ 300 ∧ M ≤ 1000 ∧ 2 * M * g.nds ≤ 2 ^ 17 ∧
  ∀ w H' rs, Ex H H' → IsTr H' w g.rd rs → Tp Z g.rd rs → rs.length ≤ 2 * M * g.nds → Q w H'
theorem Tp.rep {Z : Int} {X : List Int} {ps ss : List Pc} {n : Int} (h : Tp Z X ps) (n2 : 2 ≤ n) (s1 : ∀ p ∈ ss, Pok p ∧ p.2.1 ≤ 2 * Z) (s2 : ∀ d, atP ss d = stH (lstF X) (lstR X) d) : Tp Z (List.replicate n.toNat X).flatten (mulP ps n ++ mulP ss (n - 1)) := by
  obtain ⟨k, ek⟩ : ∃ k : Nat, n.toNat = k + 1 := ⟨n.toNat - 1, by omega⟩
  refine ⟨fun p hp => ?_, fun d => ?_⟩
  · rcases List.mem_append.mp hp with hp | hp
    · exact mulP_ok (by omega) h.ok p hp
    · exact mulP_ok (by omega) s1 p hp
  · rw [atP_app, mulP_at, mulP_at, h.at_, s2, ek, DH_rep]
    rw [show (k : Int) + 1 = n by omega, show (k : Int) = n - 1 by omega]
end Kb
namespace Kb
open PySem PySem.Spec PyProof.Rows L2 StX TL
/-! ### directions -/
/-- the directions one after the other, the last one changing first -/
def two (r : List Bool) : List (List Bool) := [r ++ [false], r ++ [true]]
def chs : Nat → List (List Bool)
  | 0 => [[]]
  | n + 1 => (chs n).flatMap two
theorem chs_mem : ∀ {n : Nat} {r : List Bool}, r ∈ chs n → r.length = n
  | 0, r, h => by
    rw [List.mem_singleton.mp h]
    rfl
  | n + 1, r, h => by
    obtain ⟨q, hq, hr⟩ := List.mem_flatMap.mp h
    have e := chs_mem hq
    rcases List.mem_cons.mp hr with rfl | hr
    · rw [List.length_append, e]
      rfl
    · rw [List.mem_singleton.mp hr, List.length_append, e]
      rfl
def trn (s : Sc) (b : Bool) : Sc := if b = true then swp s else s
def trL (ss : List Sc) (r : List Bool) : List Sc := List.zipWith trn ss r
/-! ### the distances of a further round -/
def gaps (xs : List Int) : List Int := (dsO xs xs).filterMap id
theorem gaps_count (d : Int) : ∀ l : List (Option Int), ((l.filterMap id).count d : Int) = cO d l
  | [] => rfl
  | none :: l => by
    have ih := gaps_count d l
    unfold cO at ih ⊢
    rw [List.filterMap_cons_none rfl, ih, List.filter_cons, if_neg (by simp)]
  | some z :: l => by
    have ih := gaps_count d l
    unfold cO at ih ⊢
    rw [List.filterMap_cons_some (f := id) (b := z) rfl, List.count_cons]
    by_cases c : z = d
    · subst c
      simp only [List.filter_cons, beq_self_eq_true, if_true, decide_true, List.length_cons]
      omega
    · have c2 : ¬ (some z : Option Int) = some d := fun e => c (Option.some.inj e)
      simp only [List.filter_cons, beq_iff_eq, c, c2, if_false, decide_false, Bool.false_eq_true, Nat.add_zero]
      exact ih
def missG (xs : List Int) (s : Int) : Int := (((gaps xs).filter fun z => decide (z > s)).length : Int)
/-- the first direction with the fewest misses -/
def missR (ss : List Sc) (s : Int) (r : List Bool) : Int := missG (rdL (trL ss r)) s
def IsBest (ss : List Sc) (s : Int) (r : List Bool) : Prop := ∃ j : Nat, (chs ss.length)[j]? = some r ∧ ∀ (k : Nat) (q : List Bool), (chs ss.length)[k]? = some q → missR ss s r ≤ missR ss s q ∧ (k < j → missR ss s r < missR ss s q)
theorem IsBest.mem {ss : List Sc} {s : Int} {r : List Bool} (a : IsBest ss s r) : r.length = ss.length := by
  obtain ⟨j, h1, _⟩ := a
  exact chs_mem (List.mem_of_getElem? h1)
def IsBs (H : Hp) (v : V) (r : List Bool) : Prop := ∃ t, v = .ref t ∧ H t = some (.tup (r.map V.bl))
theorem IsBs.mono {H H' : Hp} (e : Ex H H') {v : V} {r : List Bool} (h : IsBs H v r) : IsBs H' v r := by
  obtain ⟨t, h1, h2⟩ := h
  exact ⟨t, h1, e _ _ h2⟩
theorem IsBs.lset {H : Hp} {D : Addr} {us us' : List V} (hD : H D = some (.lst us)) {v : V} {r : List Bool} (h : IsBs H v r) : IsBs (upd H D (.lst us')) v r := by
  obtain ⟨t, e, ht⟩ := h
  exact ⟨t, e, by rw [upd_ne (ne_of ht hD (by intro z; cases z))]; exact ht⟩
/-- bodies whose directions are asked -/
structure Bodies (ss : List Sc) (l : List Int) : Prop where
  one : 1 ≤ ss.length
  six : ss.length ≤ 6
  ok : ∀ s ∈ ss, SOk (2 ^ 20) s
  inl : ∀ s ∈ ss, ∀ z ∈ rd s, z ∈ l
  few : l.length ≤ 100
end Kb
namespace Kb
open PySem PySem.Spec PyProof.Rows L2
/-! ### sorted of lists of bools -/
def IsBL (H : Hp) (v : V) (r : List Bool) : Prop := ∃ t, v = .ref t ∧ H t = some (.lst (r.map V.bl))
end Kb
namespace Kb
open PySem PySem.Spec PyProof.Rows L2
theorem IsBL.mono {H H' : Hp} (e : Ex H H') {v : V} {r : List Bool} (h : IsBL H v r) : IsBL H' v r := by
  obtain ⟨t, h1, h2⟩ := h
  exact ⟨t, h1, e _ _ h2⟩
end Kb
namespace Kb
open PySem PySem.Spec PyProof.Rows L2 TL
/-! ### where the programs of the sets begin anew -/
def brk (m : Int) (s : Sc) : List Int := [lo s % m, (hi s + 1) % m]
/-! ### runs of equal programs, the last one first -/
abbrev Cl := Int × Int × Pg
def addC (a b : Int) (p : Pg) : List Cl → List Cl
  | [] => [(a, b, p)]
  | (x, y, q) :: r => if q = p then (x, b, p) :: r else (a, b, p) :: (x, y, q) :: r
def GoodR (f : Int → Pg) : Int → List Cl → Prop
  | k, [] => k = 0
  | k, (a, b, p) :: r => b + 1 = k ∧ 0 ≤ a ∧ a ≤ b ∧ (∀ n, a ≤ n → n ≤ b → f n = p) ∧ (∀ c ∈ r.head?, c.2.2 ≠ p) ∧ GoodR f a r
theorem GoodR.nn {f : Int → Pg} {k : Int} {R : List Cl} (h : GoodR f k R) : 0 ≤ k := by
  cases R with
  | nil => exact Int.le_of_eq (show k = 0 from h).symm
  | cons x r =>
    obtain ⟨a, b, p⟩ := x
    obtain ⟨h1, h2, h3, _⟩ := h
    omega
theorem GoodR.step {f : Int → Pg} {k : Int} {R : List Cl} (h : GoodR f k R) : GoodR f (k + 1) (addC k k (f k) R) := by
  have k0 := h.nn
  cases R with
  | nil => exact ⟨rfl, k0, Int.le_refl _, fun n n1 n2 => by rw [show n = k by omega], fun c hc => (by cases hc), h⟩
  | cons x r =>
    obtain ⟨a, b, p⟩ := x
    obtain ⟨h1, h2, h3, h4, h5, h6⟩ := id h
    show GoodR f (k + 1) (if p = f k then _ else _)
    split
    · rename_i e
      refine ⟨rfl, h2, by omega, fun n n1 n2 => ?_, e ▸ h5, h6⟩
      by_cases c : n = k
      · rw [c]
      · rw [h4 n n1 (by omega)]
        exact e
    · rename_i e
      refine ⟨rfl, k0, Int.le_refl _, fun n n1 n2 => by rw [show n = k by omega], fun c hc => ?_, h⟩
      cases hc
      exact e
theorem GoodR.tail {f : Int → Pg} {r : Cl} {B : List Cl} : ∀ {A : List Cl} {k : Int}, GoodR f k (A ++ r :: B) → GoodR f (r.2.1 + 1) (r :: B)
  | [], k, h => by
    obtain ⟨a, b, p⟩ := r
    exact ⟨rfl, h.2⟩
  | (a, b, p) :: A, k, h => GoodR.tail (A := A) h.2.2.2.2.2
/-! ### a text has one program -/
/-! ### classes in the heap -/
def IsCl (C : Addr) (H : Hp) (v : V) (r : Cl) : Prop := ∃ t y, v = .ref t ∧ H t = some (.tup [.int r.1, .int r.2.1, .ref y]) ∧ PgAt C H y r.2.2
theorem IsCl.mono {C : Addr} {H H' : Hp} (e : Ex H H') {v : V} {r : Cl} (h : IsCl C H v r) : IsCl C H' v r := by
  obtain ⟨t, y, e1, h1, h2⟩ := h
  exact ⟨t, y, e1, e _ _ h1, h2.mono e⟩
theorem PgAt.lset {C : Addr} {H : Hp} {x p : Addr} {g : Pg} {xs : List V} {o : HO} (hp : H p = some (.lst xs)) (h : PgAt C H x g) : PgAt C (upd H p o) x g := by
  obtain ⟨dx, t, hx, hg⟩ := h
  exact ⟨dx, t, by rw [upd_ne (ne_of hx hp (by intro z; cases z))]; exact hx, hg.kp (Kp.lst hp)⟩
theorem IsCl.lset {C : Addr} {H : Hp} {p : Addr} {xs : List V} {o : HO} (hp : H p = some (.lst xs)) {v : V} {r : Cl} (h : IsCl C H v r) : IsCl C (upd H p o) v r := by
  obtain ⟨t, y, e1, h1, h2⟩ := h
  exact ⟨t, y, e1, Kp.lst hp _ _ h1, h2.lset hp⟩
end Kb
namespace Kb
open PySem PySem.Spec PyProof.Rows L2 TL
/-! ### rows with texts -/
def IsTx (H : Hp) (v : V) (r : Cl) : Prop := ∃ t, v = .ref t ∧ H t = some (.tup [.int r.1, .int r.2.1, .str (txt r.2.2)])
theorem IsTx.mono {H H' : Hp} (e : Ex H H') {v : V} {r : Cl} (h : IsTx H v r) : IsTx H' v r := by
  obtain ⟨t, e1, h1⟩ := h
  exact ⟨t, e1, e _ _ h1⟩
theorem IsTx.lset {H : Hp} {p : Addr} {xs : List V} {o : HO} (hp : H p = some (.lst xs)) {v : V} {r : Cl} (h : IsTx H v r) : IsTx (upd H p o) v r := by
  obtain ⟨t, e1, h1⟩ := h
  exact ⟨t, e1, Kp.lst hp _ _ h1⟩
structure Sml (r : Cl) : Prop where
  b1 : Bn r.1
  b2 : Bn r.2.1
  ok : r.2.2.Ok 999
  dep : r.2.2.dep ≤ 3
  few : r.2.2.scs.length ≤ 8
theorem Sml.txt {r : Cl} (h : Sml r) : (txt r.2.2).length ≤ 450 := by
  have a := txt_big h.ok (k := 3) (by decide) (by decide)
  have t := toks_len h.ok
  have m := Nat.mul_le_mul (show 2 * r.2.2.dep + 1 ≤ 7 by have := h.dep; omega) h.few
  have c := join_len r.2.2.wl
  have b := Nat.mul_le_mul_right (2 * 3 + 2) (show r.2.2.toks.length ≤ 56 by omega)
  exact Nat.le_trans c (by omega)
theorem PgAt.fr {C : Addr} {H H' : Hp} {D x : Addr} {g : Pg} {us : List V} (hD : H D = some (.lst us)) (fr : ∀ b o, b ≠ D → H b = some o → H' b = some o) (h : PgAt C H x g) : PgAt C H' x g := by
  obtain ⟨dx, t, hx, hg⟩ := h
  exact ⟨dx, t, fr _ _ (ne_of hx hD (by intro z; cases z)) hx, hg.kp fun a xs ha => fr _ _ (ne_of ha hD (by intro z; cases z)) ha⟩
/-! ### great words -/
end Kb
namespace Kb
open PySem PySem.Spec PyProof.Rows L2
/-! ### the least of falling numbers -/
def FstMin (ms : List Int) (j : Nat) : Prop := ∃ m, ms[j]? = some m ∧ ∀ (k : Nat) (z : Int), ms[k]? = some z → m ≤ z ∧ (k < j → m < z)
abbrev VF := Int × Int
def vat (t : Int) (x : VF) : Int := x.1 - x.2 * t
theorem FstMin.at {fs : List VF} {s : Int} {j i : Nat} {b x : VF} (h : FstMin (fs.map (vat s)) j) (hb : fs[j]? = some b) (hx : fs[i]? = some x) : vat s b ≤ vat s x ∧ (i < j → vat s b < vat s x) := by
  obtain ⟨m, h1, h2⟩ := h
  rw [List.getElem?_map, hb] at h1
  cases h1
  exact h2 i (vat s x) (by rw [List.getElem?_map, hx]; rfl)
/-- the steps found so far, the last one first -/
def LFp (fs : List VF) (many : Int) : List (Int × Nat) → Int → Prop
  | [], s => s = 0
  | (a, j) :: r, s => 0 ≤ a ∧ a < s ∧ a < many ∧ (∀ t, a ≤ t → t < s → FstMin (fs.map (vat t)) j) ∧ LFp fs many r a
theorem LFp.suf {fs : List VF} {many : Int} {c : Int × Nat} {B : List (Int × Nat)} : ∀ {A : List (Int × Nat)} {s : Int}, LFp fs many (A ++ c :: B) s → ∃ b, LFp fs many (c :: B) b ∧ (A = [] → b = s) ∧ ∀ d, A.getLast? = some d → b = d.1
  | [], s, h => ⟨s, h, fun _ => rfl, fun d hd => by cases hd⟩
  | (a, j) :: A, s, h => by
    obtain ⟨_, _, _, _, h5⟩ := h
    obtain ⟨b, g1, g2, g3⟩ := LFp.suf (A := A) h5
    refine ⟨b, g1, fun z => (by cases z), fun d hd => ?_⟩
    cases A with
    | nil =>
      cases hd
      exact g2 rfl
    | cons e A =>
      rw [List.getLast?_cons_cons] at hd
      exact g3 d hd
/-- all steps from 0 on -/
def LFa (fs : List VF) (many : Int) (rows : List (Int × Nat)) : Prop := ∀ i a j, rows[i]? = some (a, j) → ∃ b, 0 ≤ a ∧ a < b ∧ b ≤ many ∧ (∀ t, a ≤ t → t < b → FstMin (fs.map (vat t)) j) ∧ (i = 0 → a = 0) ∧ (i + 1 = rows.length → b = many) ∧ ∀ d, rows[i + 1]? = some d → b = d.1
theorem LFp.all {fs : List VF} {many s : Int} {R : List (Int × Nat)} (h : LFp fs many R s) (sm : many ≤ s) : LFa fs many R.reverse := by
  intro i a j hi
  have li := (List.getElem?_eq_some_iff.mp hi).1
  have sp : R = (R.reverse.drop (i + 1)).reverse ++ (a, j) :: (R.reverse.take i).reverse := by
    have h0 : R.reverse = R.reverse.take i ++ (a, j) :: R.reverse.drop (i + 1) := by
      have h1 := (List.take_append_drop i R.reverse).symm
      rw [List.drop_eq_getElem_cons li, (List.getElem?_eq_some_iff.mp hi).2] at h1
      exact h1
    have h2 := congrArg List.reverse h0
    rw [List.reverse_reverse, List.reverse_append, List.reverse_cons, List.append_assoc] at h2
    exact h2
  rw [sp] at h
  obtain ⟨b, ⟨g1, g2, g3, g4, g5⟩, k1, k2⟩ := h.suf
  have last : ∀ d, R.reverse[i + 1]? = some d → b = d.1 := fun d hd => k2 d (by
    rw [List.getLast?_reverse, List.head?_drop]
    exact hd)
  by_cases c : i + 1 = R.reverse.length
  · have e := k1 (by rw [List.drop_of_length_le (by omega)]; rfl)
    refine ⟨many, g1, g3, Int.le_refl _, fun t t1 t2 => g4 t t1 (by omega), fun i0 => ?_, fun _ => rfl, fun d hd => ?_⟩
    · rw [i0] at g5
      exact g5
    · have := (List.getElem?_eq_some_iff.mp hd).1
      omega
  · obtain ⟨d, hd⟩ : ∃ d, R.reverse[i + 1]? = some d := ⟨_, List.getElem?_eq_getElem (by omega)⟩
    have e := last d hd
    refine ⟨b, g1, g2, ?_, g4, fun i0 => ?_, fun z => absurd z c, last⟩
    · have ld := (List.getElem?_eq_some_iff.mp hd).1
      have sp2 : R = (R.reverse.drop (i + 1 + 1)).reverse ++ d :: (R.reverse.take (i + 1)).reverse := by
        have h0 : R.reverse = R.reverse.take (i + 1) ++ d :: R.reverse.drop (i + 1 + 1) := by
          have h1 := (List.take_append_drop (i + 1) R.reverse).symm
          rw [List.drop_eq_getElem_cons ld, (List.getElem?_eq_some_iff.mp hd).2] at h1
          exact h1
        have h2 := congrArg List.reverse h0
        rw [List.reverse_reverse, List.reverse_append, List.reverse_cons, List.append_assoc] at h2
        exact h2
      rw [← sp] at h
      rw [sp2] at h
      obtain ⟨b2, ⟨_, _, q3, _⟩, _⟩ := h.suf
      rw [e]
      omega
    · rw [i0] at g5
      exact g5
/-! ### rows in force, the last one first -/
abbrev Ch := Int × List Bool
/-! ### what the functions promise -/
def IsCh (H : Hp) (v : V) (c : Ch) : Prop := ∃ t p, v = .ref t ∧ H t = some (.tup [.int c.1, .ref p]) ∧ H p = some (.lst (c.2.map V.bl))
theorem IsCh.mono {H H' : Hp} (e : Ex H H') {v : V} {c : Ch} (h : IsCh H v c) : IsCh H' v c := by
  obtain ⟨t, p, h1, h2, h3⟩ := h
  exact ⟨t, p, h1, e _ _ h2, e _ _ h3⟩
def IsChD (D : Addr) (H : Hp) (v : V) (c : Ch) : Prop := ∃ t p, v = .ref t ∧ H t = some (.tup [.int c.1, .ref p]) ∧ p ≠ D ∧ H p = some (.lst (c.2.map V.bl))
theorem IsChD.mono {D : Addr} {H H' : Hp} (e : Ex H H') {v : V} {c : Ch} (h : IsChD D H v c) : IsChD D H' v c := by
  obtain ⟨t, p, h1, h2, n, h3⟩ := h
  exact ⟨t, p, h1, e _ _ h2, n, e _ _ h3⟩
theorem IsChD.lset {D : Addr} {H : Hp} {us : List V} {o : HO} (hD : H D = some (.lst us)) {v : V} {c : Ch} (h : IsChD D H v c) : IsChD D (upd H D o) v c := by
  obtain ⟨t, p, h1, h2, n, h3⟩ := h
  exact ⟨t, p, h1, Kp.lst hD _ _ h2, n, by rw [upd_ne n]; exact h3⟩
/-- the rows have lists of their own -/
def Dj (H0 H : Hp) (us : List V) : Prop := (∀ (i j : Nat) (ti pi tj pj : Addr) (a b : Int), i ≠ j → us[i]? = some (.ref ti) → us[j]? = some (.ref tj) → H ti = some (.tup [.int a, .ref pi]) → H tj = some (.tup [.int b, .ref pj]) → pi ≠ pj) ∧ ∀ (i : Nat) (ti pi : Addr) (a : Int), us[i]? = some (.ref ti) → H ti = some (.tup [.int a, .ref pi]) → H0 pi = none
theorem Dj.old {D : Addr} {H H' : Hp} {us : List V} {rows : List Ch} (p : Paired (IsChD D H) us rows) (keep : ∀ t xs, H t = some (.tup xs) → H' t = some (.tup xs)) {i : Nat} {ti pi : Addr} {a : Int} (hi : us[i]? = some (.ref ti)) (h : H' ti = some (.tup [.int a, .ref pi])) : H ti = some (.tup [.int a, .ref pi]) ∧ ∃ o, H pi = some o := by
  obtain ⟨c, _, t, q, e, h1, _, h2⟩ := Pr.get p hi
  cases e
  have := keep _ _ h1
  rw [h] at this
  cases this
  exact ⟨h1, _, h2⟩
theorem Dj.keeps {D : Addr} {H0 H H' : Hp} {us : List V} {rows : List Ch} (p : Paired (IsChD D H) us rows) (keep : ∀ t xs, H t = some (.tup xs) → H' t = some (.tup xs)) (d : Dj H0 H us) : Dj H0 H' us := ⟨fun i j ti pi tj pj a b ne hi hj h1 h2 => d.1 i j ti pi tj pj a b ne hi hj (Dj.old p keep hi h1).1 (Dj.old p keep hj h2).1, fun i ti pi a hi h => d.2 i ti pi a hi (Dj.old p keep hi h).1⟩
theorem Dj.ex {D : Addr} {H0 H H' : Hp} {us : List V} {rows : List Ch} (p : Paired (IsChD D H) us rows) (e : Ex H H') (d : Dj H0 H us) : Dj H0 H' us := d.keeps p fun t xs h => e _ _ h
theorem Dj.add {CL l3 tu : Addr} {H0 H : Hp} {us : List V} {rows : List Ch} {xs zs : List V} {c : Int} {o : HO} (p : Paired (IsChD CL H) us rows) (d : Dj H0 H us) (hC : H CL = some (.lst xs)) (n3 : H l3 = none) (nt : upd H l3 (.lst zs) tu = none) (n0 : H0 l3 = none) : Dj H0 (upd (upd (upd H l3 (.lst zs)) tu (.tup [.int c, .ref l3])) CL o) (us ++ [.ref tu]) := by
  have e1 := Ex.new (o := .lst zs) n3
  have e2 := Ex.new (o := .tup [V.int c, V.ref l3]) nt
  have keep : ∀ t ys, H t = some (.tup ys) → upd (upd (upd H l3 (.lst zs)) tu (.tup [.int c, .ref l3])) CL o t = some (.tup ys) := fun t ys h => by
    rw [upd_ne (ne_of h hC (by intro z; cases z))]
    exact (e1.trans e2) _ _ h
  have tuC : tu ≠ CL := (ne_of_none (e1 _ _ hC) nt).symm
  have cases' : ∀ (i : Nat) (ti pi : Addr) (a : Int), (us ++ [V.ref tu])[i]? = some (.ref ti) → upd (upd (upd H l3 (.lst zs)) tu (.tup [.int c, .ref l3])) CL o ti = some (.tup [.int a, .ref pi]) → (us[i]? = some (.ref ti) ∧ H ti = some (.tup [.int a, .ref pi]) ∧ pi ≠ l3) ∨ (i = us.length ∧ pi = l3) := fun i ti pi a hi h => by
    by_cases c : i < us.length
    · rw [List.getElem?_append_left c] at hi
      obtain ⟨h1, o', h2⟩ := Dj.old p keep hi h
      exact .inl ⟨hi, h1, fun z => by rw [z, n3] at h2; cases h2⟩
    · have li := (List.getElem?_eq_some_iff.mp hi).1
      rw [List.length_append] at li
      have li : i < us.length + 1 := li
      have ei : i = us.length := by omega
      rw [ei, List.getElem?_append_right (Nat.le_refl _), Nat.sub_self] at hi
      cases hi
      rw [upd_ne tuC, upd_same] at h
      cases h
      exact .inr ⟨ei, rfl⟩
  refine ⟨fun i j ti pi tj pj a b ne hi hj h1 h2 => ?_, fun i ti pi a hi h => ?_⟩
  case refine_2 =>
    rcases cases' i ti pi a hi h with ⟨g1, g2, g3⟩ | ⟨g1, g2⟩
    · exact d.2 i ti pi a g1 g2
    · rw [g2]
      exact n0
  rcases cases' i ti pi a hi h1 with ⟨g1, g2, g3⟩ | ⟨g1, g2⟩
  · rcases cases' j tj pj b hj h2 with ⟨k1, k2, k3⟩ | ⟨k1, k2⟩
    · exact d.1 i j ti pi tj pj a b ne g1 k1 g2 k2
    · rw [k2]
      exact g3
  · rcases cases' j tj pj b hj h2 with ⟨k1, k2, k3⟩ | ⟨k1, k2⟩
    · rw [g2]
      exact Ne.symm k3
    · omega
def IsPs (H : Hp) (v : V) (rs : List Pc) : Prop := ∃ p, v = .ref p ∧ Pcs H p rs
theorem IsPs.mono {H H' : Hp} (e : Ex H H') {v : V} {rs : List Pc} (h : IsPs H v rs) : IsPs H' v rs := by
  obtain ⟨p, h1, h2⟩ := h
  exact ⟨p, h1, h2.mono e⟩
end Kb
namespace Kb
open PySem PySem.Spec PyProof.Rows L2
/-! ### summaries in the heap -/
structure Smx (K : PySem.W.Frag) (C : Addr) : Prop where
  cl : Cls K C
  nF : NoAttr K C "_firsts"
  nL : NoAttr K C "_lasts"
  nP : NoAttr K C "profile"
def smF (a b c : V) : List (Str × V) := putF "profile" c (putF "_lasts" b (putF "_firsts" a []))
theorem smF_p (a b c : V) : (smF a b c).lookup ("profile" : Str) = some c := by
  unfold smF
  rw [lookup_putF, if_pos rfl]
/-- a summary: its firsts, its lasts, and a profile of the class D -/
def SmAt (C D : Addr) (H : Hp) (x : Addr) (X Y : List Sc) (c : Int) (rs : List Pc) : Prop := ∃ dx a b q, H x = some (.ins C dx (smF (.ref a) (.ref b) (.ref q))) ∧ Scs H a X ∧ Scs H b Y ∧ PfAt D H q c rs
theorem SmAt.mono {C D : Addr} {H H' : Hp} (e : Ex H H') {x : Addr} {X Y : List Sc} {c : Int} {rs : List Pc} (h : SmAt C D H x X Y c rs) : SmAt C D H' x X Y c rs := by
  obtain ⟨dx, a, b, q, h1, h2, h3, dq, l, h4, h5⟩ := h
  exact ⟨dx, a, b, q, e _ _ h1, h2.mono e, h3.mono e, dq, l, e _ _ h4, h5.mono e⟩
end Kb
namespace Kb
open PySem PySem.Spec PyProof.Rows L2 TL
/-! ### how many scans the firsts and the lasts of a program have -/
theorem snoc_ind {α : Type} {p : List α → Prop} (l : List α) (h0 : p []) (h1 : ∀ l x, p l → p (l ++ [x])) : p l := by
  have go : ∀ r : List α, p r.reverse := by
    intro r
    induction r with
    | nil => exact h0
    | cons x r ih =>
      rw [List.reverse_cons]
      exact h1 _ _ ih
  have := go l.reverse
  rwa [List.reverse_reverse] at this
theorem seg_nodup (a b : Int) : (seg a b).Nodup := by
  by_cases h : a ≤ b
  · rw [← rd_seg h]
    exact rd_nodup _
  · rw [seg_nil (by omega)]
    exact .nil
def rst (f : Int → Bool) (l z : Int) : Bool := f z && (decide (z = l) || !f (z - 1))
theorem seg_snoc {l g : Int} (h : l ≤ g + 1) : seg l (g + 1) = seg l g ++ [g + 1] := by
  unfold seg
  rw [show (g + 1 + 1 - l).toNat = (g + 1 - l).toNat + 1 by omega, List.range_succ, List.map_append]
  congr 1
  show [l + ((g + 1 - l).toNat : Int)] = _
  congr 1
  omega
theorem runs_seg (f : Int → Bool) (l : Int) : ∀ n : Nat, ∃ R : List Sc, rdL R = (seg l (l + n - 1)).filter f ∧ R.length ≤ ((seg l (l + n - 1)).filter (rst f l)).length ∧ (0 < n → f (l + n - 1) = true → ∃ R' a, R = R' ++ [(a, l + n - 1)] ∧ a ≤ l + n - 1)
  | 0 => ⟨[], by rw [seg_nil (by omega)]; rfl, Nat.zero_le _, fun h => absurd h (Nat.lt_irrefl 0)⟩
  | n + 1 => by
    obtain ⟨R, h1, h2, h3⟩ := runs_seg f l n
    have e : l + ((n + 1 : Nat) : Int) - 1 = l + n - 1 + 1 := by omega
    have s : seg l (l + ((n + 1 : Nat) : Int) - 1) = seg l (l + n - 1) ++ [l + n - 1 + 1] := by
      rw [e]
      exact seg_snoc (by omega)
    rw [s, e, List.filter_append, List.filter_append]
    generalize l + (n : Int) - 1 = z at h1 h2 h3 e ⊢
    by_cases c : f (z + 1) = true
    · rw [show List.filter f [z + 1] = [z + 1] from by simp [c]]
      by_cases d : 0 < n ∧ f z = true
      · obtain ⟨R', a, rfl, ha⟩ := h3 d.1 d.2
        refine ⟨R' ++ [(a, z + 1)], ?_, ?_, fun _ _ => ⟨R', a, rfl, by omega⟩⟩
        · have : rdL [(a, z + 1)] = rdL [(a, z)] ++ [z + 1] := by
            show rd (a, z + 1) ++ [] = (rd (a, z) ++ []) ++ [z + 1]
            rw [List.append_nil, List.append_nil, rd_seg (by omega), rd_seg (by omega)]
            exact seg_snoc (by omega)
          rw [rdL_app, this, ← List.append_assoc, ← rdL_app, h1]
        · rw [List.length_append] at h2 ⊢
          rw [List.length_append]
          have : ([(a, z + 1)] : List Sc).length = ([(a, z)] : List Sc).length := rfl
          omega
      · refine ⟨R ++ [(z + 1, z + 1)], ?_, ?_, fun _ _ => ⟨R, z + 1, rfl, Int.le_refl _⟩⟩
        · rw [rdL_app, h1]
          show _ ++ (rd (z + 1, z + 1) ++ []) = _
          rw [List.append_nil, rd_seg (Int.le_refl _)]
          congr 1
          unfold seg
          rw [show (z + 1 + 1 - (z + 1)).toNat = 1 by omega]
          show [z + 1 + ((0 : Nat) : Int)] = _
          rw [show z + 1 + ((0 : Nat) : Int) = z + 1 by omega]
        · have : rst f l (z + 1) = true := by
            unfold rst
            rw [c, show z + 1 - 1 = z by omega]
            by_cases k : 0 < n
            · have : f z = false := by
                cases k2 : f z
                · rfl
                · exact absurd ⟨k, k2⟩ d
              rw [this]
              simp
            · rw [decide_eq_true (show z + 1 = l by omega)]
              rfl
          rw [show List.filter (rst f l) [z + 1] = [z + 1] from by simp [this], List.length_append, List.length_append]
          exact Nat.add_le_add_right h2 1
    · rw [show List.filter f [z + 1] = [] from by simp [c], List.append_nil]
      refine ⟨R, h1, ?_, fun _ h => absurd h c⟩
      rw [List.length_append]
      omega
theorem runs_rd (f : Int → Bool) (s : Sc) : ∃ R : List Sc, rdL R = (rd s).filter f ∧ R.length ≤ ((seg (lo s) (hi s)).filter (rst f (lo s))).length := by
  obtain ⟨R, h1, h2, _⟩ := runs_seg f (lo s) (hi s + 1 - lo s).toNat
  have e : lo s + ((hi s + 1 - lo s).toNat : Int) - 1 = hi s := by
    have := spn_le s
    have : lo s ≤ hi s := this
    omega
  rw [e] at h1 h2
  by_cases c : s.1 ≤ s.2
  · refine ⟨R, ?_, h2⟩
    rw [h1, rd_up c]
    have : lo s = s.1 ∧ hi s = s.2 := by
      unfold lo hi
      constructor <;> split <;> omega
    rw [this.1, this.2]
  · refine ⟨R.reverse.map swp, ?_, by rw [List.length_map, List.length_reverse]; exact h2⟩
    rw [rdL_rev, h1, rd_dn (by omega), List.filter_reverse]
    have : lo s = s.2 ∧ hi s = s.1 := by
      unfold lo hi
      constructor <;> split <;> omega
    rw [this.1, this.2]
def ctsS (ss : List Sc) : List Int := ss.flatMap fun s => [lo s, hi s + 1]
theorem ctsS_len : ∀ ss : List Sc, (ctsS ss).length = 2 * ss.length
  | [] => rfl
  | s :: r => by
    show ([lo s, hi s + 1] ++ ctsS r).length = 2 * (r.length + 1)
    rw [List.length_append, ctsS_len r]
    show 2 + _ = _
    omega
theorem ctsS_app (a b : List Sc) : ctsS (a ++ b) = ctsS a ++ ctsS b := List.flatMap_append
theorem firsts_runs (ss : List Sc) : ∃ (R : List Sc) (P : List Int), rdL R = lstR (rdL ss) ∧ R.length ≤ P.length ∧ P.Nodup ∧ ∀ p ∈ P, p ∈ rdL ss ∧ p ∈ ctsS ss := by
  refine snoc_ind (p := fun ss => ∃ (R : List Sc) (P : List Int), rdL R = lstR (rdL ss) ∧ R.length ≤ P.length ∧ P.Nodup ∧ ∀ p ∈ P, p ∈ rdL ss ∧ p ∈ ctsS ss) ss ⟨[], [], rfl, Nat.le_refl _, .nil, fun p hp => (by cases hp)⟩ fun ss s ⟨R, P, h1, h2, h3, h4⟩ => ?_
  obtain ⟨R', k1, k2⟩ := runs_rd (fun z => !decide (z ∈ rdL ss)) s
  refine ⟨R ++ R', P ++ (seg (lo s) (hi s)).filter (rst (fun z => !decide (z ∈ rdL ss)) (lo s)), ?_, ?_, ?_, fun p hp => ?_⟩
  · rw [rdL_app, h1, k1, rdL_app, lstR_app]
    show _ = _ ++ List.filter _ (lstR (rd s ++ []))
    rw [List.append_nil, lstR_id (rd_nodup s)]
  · rw [List.length_append, List.length_append]
    omega
  · refine List.nodup_append.mpr ⟨h3, (seg_nodup _ _).filter _, fun a ha b hb e => ?_⟩
    subst e
    have q := (List.mem_filter.mp hb).2
    unfold rst at q
    have q1 := (Bool.and_eq_true_iff.mp q).1
    have q1 : (!decide (a ∈ rdL ss)) = true := q1
    rw [decide_eq_true (h4 a ha).1] at q1
    cases q1
  · rw [rdL_app, ctsS_app]
    rcases List.mem_append.mp hp with hp | hp
    · exact ⟨List.mem_append_left _ (h4 p hp).1, List.mem_append_left _ (h4 p hp).2⟩
    · obtain ⟨m, q⟩ := List.mem_filter.mp hp
      have m := mem_seg.mp m
      refine ⟨List.mem_append_right _ (List.mem_append_left _ (mem_rd.mpr m)), ?_⟩
      unfold rst at q
      obtain ⟨q1, q2⟩ := Bool.and_eq_true_iff.mp q
      have q1 : (!decide (p ∈ rdL ss)) = true := q1
      have n1 : p ∉ rdL ss := fun y => by
        rw [decide_eq_true y] at q1
        cases q1
      rcases Bool.or_eq_true_iff.mp q2 with y | y
      · refine List.mem_append_right _ ?_
        rw [of_decide_eq_true y]
        exact List.mem_cons_self
      · have n2 : p - 1 ∈ rdL ss := by
          by_cases z : p - 1 ∈ rdL ss
          · exact z
          · have y : (!!decide (p - 1 ∈ rdL ss)) = true := y
            rw [decide_eq_false z] at y
            cases y
        obtain ⟨t, ht, a, b⟩ := mem_rdL.mp n2
        have n3 : ¬ (lo t ≤ p ∧ p ≤ hi t) := fun z => n1 (mem_rdL.mpr ⟨t, ht, z⟩)
        refine List.mem_append_left _ (List.mem_flatMap.mpr ⟨t, ht, ?_⟩)
        rw [show p = hi t + 1 by omega]
        exact List.mem_cons_of_mem _ List.mem_cons_self
theorem tdy_firsts (ss : List Sc) : (tdy (lstR (rdL ss))).length ≤ 2 * ss.length := by
  obtain ⟨R, P, h1, h2, h3, h4⟩ := firsts_runs ss
  have a := h3.length_le_of_subset fun z hz => (h4 z hz).2
  rw [ctsS_len] at a
  rw [← h1]
  show (jn (dup (rdL R))).length ≤ _
  rw [jn_rdL]
  have := jn_len R
  omega
theorem tdy_lasts (ss : List Sc) : (tdy (lstF (rdL ss))).length ≤ 2 * ss.length := by
  have h := tdy_firsts (ss.reverse.map swp)
  rw [rdL_rev, List.length_map, List.length_reverse] at h
  exact h
/-- what a program reads first, what last: that of its scans -/
theorem mem_rdscs {z : Int} : ∀ {B : Int} {g : Pg}, g.Ok B → (z ∈ g.rd ↔ z ∈ rdL g.scs)
  | _, .nil, _ => Iff.rfl
  | B, .sc s r, h => by
    show z ∈ rdS s ++ r.rd ↔ z ∈ rd s ++ rdL r.scs
    rw [List.mem_append, List.mem_append, ← rd_rdS, mem_rdscs h.2]
  | B, .rp n x r, h => by
    show z ∈ (List.replicate n.toNat x.rd).flatten ++ r.rd ↔ z ∈ rdL (x.scs ++ r.scs)
    rw [rdL_app, List.mem_append, List.mem_append, ← mem_rdscs h.2.2.2.1, ← mem_rdscs h.2.2.2.2]
    have h2 := h.1
    have : z ∈ (List.replicate n.toNat x.rd).flatten ↔ z ∈ x.rd := by
      rw [List.mem_flatten]
      constructor
      · rintro ⟨l, hl, hz⟩
        rw [(List.mem_replicate.mp hl).2] at hz
        exact hz
      · exact fun hz => ⟨x.rd, List.mem_replicate.mpr ⟨by omega, rfl⟩, hz⟩
    rw [this]
theorem firsts_scs : ∀ {B : Int} {g : Pg}, g.Ok B → lstR g.rd = lstR (rdL g.scs)
  | _, .nil, _ => rfl
  | B, .sc s r, h => by
    show lstR (rdS s ++ r.rd) = lstR (rd s ++ rdL r.scs)
    rw [lstR_app, lstR_app, ← rd_rdS, firsts_scs h.2]
  | B, .rp n x r, h => by
    show lstR ((List.replicate n.toNat x.rd).flatten ++ r.rd) = lstR (rdL (x.scs ++ r.scs))
    have h2 := h.1
    obtain ⟨k, ek⟩ : ∃ k : Nat, n.toNat = k + 1 := ⟨n.toNat - 1, by omega⟩
    rw [rdL_app, lstR_app, lstR_app, ek, lstR_rep, firsts_scs h.2.2.2.1, firsts_scs h.2.2.2.2]
    congr 1
    refine List.filter_congr fun z _ => ?_
    congr 1
    refine decide_eq_decide.mpr ?_
    rw [← mem_lstR (xs := (List.replicate (k + 1) x.rd).flatten), lstR_rep, mem_lstR, mem_rdscs h.2.2.2.1]
theorem lasts_scs : ∀ {B : Int} {g : Pg}, g.Ok B → lstF g.rd = lstF (rdL g.scs)
  | _, .nil, _ => rfl
  | B, .sc s r, h => by
    show lstF (rdS s ++ r.rd) = lstF (rd s ++ rdL r.scs)
    rw [lstF_app, lstF_app, ← rd_rdS, lasts_scs h.2]
    congr 1
    refine List.filter_congr fun z _ => ?_
    congr 1
    exact decide_eq_decide.mpr (mem_rdscs h.2)
  | B, .rp n x r, h => by
    show lstF ((List.replicate n.toNat x.rd).flatten ++ r.rd) = lstF (rdL (x.scs ++ r.scs))
    have h2 := h.1
    obtain ⟨k, ek⟩ : ∃ k : Nat, n.toNat = k + 1 := ⟨n.toNat - 1, by omega⟩
    rw [rdL_app, lstF_app, lstF_app, ek, lstF_rep, lasts_scs h.2.2.2.1, lasts_scs h.2.2.2.2]
    congr 1
    refine List.filter_congr fun z _ => ?_
    congr 1
    exact decide_eq_decide.mpr (mem_rdscs h.2.2.2.2)
theorem psum_ok {B : Int} : ∀ {ss : List Sc}, (∀ s ∈ ss, SOk B s) → psum ss ≤ ss.length * (B + 1)
  | [], _ => by
    rw [show psum [] = 0 from rfl]
    simp
  | s :: r, h => by
    have ih := psum_ok fun t ht => h t (List.mem_cons_of_mem _ ht)
    obtain ⟨a, b, c, d⟩ := h s List.mem_cons_self
    have e : psum (s :: r) = slen s + psum r := by rw [← rdL_len, rdL_cons, List.length_append, Int.natCast_add, rdL_len, rd_rdS, rdS_len]
    have f : slen s ≤ B + 1 := by
      unfold slen
      split <;> omega
    rw [e, List.length_cons, Int.natCast_add, Int.add_mul]
    omega
theorem fs_scs {B : Int} {g : Pg} (h : g.Ok B) {n : Nat} (l : g.scs.length ≤ n) {Z : Int} (hZ : (n : Int) * (B + 1) ≤ Z) (hB : 0 ≤ B) : Fs (2 * n) Z g.rd := by
  refine ⟨?_, ?_, ?_⟩
  · rw [firsts_scs h]
    have := tdy_firsts g.scs
    omega
  · rw [lasts_scs h]
    have := tdy_lasts g.scs
    omega
  · rw [firsts_scs h]
    have a := (lstR_nodup (rdL g.scs)).length_le_of_subset fun z hz => mem_lstR.mp hz
    have b := rdL_len g.scs
    have c := psum_ok h.mem
    have d := Int.mul_le_mul_of_nonneg_right (show (g.scs.length : Int) ≤ n by omega) (show 0 ≤ B + 1 by omega)
    omega
theorem fw_scs {B : Int} (hB : 0 ≤ B) {n : Nat} {Z : Int} (hZ : (n : Int) * (B + 1) ≤ Z) (n1 : 1 ≤ n) : ∀ (d : Nat) (g : Pg), g.dep < d → g.Ok B → g.scs.length ≤ n → Fw (Fs (2 * n) Z) g
  | 0, _, h, _, _ => absurd h (Nat.not_lt_zero _)
  | d + 1, g, hd, hok, hl => by
    refine ⟨fun a b e => ?_, fun a k x r e => ?_, fun a s r e => ?_⟩
    · subst e
      rw [Pg.scs_app, List.length_append] at hl
      exact fs_scs (app_ok hok).1 (by omega) hZ hB
    · subst e
      obtain ⟨_, k2, _, _, okx, _⟩ := app_ok hok
      rw [Pg.dep_app] at hd
      have hd : max a.dep (max (x.dep + 1) r.dep) < d + 1 := hd
      rw [Pg.scs_app, List.length_append] at hl
      have hl : a.scs.length + (x.scs ++ r.scs).length ≤ n := hl
      rw [List.length_append] at hl
      exact fw_scs hB hZ n1 d x (by omega) okx (by omega)
    · subst e
      obtain ⟨_, oks, _⟩ := app_ok hok
      have := fs_scs (g := .sc s .nil) (B := B) ⟨oks, trivial⟩ (n := n) (by show 1 ≤ n; exact n1) hZ hB
      have e : (Pg.sc s .nil).rd = rd s := by
        show rdS s ++ [] = _
        rw [List.append_nil, rd_rdS]
      rw [e] at this
      exact this
theorem nds_toks : ∀ g : Pg, g.nds = g.toks.length
  | .nil => rfl
  | .sc s r => by
    show r.nds + 1 = r.toks.length + 1
    rw [nds_toks r]
  | .rp n x r => by
    have : (Pg.rp n x r).toks.length = x.toks.length + r.toks.length + 2 := by
      simp [Pg.toks]
      omega
    rw [this, ← nds_toks x, ← nds_toks r]
    rfl
theorem cnt_pos {B : Int} {g : Pg} (h : g.Ok B) (ne : g ≠ .nil) : 1 ≤ g.cnt := by
  cases g with
  | nil => exact (ne rfl).elim
  | sc s r =>
    have := slen_pos s
    have := Pg.cnt_nn h.2
    show 1 ≤ slen s + r.cnt
    omega
  | rp n x r =>
    obtain ⟨n2, nB, xn, okx, okr⟩ := h
    have a := cnt_pos okx xn
    have b := Pg.cnt_nn okr
    have c := Int.mul_le_mul n2 a (by decide) (by omega)
    show 1 ≤ n * x.cnt + r.cnt
    omega
theorem mul_small {n c k : Int} (n0 : 0 ≤ n) (c1 : 1 ≤ c) (h : n * c ≤ k) : n ≤ k := by
  have := Int.mul_le_mul_of_nonneg_left c1 n0
  omega
theorem lim_fw {g : Pg} (h : Lim g) : Fw (Fs 80 (10 ^ 32)) g := fw_scs (B := 10 ^ 30) (by decide +kernel) (n := 40) (by decide +kernel) (by decide) 6 g (by have := h.dep; omega) h.ok h.few
theorem lim_fs {g : Pg} (h : Lim g) : Fs 80 (10 ^ 32) g.rd := fs_scs (B := 10 ^ 30) h.ok h.few (by decide +kernel) (by decide +kernel)
theorem lim_nds {g : Pg} (h : Lim g) : 2 * 80 * g.nds ≤ 70400 := by
  rw [nds_toks]
  have := h.toks
  omega
theorem lim_cnt {g : Pg} (h : Lim g) : g.cnt ≤ 10 ^ 190 := by
  have a := Pg.cnt_le (k := 5) (by decide +kernel) h.ok h.dep
  have b := Int.mul_le_mul_of_nonneg_right (show (g.scs.length : Int) ≤ 40 from by have := h.few; omega) (show (0 : Int) ≤ (10 ^ 30 + 1) ^ (5 + 1) by decide +kernel)
  have c : (40 : Int) * (10 ^ 30 + 1) ^ (5 + 1) ≤ 10 ^ 190 := by decide +kernel
  omega
end Kb
namespace Kb
open PySem PySem.Spec PyProof.Rows L2 TL
/-! ### the three things of a summary as data -/
def pd3T (X Y : List Sc) (rs : List Pc) : PyData := .tuple [pdL X, pdL Y, pdPs rs]
/-! ### the summary of what a program reads -/
structure IsSm (C D : Addr) (H : Hp) (x : Addr) (X : List Int) : Prop where
  ex : ∃ rs, SmAt C D H x (tdy (lstR X)) (tdy (lstF X)) ((lstR X).length : Int) rs ∧ Can rs ∧ Bd rs ∧ rs.length ≤ 400000 ∧ Sz 190 rs ∧ ∀ d, atP rs d = DH X d
  fs : Fs 80 (10 ^ 32) X
theorem IsSm.mono {C D : Addr} {H H' : Hp} (e : Ex H H') {x : Addr} {X : List Int} (h : IsSm C D H x X) : IsSm C D H' x X := by
  obtain ⟨⟨rs, h1, h2⟩, f⟩ := h
  exact ⟨⟨rs, h1.mono e, h2⟩, f⟩
/-- the list of three lists that a summary has -/
def Is3 (H : Hp) (v : V) (X Y : List Sc) (rs : List Pc) : Prop := ∃ t f l c, v = .ref t ∧ H t = some (.tup [.ref f, .ref l, .ref c]) ∧ Scs H f X ∧ Scs H l Y ∧ Pcs H c rs
theorem Is3.mono {H H' : Hp} (e : Ex H H') {v : V} {X Y : List Sc} {rs : List Pc} (h : Is3 H v X Y rs) : Is3 H' v X Y rs := by
  obtain ⟨t, f, l, c, e1, h1, h2, h3, h4⟩ := h
  exact ⟨t, f, l, c, e1, e _ _ h1, h2.mono e, h3.mono e, h4.mono e⟩
theorem Is3.dp {K : PySem.W.Frag} {H : Hp} {v : V} {X Y : List Sc} {rs : List Pc} (h : Is3 H v X Y rs) : Dp K H v (pd3T X Y rs) := by
  obtain ⟨t, f, l, c, rfl, h1, h2, h3, h4⟩ := h
  exact .tup (SqT.of h1) (.cons h2.dp (.cons h3.dp (.cons h4.dp .nil)))
theorem frX {C dx x : Addr} {H H' : Hp} (hx : H x = some (.ins C dx [])) (fr : ∀ e o, e ≠ x → H e = some o → H' e = some o) {b : Addr} {o : HO} (no : o ≠ .ins C dx []) (hb : H b = some o) : H' b = some o :=
  fr b o (fun e => by
    subst e
    rw [hx] at hb
    cases hb
    exact no rfl) hb
theorem Scs.fr {C dx x : Addr} {H H' : Hp} (hx : H x = some (.ins C dx [])) (fr : ∀ e o, e ≠ x → H e = some o → H' e = some o) {a : Addr} {X : List Sc} (h : Scs H a X) : Scs H' a X := by
  obtain ⟨vs, ha, pv⟩ := h
  refine ⟨vs, frX hx fr (by intro z; cases z) ha, Pr.imp (fun v p r => ?_) pv⟩
  obtain ⟨t, e, ht⟩ := r
  exact ⟨t, e, frX hx fr (by intro z; cases z) ht⟩
theorem PfAt.fr {C D dx x : Addr} {H H' : Hp} (hx : H x = some (.ins C dx [])) (fr : ∀ e o, e ≠ x → H e = some o → H' e = some o) {q : Addr} {c : Int} {rs : List Pc} (h : PfAt D H q c rs) : PfAt D H' q c rs := by
  obtain ⟨dq, l, h1, vs, ha, pv⟩ := h
  refine ⟨dq, l, frX hx fr (by intro z; cases z) h1, vs, frX hx fr (by intro z; cases z) ha, Pr.imp (fun v p r => ?_) pv⟩
  obtain ⟨t, e, ht⟩ := r
  exact ⟨t, e, frX hx fr (by intro z; cases z) ht⟩
theorem tdy_good' {xs : List Int} (h : xs.Nodup) (n : ∀ z ∈ xs, 0 ≤ z) (l : (tdy xs).length ≤ 1000) : Good (tdy xs) := by
  refine ⟨fun s hs => ?_, tdy_apart h, l⟩
  have m : ∀ z, lo s ≤ z → z ≤ hi s → 0 ≤ z := fun z h1 h2 => n z (by rw [← rdL_tdy h]; exact mem_rdL.mpr ⟨s, hs, h1, h2⟩)
  have a := m (lo s) (Int.le_refl _) (lo_hi s)
  have b := sc_cases s
  unfold Nn
  omega
/-! ### promises -/
def spInitSm (C D : Addr) : Sp := fun vs H Q _ => ∃ (x dx a b q : Addr) (X Y : List Sc) (c : Int) (rs : List Pc), vs = [.ref x, .ref a, .ref b, .ref q] ∧ H x = some (.ins C dx []) ∧ Scs H a X ∧ Scs H b Y ∧ PfAt D H q c rs ∧
  ∀ H', (∀ e o, e ≠ x → H e = some o → H' e = some o) → SmAt C D H' x X Y c rs → Q .non H'
def spSumFrom (C D : Addr) : Sp := fun vs H Q _ => ∃ (v : V) (X : List Int) (ps : List Pc), vs = [v] ∧ IsTr H v X ps ∧ Tp (10 ^ 32) X ps ∧ Fs 80 (10 ^ 32) X ∧ ps.length ≤ 100000 ∧ (X.length : Int) ≤ 10 ^ 190 ∧ (∀ z ∈ X, 0 ≤ z) ∧ ∀ x H', H x = none → Ex H H' → IsSm C D H' x X → Q (.ref x) H'
def spSumOf (Cp C D : Addr) : Sp := fun vs H Q _ => ∃ (x : Addr) (g : Pg), vs = [.ref x] ∧ PgAt Cp H x g ∧ Lim g ∧ ∀ y H', H y = none → Ex H H' → IsSm C D H' y g.rd → Q (.ref y) H'
end Kb
namespace Kb
open PySem PySem.Spec PyProof.Rows L2 TL
/-! ### misses of a cache that is played, by distances -/
def msO (s : Int) (o : Option Int) : Bool := match o with
  | none => true
  | some d => decide (d > s)
def mssO (s : Int) (l : List (Option Int)) : Int := ((l.filter (msO s)).length : Int)
def mss (X : List Int) (s : Int) : Int := mssO s (dsO [] X)
theorem mssO_app (s : Int) (a b : List (Option Int)) : mssO s (a ++ b) = mssO s a + mssO s b := by
  unfold mssO
  rw [List.filter_append, List.length_append, Int.natCast_add]
def nones (l : List (Option Int)) : Int := ((l.filter fun o => o.isNone).length : Int)
theorem mssO_split (s : Int) : ∀ l : List (Option Int), mssO s l = nones l + (((l.filterMap id).filter fun z => decide (z > s)).length : Int)
  | [] => rfl
  | none :: l => by
    have ih := mssO_split s l
    unfold mssO nones at ih ⊢
    rw [List.filterMap_cons_none rfl, List.filter_cons, if_pos (by rfl), List.filter_cons, if_pos (by rfl), List.length_cons, List.length_cons]
    omega
  | some d :: l => by
    have ih := mssO_split s l
    unfold mssO nones at ih ⊢
    rw [List.filterMap_cons_some (f := id) (b := d) rfl, List.filter_cons, List.filter_cons, List.filter_cons]
    rw [show msO s (some d) = decide (d > s) from rfl, show (some d : Option Int).isNone = false from rfl]
    by_cases c : d > s
    · rw [decide_eq_true c, if_pos rfl, if_neg (by decide), if_pos rfl, List.length_cons, List.length_cons]
      omega
    · rw [decide_eq_false c, if_neg (by decide), if_neg (by decide), if_neg (by decide)]
      exact ih
theorem farO_none {p : List Int} {y : Int} : farO p y = none ↔ y ∉ p := by
  constructor
  · intro h m
    obtain ⟨a, b, e⟩ := List.append_of_mem (mem_lstF.mpr m)
    have na : y ∉ a := by
      have := lstF_nodup p
      rw [e] at this
      exact fun m => (List.nodup_append.mp this).2.2 y m y List.mem_cons_self rfl
    unfold farO at h
    rw [e, ixo_mid na] at h
    cases h
  · exact farO_out
theorem nones_cold (X : List Int) : nones (dsO [] X) = ((lstR X).length : Int) := by
  refine snoc_ind (p := fun X => nones (dsO [] X) = ((lstR X).length : Int)) X rfl fun ys y ih => ?_
  rw [dsO_app, lstR_snoc, List.length_append]
  unfold nones at ih ⊢
  rw [List.filter_append, List.length_append, Int.natCast_add, ih, Int.natCast_add]
  congr 1
  show (((([farO ([] ++ ys) y] : List (Option Int)).filter fun o => o.isNone).length : Nat) : Int) = _
  rw [List.nil_append]
  by_cases c : y ∈ ys
  · rw [if_pos c]
    cases h : farO ys y with
    | none => exact absurd c (farO_none.mp h)
    | some d => rfl
  · rw [if_neg c, farO_none.mpr c]
    rfl
theorem mss_bey {rs : List Pc} {X : List Int} (ok : ∀ p ∈ rs, Pok p) (h : ∀ d, atP rs d = DH X d) (s : Int) : ((lstR X).length : Int) + bey rs s = mss X s := by
  have pm : (ev rs).Perm ((dsO [] X).filterMap id) := List.perm_iff_count.mpr fun d => by
    have a := ev_count ok d
    have b := gaps_count d (dsO [] X)
    rw [h d] at a
    have : ((ev rs).count d : Int) = (((dsO [] X).filterMap id).count d : Int) := by rw [a, b]; rfl
    omega
  unfold mss
  rw [mssO_split, nones_cold, ← ev_over ok, (pm.filter _).length_eq]
/-! ### rounds -/
/-! ### the cache -/
theorem ixo_take : ∀ (L : List Int) (y : Int) (w : Nat), y ∈ L.take w ↔ ∃ i, ixo L y = some i ∧ i < w
  | [], y, w => by
    constructor
    · intro h
      rw [List.take_nil] at h
      cases h
    · rintro ⟨i, h, _⟩
      cases h
  | x :: L, y, 0 => by
    constructor
    · intro h
      cases h
    · rintro ⟨i, _, h⟩
      omega
  | x :: L, y, w + 1 => by
    rw [List.take_succ_cons, List.mem_cons, ixo_take L y w]
    show _ ↔ ∃ i, (if x = y then some 0 else (ixo L y).map (· + 1)) = some i ∧ i < w + 1
    by_cases c : x = y
    · rw [if_pos c]
      exact ⟨fun _ => ⟨0, rfl, by omega⟩, fun _ => .inl c.symm⟩
    · rw [if_neg c]
      constructor
      · rintro (h | ⟨i, h1, h2⟩)
        · exact absurd h.symm c
        · exact ⟨i + 1, by rw [h1]; rfl, by omega⟩
      · rintro ⟨i, h1, h2⟩
        obtain ⟨j, h3, h4⟩ := Option.map_eq_some_iff.mp h1
        exact .inr ⟨j, h3, by omega⟩
theorem miss_iff (p : List Int) (y : Int) (w : Nat) : msO (w : Int) (farO p y) = !decide (y ∈ (lstF p).take w) := by
  have h := ixo_take (lstF p) y w
  unfold farO
  cases e : ixo (lstF p) y with
  | none =>
    rw [decide_eq_false (fun m => by
      obtain ⟨i, hi, _⟩ := h.mp m
      rw [e] at hi
      cases hi)]
    rfl
  | some i =>
    show decide (((i : Int) + 1) > (w : Int)) = _
    by_cases c : i < w
    · rw [decide_eq_true (h.mpr ⟨i, e, c⟩), decide_eq_false (show ¬ ((i : Int) + 1) > (w : Int) by omega)]
      rfl
    · have n : y ∉ (lstF p).take w := fun m => by
        obtain ⟨j, hj, hw⟩ := h.mp m
        rw [e] at hj
        cases hj
        exact c hw
      rw [decide_eq_false n, decide_eq_true (show ((i : Int) + 1) > (w : Int) by omega)]
      rfl
theorem mss_snoc (p : List Int) (y : Int) (w : Nat) : mss (p ++ [y]) (w : Int) = mss p (w : Int) + if y ∈ (lstF p).take w then 0 else 1 := by
  unfold mss
  rw [dsO_app, mssO_app, List.nil_append]
  congr 1
  show ((([farO p y] : List (Option Int)).filter (msO (w : Int))).length : Int) = _
  have m := miss_iff p y w
  by_cases c : y ∈ (lstF p).take w
  · rw [decide_eq_true c] at m
    rw [if_pos c, List.filter_cons, m]
    rfl
  · rw [decide_eq_false c] at m
    rw [if_neg c, List.filter_cons, m]
    rfl
/-! ### addresses under other names -/
end Kb
namespace Kb
open PySem PySem.Spec PyProof.Rows L2 TL
/-! ### sums and greatest ones over classes -/
theorem dsO_len : ∀ (p ys : List Int), (dsO p ys).length = ys.length
  | _, [] => rfl
  | p, y :: ys => by
    show (dsO (p ++ [y]) ys).length + 1 = ys.length + 1
    rw [dsO_len]
theorem mss_bd (X : List Int) (s : Int) : 0 ≤ mss X s ∧ mss X s ≤ X.length := by
  unfold mss mssO
  have := List.length_filter_le (msO s) (dsO [] X)
  rw [dsO_len] at this
  omega
/-! ### promises -/
def IsCm (w : Int) (H : Hp) (v : V) (r : Cl) : Prop := ∃ t, v = .ref t ∧ H t = some (.tup [.int r.1, .int r.2.1, .int (mss r.2.2.rd w)])
theorem IsCm.mono {w : Int} {H H' : Hp} (e : Ex H H') {v : V} {r : Cl} (h : IsCm w H v r) : IsCm w H' v r := by
  obtain ⟨t, e1, h1⟩ := h
  exact ⟨t, e1, e _ _ h1⟩
theorem IsCm.lset {w : Int} {H : Hp} {p : Addr} {xs : List V} {o : HO} (hp : H p = some (.lst xs)) {v : V} {r : Cl} (h : IsCm w H v r) : IsCm w (upd H p o) v r := by
  obtain ⟨t, e1, h1⟩ := h
  exact ⟨t, e1, by rw [upd_ne (ne_of h1 hp (by intro z; cases z))]; exact h1⟩
end Kb
namespace Kb
open PySem PySem.Spec PyProof.Rows L2 TL
/-! ### what misses a cache of w addresses, behind some accesses -/
def fl : List Int → Int → List Int → List (Int × Bool)
  | _, _, [] => []
  | p, w, y :: ys => (y, msO w (farO p y)) :: fl (p ++ [y]) w ys
theorem fl_len : ∀ (xs p : List Int) (w : Int), (fl p w xs).length = xs.length
  | [], _, _ => rfl
  | y :: ys, p, w => congrArg (· + 1) (fl_len ys (p ++ [y]) w)
theorem fl_get : ∀ (xs p : List Int) (w : Int) {i : Nat} {z : Int}, xs[i]? = some z → (fl p w xs)[i]? = some (z, msO w (farO (p ++ xs.take i) z))
  | [], _, _, i, z, h => by simp at h
  | y :: ys, p, w, 0, z, h => by
    cases h
    rw [List.take_zero, List.append_nil]
    rfl
  | y :: ys, p, w, i + 1, z, h => by
    have ih := fl_get ys (p ++ [y]) w (i := i) (z := z) h
    rw [List.append_assoc] at ih
    exact ih
/-! ### runs of accesses that miss, as scans -/
def rns : List (Int × Bool) → List Sc
  | [] => []
  | (_, false) :: t => rns t
  | (z, true) :: t => match t with
    | (_, true) :: _ => match rns t with
      | (_, b) :: r => (z, b) :: r
      | [] => [(z, z)]
    | _ => (z, z) :: rns t
theorem rns_true {z : Int} {t : List (Int × Bool)} : ∃ b r, rns ((z, true) :: t) = (z, b) :: r := by
  unfold rns
  split
  · split
    · exact ⟨_, _, rfl⟩
    · exact ⟨_, _, rfl⟩
  · exact ⟨_, _, rfl⟩
theorem rns_false {t : List (Int × Bool)} (h : ∀ x ∈ t, x.2 = false) : rns t = [] := by
  induction t with
  | nil => rfl
  | cons x t ih =>
    obtain ⟨z, b⟩ := x
    have : b = false := h _ List.mem_cons_self
    subst this
    show rns t = []
    exact ih fun x hx => h x (List.mem_cons_of_mem _ hx)
/-- nothing, or a hit at the end -/
def EndF (A : List (Int × Bool)) : Prop := A = [] ∨ ∃ a z, A = a ++ [(z, false)]
theorem EndF.tail {x : Int × Bool} {A : List (Int × Bool)} (h : EndF (x :: A)) : EndF A := by
  rcases h with h | ⟨a, z, h⟩
  · cases h
  · cases a with
    | nil =>
      cases h
      exact .inl rfl
    | cons y a =>
      cases h
      exact .inr ⟨a, z, rfl⟩
theorem rns_app : ∀ {A : List (Int × Bool)} (B : List (Int × Bool)), EndF A → rns (A ++ B) = rns A ++ rns B
  | [], _, _ => rfl
  | (z, false) :: t, B, h => by
    show rns (t ++ B) = rns t ++ rns B
    exact rns_app B h.tail
  | (z, true) :: [], B, h => by
    rcases h with h | ⟨a, y, h⟩
    · cases h
    · cases a with
      | nil => cases h
      | cons x a =>
        injection h with h1 h2
        simp at h2
  | (z, true) :: (y, true) :: t, B, h => by
    have ih := rns_app B h.tail
    obtain ⟨b, r, e⟩ := rns_true (z := y) (t := t)
    rw [e] at ih
    have e1 : rns ((z, true) :: (y, true) :: t) = (z, b) :: r := by
      rw [rns, e]
    have e2 : rns ((z, true) :: ((y, true) :: t ++ B)) = (z, b) :: (r ++ rns B) := by
      show rns ((z, true) :: (y, true) :: (t ++ B)) = _
      rw [rns, show rns ((y, true) :: (t ++ B)) = (y, b) :: (r ++ rns B) from ih]
    show rns ((z, true) :: ((y, true) :: t ++ B)) = _
    rw [e1, e2]
    rfl
  | (z, true) :: (y, false) :: t, B, h => by
    have ih := rns_app B h.tail
    show rns ((z, true) :: (y, false) :: (t ++ B)) = rns ((z, true) :: (y, false) :: t) ++ rns B
    have e1 : rns ((z, true) :: (y, false) :: t) = (z, z) :: rns ((y, false) :: t) := rfl
    have e2 : rns ((z, true) :: (y, false) :: (t ++ B)) = (z, z) :: rns ((y, false) :: (t ++ B)) := rfl
    rw [e1, e2, show rns ((y, false) :: (t ++ B)) = rns ((y, false) :: t) ++ rns B from ih]
    rfl
theorem rns_run : ∀ {T : List (Int × Bool)} {Z : List (Int × Bool)} {z y : Int}, (∀ x ∈ T, x.2 = true) → (∀ x ∈ Z, x.2 = false) → T.head? = some (z, true) → T.getLast? = some (y, true) → rns (T ++ Z) = [(z, y)]
  | [], _, _, _, _, _, h, _ => by cases h
  | [(x, b)], Z, z, y, _, hZ, h1, h2 => by
    cases h1
    cases h2
    show rns ((x, true) :: Z) = _
    cases Z with
    | nil => rfl
    | cons v Z =>
      obtain ⟨v, c⟩ := v
      have : c = false := hZ _ List.mem_cons_self
      subst this
      show (x, x) :: rns ((v, false) :: Z) = _
      rw [rns_false hZ]
  | (x, b) :: (v, c) :: T, Z, z, y, hT, hZ, h1, h2 => by
    cases h1
    have : c = true := hT (v, c) (List.mem_cons_of_mem _ List.mem_cons_self)
    subst this
    have ih := rns_run (T := (v, true) :: T) (Z := Z) (z := v) (y := y) (fun x hx => hT x (List.mem_cons_of_mem _ hx)) hZ rfl (by rw [← h2, List.getLast?_cons_cons])
    show rns ((x, true) :: (v, true) :: (T ++ Z)) = _
    rw [rns, show rns ((v, true) :: (T ++ Z)) = [(v, y)] from ih]
/-! ### runs along a scan -/
/-- addresses that go on by one each, up or down -/
def Stp (e : Int) : List (Int × Bool) → Prop
  | [] => True
  | [_] => True
  | x :: y :: t => y.1 = x.1 + e ∧ Stp e (y :: t)
theorem Stp.tail {e : Int} {x : Int × Bool} {t : List (Int × Bool)} (h : Stp e (x :: t)) : Stp e t := by
  cases t with
  | nil => trivial
  | cons y t => exact h.2
/-! ### what a scan, a program leave of their accesses -/
def scsPg : List Sc → Pg
  | [] => .nil
  | s :: r => .sc s (scsPg r)
/-! ### distances, by what is kept -/
end Kb
namespace Kb
open PySem PySem.Spec PyProof.Rows L2 TL
/-! ### a scan's hits, by the rows of straight distances -/
/-- the places that hit: ascending, apart -/
structure Hts (f : Nat → Bool) (n : Int) (hs : List (Int × Int)) : Prop where
  asc : hs.Pairwise fun a b => a.1 + a.2 ≤ b.1
  bd : ∀ h ∈ hs, 0 ≤ h.1 ∧ 1 ≤ h.2 ∧ h.1 + h.2 ≤ n
  at_ : ∀ i : Nat, (i : Int) < n → (f i = false ↔ ∃ h ∈ hs, h.1 ≤ (i : Int) ∧ (i : Int) < h.1 + h.2)
theorem rns_step {L : List (Int × Bool)} {a b c : Nat} (ab : a ≤ b) (bc : b ≤ c) (cl : c ≤ L.length) (hE : EndF (L.take a)) (hT : ∀ i, a ≤ i → i < b → ∃ z, L[i]? = some (z, true)) (hZ : ∀ i, b ≤ i → i < c → ∃ z, L[i]? = some (z, false)) :
    (b < c → EndF (L.take c)) ∧ (a = b → rns (L.take c) = rns (L.take a)) ∧ ∀ z y : Int, a < b → L[a]? = some (z, true) → L[b - 1]? = some (y, true) → rns (L.take c) = rns (L.take a) ++ [(z, y)] := by
  have e1 : L.take b = L.take a ++ (L.drop a).take (b - a) := by
    rw [← List.take_add, show a + (b - a) = b by omega]
  have e2 : L.take c = L.take b ++ (L.drop b).take (c - b) := by
    rw [← List.take_add, show b + (c - b) = c by omega]
  have z0 : ∀ x ∈ (L.drop b).take (c - b), x.2 = false := fun x hx => by
    obtain ⟨i, hi⟩ := List.getElem?_of_mem hx
    have li := (List.getElem?_eq_some_iff.mp hi).1
    rw [List.length_take, List.length_drop] at li
    rw [List.getElem?_take_of_lt (by omega), List.getElem?_drop] at hi
    obtain ⟨z, hz⟩ := hZ (b + i) (by omega) (by omega)
    rw [hz] at hi
    cases hi
    rfl
  have t0 : ∀ x ∈ (L.drop a).take (b - a), x.2 = true := fun x hx => by
    obtain ⟨i, hi⟩ := List.getElem?_of_mem hx
    have li := (List.getElem?_eq_some_iff.mp hi).1
    rw [List.length_take, List.length_drop] at li
    rw [List.getElem?_take_of_lt (by omega), List.getElem?_drop] at hi
    obtain ⟨z, hz⟩ := hT (a + i) (by omega) (by omega)
    rw [hz] at hi
    cases hi
    rfl
  refine ⟨fun h => ?_, fun h => ?_, fun z y h hz hy => ?_⟩
  · obtain ⟨z, hz⟩ := hZ (c - 1) (by omega) (by omega)
    refine .inr ⟨L.take (c - 1), z, ?_⟩
    have := List.take_add_one (l := L) (i := c - 1)
    rw [show c - 1 + 1 = c by omega, hz] at this
    exact this
  · rw [e2, ← h, rns_app _ hE]
    subst h
    rw [rns_false z0, List.append_nil]
  · rw [e2, e1, List.append_assoc, rns_app _ hE, rns_run t0 z0]
    · rw [List.head?_eq_getElem?, List.getElem?_take_of_lt (by omega), List.getElem?_drop]
      exact hz
    · rw [List.getLast?_eq_getElem?, List.length_take, List.length_drop, Nat.min_eq_left (by omega), List.getElem?_take_of_lt (by omega), List.getElem?_drop, show a + (b - a - 1) = b - 1 by omega]
      exact hy
def fg (p : List Int) (w : Nat) (s : Sc) (i : Nat) : Bool := msO (w : Int) (farO (p ++ (rd s).take i) ((rd s).getD i 0))
/-- the flags of a scan -/
theorem fl_at {p : List Int} {w : Nat} {s : Sc} {i : Nat} (h : (i : Int) < slen s) : (fl p (w : Int) (rd s))[i]? = some (adr s (i : Int), fg p w s i) := by
  have sp := slen_pos s
  have g := rd_get (s := s) (i := i) (by omega)
  rw [fl_get _ p w g]
  unfold fg
  rw [List.getD_eq_getElem?_getD, g]
  unfold adr
  rfl
/-- found so far, behind k of the hits -/
structure Mst (p : List Int) (w : Nat) (s : Sc) (hs : List (Int × Int)) (k pc : Nat) (R : List Sc) : Prop where
  le : (pc : Int) ≤ slen s
  eq : R = rns ((fl p (w : Int) (rd s)).take pc)
  en : EndF ((fl p (w : Int) (rd s)).take pc)
  past : ∀ h ∈ hs.take k, h.1 + h.2 ≤ (pc : Int)
  nxt : ∀ h ∈ hs.drop k, (pc : Int) ≤ h.1
theorem Mst.nil {p : List Int} {w : Nat} {s : Sc} {hs : List (Int × Int)} (h : Hts (fg p w s) (slen s) hs) : Mst p w s hs 0 0 [] := ⟨by have := slen_pos s; omega, rfl, .inl rfl, (fun x m => by cases m), fun x m => (h.bd x m).1⟩
theorem Mst.miss {p : List Int} {w : Nat} {s : Sc} {hs : List (Int × Int)} (H : Hts (fg p w s) (slen s) hs) {k pc : Nat} {R : List Sc} (M : Mst p w s hs k pc R) {b : Int} (hb : b ≤ slen s) (nx : ∀ h ∈ hs.drop k, b ≤ h.1) : ∀ i : Nat, pc ≤ i → (i : Int) < b → ∃ z, (fl p (w : Int) (rd s))[i]? = some (z, true) := fun i h1 h2 => by
  refine ⟨adr s (i : Int), ?_⟩
  rw [fl_at (by omega)]
  cases e : fg p w s i with
  | true => rfl
  | false =>
    obtain ⟨h, hh, h3, h4⟩ := (H.at_ i (by omega)).mp e
    rw [← List.take_append_drop k hs] at hh
    rcases List.mem_append.mp hh with m | m
    · have := M.past h m
      omega
    · have := nx h m
      omega
theorem Mst.step {p : List Int} {w : Nat} {s : Sc} {hs : List (Int × Int)} (H : Hts (fg p w s) (slen s) hs) {k pc : Nat} {R : List Sc} (M : Mst p w s hs k pc R) {h : Int × Int} (hk : hs[k]? = some h) :
    (pc : Int) ≤ h.1 ∧ 0 ≤ h.1 + h.2 ∧ Mst p w s hs (k + 1) (h.1 + h.2).toNat (R ++ if (pc : Int) < h.1 then [(adr s (pc : Int), adr s (h.1 - 1))] else []) := by
  have hm := List.mem_of_getElem? hk
  obtain ⟨b1, b2, b3⟩ := H.bd h hm
  have lk := (List.getElem?_eq_some_iff.mp hk).1
  have dk : hs.drop k = h :: hs.drop (k + 1) := by
    rw [List.drop_eq_getElem_cons lk, (List.getElem?_eq_some_iff.mp hk).2]
  have p1 := M.nxt h (by rw [dk]; exact List.mem_cons_self)
  have asc : ∀ x ∈ hs.drop (k + 1), h.1 + h.2 ≤ x.1 := fun x hx => by
    have a := H.asc
    rw [← List.take_append_drop k hs, dk] at a
    exact (List.pairwise_cons.mp (List.pairwise_append.mp a).2.1).1 x hx
  have ll : ((fl p (w : Int) (rd s)).length : Int) = slen s := by
    rw [fl_len, rd_len]
    have := slen_pos s
    omega
  have nx : ∀ x ∈ hs.drop k, h.1 ≤ x.1 := fun x hx => by
    rw [dk] at hx
    rcases List.mem_cons.mp hx with e | hx
    · rw [e]
      exact Int.le_refl _
    · have := asc x hx
      omega
  obtain ⟨s1, s2, s3⟩ := rns_step (L := fl p (w : Int) (rd s)) (a := pc) (b := h.1.toNat) (c := (h.1 + h.2).toNat) (by omega) (by omega) (by omega) M.en
    (fun i i1 i2 => M.miss H (b := h.1) (by omega) nx i i1 (by omega))
    (fun i i1 i2 => ⟨adr s (i : Int), by rw [fl_at (by omega), (H.at_ i (by omega)).mpr ⟨h, hm, by omega, by omega⟩]⟩)
  refine ⟨p1, by omega, by omega, ?_, s1 (by omega), fun x hx => ?_, fun x hx => ?_⟩
  · by_cases c : (pc : Int) < h.1
    · obtain ⟨z, hz⟩ := M.miss H (b := h.1) (by omega) nx pc (Nat.le_refl _) c
      obtain ⟨y, hy⟩ := M.miss H (b := h.1) (by omega) nx (h.1.toNat - 1) (by omega) (by omega)
      have ez := fl_at (p := p) (w := w) (s := s) (i := pc) (by omega)
      have ey := fl_at (p := p) (w := w) (s := s) (i := h.1.toNat - 1) (by omega)
      rw [hz] at ez
      rw [hy] at ey
      have ez : z = adr s (pc : Int) := congrArg Prod.fst (Option.some.inj ez)
      have ey : y = adr s ((h.1.toNat - 1 : Nat) : Int) := congrArg Prod.fst (Option.some.inj ey)
      subst ez
      subst ey
      rw [if_pos c, s3 _ _ (by omega) hz hy, M.eq, show ((h.1.toNat - 1 : Nat) : Int) = h.1 - 1 by omega]
    · rw [if_neg c, List.append_nil, s2 (by omega), M.eq]
  · rw [List.take_add_one, hk] at hx
    rcases List.mem_append.mp hx with hx | hx
    · have := M.past x hx
      omega
    · cases List.mem_singleton.mp hx
      omega
  · have := asc x hx
    omega
theorem Its.scs {H : Hp} : ∀ {us : List V} {ss : List Sc}, Paired (IsSc H) us ss → Its H (scsPg ss) us
  | _, _, .nil => rfl
  | _, _, .cons h t => ⟨_, _, rfl, h, Its.scs t⟩
theorem IsPg.scs {H : Hp} {t : Addr} {us : List V} {ss : List Sc} (h : H t = some (.tup us)) (p : Paired (IsSc H) us ss) : IsPg H (.ref t) (scsPg ss) := ⟨t, us, rfl, h, Its.scs p⟩
/-! ### promises -/
/-- what a cache of w addresses keeps behind some accesses -/
def Kpt (H : Hp) (a : Addr) (p : List Int) (w : Nat) : Prop := ∃ ls, Scs H a ls ∧ ls.Pairwise Apart ∧ rdL ls = (lstF p).take w ∧ ls.length ≤ 1000
theorem Kpt.mono {H H' : Hp} (e : Ex H H') {a : Addr} {p : List Int} {w : Nat} (h : Kpt H a p w) : Kpt H' a p w := by
  obtain ⟨ls, h1, h2, h3, h4⟩ := h
  exact ⟨ls, h1.mono e, h2, h3, h4⟩
end Kb
namespace Kb
open PySem PySem.Spec PyProof.Rows L2 TL
/-! ### what is kept behind some accesses more -/
/-! ### the program of the accesses that miss: its numbers -/
/-! ### promises of the recursion -/
theorem Kpt.none {H : Hp} {a : Addr} {w : Nat} (h : H a = some (.lst [])) : Kpt H a [] w := ⟨[], ⟨[], h, .nil⟩, .nil, by show ([] : List Int) = List.take w []; rw [List.take_nil], Nat.zero_le _⟩
end Kb
namespace Kb
open PySem PySem.Spec PyProof.Rows L2 TL
/-! ### the law's words of what misses -/
theorem erase_at {x : Int} : ∀ {l : List Int} {j : Nat}, l.Nodup → l[j]? = some x → l.eraseIdx j = l.filter fun z => !decide (z = x)
  | [], j, _, h => by cases h
  | y :: l, 0, nd, h => by
    cases h
    have n := (List.nodup_cons.mp nd).1
    show l = (x :: l).filter _
    rw [List.filter_cons_of_neg (by simp)]
    refine (List.filter_eq_self.mpr fun z hz => ?_).symm
    have : z ≠ x := fun e => n (e ▸ hz)
    simp [this]
  | y :: l, j + 1, nd, h => by
    have n := List.nodup_cons.mp nd
    have h : l[j]? = some x := h
    have ne : y ≠ x := fun e => n.1 (e ▸ List.mem_of_getElem? h)
    show y :: l.eraseIdx j = (y :: l).filter _
    rw [erase_at n.2 h, List.filter_cons_of_pos (by simp [ne])]
theorem rep_scs (g : Pg) (n : Int) : (g.rep n).scs.length ≤ g.scs.length := by
  unfold Pg.rep
  split
  · exact Nat.zero_le _
  · split
    · exact Nat.le_refl _
    · show (g.scs ++ Pg.nil.scs).length ≤ _
      rw [show Pg.nil.scs = [] from rfl, List.append_nil]
      exact Nat.le_refl _
end Kb
namespace Kb
open PySem PySem.Spec PyProof.Rows L2 TL
/-! ### what misses, of repeats of great numbers of times: its length by the rounds that differ -/
def Pg.wt : Pg → Int
  | .nil => 0
  | .sc s r => slen s + r.wt
  | .rp _ b r => 2 * b.wt + r.wt
end Kb
namespace Kb
open PySem PySem.Spec PyProof.Rows L2 TL
/-! ### rounds: how often each distance occurs in each round from the second one on -/
/-! ### backwards -/
/-! ### what such rounds miss -/
/-! ### distances and numbers are not great where there are few addresses -/
/-! ### a profile by what it tells -/
structure PfS (C : Addr) (H : Hp) (x : Addr) (c : Int) (f : Int → Int) (N m : Nat) : Prop where
  ex : ∃ rs, Pf C H x c rs ∧ (∀ d, atP rs d = f d) ∧ Sz m rs ∧ rs.length ≤ N
theorem PfS.nx {C : Addr} {H H' : Hp} {x : Addr} {c : Int} {f : Int → Int} {N m : Nat} (e : Nx H H') (h : PfS C H x c f N m) : PfS C H' x c f N m := by
  obtain ⟨rs, h1, h2⟩ := h.ex
  exact ⟨rs, h1.nx e, h2⟩
theorem PfS.mono {C : Addr} {H H' : Hp} {x : Addr} {c : Int} {f : Int → Int} {N m : Nat} (e : Ex H H') (h : PfS C H x c f N m) : PfS C H' x c f N m := h.nx e.nx
theorem PfS.eq {C : Addr} {H : Hp} {x y : Addr} {c c' : Int} {f g : Int → Int} {N N' m m' : Nat} (a : PfS C H x c f N m) (b : PfS C H y c' g N' m') (hc : c = c') (h : ∀ d, f d = g d) : ∃ rs, Pf C H x c rs ∧ Pf C H y c' rs ∧ ∀ d, atP rs d = f d := by
  obtain ⟨r1, p1, a1, _⟩ := a.ex
  obtain ⟨r2, p2, a2, _⟩ := b.ex
  have : r1 = r2 := Can.unique p1.can p2.can fun d => by rw [a1, a2, h]
  subst this
  exact ⟨r1, p1, p2, a1⟩
theorem Df.imp {P : Program} {w : World} {K : PySem.W.Frag} {mg : Str → Option Value} {base : Heap} {x : Str} {k : Nat} {ps : List Str} {sp sp' : Sp} (D : Df P w K mg base x k ps sp) (h : ∀ vs H Q E, sp' vs H Q E → sp vs H Q E) : Df P w K mg base x k ps sp' := by
  obtain ⟨f, fd, h1, h2, h3, h4⟩ := D.ex
  exact ⟨f, fd, h1, h2, h3, ⟨fun vs H Q E z => h4.len vs H Q E (h vs H Q E z), fun A outer s H args us vs Q E a b c d z => h4.run A outer s H args us vs Q E a b c d (h vs H Q E z)⟩⟩
/-- the profile of a program: how often each distance occurs, what each size misses -/
def spProfX (Cp D : Addr) : Sp := fun vs H Q _ => ∃ (x : Addr) (g : Pg), vs = [.ref x] ∧ PgAt Cp H x g ∧ Lim g ∧ ∀ q H' rs, Ex H H' → Pf D H' q ((lstR g.rd).length : Int) rs → (∀ d, atP rs d = DH g.rd d) → (∀ s, ((lstR g.rd).length : Int) + bey rs s = mss g.rd s) → Q (.ref q) H'
end Kb
namespace Kb
open PySem PySem.Spec PyProof.Rows L2 TL
/-! ### what a program reads backwards -/
theorem back_ok {B : Int} : ∀ {g : Pg}, g.Ok B → g.back.Ok B
  | .nil, _ => trivial
  | .sc s r, h => (back_ok h.2).app ⟨⟨h.1.2.2.1, h.1.2.2.2, h.1.1, h.1.2.1⟩, trivial⟩
  | .rp n b r, h => (back_ok h.2.2.2.2).app ⟨h.1, h.2.1, Pg.back_ne h.2.2.1, back_ok h.2.2.2.1, trivial⟩
theorem rep_dep {g : Pg} {n : Int} : (g.rep n).dep ≤ g.dep + 1 := Pg.rep_dep g n
/-- limits, by numbers -/
theorem Lim.by {g : Pg} {d m : Nat} (ok : g.Ok (10 ^ 30)) (hd : g.dep ≤ d) (hm : g.scs.length ≤ m) (d5 : d ≤ 5) (m40 : m ≤ 40) : Lim g := ⟨ok, by omega, by omega⟩
/-! ### own operators, by what is told -/
end Kb
namespace Kb
open PySem PySem.Spec PyProof.Rows L2 StX TL
def topS (i : Nat) : Stmt := PySem.Challenge.pw_scanmisses_k37_one_stack_of_caches.main.body.getD i (.Pass ⟨0, 0, 0, 0⟩)
abbrev sread_digits : Stmt := topS 53
theorem scread_digits : FnScope ["word", "most"] ["word", "most"] (defScope sread_digits) := ⟨rfl, rfl, rfl, by decide +kernel, rfl, by decide +kernel, by decide +kernel⟩
abbrev sread_number : Stmt := topS 54
theorem scread_number : FnScope ["word", "number"] ["word"] (defScope sread_number) := ⟨rfl, rfl, rfl, by decide +kernel, rfl, by decide +kernel, by decide +kernel⟩
abbrev sread_scan : Stmt := topS 55
theorem scread_scan : FnScope ["word", "start", "dash", "stop", "first", "last"] ["word"] (defScope sread_scan) := ⟨rfl, rfl, rfl, by decide +kernel, rfl, by decide +kernel, by decide +kernel⟩
abbrev sread_times : Stmt := topS 56
theorem scread_times : FnScope ["word", "times"] ["word"] (defScope sread_times) := ⟨rfl, rfl, rfl, by decide +kernel, rfl, by decide +kernel, by decide +kernel⟩
abbrev sread_text : Stmt := topS 57
theorem scread_text : FnScope ["text", "words", "bodies", "many", "index", "word", "times", "body", "scan"] ["text"] (defScope sread_text) := ⟨rfl, rfl, rfl, by decide +kernel, rfl, by decide +kernel, by decide +kernel⟩
abbrev sProgram___init__ : Stmt := inClass (topS 62) 0
theorem scProgram___init__ : FnScope ["self", "text"] ["self", "text"] (defScope sProgram___init__) := ⟨rfl, rfl, rfl, by decide +kernel, rfl, by decide +kernel, by decide +kernel⟩
abbrev sProgram___eq__ : Stmt := inClass (topS 62) 7
theorem scProgram___eq__ : FnScope ["self", "other"] ["self", "other"] (defScope sProgram___eq__) := ⟨rfl, rfl, rfl, by decide +kernel, rfl, by decide +kernel, by decide +kernel⟩
abbrev scheck_program : Stmt := topS 63
theorem sccheck_program : FnScope ["program"] ["program"] (defScope scheck_program) := ⟨rfl, rfl, rfl, by decide +kernel, rfl, by decide +kernel, by decide +kernel⟩
abbrev sis_repeat : Stmt := topS 10
theorem scis_repeat : FnScope ["part"] ["part"] (defScope sis_repeat) := ⟨rfl, rfl, rfl, by decide +kernel, rfl, by decide +kernel, by decide +kernel⟩
abbrev splaced_scans : Stmt := topS 21
theorem scplaced_scans : FnScope ["scans", "rows", "place", "first", "last"] ["scans"] (defScope splaced_scans) := ⟨rfl, rfl, rfl, by decide +kernel, rfl, by decide +kernel, by decide +kernel⟩
abbrev sstart_of : Stmt := topS 22
theorem scstart_of : FnScope ["row", "low", "high", "least", "greatest", "place", "upwards"] ["row", "low", "high"] (defScope sstart_of) := ⟨rfl, rfl, rfl, by decide +kernel, rfl, by decide +kernel, by decide +kernel⟩
abbrev sshared_intervals : Stmt := topS 23
theorem scshared_intervals : FnScope ["lasts", "firsts", "found", "left", "right", "at", "by", "one", "two", "low", "high"] ["lasts", "firsts"] (defScope sshared_intervals) := ⟨rfl, rfl, rfl, by decide +kernel, rfl, by decide +kernel, by decide +kernel⟩
abbrev sstraight_rows : Stmt := topS 24
theorem scstraight_rows : FnScope ["lasts", "firsts", "shared", "rows", "in_lasts", "in_firsts", "length", "one_direction", "in_both", "distance", "row"] ["lasts", "firsts"] (defScope sstraight_rows) := ⟨rfl, rfl, rfl, by decide +kernel, rfl, by decide +kernel, by decide +kernel⟩
abbrev sstraight_pieces : Stmt := topS 25
theorem scstraight_pieces : FnScope ["lasts", "firsts", "pieces", "_", "length", "distance", "growing"] ["lasts", "firsts"] (defScope sstraight_pieces) := ⟨rfl, rfl, rfl, by decide +kernel, rfl, by decide +kernel, by decide +kernel⟩
abbrev sfirst_reaching : Stmt := topS 3
theorem scfirst_reaching : FnScope ["spans", "address", "low", "high", "middle"] ["spans", "address"] (defScope sfirst_reaching) := ⟨rfl, rfl, rfl, by decide +kernel, rfl, by decide +kernel, by decide +kernel⟩
abbrev sscan_outside : Stmt := topS 4
theorem scscan_outside : FnScope ["scan", "spans", "least", "greatest", "left", "start", "at", "low", "high"] ["scan", "spans"] (defScope sscan_outside) := ⟨rfl, rfl, rfl, by decide +kernel, rfl, by decide +kernel, by decide +kernel⟩
abbrev sothers_of : Stmt := topS 5
theorem scothers_of : FnScope ["scans", "taken", "spans", "scan", "part"] ["scans", "taken"] (defScope sothers_of) := ⟨rfl, rfl, rfl, by decide +kernel, rfl, by decide +kernel, by decide +kernel⟩
abbrev sjoined : Stmt := topS 8
theorem scjoined : FnScope ["scans", "rows", "first", "last"] ["scans"] (defScope sjoined) := ⟨rfl, rfl, rfl, by decide +kernel, rfl, by decide +kernel, by decide +kernel⟩
abbrev sput_ahead : Stmt := topS 7
theorem scput_ahead : FnScope ["scans", "others"] ["scans", "others"] (defScope sput_ahead) := ⟨rfl, rfl, rfl, by decide +kernel, rfl, by decide +kernel, by decide +kernel⟩
abbrev sthree_behind : Stmt := topS 69
theorem scthree_behind : FnScope ["one", "two", "pieces"] ["one", "two"] (defScope sthree_behind) := ⟨rfl, rfl, rfl, by decide +kernel, rfl, by decide +kernel, by decide +kernel⟩
abbrev smultiplied : Stmt := topS 17
theorem scmultiplied : FnScope ["pieces", "times", "low", "high", "many"] ["pieces", "times"] (defScope smultiplied) := ⟨rfl, rfl, rfl, by decide +kernel, rfl, by decide +kernel, by decide +kernel⟩
abbrev sthree_times : Stmt := topS 70
theorem scthree_times : FnScope ["three", "times", "firsts", "lasts", "pieces", "again"] ["three", "times"] (defScope sthree_times) := ⟨rfl, rfl, rfl, by decide +kernel, rfl, by decide +kernel, by decide +kernel⟩
abbrev sthree_of : Stmt := topS 71
theorem scthree_of : FnScope ["parts", "three", "part", "following"] ["parts"] (defScope sthree_of) := ⟨rfl, rfl, rfl, by decide +kernel, rfl, by decide +kernel, by decide +kernel⟩
abbrev sis_integer : Stmt := topS 38
theorem scis_integer : FnScope ["value"] ["value"] (defScope sis_integer) := ⟨rfl, rfl, rfl, by decide +kernel, rfl, by decide +kernel, by decide +kernel⟩
abbrev sis_from_zero : Stmt := topS 39
theorem scis_from_zero : FnScope ["value"] ["value"] (defScope sis_from_zero) := ⟨rfl, rfl, rfl, by decide +kernel, rfl, by decide +kernel, by decide +kernel⟩
abbrev sis_piece : Stmt := topS 40
theorem scis_piece : FnScope ["value", "low", "high", "times", "number"] ["value"] (defScope sis_piece) := ⟨rfl, rfl, rfl, by decide +kernel, rfl, by decide +kernel, by decide +kernel⟩
abbrev sare_pieces : Stmt := topS 41
theorem scare_pieces : FnScope ["value", "one", "two", "piece"] ["value"] (defScope sare_pieces) := ⟨rfl, rfl, rfl, by decide +kernel, rfl, by decide +kernel, by decide +kernel⟩
abbrev scheck_distances : Stmt := topS 46
theorem sccheck_distances : FnScope ["cold", "pieces"] ["cold", "pieces"] (defScope scheck_distances) := ⟨rfl, rfl, rfl, by decide +kernel, rfl, by decide +kernel, by decide +kernel⟩
abbrev sflattened : Stmt := topS 16
theorem scflattened : FnScope ["pieces", "changes", "low", "high", "times", "turns", "rows", "now", "start", "following", "distance"] ["pieces"] (defScope sflattened) := ⟨rfl, rfl, rfl, by decide +kernel, rfl, by decide +kernel, by decide +kernel⟩
abbrev sProfile___init__ : Stmt := inClass (topS 66) 0
theorem scProfile___init__ : FnScope ["self", "cold", "pieces"] ["self", "cold", "pieces"] (defScope sProfile___init__) := ⟨rfl, rfl, rfl, by decide +kernel, rfl, by decide +kernel, by decide +kernel⟩
abbrev sSummary___init__ : Stmt := inClass (topS 73) 0
theorem scSummary___init__ : FnScope ["self", "firsts", "lasts", "profile"] ["self", "firsts", "lasts", "profile"] (defScope sSummary___init__) := ⟨rfl, rfl, rfl, by decide +kernel, rfl, by decide +kernel, by decide +kernel⟩
abbrev sscan_length : Stmt := topS 2
theorem scscan_length : FnScope ["scan"] ["scan"] (defScope sscan_length) := ⟨rfl, rfl, rfl, by decide +kernel, rfl, by decide +kernel, by decide +kernel⟩
abbrev scount_all : Stmt := topS 6
theorem sccount_all : FnScope ["scans", "scan"] ["scans"] (defScope scount_all) := ⟨rfl, rfl, rfl, by decide +kernel, rfl, by decide +kernel, by decide +kernel⟩
abbrev ssummary_from : Stmt := topS 78
theorem scsummary_from : FnScope ["three", "firsts", "lasts", "pieces"] ["three"] (defScope ssummary_from) := ⟨rfl, rfl, rfl, by decide +kernel, rfl, by decide +kernel, by decide +kernel⟩
abbrev ssummary_of : Stmt := topS 74
theorem scsummary_of : FnScope ["program"] ["program"] (defScope ssummary_of) := ⟨rfl, rfl, rfl, by decide +kernel, rfl, by decide +kernel, by decide +kernel⟩
abbrev sprofile_of : Stmt := topS 75
theorem scprofile_of : FnScope ["program"] ["program"] (defScope sprofile_of) := ⟨rfl, rfl, rfl, by decide +kernel, rfl, by decide +kernel, by decide +kernel⟩
abbrev scheck_size : Stmt := topS 42
theorem sccheck_size : FnScope ["size"] ["size"] (defScope scheck_size) := ⟨rfl, rfl, rfl, by decide +kernel, rfl, by decide +kernel, by decide +kernel⟩
abbrev scount_beyond : Stmt := topS 18
theorem sccount_beyond : FnScope ["pieces", "size", "low", "high", "times"] ["pieces", "size"] (defScope scount_beyond) := ⟨rfl, rfl, rfl, by decide +kernel, rfl, by decide +kernel, by decide +kernel⟩
abbrev sProfile___call__ : Stmt := inClass (topS 66) 4
theorem scProfile___call__ : FnScope ["self", "size"] ["self", "size"] (defScope sProfile___call__) := ⟨rfl, rfl, rfl, by decide +kernel, rfl, by decide +kernel, by decide +kernel⟩
abbrev s_law_kettle : Stmt := topS 82
theorem sc_law_kettle : FnScope ["script", "k", "cell"] ["script", "k"] (defScope s_law_kettle) := ⟨rfl, rfl, rfl, by decide +kernel, rfl, by decide +kernel, by decide +kernel⟩
abbrev s_law_scoop : Stmt := topS 83
theorem sc_law_scoop : FnScope ["kettle", "many", "found", "mixed"] ["kettle", "many"] (defScope s_law_scoop) := ⟨rfl, rfl, rfl, by decide +kernel, rfl, by decide +kernel, by decide +kernel⟩
abbrev s_law_scans : Stmt := topS 84
theorem sc_law_scans : FnScope ["nodes", "found", "node"] ["nodes"] (defScope s_law_scans) := ⟨rfl, rfl, rfl, by decide +kernel, rfl, by decide +kernel, by decide +kernel⟩
abbrev s_law_nodes : Stmt := topS 85
theorem sc_law_nodes : FnScope ["kettle", "most", "deep", "wide", "high", "found", "left", "part", "one", "other", "way"] ["kettle", "most", "deep", "wide", "high"] (defScope s_law_nodes) := ⟨rfl, rfl, rfl, by decide +kernel, rfl, by decide +kernel, by decide +kernel⟩
abbrev s_law_length : Stmt := topS 86
theorem sc_law_length : FnScope ["nodes", "found", "node"] ["nodes"] (defScope s_law_length) := ⟨rfl, rfl, rfl, by decide +kernel, rfl, by decide +kernel, by decide +kernel⟩
abbrev s_law_small : Stmt := topS 87
theorem sc_law_small : FnScope ["kettle", "most", "deep", "wide", "limit", "found"] ["kettle", "most", "deep", "wide", "limit"] (defScope s_law_small) := ⟨rfl, rfl, rfl, by decide +kernel, rfl, by decide +kernel, by decide +kernel⟩
abbrev s_law_words : Stmt := topS 88
theorem sc_law_words : FnScope ["nodes", "found", "node"] ["nodes"] (defScope s_law_words) := ⟨rfl, rfl, rfl, by decide +kernel, rfl, by decide +kernel, by decide +kernel⟩
abbrev s_law_made : Stmt := topS 89
theorem sc_law_made : FnScope ["nodes"] ["nodes"] (defScope s_law_made) := ⟨rfl, rfl, rfl, by decide +kernel, rfl, by decide +kernel, by decide +kernel⟩
abbrev s_law_reads : Stmt := topS 90
theorem sc_law_reads : FnScope ["nodes", "found", "node", "step", "spot"] ["nodes"] (defScope s_law_reads) := ⟨rfl, rfl, rfl, by decide +kernel, rfl, by decide +kernel, by decide +kernel⟩
section
variable {P : Program} {w : World} {K : PySem.W.Frag} {mg : Str → Option Value} {base : Heap}
def wv : Pg := .rp (10 ^ 30) wv0 .nil
theorem Pcs.cat {H : Hp} {a c : Addr} {ps qs : List Pc} {Q : VK} (h : Pcs H a ps) (k : Pcs H c qs) (l : ps.length + qs.length ≤ 2 ^ 20) (q : ∀ p H', H p = none → Ex H H' → Pcs H' p (ps ++ qs) → Q (.ref p) H') : rCat (V.ref a) (V.ref c) H Q := by
  obtain ⟨us, h1, h2⟩ := h
  obtain ⟨vs, k1, k2⟩ := k
  have l1 := Pr.len h2
  have l2 := Pr.len k2
  refine ⟨a, c, us, vs, rfl, rfl, h1, k1, size64' (by omega), fun p np => ?_⟩
  have z := Ex.new (o := .lst (us ++ vs)) np
  exact q p _ np z ⟨_, upd_same, Pr.app (PaP.mono z h2) (PaP.mono z k2)⟩
theorem cut_neg (vs : List V) (h : 1 ≤ vs.length) : cutV vs none (some (-1)) = vs.take (vs.length - 1) := by
  unfold cutV
  rw [HT.sIx_none, show HT.sIx vs.length vs.length (some (-1)) = vs.length - 1 from by
    show (if (-1 : Int) < 0 then ((-1 : Int) + (vs.length : Int)).toNat else min (-1 : Int).toNat vs.length) = _
    rw [if_pos (by decide)]
    omega]
  rfl
theorem Val.add {ps : List Pc} {p : Pc} (V : Val ps) (l : ps.length ≤ 300) (h : ∀ q ∈ ps, q.2.1 < p.1) (k : Pok p) (b1 : p.2.1 ≤ 10 ^ 200) (b2 : p.2.2 ≤ 10 ^ 200) : Val (ps ++ [p]) := by
  refine ⟨fun q hq => ?_, List.pairwise_append.mpr ⟨V.asc, List.pairwise_singleton .., fun x hx y hy => ?_⟩, by rw [List.length_append, List.length_singleton]; omega⟩
  · rcases List.mem_append.mp hq with hq | hq
    · exact V.bd q hq
    · rw [List.mem_singleton.mp hq]
      exact ⟨k, b1, b2⟩
  · rw [List.mem_singleton.mp hy]
    exact h x hx
/-- one piece in another one's place -/
theorem PaP.at_ {H : Hp} {a : Addr} {us us' : List V} (ha : H a = some (.lst us)) {vs : List V} {ps : List Pc} (h : PaP H vs ps) : PaP (upd H a (.lst us')) vs ps := PaP.lset ha h
theorem Drawn.val {wd : Int} {ps : List Pc} (D : Drawn wd ps) (few : ps.length ≤ 6) (w3 : 3 ≤ wd) (w1 : wd ≤ 10 ^ 30) : Val ps := by
  have g : (10 : Int) ^ 30 * 18 ≤ 10 ^ 200 := by decide +kernel
  have g2 : (10 : Int) ^ 30 ≤ 10 ^ 200 := by decide +kernel
  refine ⟨fun p hp => ?_, D.asc, by omega⟩
  obtain ⟨a, b, c, d⟩ := D.ok p hp
  have : wd * (3 * (ps.length : Int)) ≤ 10 ^ 30 * 18 := Int.mul_le_mul w1 (by omega) (by omega) (by decide)
  exact ⟨a, by omega, by omega⟩
theorem Bodies.back {ss : List Sc} {l : List Int} (B : Bodies ss l) : Bodies (ss.reverse.take 2) l := by
  have one := B.one
  refine ⟨?_, ?_, fun s hs => B.ok s (List.mem_reverse.mp (List.mem_of_mem_take hs)), fun s hs => B.inl s (List.mem_reverse.mp (List.mem_of_mem_take hs)), B.few⟩
  · rw [List.length_take, List.length_reverse]
    omega
  · rw [List.length_take]
    omega
theorem ok_rdD (B : Bt2 mg) {f : Addr} {fd : FuncData} (F : Fun K "read_digits" "read_digits" sread_digits f fd) : FnOk P w K mg base CX0 1 f fd ["word", "most"] spRdD := by
  refine F.ok scread_digits (fun vs H Q E h => ?_) (fun cdv A outer s H vs Q E hr h => ?_)
  · obtain ⟨i, m, rfl, _⟩ := h
    rfl
  · obtain ⟨i, m, rfl, h0, h1, hm, q⟩ := h
    refine ⟨_, (pss_cons (ps_if (pw_or (pt_cmpR op_gt (pe_callB call_len_str (by rfl) B.len bo_len (pa_cons (pv 0) pa_nil)) (pv 1) (nomark _)) (pw_or (pt_not (pt_val (pe_m0 PySem.F.slot_str_isascii PySem.F.type_str_isascii mt_isascii (pv 0)))) (pw_or1 (pt_not (pt_val (pe_m0 PySem.F.slot_str_isdigit PySem.F.type_str_isdigit mt_isdigit (pv 0))))))).pt (pss_one (ps_ret pe_non)) pss_nil)
      (pss_cons (ps_if (pw_and (pt_val (pe_m1 PySem.F.slot_str_startswith PySem.F.type_str_startswith mt_startswith (pv 0) pe_str)) (pw_and1 (pt_cmpR op_ne (pv 0) pe_str (nomark _)))).pt (pss_one (ps_ret pe_non)) pss_nil)
      (pss_one (ps_ret (pe_callTy call_int_str (by rfl) B.int bo_int (pa_cons (pv 0) pa_nil)))))), ?_⟩
    have l6 := nw_len h0 (k := 600) (by decide) h1
    refine ⟨.str (nw i), rfl, nw i, rfl, Nat.le_trans l6 (by decide), .int m, rfl, _, _, rfl, rfl, _, rfl, ?_⟩
    rw [decide_eq_false (show ¬ ((nw i).length : Int) > m by omega)]
    refine iteF ⟨.str (nw i), rfl, ⟨_, rfl⟩, nw i, rfl, rfl, trivial, true, congrArg V.bl (nw_ascii h0), iteF ?_⟩
    refine ⟨.str (nw i), rfl, ⟨_, rfl⟩, nw i, rfl, rfl, trivial, true, congrArg V.bl (nw_isdigit h0), iteF ?_⟩
    have z48 : (Str.ofString "0") = (⟨#[48]⟩ : Str) := by decide +kernel
    have sw : Txt.startswith (nw i) (Str.ofString "0") = decide (i = 0) := by
      rw [z48, starts1]
      exact decide_eq_decide.mpr (nw_zero h0)
    refine ⟨.str (nw i), rfl, ⟨_, rfl⟩, nw i, _, rfl, rfl, decide (i = 0), congrArg V.bl sw, ?_⟩
    by_cases c : i = 0
    · subst c
      rw [decide_eq_true rfl]
      refine iteT ⟨_, rfl, rfl, _, rfl, ?_⟩
      rw [show nw 0 = Str.ofString "0" from rfl, decide_eq_true rfl]
      exact iteF ⟨_, rfl, _, 0, rfl, nw_int h0 h1, by decide, q.go (Ex.refl _)⟩
    · rw [decide_eq_false c]
      exact iteF ⟨_, rfl, nw i, i, rfl, nw_int h0 h1, by omega, q.go (Ex.refl _)⟩
theorem ok_rdN (B : Bt2 mg) (hMD : ∃ u, mg "MOST_DIGITS" = some u ∧ RelV (.int 31) u) (hGR : ∃ u, mg "GREATEST" = some u ∧ RelV (.int (10 ^ 30)) u) (Dread_digits : Df P w K mg base "read_digits" 1 ["word", "most"] spRdD) {f : Addr} {fd : FuncData} (F : Fun K "read_number" "read_number" sread_number f fd) : FnOk P w K mg base CX0 2 f fd ["word"] spRdN := by
  obtain ⟨uMD, hMOST_DIGITS, rMOST_DIGITS⟩ := hMD
  obtain ⟨uGR, hGREATEST, rGREATEST⟩ := hGR
  refine F.ok scread_number (fun vs H Q E h => ?_) (fun cdv A outer s H vs Q E hr h => ?_)
  · obtain ⟨i, rfl, _⟩ := h
    rfl
  · obtain ⟨i, rfl, h0, h1, q⟩ := h
    refine ⟨_, (pss_cons (ps_set (i := 1) scread_number.nd rfl (by first | exact Or.inl rfl | exact Or.inr rfl) (pe_df Dread_digits hr (pa_cons (pv 0) (pa_cons (pe_glob (v := .int (31)) (by rfl) hMOST_DIGITS rMOST_DIGITS) pa_nil))))
      (pss_one (ps_ret (pe_ifExp (pw_or (pt_cmpR op_isN (pv 1) pe_non (nomark _)) (pw_or1 (pt_cmpR op_gt (pv 1) (pe_glob (v := .int (10 ^ 30)) (by rfl) hGREATEST rGREATEST) (nomark _)))).pt pe_non (pv 1))))), ?_⟩
    have l := nw_len h0 (k := 31) (by decide) (by omega)
    refine ⟨.str (nw i), rfl, i, 31, rfl, h0, Int.lt_of_le_of_lt h1 (by decide +kernel), by omega, fun H1 e1 => ?_⟩
    refine ⟨.int i, rfl, rfl, _, rfl, iteF ⟨.int i, rfl, _, _, rfl, rfl, _, rfl, ?_⟩⟩
    rw [decide_eq_false (show ¬ i > 10 ^ 30 by omega)]
    exact iteF ⟨.int i, rfl, q.go e1⟩
theorem ok_rdS (B : Bt2 mg) (Dread_number : Df P w K mg base "read_number" 2 ["word"] spRdN) {f : Addr} {fd : FuncData} (F : Fun K "read_scan" "read_scan" sread_scan f fd) : FnOk P w K mg base CX0 3 f fd ["word"] spRdS := by
  refine F.ok scread_scan (fun vs H Q E h => ?_) (fun cdv A outer s H vs Q E hr h => ?_)
  · obtain ⟨s, rfl, _⟩ := h
    rfl
  · obtain ⟨⟨x, y⟩, rfl, ok, q⟩ := h
    have ok' : 0 ≤ x ∧ x ≤ 10 ^ 30 ∧ 0 ≤ y ∧ y ≤ 10 ^ 30 := ok
    obtain ⟨x0, x1, y0, y1⟩ := ok'
    refine ⟨_, (pss_cons (ps_asg (pe_partition (pv 0) pe_str) (pg_tup rfl (pgs_cons (pg_name (i := 1) scread_scan.nd rfl (by first | exact Or.inl rfl | exact Or.inr rfl)) (pgs_cons (pg_name (i := 2) scread_scan.nd rfl (by first | exact Or.inl rfl | exact Or.inr rfl)) (pgs_cons (pg_name (i := 3) scread_scan.nd rfl (by first | exact Or.inl rfl | exact Or.inr rfl)) pgs_nil)))))
      (pss_cons (ps_set (i := 4) scread_scan.nd rfl (by first | exact Or.inl rfl | exact Or.inr rfl) (pe_df Dread_number hr (pa_cons (pv 1) pa_nil)))
      (pss_cons (ps_if (pt_cmpR op_eq (pv 2) pe_str (nomark _)) (pss_one (ps_ret (pe_ifExp (pt_cmpR op_isN (pv 4) pe_non (nomark _)) pe_non (pe_tup (pa_cons (pv 4) (pa_cons (pv 4) pa_nil)))))) pss_nil)
      (pss_cons (ps_set (i := 5) scread_scan.nd rfl (by first | exact Or.inl rfl | exact Or.inr rfl) (pe_df Dread_number hr (pa_cons (pv 3) pa_nil)))
      (pss_cons (ps_if (pw_or (pt_cmpR op_isN (pv 4) pe_non (nomark _)) (pw_or (pt_cmpR op_isN (pv 5) pe_non (nomark _)) (pw_or1 (pt_cmpR op_eq (pv 4) (pv 5) (nomark _))))).pt (pss_one (ps_ret pe_non)) pss_nil)
      (pss_one (ps_ret (pe_tup (pa_cons (pv 4) (pa_cons (pv 5) pa_nil)))))))))), ?_⟩
    have pt := scw_part ok
    have lw := (wd_len (t := .sc (x, y)) (B := 10 ^ 30) ok (k := 31) (by decide) (by decide +kernel)).2
    have lw : (scw (x, y)).length ≤ 63 := lw
    refine ⟨.str (scw (x, y)), rfl, ⟨_, rfl⟩, scw (x, y), dash, rfl, rfl, by decide +kernel, Nat.le_trans lw (by decide), fun t nt => ?_⟩
    rw [pt]
    have et := fun o => Ex.new (H := H) (p := t) (o := o) nt
    by_cases c : x = y
    · subst c
      rw [if_pos rfl]
      refine ⟨t, _, rfl, SqT.of upd_same, rfl, _, _, rfl, _, _, rfl, _, _, rfl, rfl, ?_⟩
      refine ⟨_, rfl, x, rfl, x0, x1, fun H1 e1 => ?_⟩
      refine ⟨_, rfl, rfl, _, rfl, ?_⟩
      refine iteT ⟨.int x, rfl, rfl, _, rfl, iteF ⟨.int x, rfl, .int x, rfl, by show 2 ≤ sizeLine; decide, fun r nr => ?_⟩⟩
      exact q r _ (((et _).trans e1).back nr) (((et _).trans e1).add nr) upd_same
    · rw [if_neg c]
      refine ⟨t, _, rfl, SqT.of upd_same, rfl, _, _, rfl, _, _, rfl, _, _, rfl, rfl, ?_⟩
      refine ⟨_, rfl, x, rfl, x0, x1, fun H1 e1 => ?_⟩
      refine ⟨_, rfl, rfl, _, rfl, ?_⟩
      refine iteF ⟨_, rfl, y, rfl, y0, y1, fun H2 e2 => ?_⟩
      refine ⟨.int x, rfl, rfl, _, rfl, iteF ⟨.int y, rfl, rfl, _, rfl, iteF ⟨.int x, rfl, .int y, rfl, rfl, _, rfl, ?_⟩⟩⟩
      rw [decide_eq_false (show ¬ V.int x = V.int y from fun e => c (by cases e; rfl))]
      refine iteF ⟨.int x, rfl, .int y, rfl, by show 2 ≤ sizeLine; decide, fun r nr => ?_⟩
      exact q r _ ((((et _).trans e1).trans e2).back nr) ((((et _).trans e1).trans e2).add nr) upd_same
theorem ok_rdT (B : Bt2 mg) (Dread_number : Df P w K mg base "read_number" 2 ["word"] spRdN) {f : Addr} {fd : FuncData} (F : Fun K "read_times" "read_times" sread_times f fd) : FnOk P w K mg base CX0 3 f fd ["word"] spRdT := by
  refine F.ok scread_times (fun vs H Q E h => ?_) (fun cdv A outer s H vs Q E hr h => ?_)
  · obtain ⟨n, rfl, _⟩ := h
    rfl
  · obtain ⟨n, rfl, h0, h1, q⟩ := h
    refine ⟨_, (pss_cons (ps_set (i := 1) scread_times.nd rfl (by first | exact Or.inl rfl | exact Or.inr rfl) (pe_df Dread_number hr (pa_cons (pe_slice sl_str (pv 0) (po_some pe_int) po_none) pa_nil)))
      (pss_one (ps_ret (pe_ifExp (pw_or (pt_cmpR op_isN (pv 1) pe_non (nomark _)) (pw_or1 (pt_cmpR op_lt (pv 1) pe_int (nomark _)))).pt pe_non (pv 1))))), ?_⟩
    have lw := (wd_len (t := .cl n) (B := 10 ^ 30) ⟨h0, h1⟩ (k := 31) (by decide) (by decide +kernel)).2
    have lw : (clW ++ nw n).length ≤ 63 := lw
    refine ⟨.str (clW ++ nw n), rfl, 1, rfl, clW ++ nw n, rfl, Nat.le_trans lw (by decide), ?_⟩
    rw [cut_cl]
    refine ⟨n, rfl, by omega, h1, fun H1 e1 => ?_⟩
    refine ⟨.int n, rfl, rfl, _, rfl, iteF ⟨.int n, rfl, _, _, rfl, rfl, _, rfl, ?_⟩⟩
    rw [decide_eq_false (show ¬ n < 2 by omega)]
    exact iteF ⟨.int n, rfl, q.go e1⟩
theorem ok_read (B : Bt2 mg) (hMS : ∃ u, mg "MOST_SCANS" = some u ∧ RelV (.int 40) u) (hMB : ∃ u, mg "MOST_BRACKETS" = some u ∧ RelV (.int 5) u) (Dread_scan : Df P w K mg base "read_scan" 3 ["word"] spRdS) (Dread_times : Df P w K mg base "read_times" 3 ["word"] spRdT) {f : Addr} {fd : FuncData} (F : Fun K "read_text" "read_text" sread_text f fd) : FnOk P w K mg base CX0 4 f fd ["text"] spRead := by
  obtain ⟨uMS, hMOST_SCANS, rMOST_SCANS⟩ := hMS
  obtain ⟨uMB, hMOST_BRACKETS, rMOST_BRACKETS⟩ := hMB
  refine F.ok scread_text (fun vs H Q E h => ?_) (fun cdv A outer s H vs Q E hr h => ?_)
  · obtain ⟨g, rfl, _⟩ := h
    rfl
  · obtain ⟨g, rfl, lim, q⟩ := h
    refine ⟨_, (pss_cons (ps_if (pt_not (pt_val (pe_callB call_isi (by rfl) B.isinstance bo_isinstance (pa_cons (pv 0) (pa_cons (pe_bltn (v := .ty "str") (by rfl) B.str bo_str rfl) pa_nil))))) (pss_one ps_never) pss_nil)
      (pss_cons (ps_set (i := 1) scread_text.nd rfl (by first | exact Or.inl rfl | exact Or.inr rfl) (pe_ifExp (pt_truth (pv 0) (by intro _; rfl)) (pe_split (pv 0) pe_str) (pe_lst pa_nil)))
      (pss_cons (ps_set (i := 2) scread_text.nd rfl (by first | exact Or.inl rfl | exact Or.inr rfl) (pe_lst (pa_cons (pe_tup pa_nil) pa_nil)))
      (pss_cons (ps_set (i := 3) scread_text.nd rfl (by first | exact Or.inl rfl | exact Or.inr rfl) pe_int)
      (pss_cons (ps_for PassesOwn.never rfl (pi_enum (by rfl) B.enumerate (pa_cons (pv 1) pa_nil)) (pg_tup rfl (pgs_cons (pg_name (i := 4) scread_text.nd rfl (by first | exact Or.inl rfl | exact Or.inr rfl)) (pgs_cons (pg_name (i := 5) scread_text.nd rfl (by first | exact Or.inl rfl | exact Or.inr rfl)) pgs_nil))) (pss_one (ps_if (pt_cmpR op_eq (pv 5) pe_str (nomark _)) (pss_cons (ps_if (pt_cmpR op_gt (pe_callB call_len_seq (by rfl) B.len bo_len (pa_cons (pv 2) pa_nil)) (pe_glob (v := .int (5)) (by rfl) hMOST_BRACKETS rMOST_BRACKETS) (nomark _)) (pss_one ps_never) pss_nil)
      (pss_one (ps_expr (pe_bm PySem.F.plainAttrs_list PySem.F.slot_list_append PySem.F.type_list_append mt_append (pv 2) (pa_cons (pe_tup pa_nil) pa_nil))))) (pss_one (ps_if (pt_val (pe_m1 PySem.F.slot_str_startswith PySem.F.type_str_startswith mt_startswith (pv 5) pe_str)) (pss_cons (ps_set (i := 6) scread_text.nd rfl (by first | exact Or.inl rfl | exact Or.inr rfl) (pe_df Dread_times hr (pa_cons (pv 5) pa_nil)))
      (pss_cons (ps_if (pw_or (pt_cmpR op_isN (pv 6) pe_non (nomark _)) (pw_or (pt_cmpR op_eq (pe_callB call_len_seq (by rfl) B.len bo_len (pa_cons (pv 2) pa_nil)) pe_int (nomark _)) (pw_or1 (pt_cmpR (op_eqD hr.units) (pe_ix ix_list (pv 2) (pe_un un_neg pe_int) (fun _ _ => rfl)) (pe_tup pa_nil) (nomark _))))).pt (pss_one ps_never) pss_nil)
      (pss_cons (ps_set (i := 7) scread_text.nd rfl (by first | exact Or.inl rfl | exact Or.inr rfl) (pe_bm0 PySem.F.plainAttrs_list PySem.F.slot_list_pop PySem.F.type_list_pop mt_pop (pv 2)))
      (pss_one (ps_asg (pe_op op_catA (pe_ix ix_list (pv 2) (pe_un un_neg pe_int) (fun _ _ => rfl)) (pe_tup (pa_cons (pe_tup (pa_cons (pv 6) (pa_cons (pv 7) pa_nil))) pa_nil))) (pg_sub (pv 2) (pe_un un_neg pe_int) set_list)))))) (pss_cons (ps_set (i := 8) scread_text.nd rfl (by first | exact Or.inl rfl | exact Or.inr rfl) (pe_df Dread_scan hr (pa_cons (pv 5) pa_nil)))
      (pss_cons (ps_aug (i := 3) scread_text.nd rfl (by first | exact Or.inl rfl | exact Or.inr rfl) pe_int ip_add)
      (pss_cons (ps_if (pw_or (pt_cmpR op_isN (pv 8) pe_non (nomark _)) (pw_or1 (pt_cmpR op_gt (pv 3) (pe_glob (v := .int (40)) (by rfl) hMOST_SCANS rMOST_SCANS) (nomark _)))).pt (pss_one ps_never) pss_nil)
      (pss_one (ps_asg (pe_op op_catA (pe_ix ix_list (pv 2) (pe_un un_neg pe_int) (fun _ _ => rfl)) (pe_tup (pa_cons (pv 8) pa_nil))) (pg_sub (pv 2) (pe_un un_neg pe_int) set_list)))))))))))
      (pss_cons (ps_if (pt_cmpR op_gt (pe_callB call_len_seq (by rfl) B.len bo_len (pa_cons (pv 2) pa_nil)) pe_int (nomark _)) (pss_one ps_never) pss_nil)
      (pss_one (ps_ret (pe_ix ix_list (pv 2) pe_int (fun _ _ => rfl)))))))))), ?_⟩
    have lt := lim.txt
    have ltk := lim.toks
    refine ⟨.str (txt g), rfl, .str (txt g), .ty "str", _, _, true, rfl, .ty _, .base (.str _), kit_ty (by decide +kernel), true, rfl, iteF ?_⟩
    by_cases gn : g = .nil
    case' pos =>
      subst gn
      refine ⟨_, rfl, false, ⟨Nat.zero_le _, rfl⟩, iteF ⟨Nat.zero_le _, fun pw npw => ?_⟩⟩
      have hW : (upd H pw (.lst ([] : List V))) pw = some (.lst (Pg.nil.wl.map V.str)) := upd_same
      have eW : Ex H (upd H pw (.lst ([] : List V))) := Ex.new npw
      generalize Pg.nil = g at *
      generalize upd H pw (.lst ([] : List V)) = H0 at hW eW ⊢
    case' neg =>
      have ne := txt_pos lim.ok gn
      have lne : true = (((txt g).length : Int) != 0) := by
        symm
        rw [bne_iff_ne]
        intro z
        refine ne (ext_tl ?_)
        show tl (txt g) = []
        exact List.eq_nil_of_length_eq_zero (by rw [← len_tl]; omega)
      refine ⟨.str (txt g), rfl, true, ⟨Nat.le_trans lt (by decide), lne⟩, iteT ⟨.str (txt g), rfl, ⟨_, rfl⟩, txt g, spW, rfl, rfl, by decide +kernel, by rw [sizeLine_eq]; omega, fun pw npw => ?_⟩⟩
      rw [txt_split lim.ok gn]
      have hW : (upd H pw (.lst (g.wl.map V.str))) pw = some (.lst (g.wl.map V.str)) := upd_same
      have eW : Ex H (upd H pw (.lst (g.wl.map V.str))) := Ex.new npw
      generalize upd H pw (.lst (g.wl.map V.str)) = H0 at hW eW ⊢
    all_goals
      refine ⟨by show 0 ≤ sizeLine; decide, fun t0 nt0 => ⟨by show 1 ≤ sizeLine; decide, fun p np => ?_⟩⟩
      have x1 := Ex.new (o := .tup ([] : List V)) nt0
      have x2 := Ex.new (o := .lst [V.ref t0]) np
      have np0 : H p = none := eW.back (x1.back np)
      have npW : H0 p = none := x1.back np
      have hB : Bod (upd (upd H0 t0 (.tup [])) p (.lst [V.ref t0])) p [.nil] := ⟨[.ref t0], upd_same, .cons ⟨t0, [], rfl, x2 _ _ upd_same, rfl⟩ .nil⟩
      have e01 : Ex H0 (upd (upd H0 t0 (.tup [])) p (.lst [V.ref t0])) := x1.trans x2
      generalize upd (upd H0 t0 (.tup [])) p (.lst [V.ref t0]) = H1 at hB e01 ⊢
      have whole := run_toks (D := 6) (M := 40) g .nil [] 0 lim.ok (by have := lim.dep; simp; omega) (by have := lim.few; omega)
      refine ⟨.ref pw, rfl, pw, _, rfl, SqL.of (e01 _ _ hW), ?_⟩
      refine for_enum (xs := g.wl.map V.str) (fun i σ H2 => ∃ st m y4 y5 y6 y7 y8, σ = [some (.str (txt g)), some (.ref pw), some (.ref p), some (.int (m : Nat)), y4, y5, y6, y7, y8] ∧ Ex H0 H2 ∧ run 6 40 (g.toks.take i) ([.nil], 0) = some (st, m) ∧ Bod H2 p st ∧ Dp0 6 st ∧ lens st ≤ i ∧ (∀ x ∈ st, x.Ok (10 ^ 30)) ∧ scss st ≤ m)
        ⟨[.nil], 0, _, _, _, _, _, rfl, e01, rfl, hB, ⟨by decide, trivial⟩, Nat.le_refl _, fun x hx => by rw [List.mem_singleton.mp hx]; trivial, Nat.le_refl _⟩ (fun i σ H2 _ z => ?_) (fun i x T σ H2 hx nT z => ?_) (fun σ H2 z => ?_)
      · obtain ⟨_, _, _, _, _, _, _, _, e2, _⟩ := z
        exact SqL.of (e2 _ _ hW)
      · obtain ⟨st, m0, y4, y5, y6, y7, y8, rfl, e2, hrun, hBod, hD, hL, hOk, hSm⟩ := z
        rw [Pg.wl, List.map_map, List.getElem?_map] at hx
        obtain ⟨tk, gtk, rfl⟩ := Option.map_eq_some_iff.mp hx
        obtain ⟨⟨v1, v2⟩, hs', hrun'⟩ := run_at whole gtk hrun
        have li : i < 440 := Nat.lt_of_lt_of_le (List.getElem?_eq_some_iff.mp gtk).1 ltk
        have tok := toks_ok lim.ok tk (List.mem_of_getElem? gtk)
        obtain ⟨hD', hL', hOk', hSm', _⟩ := step_inv hs' tok hD hOk hSm
        have eT := Ex.new (o := .tup [V.int (i : Nat), (V.str ∘ Tk.wd) tk]) nT
        refine ⟨T, _, rfl, SqT.of upd_same, rfl, _, _, rfl, _, _, rfl, rfl, ?_⟩
        have hBod3 := hBod.mono eT
        have e23 := e2.trans eT
        generalize upd H2 T (.tup [V.int (i : Nat), (V.str ∘ Tk.wd) tk]) = H3 at hBod3 e23 ⊢
        obtain ⟨us, hus, pus⟩ := hBod3
        have lus := Pp.len pus
        cases tk with
        | op =>
          obtain ⟨l5, e⟩ := step_op hs'
          cases e
          refine ⟨_, rfl, rfl, _, rfl, ?_⟩
          rw [decide_eq_true (show (V.str ∘ Tk.wd) Tk.op = V.str (Str.ofString "(") from rfl)]
          refine iteT ?_
          refine ⟨.ref p, rfl, p, _, rfl, .inl (SqL.of hus), _, _, rfl, rfl, _, rfl, ?_⟩
          rw [decide_eq_false (show ¬ ((us.reverse.length : Nat) : Int) > 5 by rw [List.length_reverse]; omega)]
          refine iteF ⟨.ref p, rfl, .inl ⟨rfl, _, .inl (.inl hus)⟩, by show 0 ≤ sizeLine; decide, fun t1 nt1 => ?_⟩
          have y1 := Ex.new (o := .tup ([] : List V)) nt1
          refine ⟨p, us.reverse, .ref t1, rfl, rfl, y1 _ _ hus, small20 (by rw [List.length_reverse]; omega), ?_⟩
          refine ⟨_, m0, _, _, _, _, _, rfl, (e23.trans y1).mut npW, hrun', ⟨.ref t1 :: us, ?_, ?_⟩, hD', by omega, hOk', hSm'⟩
          · rw [upd_same, List.reverse_cons]
          · have k := Kp.lst (o := .lst (us.reverse ++ [V.ref t1])) (y1 _ _ hus)
            exact .cons ⟨t1, [], rfl, k _ _ upd_same, rfl⟩ (Pp.kp (y1.kp.trans k) pus)
        | cl n =>
          obtain ⟨b, c, r, rfl, bn, e⟩ := step_cl hs'
          cases e
          have tok : 2 ≤ n ∧ n ≤ 10 ^ 30 := tok
          cases pus with
          | @cons vb _ us1 _ ib pus =>
          cases pus with
          | @cons vc _ ur _ ic pur =>
          rw [List.reverse_cons] at hus
          refine ⟨_, rfl, rfl, _, rfl, ?_⟩
          rw [decide_eq_false (show ¬ (V.str ∘ Tk.wd) (Tk.cl n) = V.str (Str.ofString "(") from fun e => cl_ne_op n (V.str.inj e))]
          refine iteF ⟨_, rfl, ⟨_, rfl⟩, clW ++ nw n, clW, rfl, rfl, true, congrArg V.bl (cl_starts n), iteT ?_⟩
          refine ⟨_, rfl, n, rfl, tok.1, tok.2, fun H4 e4 => ?_⟩
          have hus4 := e4 _ _ hus
          refine ⟨.int n, rfl, rfl, _, rfl, iteF ⟨.ref p, rfl, p, _, rfl, .inl (SqL.of hus4), rfl, _, rfl, ?_⟩⟩
          rw [decide_eq_false (show ¬ V.int ((((vc :: ur).reverse ++ [vb]).length : Nat) : Int) = V.int 1 from fun e => by
            have e := V.int.inj e
            rw [List.length_append, List.length_reverse, List.length_cons, List.length_singleton] at e
            omega)]
          refine iteF ⟨.ref p, rfl, 1, rfl, p, _, -1, vb, rfl, rfl, SqL.of hus4, atI_last _ _, by show 0 ≤ sizeLine; decide, fun t1 nt1 => ?_⟩
          have y1 := Ex.new (o := .tup ([] : List V)) nt1
          have db : b.dep ≤ 30 := by have := hD.1; omega
          refine ⟨pdP b, pdP .nil, ((ib.mono e4).mono y1).dp, .tup (SqT.of upd_same) .nil, shaped_Pg db, rfl, _, rfl, ?_⟩
          rw [eqv_Pg, decide_eq_false bn]
          refine iteF ?_
          have hus5 := y1 _ _ hus4
          have e35 := e4.trans y1
          generalize upd H4 t1 (.tup ([] : List V)) = H5 at hus5 e35 ⊢
          refine ⟨.ref p, rfl, .inl ⟨rfl, _, .inl (.inl hus5)⟩, p, _, vb, rfl, rfl, hus5, ?_, ?_⟩
          · rw [List.length_append, List.length_singleton, Nat.add_sub_cancel, List.getElem?_append_right (Nat.le_refl _), Nat.sub_self]
            rfl
          rw [List.dropLast_concat, List.reverse_cons]
          have k6 : Kp H5 (upd H5 p (.lst (ur.reverse ++ [vc]))) := Kp.lst hus5
          have e06 : Ex H0 (upd H5 p (.lst (ur.reverse ++ [vc]))) := (e23.trans e35).mut npW
          have hp6 : (upd H5 p (.lst (ur.reverse ++ [vc]))) p = some (.lst (ur.reverse ++ [vc])) := upd_same
          have ib6 := (ib.mono e35).kp k6
          have ic6 := (ic.mono e35).kp k6
          have pur6 := Pp.kp (e35.kp.trans k6) pur
          generalize upd H5 p (.lst (ur.reverse ++ [vc])) = H6 at e06 hp6 ib6 ic6 pur6 ⊢
          have fin : ∀ v4 H7, Ex H6 H7 → IsPg H7 v4 (c.app (.rp n b .nil)) → ∃ st m y4 y5 y6 y7 y8', [some (V.str (txt g)), some (.ref pw), some (.ref p), some (.int (m0 : Nat)), some (.int (i : Nat)), some (.str (clW ++ nw n)), some (.int n), some vb, y8] = [some (V.str (txt g)), some (.ref pw), some (.ref p), some (.int (m : Nat)), y4, y5, y6, y7, y8'] ∧
              Ex H0 (upd H7 p (.lst (ur.reverse ++ [v4]))) ∧ run 6 40 (g.toks.take (i + 1)) ([.nil], 0) = some (st, m) ∧ Bod (upd H7 p (.lst (ur.reverse ++ [v4]))) p st ∧ Dp0 6 st ∧ lens st ≤ i + 1 ∧ (∀ x ∈ st, x.Ok (10 ^ 30)) ∧ scss st ≤ m := fun v4 H7 e7 i7 => by
            refine ⟨_, _, _, _, _, _, _, rfl, (e06.trans e7).mut npW, hrun', ⟨v4 :: ur, ?_, ?_⟩, hD', by omega, hOk', hSm'⟩
            · rw [upd_same, List.reverse_cons]
            · have k := Kp.lst (o := .lst (ur.reverse ++ [v4])) (e7 _ _ hp6)
              exact .cons (i7.kp k) (Pp.kp (e7.kp.trans k) pur6)
          obtain ⟨tc, cs, rfl, htc, hIc⟩ := ic6
          refine ⟨.ref p, rfl, 1, rfl, p, _, -1, .ref tc, rfl, rfl, SqL.of hp6, atI_last _ _, .int n, rfl, vb, rfl, by show 2 ≤ sizeLine; decide, fun t2 nt2 => ⟨by show 1 ≤ sizeLine; decide, fun t3 nt3 => ?_⟩⟩
          have z2 := Ex.new (o := .tup [V.int n, vb]) nt2
          have z3 := Ex.new (o := .tup [V.ref t2]) nt3
          have z23 := z2.trans z3
          obtain ⟨tb, bs, rfl, htb, hIb⟩ := ib6
          have iNew : Its (upd (upd H6 t2 (.tup [V.int n, V.ref tb])) t3 (.tup [V.ref t2])) (.rp n b .nil) [.ref t2] := ⟨t2, tb, bs, [], rfl, z3 _ _ upd_same, z23 _ _ htb, hIb.kp z23.kp, rfl⟩
          have lcs := hIc.len
          refine ⟨tc, t3, cs, [.ref t2], rfl, rfl, SqT.of (z23 _ _ htc), SqT.of upd_same, ?_, fun cn => ?_, fun _ h => (by cases h), fun cn _ t4 nt4 => ?_⟩
          · have : b.len + (c.len + lens r) ≤ i := hL
            rw [List.length_singleton]
            exact Nat.le_of_lt (small20 (by omega))
          · have cn' : c = .nil := Pg.len_zero (by rw [← lcs, cn]; rfl)
            refine ⟨.ref p, rfl, 1, rfl, p, _, _, _, rfl, rfl, z23 _ _ hp6, ix_last _ _, ?_⟩
            rw [set_last]
            exact fin _ _ z23 ⟨t3, _, rfl, upd_same, by rw [cn']; exact iNew⟩
          · have z4 := Ex.new (o := .tup (cs ++ [V.ref t2])) nt4
            refine ⟨.ref p, rfl, 1, rfl, p, _, _, _, rfl, rfl, z4 _ _ (z23 _ _ hp6), ix_last _ _, ?_⟩
            rw [set_last]
            exact fin _ _ (z23.trans z4) ⟨t4, _, rfl, upd_same, (hIc.kp (z23.trans z4).kp).app (iNew.kp z4.kp)⟩
        | sc s1 =>
          obtain ⟨b, r, rfl, m40, e⟩ := step_sc hs'
          cases e
          have tok : SOk (10 ^ 30) s1 := tok
          cases pus with
          | @cons vb _ ur _ ib pur =>
          rw [List.reverse_cons] at hus
          refine ⟨_, rfl, rfl, _, rfl, ?_⟩
          rw [decide_eq_false (show ¬ (V.str ∘ Tk.wd) (Tk.sc s1) = V.str (Str.ofString "(") from fun e => sc_ne_op tok (V.str.inj e))]
          refine iteF ⟨_, rfl, ⟨_, rfl⟩, scw s1, clW, rfl, rfl, false, congrArg V.bl (sc_starts tok), iteF ?_⟩
          refine ⟨_, rfl, s1, rfl, tok, fun t1 H4 nt1 e4 ht1 => ?_⟩
          have hus4 := e4 _ _ hus
          refine ⟨_, rfl, _, _, rfl, rfl, ?_⟩
          refine ⟨.ref t1, rfl, rfl, _, rfl, iteF ⟨_, rfl, _, _, rfl, rfl, _, rfl, ?_⟩⟩
          rw [decide_eq_false (show ¬ (m0 : Int) + 1 > 40 by omega)]
          refine iteF ?_
          have fin : ∀ v4 H7, Ex H4 H7 → IsPg H7 v4 (b.app (.sc s1 .nil)) → ∃ st m q4 q5 q6 q7 q8, [some (V.str (txt g)), some (.ref pw), some (.ref p), some (.int ((m0 : Int) + 1)), some (.int (i : Nat)), some (.str (scw s1)), y6, y7, some (.ref t1)] = [some (V.str (txt g)), some (.ref pw), some (.ref p), some (.int (m : Nat)), q4, q5, q6, q7, q8] ∧
              Ex H0 (upd H7 p (.lst (ur.reverse ++ [v4]))) ∧ run 6 40 (g.toks.take (i + 1)) ([.nil], 0) = some (st, m) ∧ Bod (upd H7 p (.lst (ur.reverse ++ [v4]))) p st ∧ Dp0 6 st ∧ lens st ≤ i + 1 ∧ (∀ x ∈ st, x.Ok (10 ^ 30)) ∧ scss st ≤ m := fun v4 H7 e7 i7 => by
            refine ⟨_, _, _, _, _, _, _, rfl, ((e23.trans e4).trans e7).mut npW, hrun', ⟨v4 :: ur, ?_, ?_⟩, hD', by omega, hOk', hSm'⟩
            · rw [upd_same, List.reverse_cons]
            · have k := Kp.lst (o := .lst (ur.reverse ++ [v4])) (e7 _ _ hus4)
              exact .cons (i7.kp k) (Pp.kp ((e4.trans e7).kp.trans k) pur)
          obtain ⟨tb, bs, rfl, htb, hIb⟩ := ib.mono e4
          refine ⟨.ref p, rfl, 1, rfl, p, _, -1, .ref tb, rfl, rfl, SqL.of hus4, atI_last _ _, .ref t1, rfl, by show 1 ≤ sizeLine; decide, fun t3 nt3 => ?_⟩
          have z3 := Ex.new (o := .tup [V.ref t1]) nt3
          have iNew : Its (upd H4 t3 (.tup [V.ref t1])) (.sc s1 .nil) [.ref t1] := ⟨.ref t1, [], rfl, ⟨t1, rfl, z3 _ _ ht1⟩, rfl⟩
          have lbs := hIb.len
          have hL1 : b.len + lens r ≤ i := hL
          refine ⟨tb, t3, bs, [.ref t1], rfl, rfl, SqT.of (z3 _ _ htb), SqT.of upd_same, ?_, fun cn => ?_, fun _ h => (by cases h), fun cn _ t4 nt4 => ?_⟩
          · rw [List.length_singleton]
            exact Nat.le_of_lt (small20 (by omega))
          · have cn' : b = .nil := Pg.len_zero (by rw [← lbs, cn]; rfl)
            refine ⟨.ref p, rfl, 1, rfl, p, _, _, _, rfl, rfl, z3 _ _ hus4, ix_last _ _, ?_⟩
            rw [set_last]
            exact fin _ _ z3 ⟨t3, _, rfl, upd_same, by rw [cn']; exact iNew⟩
          · have z4 := Ex.new (o := .tup (bs ++ [V.ref t1])) nt4
            refine ⟨.ref p, rfl, 1, rfl, p, _, _, _, rfl, rfl, z4 _ _ (z3 _ _ hus4), ix_last _ _, ?_⟩
            rw [set_last]
            exact fin _ _ (z3.trans z4) ⟨t4, _, rfl, upd_same, (hIb.kp (z3.trans z4).kp).app (iNew.kp z4.kp)⟩
      · obtain ⟨st, m0, y4, y5, y6, y7, y8, rfl, e2, hrun, hBod, hD, hL, hOk, hSm⟩ := z
        rw [show (g.wl.map V.str).length = g.toks.length by rw [List.length_map, wl_len], List.take_length, whole] at hrun
        cases hrun
        obtain ⟨us, hus, pus⟩ := hBod
        cases pus with
        | @cons vb _ us1 _ ib pus =>
        cases pus
        refine ⟨.ref p, rfl, p, _, rfl, .inl (SqL.of hus), _, _, rfl, rfl, _, rfl, ?_⟩
        rw [decide_eq_false (show ¬ (((([vb] : List V).reverse).length : Nat) : Int) > 1 from (by decide : ¬ ((1 : Nat) : Int) > 1))]
        exact iteF ⟨.ref p, rfl, p, _, 0, vb, rfl, rfl, SqL.of hus, rfl, q vb H2 (eW.trans e2) ib⟩
theorem ok_initPg {C : Addr} (T : Tpg K C) (Dread_text : Df P w K mg base "read_text" 4 ["text"] spRead) {f : Addr} {fd : FuncData} (F : Fun K "__init__" "Program.__init__" sProgram___init__ f fd) : FnOk P w K mg base CX0 5 f fd ["self", "text"] (spInitPg C) := by
  refine F.ok scProgram___init__ (fun vs H Q E h => ?_) (fun cdv A outer s H vs Q E hr h => ?_)
  · obtain ⟨x, dx, g, rfl, _⟩ := h
    rfl
  · obtain ⟨x, dx, g, rfl, hx, lim, q⟩ := h
    refine ⟨_, (pss_one (ps_fld (pv 0) (pe_df Dread_text hr (pa_cons (pv 1) pa_nil)) rfl)), ?_⟩
    refine ⟨_, rfl, g, rfl, lim, fun v H1 e1 i1 => ?_⟩
    have hx1 := e1 _ _ hx
    refine ⟨.ref x, rfl, x, C, dx, [], rfl, hx1, T.cl, T.nP, (by show 0 < 1000; decide), ?_⟩
    rw [pgF_put]
    have k : Kp H1 (upd H1 x (.ins C dx (pgF v))) := fun a xs e => by
      rw [upd_ne (ne_of e hx1 (by intro z; cases z))]
      exact e
    refine q _ (fun b o nb hb => ?_) ⟨dx, v, upd_same, i1.kp k⟩
    rw [upd_ne nb]
    exact e1 _ _ hb
theorem ok_eqPg {C : Addr} (B : Bt2 mg) (T : Tpg K C) (O : Pof K C) (hP : mg "Program" = some (.ref C)) {f : Addr} {fd : FuncData} (F : Fun K "__eq__" "Program.__eq__" sProgram___eq__ f fd) : FnOk P w K mg base CX0 1 f fd ["self", "other"] (spEqPg K C) := by
  refine F.ok scProgram___eq__ (fun vs H Q E h => ?_) (fun cdv A outer s H vs Q E hr h => ?_)
  · obtain ⟨x, g, y, rfl, _⟩ := h
    rfl
  · obtain ⟨x, g, y, rfl, ⟨dx, t, hx, hg⟩, dg, h⟩ := h
    refine ⟨_, (pss_one (ps_ret (pe_and (pe_callB call_isi (by rfl) B.isinstance bo_isinstance (pa_cons (pv 1) (pa_cons (pe_glob (v := .ref C) (by rfl) hP rfl) pa_nil))) (pe_one (pe_cmpR (op_eqD hr.units) (pe_fld (pv 0) rfl) (pe_fld (pv 1) rfl) (nomark _)))))), ?_⟩
    rcases h with ⟨z, h, rfl, ⟨dz, u, hz, hh⟩, dh, q⟩ | ⟨t, ty, ni, oth, q⟩
    · refine ⟨.ref z, rfl, .ref z, .ref C, _, _, true, rfl, .own C, .base (.ins hz O.cl O.ha O.hn O.htk O.hm), O.me, true, rfl, iteT ?_⟩
      refine ⟨.ref x, rfl, x, C, dx, _, _, rfl, hx, T.cl, T.nP, pgF_get _, .ref z, rfl, z, C, dz, _, _, rfl, hz, T.cl, T.nP, pgF_get _, pdP g, pdP h, hg.dp, hh.dp, shaped_Pg dg, shaped_Pg dh, ?_⟩
      rw [eqv_Pg]
      exact q.go (Ex.refl _)
    · exact ⟨y, rfl, y, .ref C, _, _, false, rfl, .own C, ty.tyx ni, oth.1, false, rfl, iteF (q.go (Ex.refl _))⟩
theorem ok_check_program {C : Addr} (B : Bt mg) (O : Pof K C) (hP : mg "Program" = some (.ref C)) {f : Addr} {fd : FuncData} (F : Fun K "check_program" "check_program" scheck_program f fd) : FnOk P w K mg base CX0 1 f fd ["program"] (spCheckProf C) := by
  refine F.ok sccheck_program (fun vs H Q E h => ?_) (fun cdv A outer s H vs Q E hr h => ?_)
  · obtain ⟨z, dz, fs, rfl, _⟩ := h
    rfl
  · obtain ⟨z, dz, fs, rfl, hz, q⟩ := h
    refine ⟨_, (pss_one (ps_if (pt_not (pt_val (pe_callB call_isi (by rfl) B.isinstance bo_isinstance (pa_cons (pv 0) (pa_cons (pe_glob (v := .ref C) (by rfl) hP rfl) pa_nil))))) (pss_one ps_never) pss_nil)), ?_⟩
    exact ⟨.ref z, rfl, .ref z, .ref C, _, _, true, rfl, .own C, .base (.ins hz O.cl O.ha O.hn O.htk O.hm), O.me, true, rfl, iteF (q.go (Ex.refl _))⟩
theorem ok_is_repeat (B : Bt2 mg) {f : Addr} {fd : FuncData} (F : Fun K "is_repeat" "is_repeat" sis_repeat f fd) : FnOk P w K mg base CX0 1 f fd ["part"] spIsRep := by
  refine F.ok scis_repeat (fun vs H Q E h => ?_) (fun cdv A outer s H vs Q E hr h => ?_)
  · obtain ⟨v, rfl, _⟩ := h
    rfl
  · obtain ⟨v, rfl, h⟩ := h
    refine ⟨_, (pss_one (ps_ret (pe_callB call_isi (by rfl) B.isinstance bo_isinstance (pa_cons (pe_ix ix_tup (pv 0) pe_int (fun _ _ => rfl)) (pa_cons (pe_bltn (v := .ty "tuple") (by rfl) B.tuple bo_tuple rfl) pa_nil))))), ?_⟩
    rcases h with ⟨s, ⟨t, rfl, ht⟩, q⟩ | ⟨t, n, u, bs, rfl, ht, hu, q⟩
    · exact ⟨.ref t, rfl, t, _, 1, _, rfl, rfl, SqT.of ht, rfl, .int s.2, .ty "tuple", _, _, false, rfl, .ty _, .base (.int _), kit_ty (by decide +kernel), q.go (Ex.refl _)⟩
    · exact ⟨.ref t, rfl, t, _, 1, _, rfl, rfl, SqT.of ht, rfl, .ref u, .ty "tuple", _, _, true, rfl, .ty _, .base (.tup hu), kit_ty (by decide +kernel), q.go (Ex.refl _)⟩
theorem ok_placed (B : Bt mg) {f : Addr} {fd : FuncData} (F : Fun K "placed_scans" "placed_scans" splaced_scans f fd) : FnOk P w K mg base CX0 1 f fd ["scans"] spPlaced := by
  refine F.ok scplaced_scans (fun vs H Q E h => ?_) (fun cdv A outer s H vs Q E hr h => ?_)
  · obtain ⟨a, ss, rfl, _⟩ := h
    rfl
  · obtain ⟨a, ss, rfl, ⟨vs, ha, pa⟩, few, q⟩ := h
    refine ⟨_, (pss_cons (ps_set (i := 1) scplaced_scans.nd rfl (by first | exact Or.inl rfl | exact Or.inr rfl) (pe_lst pa_nil))
      (pss_cons (ps_set (i := 2) scplaced_scans.nd rfl (by first | exact Or.inl rfl | exact Or.inr rfl) pe_int)
      (pss_cons (ps_for PassesOwn.never rfl (pi_list (pv 0)) (pg_tup rfl (pgs_cons (pg_name (i := 3) scplaced_scans.nd rfl (by first | exact Or.inl rfl | exact Or.inr rfl)) (pgs_cons (pg_name (i := 4) scplaced_scans.nd rfl (by first | exact Or.inl rfl | exact Or.inr rfl)) pgs_nil))) (pss_cons (ps_expr (pe_bm PySem.F.plainAttrs_list PySem.F.slot_list_append PySem.F.type_list_append mt_append (pv 1) (pa_cons (pe_tup (pa_cons (pe_callB (call_min2 rfl) (by rfl) B.min bo_min (pa_cons (pv 3) (pa_cons (pv 4) pa_nil))) (pa_cons (pe_callB (call_max2 rfl) (by rfl) B.max bo_max (pa_cons (pv 3) (pa_cons (pv 4) pa_nil))) (pa_cons (pv 2) (pa_cons (pe_cmpR op_le (pv 3) (pv 4) (nomark _)) pa_nil))))) pa_nil)))
      (pss_one (ps_set (i := 2) scplaced_scans.nd rfl (by first | exact Or.inl rfl | exact Or.inr rfl) (pe_op op_add (pe_op op_add (pv 2) (pe_callB call_abs (by rfl) B.abs bo_abs (pa_cons (pe_op op_sub (pv 4) (pv 3)) pa_nil))) pe_int)))))
      (pss_one (ps_ret (pv 1)))))), ?_⟩
    have lv : vs.length = ss.length := Pa.len pa
    refine ⟨Nat.zero_le _, fun p np => ?_⟩
    refine ⟨.ref a, rfl, a, rfl, ⟨_, SqL.of ((Ex.new np) _ _ ha)⟩, for_list (xs := vs) (fun i σ H1 => ∃ y3 y4 us, σ = [some (.ref a), some (.ref p), some (.int (psum (ss.take i))), y3, y4] ∧ Ex H H1 ∧ H1 p = some (.lst us) ∧ Paired (IsRw H1) us (pls (ss.take i) 0))
      ⟨none, none, [], rfl, Ex.new np, upd_same, .nil⟩ (fun i σ H1 _ z => ?_) (fun i v σ H1 hx z => ?_) (fun σ H1 z => ?_)⟩
    · obtain ⟨_, _, _, _, e1, _⟩ := z
      exact SqL.of (e1 _ _ ha)
    · obtain ⟨y3, y4, us, rfl, e1, hp, pu⟩ := z
      obtain ⟨⟨x, y⟩, gs, tp, rfl, ht⟩ := Pa.get pa hx
      have li : i < ss.length := (List.getElem?_eq_some_iff.mp gs).1
      refine ⟨tp, _, rfl, SqT.of (e1 _ _ ht), rfl, _, _, rfl, _, _, rfl, rfl, ?_⟩
      have lu := Pr.len pu
      rw [pls_len, List.length_take] at lu
      refine ⟨.ref p, rfl, .inl ⟨rfl, _, .inl (.inl hp)⟩, .int x, rfl, .int y, rfl, x, y, rfl, .int x, rfl, .int y, rfl, x, y, rfl, .int (psum (ss.take i)), rfl, .int x, rfl, .int y, rfl, x, y, rfl, rfl, by show 4 ≤ sizeLine; decide, fun t nt => ?_⟩
      rw [show (if y < x then y else x) = lo (x, y) from rfl, show (if y > x then y else x) = hi (x, y) from rfl]
      have y1 := Ex.new (o := .tup [V.int (lo (x, y)), V.int (hi (x, y)), V.int (psum (ss.take i)), V.bl (decide (x ≤ y))]) nt
      refine ⟨p, us, .ref t, rfl, rfl, y1 _ _ hp, small20 (by omega), ?_⟩
      refine ⟨.int (psum (ss.take i)), rfl, .int y, rfl, .int x, rfl, y, x, rfl, rfl, y - x, rfl, _, _, rfl, rfl, _, _, rfl, rfl, some (.int x), some (.int y), us ++ [.ref t], ?_, (e1.trans y1).mut np, upd_same, ?_⟩
      · rw [psum_snoc gs]
        show _ = [_, _, some (V.int (_ + (_ + 1))), _, _]
        rw [← Int.add_assoc]
        rfl
      · have z := Rws.snoc (x := (lo (x, y), hi (x, y), psum (ss.take i), decide (x ≤ y))) (y1 _ _ hp) (Pz.imp (fun _ _ => IsRw.mono y1) pu) (ne_of_none hp nt).symm upd_same
        obtain ⟨us', hu', pu'⟩ := z
        rw [upd_same] at hu'
        cases hu'
        rw [List.take_add_one, gs]
        show Paired _ _ (pls (ss.take i ++ [(x, y)]) 0)
        rw [pls_app, Int.zero_add]
        exact pu'
    · obtain ⟨y3, y4, us, rfl, e1, hp, pu⟩ := z
      rw [lv, List.take_length] at pu
      exact ⟨_, rfl, q p _ np e1 ⟨us, hp, pu⟩⟩
theorem ok_startOf {f : Addr} {fd : FuncData} (F : Fun K "start_of" "start_of" sstart_of f fd) : FnOk P w K mg base CX0 1 f fd ["row", "low", "high"] spStartOf := by
  refine F.ok scstart_of (fun vs H Q E h => ?_) (fun cdv A outer s H vs Q E hr h => ?_)
  · obtain ⟨v, x, l, h, rfl, _⟩ := h
    rfl
  · obtain ⟨v, ⟨a, b, c, u⟩, l, h, rfl, ⟨t, rfl, ht⟩, q⟩ := h
    refine ⟨_, (pss_cons (ps_asg (pv 0) (pg_tup rfl (pgs_cons (pg_name (i := 3) scstart_of.nd rfl (by first | exact Or.inl rfl | exact Or.inr rfl)) (pgs_cons (pg_name (i := 4) scstart_of.nd rfl (by first | exact Or.inl rfl | exact Or.inr rfl)) (pgs_cons (pg_name (i := 5) scstart_of.nd rfl (by first | exact Or.inl rfl | exact Or.inr rfl)) (pgs_cons (pg_name (i := 6) scstart_of.nd rfl (by first | exact Or.inl rfl | exact Or.inr rfl)) pgs_nil))))))
      (pss_one (ps_ret (pe_ifExp (pt_truth (pv 6) (by intro _; rfl)) (pe_op op_sub (pe_op op_add (pv 5) (pv 1)) (pv 3)) (pe_op op_sub (pe_op op_add (pv 5) (pv 4)) (pv 2)))))), ?_⟩
    refine ⟨.ref t, rfl, t, _, rfl, SqT.of ht, rfl, _, _, rfl, _, _, rfl, _, _, rfl, _, _, rfl, rfl, ?_⟩
    cases u
    · refine ⟨.bl false, rfl, false, rfl, iteF ⟨.int c, rfl, .int b, rfl, c, b, rfl, rfl, .int h, rfl, c + b, h, rfl, rfl, q.go (.refl _)⟩⟩
    · refine ⟨.bl true, rfl, true, rfl, iteT ⟨.int c, rfl, .int l, rfl, c, l, rfl, rfl, .int a, rfl, c + l, a, rfl, rfl, q.go (.refl _)⟩⟩
theorem ok_shared (B : Bt mg) (B3 : mg "sorted" = none) (Dplaced_scans : Df P w K mg base "placed_scans" 1 ["scans"] spPlaced) (Dstart_of : Df P w K mg base "start_of" 1 ["row", "low", "high"] spStartOf) {f : Addr} {fd : FuncData} (F : Fun K "shared_intervals" "shared_intervals" sshared_intervals f fd) : FnOk P w K mg base CX0 2 f fd ["lasts", "firsts"] spShared := by
  refine F.ok scshared_intervals (fun vs H Q E h => ?_) (fun cdv A outer s H vs Q E hr h => ?_)
  · obtain ⟨a, c, ls, fs, rfl, _⟩ := h
    rfl
  · obtain ⟨a, c, ls, fs, rfl, T2, q⟩ := h
    refine ⟨_, (pss_cons (ps_set (i := 2) scshared_intervals.nd rfl (by first | exact Or.inl rfl | exact Or.inr rfl) (pe_lst pa_nil))
      (pss_cons (ps_par (i := 3) (j := 4) rfl scshared_intervals.nd rfl rfl (by decide) rfl rfl (pa_cons (pe_callB cr_sortedQ (by rfl) B.sorted bo_sorted (pa_cons (pe_df Dplaced_scans hr (pa_cons (pv 0) pa_nil)) pa_nil)) (pa_cons (pe_callB cr_sortedQ (by rfl) B.sorted bo_sorted (pa_cons (pe_df Dplaced_scans hr (pa_cons (pv 1) pa_nil)) pa_nil)) pa_nil)) (by rfl))
      (pss_cons (ps_asg2 pe_int (pg_name (i := 5) scshared_intervals.nd rfl (by first | exact Or.inl rfl | exact Or.inr rfl)) (pg_name (i := 6) scshared_intervals.nd rfl (by first | exact Or.inl rfl | exact Or.inr rfl)))
      (pss_cons (ps_while PassesOwn.never (pw_and (pt_cmpR op_lt (pv 5) (pe_callB call_len_seq (by rfl) B.len bo_len (pa_cons (pv 3) pa_nil)) (nomark _)) (pw_and1 (pt_cmpR op_lt (pv 6) (pe_callB call_len_seq (by rfl) B.len bo_len (pa_cons (pv 4) pa_nil)) (nomark _)))).pt (pss_cons (ps_par (i := 7) (j := 8) rfl scshared_intervals.nd rfl rfl (by decide) rfl rfl (pa_cons (pe_ix ix_list (pv 3) (pv 5) (fun _ _ => rfl)) (pa_cons (pe_ix ix_list (pv 4) (pv 6) (fun _ _ => rfl)) pa_nil)) (by rfl))
      (pss_cons (ps_par (i := 9) (j := 10) rfl scshared_intervals.nd rfl rfl (by decide) rfl rfl (pa_cons (pe_callB (call_max2 rfl) (by rfl) B.max bo_max (pa_cons (pe_ix ix_tup (pv 7) pe_int (fun _ _ => rfl)) (pa_cons (pe_ix ix_tup (pv 8) pe_int (fun _ _ => rfl)) pa_nil))) (pa_cons (pe_callB (call_min2 rfl) (by rfl) B.min bo_min (pa_cons (pe_ix ix_tup (pv 7) pe_int (fun _ _ => rfl)) (pa_cons (pe_ix ix_tup (pv 8) pe_int (fun _ _ => rfl)) pa_nil))) pa_nil)) (by rfl))
      (pss_cons (ps_if (pt_cmpR op_le (pv 9) (pv 10) (nomark _)) (pss_one (ps_expr (pe_bm PySem.F.plainAttrs_list PySem.F.slot_list_append PySem.F.type_list_append mt_append (pv 2) (pa_cons (pe_tup (pa_cons (pe_df Dstart_of hr (pa_cons (pv 7) (pa_cons (pv 9) (pa_cons (pv 10) pa_nil)))) (pa_cons (pe_df Dstart_of hr (pa_cons (pv 8) (pa_cons (pv 9) (pa_cons (pv 10) pa_nil)))) (pa_cons (pe_op op_add (pe_op op_sub (pv 10) (pv 9)) pe_int) (pa_cons (pe_cmpR op_eq (pe_ix ix_tup (pv 7) pe_int (fun _ _ => rfl)) (pe_ix ix_tup (pv 8) pe_int (fun _ _ => rfl)) (nomark _)) pa_nil))))) pa_nil)))) pss_nil)
      (pss_one (ps_if (pt_cmpR op_le (pe_ix ix_tup (pv 7) pe_int (fun _ _ => rfl)) (pe_ix ix_tup (pv 8) pe_int (fun _ _ => rfl)) (nomark _)) (pss_one (ps_aug (i := 5) scshared_intervals.nd rfl (by first | exact Or.inl rfl | exact Or.inr rfl) pe_int ip_add)) (pss_one (ps_aug (i := 6) scshared_intervals.nd rfl (by first | exact Or.inl rfl | exact Or.inr rfl) pe_int ip_add))))))))
      (pss_one (ps_ret (pv 2))))))), ?_⟩
    refine ⟨Nat.zero_le _, fun p np => ?_⟩
    have z0 := Ex.new (o := .lst []) np
    have T0 := T2.mono z0
    have hp0 := upd_same (H := H) (a := p) (o := .lst [])
    generalize upd H p (.lst []) = H0 at z0 T0 hp0 ⊢
    refine ⟨.ref a, rfl, a, ls, rfl, T0.l, T0.l18, fun p1 H1 np1 e1 R1 => ?_⟩
    obtain ⟨us1, hp1, pu1⟩ := R1
    obtain ⟨k1, k2, k3⟩ := sort_ok T0.la pu1
    refine ⟨p1, us1, kR H1, rfl, SqL.of hp1, k1, k2, fun ys1 q1 pe1 or1 nq1 => ?_⟩
    obtain ⟨S1, pr1⟩ := k3 ys1 pe1 or1
    generalize ys1.map (kR H1) = LA at S1 pr1
    have z1 := Ex.new (o := .lst ys1) nq1
    have hq1 := upd_same (H := H1) (a := q1) (o := .lst ys1)
    have e01 := e1.trans z1
    have T1 := T0.mono e01
    have pr1 := Pz.imp (fun _ _ => IsRw.mono z1) pr1
    have hp1' := e01 _ _ hp0
    have nqp1 : q1 ≠ p := fun h => by
      rw [h, e1 _ _ hp0] at nq1
      cases nq1
    generalize upd H1 q1 (.lst ys1) = H2 at z1 hq1 e01 T1 pr1 hp1' ⊢
    refine ⟨.ref c, rfl, c, fs, rfl, T1.f, T1.f18, fun p2 H3 np2 e2 R2 => ?_⟩
    obtain ⟨us2, hp2, pu2⟩ := R2
    obtain ⟨k1, k2, k3⟩ := sort_ok T1.fa pu2
    refine ⟨p2, us2, kR H3, rfl, SqL.of hp2, k1, k2, fun ys2 q2 pe2 or2 nq2 => ?_⟩
    obtain ⟨S2, pr2⟩ := k3 ys2 pe2 or2
    generalize ys2.map (kR H3) = LB at S2 pr2
    have z2 := Ex.new (o := .lst ys2) nq2
    have hq2 := upd_same (H := H3) (a := q2) (o := .lst ys2)
    have e02 := e2.trans z2
    have pr1 := Pz.imp (fun _ _ => IsRw.mono e02) pr1
    have pr2 := Pz.imp (fun _ _ => IsRw.mono z2) pr2
    have hp3 := e02 _ _ hp1'
    have hq1 := e02 _ _ hq1
    have nqp2 : q2 ≠ p := fun h => by
      rw [h, e2 _ _ hp1'] at nq2
      cases nq2
    have eH := z0.trans (e01.trans e02)
    generalize upd H3 q2 (.lst ys2) = H4 at z2 hq2 e02 pr1 pr2 hp3 hq1 eH ⊢
    have few := shr_few S1 S2
    have l1 := T2.l18
    have l2 := T2.f18
    have lA := Pz.len pr1
    have lB := Pz.len pr2
    refine ⟨_, _, rfl, fun m σ H' => ∃ (i j : Nat) (us : List V) (D : List (Rw × Rw)) (y7 y8 y9 y10 : Option V), m = (LA.length - i) + (LB.length - j) ∧ σ = [some (.ref a), some (.ref c), some (.ref p), some (.ref q1), some (.ref q2), some (.int i), some (.int j), y7, y8, y9, y10] ∧ Ex H H' ∧ H' p = some (.lst us) ∧ H' q1 = some (.lst ys1) ∧ H' q2 = some (.lst ys2) ∧ Paired (IsRw H') ys1 LA ∧ Paired (IsRw H') ys2 LB ∧ Paired (IsRw H') us (D.map rwB) ∧ i ≤ LA.length ∧ j ≤ LB.length ∧ D ++ shr (LA.drop i) (LB.drop j) = shr LA LB,
      ⟨_, 0, 0, [], [], none, none, none, none, rfl, rfl, eH, hp3, hq1, hq2, pr1, pr2, .nil, Nat.zero_le _, Nat.zero_le _, rfl⟩, fun m σ H' hW => ?_⟩
    obtain ⟨i, j, us, D, y7, y8, y9, y10, rfl, rfl, e, hp, h1, h2, a1, a2, pu, li, lj, eq⟩ := hW
    refine ⟨.int i, rfl, .ref q1, rfl, q1, _, rfl, .inl (SqL.of h1), _, _, rfl, rfl, _, rfl, ?_⟩
    have fin : i = LA.length ∨ j = LB.length → Q (.ref p) H' := fun h => by
      refine q p H' LA LB np e S1 S2 ⟨us, hp, ?_⟩
      rcases h with h | h
      · rw [h, List.drop_length, shr_nil, List.append_nil] at eq
        rw [← eq]
        exact pu
      · rw [h, List.drop_length, shr_nil2, List.append_nil] at eq
        rw [← eq]
        exact pu
    refine ite2 (fun g1 => ?_) (fun g1 => ?_)
    case' refine_2 => exact iteF ⟨_, rfl, fin (.inl (by have : ¬ (i : Int) < ys1.length := fun z => g1 (decide_eq_true z); omega))⟩
    have g1 : (i : Int) < ys1.length := of_decide_eq_true g1
    refine ⟨.int j, rfl, .ref q2, rfl, q2, _, rfl, .inl (SqL.of h2), _, _, rfl, rfl, _, rfl, ite2 (fun g2 => ?_) (fun g2 => ?_)⟩
    case' refine_2 => exact ⟨_, rfl, fin (.inr (by have : ¬ (j : Int) < ys2.length := fun z => g2 (decide_eq_true z); omega))⟩
    have g2 : (j : Int) < ys2.length := of_decide_eq_true g2
    have il : i < LA.length := by omega
    have jl : j < LB.length := by omega
    rw [List.drop_eq_getElem_cons il, List.drop_eq_getElem_cons jl, shr_cons, ← List.drop_eq_getElem_cons il, ← List.drop_eq_getElem_cons jl, ← List.append_assoc] at eq
    obtain ⟨v1, w1, t1, rfl, ht1⟩ := Pz.get2 a1 (List.getElem?_eq_getElem il)
    obtain ⟨v2, w2, t2, rfl, ht2⟩ := Pz.get2 a2 (List.getElem?_eq_getElem jl)
    generalize LA[i] = x at eq ht1
    generalize LB[j] = y at eq ht2
    refine ⟨fun σ' H' => ∃ (i' j' : Nat) (us : List V) (D : List (Rw × Rw)) (y7 y8 y9 y10 : Option V), (LA.length - i') + (LB.length - j') < (LA.length - i) + (LB.length - j) ∧ σ' = [some (.ref a), some (.ref c), some (.ref p), some (.ref q1), some (.ref q2), some (.int i'), some (.int j'), y7, y8, y9, y10] ∧ Ex H H' ∧ H' p = some (.lst us) ∧ H' q1 = some (.lst ys1) ∧ H' q2 = some (.lst ys2) ∧ Paired (IsRw H') ys1 LA ∧ Paired (IsRw H') ys2 LB ∧ Paired (IsRw H') us (D.map rwB) ∧ i' ≤ LA.length ∧ j' ≤ LB.length ∧ D ++ shr (LA.drop i') (LB.drop j') = shr LA LB, fun σ' H' hN => ?_, ?_⟩
    · obtain ⟨i', j', us, D, y7, y8, y9, y10, c, r⟩ := hN
      exact ⟨_, c, i', j', us, D, y7, y8, y9, y10, rfl, r⟩
    have lD : us.length ≤ 2 ^ 19 := by
      have z := Pz.len pu
      have z2 := congrArg List.length eq
      rw [List.length_append, List.length_append] at z2
      rw [List.length_map] at z
      omega
    refine ⟨.ref q1, rfl, .int i, rfl, q1, ys1, i, .ref t1, rfl, rfl, SqL.of h1, atI_nat w1, .ref q2, rfl, .int j, rfl, q2, ys2, j, .ref t2, rfl, rfl, SqL.of h2, atI_nat w2, _, _, rfl, ?_⟩
    refine ⟨.ref t1, rfl, t1, _, 0, _, rfl, rfl, SqT.of ht1, rfl, .ref t2, rfl, t2, _, 0, _, rfl, rfl, SqT.of ht2, rfl, _, _, rfl, .ref t1, rfl, t1, _, 1, _, rfl, rfl, SqT.of ht1, rfl, .ref t2, rfl, t2, _, 1, _, rfl, rfl, SqT.of ht2, rfl, _, _, rfl, _, _, rfl, ?_⟩
    rw [show (if y.1 > x.1 then y.1 else x.1) = blo (x, y) from rfl, show (if y.2.1 < x.2.1 then y.2.1 else x.2.1) = bhi (x, y) from rfl]
    refine ⟨_, rfl, _, rfl, _, _, rfl, rfl, _, rfl, ite2 (fun c => ?kA) (fun c => ?kB)⟩
    case' kA =>
      have c : blo (x, y) ≤ bhi (x, y) := of_decide_eq_true c
      rw [if_pos c] at eq
      refine ⟨.ref p, rfl, .inl ⟨rfl, _, .inl (.inl hp)⟩, .ref t1, rfl, _, rfl, _, rfl, .ref t1, x, _, _, rfl, ⟨t1, rfl, ht1⟩, fun H5 e5 => ⟨.ref t2, rfl, _, rfl, _, rfl, .ref t2, y, _, _, rfl, ⟨t2, rfl, e5 _ _ ht2⟩, fun H6 e6 => ⟨_, rfl, _, rfl, _, _, rfl, rfl, _, 1, rfl, rfl, .ref t1, rfl, t1, _, 3, _, rfl, rfl, SqT.of ((e5.trans e6) _ _ ht1), rfl, .ref t2, rfl, t2, _, 3, _, rfl, rfl, SqT.of ((e5.trans e6) _ _ ht2), rfl, rfl, by show 4 ≤ sizeLine; decide, fun t nt => ?_⟩⟩⟩
      rw [dec_bl]
      have y1 := (e5.trans e6).trans (Ex.new (o := .tup [V.int (stPl x (blo (x, y)) (bhi (x, y))), V.int (stPl y (blo (x, y)) (bhi (x, y))), V.int (bhi (x, y) - blo (x, y) + 1), V.bl (x.2.2.2 == y.2.2.2)]) nt)
      have y2 := (e6.trans (Ex.new (o := .tup [V.int (stPl x (blo (x, y)) (bhi (x, y))), V.int (stPl y (blo (x, y)) (bhi (x, y))), V.int (bhi (x, y) - blo (x, y) + 1), V.bl (x.2.2.2 == y.2.2.2)]) nt))
      have ny : ∀ {b : Addr} {o : HO}, H' b = some o → t ≠ b := fun h z => by
        rw [z, (e5.trans e6) _ _ h] at nt
        cases nt
      have hp := y1 _ _ hp
      have h1 := y1 _ _ h1
      have h2 := y1 _ _ h2
      have R := Rws.snoc (x := rwB (x, y)) hp (Pz.imp (fun _ _ => IsRw.mono y1) pu) (ny ‹H' p = some (.lst us)›) upd_same
      refine ⟨p, us, .ref t, rfl, rfl, hp, small20 (by omega), ?_⟩
      have e := Ex.mut (o := .lst (us ++ [V.ref t])) (e.trans y1) np
      have a1 := Pz.imp (fun _ _ h => IsRw.lset (o := .lst (us ++ [V.ref t])) hp (IsRw.mono y1 h)) a1
      have a2 := Pz.imp (fun _ _ h => IsRw.lset (o := .lst (us ++ [V.ref t])) hp (IsRw.mono y1 h)) a2
      have n1 : t1 ≠ p := fun z => by
        rw [← z, y1 _ _ ht1] at hp
        cases hp
      have n2 : t2 ≠ p := fun z => by
        rw [← z, y1 _ _ ht2] at hp
        cases hp
      have ht1 := (upd_ne (o := .lst (us ++ [V.ref t])) n1).trans (y1 _ _ ht1)
      have ht2 := (upd_ne (o := .lst (us ++ [V.ref t])) n2).trans (y1 _ _ ht2)
      have h1 := (upd_ne (o := .lst (us ++ [V.ref t])) nqp1).trans h1
      have h2 := (upd_ne (o := .lst (us ++ [V.ref t])) nqp2).trans h2
      obtain ⟨us5, hu5, pu⟩ := R
      rw [upd_same] at hu5
      cases hu5
      rw [show D.map rwB ++ [rwB (x, y)] = (D ++ [(x, y)]).map rwB by rw [List.map_append]; rfl] at pu
      have hp := upd_same (H := upd H6 t (.tup [V.int (stPl x (blo (x, y)) (bhi (x, y))), V.int (stPl y (blo (x, y)) (bhi (x, y))), V.int (bhi (x, y) - blo (x, y) + 1), V.bl (x.2.2.2 == y.2.2.2)])) (a := p) (o := .lst (us ++ [V.ref t]))
      dsimp only
      generalize upd (upd H6 t (.tup [V.int (stPl x (blo (x, y)) (bhi (x, y))), V.int (stPl y (blo (x, y)) (bhi (x, y))), V.int (bhi (x, y) - blo (x, y) + 1), V.bl (x.2.2.2 == y.2.2.2)])) p (.lst (us ++ [V.ref t])) = H' at e hp h1 h2 a1 a2 pu ht1 ht2 ⊢
      generalize us ++ [V.ref t] = us at hp pu
      generalize D ++ [(x, y)] = D at eq pu
    case' kB =>
      have c : ¬ blo (x, y) ≤ bhi (x, y) := fun z => c (decide_eq_true z)
      rw [if_neg c, List.append_nil] at eq
    all_goals
      refine ⟨.ref t1, rfl, t1, _, 1, _, rfl, rfl, SqT.of ht1, rfl, .ref t2, rfl, t2, _, 1, _, rfl, rfl, SqT.of ht2, rfl, _, _, rfl, rfl, _, rfl, ite2 (fun c2 => ?_) (fun c2 => ?_)⟩
      · have c2 : x.2.1 ≤ y.2.1 := of_decide_eq_true c2
        rw [if_pos c2] at eq
        exact ⟨_, rfl, _, _, rfl, rfl, i + 1, j, us, D, _, _, _, _, by omega, rfl, e, hp, h1, h2, a1, a2, pu, by omega, lj, eq⟩
      · have c2 : ¬ x.2.1 ≤ y.2.1 := fun z => c2 (decide_eq_true z)
        rw [if_neg c2] at eq
        exact ⟨_, rfl, _, _, rfl, rfl, i, j + 1, us, D, _, _, _, _, by omega, rfl, e, hp, h1, h2, a1, a2, pu, li, by omega, eq⟩
theorem ok_rows (B : Bt mg) (Dshared_intervals : Df P w K mg base "shared_intervals" 2 ["lasts", "firsts"] spShared) {f : Addr} {fd : FuncData} (F : Fun K "straight_rows" "straight_rows" sstraight_rows f fd) : FnOk P w K mg base CX0 3 f fd ["lasts", "firsts"] spRows := by
  refine F.ok scstraight_rows (fun vs H Q E h => ?_) (fun cdv A outer s H vs Q E hr h => ?_)
  · obtain ⟨a, c, ls, fs, rfl, _⟩ := h
    rfl
  · obtain ⟨a, c, ls, fs, rfl, T2, q⟩ := h
    refine ⟨_, (pss_cons (ps_set (i := 2) scstraight_rows.nd rfl (by first | exact Or.inl rfl | exact Or.inr rfl) (pe_df Dshared_intervals hr (pa_cons (pv 0) (pa_cons (pv 1) pa_nil))))
      (pss_cons (ps_set (i := 3) scstraight_rows.nd rfl (by first | exact Or.inl rfl | exact Or.inr rfl) (pe_lst pa_nil))
      (pss_cons (ps_for PassesOwn.never rfl (pi_list (pv 2)) (pg_tup rfl (pgs_cons (pg_name (i := 4) scstraight_rows.nd rfl (by first | exact Or.inl rfl | exact Or.inr rfl)) (pgs_cons (pg_name (i := 5) scstraight_rows.nd rfl (by first | exact Or.inl rfl | exact Or.inr rfl)) (pgs_cons (pg_name (i := 6) scstraight_rows.nd rfl (by first | exact Or.inl rfl | exact Or.inr rfl)) (pgs_cons (pg_name (i := 7) scstraight_rows.nd rfl (by first | exact Or.inl rfl | exact Or.inr rfl)) pgs_nil))))) (pss_cons (ps_set (i := 8) scstraight_rows.nd rfl (by first | exact Or.inl rfl | exact Or.inr rfl) (pe_callB (cr_sum rfl) (by rfl) B.sum bo_sum (pa_cons (pe_lc (own := [("row", 10)]) (g := (gName 10)) (te := (tOp (rIxT K) (tVar 10) _)) (tt := (tAnd (tTest (tOp _ (tOp (rIxT K) (tVar 10) _) (tVar 4))) (tTest (tOp _ (tOp (rIxT K) (tVar 10) _) (tVar 5))))) rfl scstraight_rows.nd (pi_list (pv 2)) (blkOk_by (N := ["lasts", "firsts", "shared", "rows", "in_lasts", "in_firsts", "length", "one_direction", "in_both", "distance", "row"]) (sc := defScope sstraight_rows) (by decide +kernel)) (by exact fun _ _ _ _ _ => (pg_name (i := 10) scstraight_rows.nd rfl (by first | exact Or.inl rfl | exact Or.inr rfl))) (by exact fun _ _ _ _ _ => (pts_one (pw_and (pt_cmpR op_lt (pe_ix ix_tup (pv 10) pe_int (fun _ _ => rfl)) (pv 4) (nomark _)) (pw_and1 (pt_cmpR op_lt (pe_ix ix_tup (pv 10) pe_int (fun _ _ => rfl)) (pv 5) (nomark _)))).pt)) (by exact fun _ _ _ _ _ => (pe_ix ix_tup (pv 10) pe_int (fun _ _ => rfl)))) pa_nil)))
      (pss_cons (ps_set (i := 9) scstraight_rows.nd rfl (by first | exact Or.inl rfl | exact Or.inr rfl) (pe_op op_sub (pe_op op_add (pe_op op_add pe_int (pv 4)) (pv 5)) (pv 8)))
      (pss_one (ps_expr (pe_bm PySem.F.plainAttrs_list PySem.F.slot_list_append PySem.F.type_list_append mt_append (pv 3) (pa_cons (pe_tup (pa_cons (pv 5) (pa_cons (pv 6) (pa_cons (pe_ifExp (pt_truth (pv 7) (by intro _; rfl)) (pv 9) (pe_op op_sub (pe_op op_add (pv 9) (pv 6)) pe_int)) (pa_cons (pv 7) pa_nil))))) pa_nil)))))))
      (pss_one (ps_ret (pv 3)))))), ?_⟩
    have few : ∀ {LA LB : List Rw}, Srt ls LA → Srt fs LB → (shr LA LB).length ≤ 2 ^ 19 := fun h1 h2 => by
      have := shr_few h1 h2
      have := T2.l18
      have := T2.f18
      omega
    refine ⟨.ref a, rfl, .ref c, rfl, a, c, ls, fs, rfl, T2, fun p H1 LA LB np e1 SA SB R => ⟨Nat.zero_le _, fun r nr => ?_⟩⟩
    obtain ⟨vs, hp, pa⟩ := R
    have z1 := Ex.new (o := .lst []) nr
    have few := few SA SB
    have q := fun r H' np e h => q r H' LA LB np e SA SB h
    generalize shr LA LB = P at pa few q
    have lv := Pz.len pa
    rw [List.length_map] at lv
    have nr0 := e1.back nr
    refine ⟨.ref p, rfl, p, rfl, ⟨_, SqL.of (z1 _ _ hp)⟩, for_list (xs := vs) (fun i σ H' => ∃ y4 y5 y6 y7 y8 y9 us, σ = [some (.ref a), some (.ref c), some (.ref p), some (.ref r), y4, y5, y6, y7, y8, y9, none] ∧ Ex H1 H' ∧ H' r = some (.lst us) ∧ Paired (IsRw H') us ((P.take i).map (srB P)))
      ⟨none, none, none, none, none, none, [], rfl, z1, upd_same, .nil⟩ (fun i σ H2 _ z => ?_) (fun i v σ H2 hx z => ?_) (fun σ H2 z => ?_)⟩
    · obtain ⟨_, _, _, _, _, _, _, _, e2, _⟩ := z
      exact SqL.of (e2 _ _ hp)
    · obtain ⟨y4, y5, y6, y7, y8, y9, us, rfl, e2, hr, pu⟩ := z
      obtain ⟨x, gx, t, rfl, ht⟩ := Pz.get pa hx
      rw [List.getElem?_map, Option.map_eq_some_iff] at gx
      obtain ⟨b, gb, rfl⟩ := gx
      have li : i < P.length := (List.getElem?_eq_some_iff.mp gb).1
      have lus := Pz.len pu
      rw [List.length_map, List.length_take] at lus
      refine ⟨t, _, rfl, SqT.of (e2 _ _ ht), rfl, _, _, rfl, _, _, rfl, _, _, rfl, _, _, rfl, rfl, ?_⟩
      refine ⟨.ref p, rfl, p, rfl, ⟨_, SqL.of (e2 _ _ hp)⟩, fun D hD => lc_list (xs := vs) (fun j H3 => Ex H2 H3 ∧ H3 D = some (.lst ((((P.take j).filter fun c => decide (bp c < bp b ∧ bq c < bq b)).map bn).map V.int))) ⟨Ex.new hD, upd_same⟩ (fun j H3 _ z => SqL.of ((e2.trans z.1) _ _ hp)) (fun j v H3 hx2 z => ?_) (fun H3 z => ?_)⟩
      · obtain ⟨e3, hL⟩ := z
        obtain ⟨x2, gx2, t2, rfl, ht2⟩ := Pz.get pa hx2
        rw [List.getElem?_map, Option.map_eq_some_iff] at gx2
        obtain ⟨c2, gc, rfl⟩ := gx2
        have lj : j < P.length := (List.getElem?_eq_some_iff.mp gc).1
        have fs := filtA (fun c => decide (bp c < bp b ∧ bq c < bq b)) gc
        have le := filtA_le (ps := P) (i := j) fun c => decide (bp c < bp b ∧ bq c < bq b)
        have ht2 := (e2.trans e3) _ _ ht2
        refine ⟨rfl, .ref t2, rfl, t2, _, 0, _, rfl, rfl, SqT.of ht2, rfl, .int (bp b), rfl, _, _, rfl, rfl, _, rfl, ?_⟩
        by_cases c1 : bp c2 < bp b
        · rw [show decide ((rwB c2).1 < bp b) = true from decide_eq_true c1]
          refine iteT ⟨.ref t2, rfl, t2, _, 1, _, rfl, rfl, SqT.of ht2, rfl, .int (bq b), rfl, _, _, rfl, rfl, _, rfl, ite2 (fun g => ?_) (fun g => ?_)⟩
          · have g : bq c2 < bq b := of_decide_eq_true g
            rw [if_pos (decide_eq_true ⟨c1, g⟩)] at fs
            refine ⟨.ref t2, rfl, t2, _, 2, _, rfl, rfl, SqT.of ht2, rfl, _, hL, ?_, e3.mut hD, ?_⟩
            · rw [List.length_map, List.length_map]
              exact small20 (by omega)
            · rw [upd_same, fs, List.map_append, List.map_append]
              rfl
          · have g : ¬ bq c2 < bq b := fun z => g (decide_eq_true z)
            rw [if_neg (fun z => g (of_decide_eq_true z).2), List.append_nil] at fs
            exact ⟨e3, by rw [fs]; exact hL⟩
        · rw [show decide ((rwB c2).1 < bp b) = false from decide_eq_false c1]
          rw [if_neg (fun z => c1 (of_decide_eq_true z).1), List.append_nil] at fs
          exact iteF ⟨e3, by rw [fs]; exact hL⟩
      obtain ⟨e3, hL⟩ := z
      rw [lv, List.take_length] at hL
      refine ⟨D, _, rfl, SqL.of hL, ?_⟩
      rw [in_sum b P]
      refine ⟨.int (bp b), rfl, 1, bp b, rfl, rfl, .int (bq b), rfl, _, _, rfl, rfl, .int (sumI (inB b) P), rfl, _, _, rfl, rfl, ?_⟩
      refine ⟨.ref r, rfl, .inl ⟨rfl, _, .inl (.inl (e3 _ _ hr))⟩, .int (bq b), rfl, .int (bn b), rfl, .bl (bg b), rfl, bg b, rfl, ite2 (fun g => ?_) (fun g => ?_)⟩
      · refine ⟨.int (baseB P b), rfl, .bl (bg b), rfl, by show 4 ≤ sizeLine; decide, fun t nt => ?_⟩
        have y1 := e3.trans (Ex.new (o := .tup [V.int (bq b), V.int (bn b), V.int (baseB P b), V.bl (bg b)]) nt)
        have R := Rws.snoc (x := (bq b, bn b, baseB P b, bg b)) (y1 _ _ hr) (Pz.imp (fun _ _ => IsRw.mono y1) pu) (fun z => by rw [z, e3 _ _ hr] at nt; cases nt) upd_same
        obtain ⟨us', hu', pu'⟩ := R
        rw [upd_same] at hu'
        cases hu'
        have sb : srB P b = (bq b, bn b, baseB P b, bg b) := by
          unfold srB
          rw [if_pos g]
        rw [← sb] at pu'
        refine ⟨r, us, .ref t, rfl, rfl, y1 _ _ hr, small20 (by omega), _, _, _, _, _, _, us ++ [.ref t], rfl, (e2.trans y1).mut nr, upd_same, ?_⟩
        rw [List.take_add_one, gb, List.map_append]
        exact pu'
      · refine ⟨.int (baseB P b), rfl, .int (bn b), rfl, baseB P b, bn b, rfl, rfl, baseB P b + bn b, 1, rfl, rfl, .bl (bg b), rfl, by show 4 ≤ sizeLine; decide, fun t nt => ?_⟩
        have y1 := e3.trans (Ex.new (o := .tup [V.int (bq b), V.int (bn b), V.int (baseB P b + bn b - 1), V.bl (bg b)]) nt)
        have R := Rws.snoc (x := (bq b, bn b, baseB P b + bn b - 1, bg b)) (y1 _ _ hr) (Pz.imp (fun _ _ => IsRw.mono y1) pu) (fun z => by rw [z, e3 _ _ hr] at nt; cases nt) upd_same
        obtain ⟨us', hu', pu'⟩ := R
        rw [upd_same] at hu'
        cases hu'
        have sb : srB P b = (bq b, bn b, baseB P b + bn b - 1, bg b) := by
          unfold srB
          rw [if_neg g]
        rw [← sb] at pu'
        refine ⟨r, us, .ref t, rfl, rfl, y1 _ _ hr, small20 (by omega), _, _, _, _, _, _, us ++ [.ref t], rfl, (e2.trans y1).mut nr, upd_same, ?_⟩
        rw [List.take_add_one, gb, List.map_append]
        exact pu'
    · obtain ⟨y4, y5, y6, y7, y8, y9, us, rfl, e2, hr, pu⟩ := z
      rw [lv, List.take_length] at pu
      exact ⟨_, rfl, q r _ nr0 (e1.trans e2) ⟨us, hr, pu⟩⟩
theorem ok_straightPieces (B : Bt mg) (Dstraight_rows : Df P w K mg base "straight_rows" 3 ["lasts", "firsts"] spRows) {f : Addr} {fd : FuncData} (F : Fun K "straight_pieces" "straight_pieces" sstraight_pieces f fd) : FnOk P w K mg base CX0 4 f fd ["lasts", "firsts"] spPieces := by
  refine F.ok scstraight_pieces (fun vs H Q E h => ?_) (fun cdv A outer s H vs Q E hr h => ?_)
  · obtain ⟨a, c, ls, fs, rfl, _⟩ := h
    rfl
  · obtain ⟨a, c, ls, fs, rfl, T2, q⟩ := h
    refine ⟨_, (pss_cons (ps_set (i := 2) scstraight_pieces.nd rfl (by first | exact Or.inl rfl | exact Or.inr rfl) (pe_lst pa_nil))
      (pss_cons (ps_for PassesOwn.never rfl (pi_list (pe_df Dstraight_rows hr (pa_cons (pv 0) (pa_cons (pv 1) pa_nil)))) (pg_tup rfl (pgs_cons (pg_name (i := 3) scstraight_pieces.nd rfl (by first | exact Or.inl rfl | exact Or.inr rfl)) (pgs_cons (pg_name (i := 4) scstraight_pieces.nd rfl (by first | exact Or.inl rfl | exact Or.inr rfl)) (pgs_cons (pg_name (i := 5) scstraight_pieces.nd rfl (by first | exact Or.inl rfl | exact Or.inr rfl)) (pgs_cons (pg_name (i := 6) scstraight_pieces.nd rfl (by first | exact Or.inl rfl | exact Or.inr rfl)) pgs_nil))))) (pss_one (ps_if (pt_truth (pv 6) (by intro _; rfl)) (pss_one (ps_expr (pe_bm PySem.F.plainAttrs_list PySem.F.slot_list_append PySem.F.type_list_append mt_append (pv 2) (pa_cons (pe_tup (pa_cons (pv 5) (pa_cons (pe_op op_sub (pe_op op_add (pv 5) (pv 4)) pe_int) (pa_cons pe_int pa_nil)))) pa_nil)))) (pss_one (ps_expr (pe_bm PySem.F.plainAttrs_list PySem.F.slot_list_append PySem.F.type_list_append mt_append (pv 2) (pa_cons (pe_tup (pa_cons (pv 5) (pa_cons (pv 5) (pa_cons (pv 4) pa_nil)))) pa_nil)))))))
      (pss_one (ps_ret (pv 2))))), ?_⟩
    refine ⟨Nat.zero_le _, fun r nr => ?_⟩
    have z1 := Ex.new (o := .lst []) nr
    refine ⟨.ref a, rfl, .ref c, rfl, a, c, ls, fs, rfl, T2.mono z1, fun p H1 LA LB np e1 SA SB R => ?_⟩
    obtain ⟨vs, hp, pa⟩ := R
    have few : (shr LA LB).length ≤ 2 ^ 19 := by
      have := shr_few SA SB
      have := T2.l18
      have := T2.f18
      omega
    have q := fun r H' np e h => q r H' LA LB np e SA SB h
    have hr := e1 _ _ (upd_same (H := H) (a := r) (o := .lst []))
    have e01 := z1.trans e1
    generalize shr LA LB = P at pa few q
    have lv := Pz.len pa
    rw [List.length_map] at lv
    refine ⟨p, rfl, ⟨_, SqL.of hp⟩, for_list (xs := vs) (fun i σ H' => ∃ y3 y4 y5 y6 us, σ = [some (.ref a), some (.ref c), some (.ref r), y3, y4, y5, y6] ∧ Ex H H' ∧ H' p = some (.lst vs) ∧ Paired (IsRw H') vs (P.map (srB P)) ∧ H' r = some (.lst us) ∧ PaP H' us ((P.take i).map (pcB P)))
      ⟨none, none, none, none, [], rfl, e01, hp, pa, hr, .nil⟩ (fun i σ H2 _ z => ?_) (fun i v σ H2 hx z => ?_) (fun σ H2 z => ?_)⟩
    · obtain ⟨_, _, _, _, _, _, _, hp, _⟩ := z
      exact SqL.of hp
    · obtain ⟨y3, y4, y5, y6, us, rfl, e2, hp, pa, hr, pu⟩ := z
      obtain ⟨x, gx, t, rfl, ht⟩ := Pz.get pa hx
      rw [List.getElem?_map, Option.map_eq_some_iff] at gx
      obtain ⟨b, gb, rfl⟩ := gx
      have li : i < P.length := (List.getElem?_eq_some_iff.mp gb).1
      have lus := Pz.len pu
      rw [List.length_map, List.length_take] at lus
      have npr : p ≠ r := fun z => by
        rw [z, upd_same] at np
        cases np
      refine ⟨t, _, rfl, SqT.of ht, rfl, _, _, rfl, _, _, rfl, _, _, rfl, _, _, rfl, rfl, ?_⟩
      have push : ∀ (d h n : Int) (t : Addr) (y3 y4 y5 y6 : Option V), pcB P b = (d, h, n) → H2 t = none → ∃ z3 z4 z5 z6 us', [some (V.ref a), some (.ref c), some (.ref r), y3, y4, y5, y6] = [some (V.ref a), some (.ref c), some (.ref r), z3, z4, z5, z6] ∧ Ex H (upd (upd H2 t (.tup [.int d, .int h, .int n])) r (.lst (us ++ [.ref t]))) ∧ upd (upd H2 t (.tup [.int d, .int h, .int n])) r (.lst (us ++ [.ref t])) p = some (.lst vs) ∧ Paired (IsRw (upd (upd H2 t (.tup [.int d, .int h, .int n])) r (.lst (us ++ [.ref t])))) vs (P.map (srB P)) ∧ upd (upd H2 t (.tup [.int d, .int h, .int n])) r (.lst (us ++ [.ref t])) r = some (.lst us') ∧ PaP (upd (upd H2 t (.tup [.int d, .int h, .int n])) r (.lst (us ++ [.ref t]))) us' ((P.take (i + 1)).map (pcB P)) := fun d h n t y3 y4 y5 y6 eb nt => by
        have y1 := Ex.new (o := HO.tup [.int d, .int h, .int n]) nt
        refine ⟨_, _, _, _, us ++ [.ref t], rfl, (e2.trans y1).mut nr, by rw [upd_ne npr]; exact y1 _ _ hp, Pz.imp (fun _ _ h => IsRw.lset (y1 _ _ hr) (IsRw.mono y1 h)) pa, upd_same, ?_⟩
        rw [List.take_add_one, gb, List.map_append]
        have ntr : t ≠ r := fun z => by
          rw [z, hr] at nt
          cases nt
        refine Pr.snoc (PaP.lset (y1 _ _ hr) (PaP.mono y1 pu)) ⟨t, rfl, ?_⟩
        rw [upd_ne ntr, upd_same]
        show _ = some (HO.tup [.int (pcB P b).1, .int (pcB P b).2.1, .int (pcB P b).2.2])
        rw [eb]
      refine ⟨.bl (bg b), rfl, bg b, rfl, ite2 (fun g => ?_) (fun g => ?_)⟩
      · refine ⟨.ref r, rfl, .inl ⟨rfl, _, .inl (.inl hr)⟩, _, rfl, _, rfl, .int (bn b), rfl, _, _, rfl, rfl, _, _, rfl, rfl, by show 3 ≤ sizeLine; decide, fun t nt => ?_⟩
        refine ⟨r, us, .ref t, rfl, rfl, (Ex.new nt) _ _ hr, small20 (by omega), push _ _ _ t _ _ _ _ ?_ nt⟩
        show pcB P b = ((if bg b = true then baseB P b else baseB P b + bn b - 1), (if bg b = true then baseB P b else baseB P b + bn b - 1) + bn b - 1, 1)
        unfold pcB
        rw [if_pos g, if_pos g]
      · refine ⟨.ref r, rfl, .inl ⟨rfl, _, .inl (.inl hr)⟩, _, rfl, _, rfl, .int (bn b), rfl, by show 3 ≤ sizeLine; decide, fun t nt => ?_⟩
        refine ⟨r, us, .ref t, rfl, rfl, (Ex.new nt) _ _ hr, small20 (by omega), push _ _ _ t _ _ _ _ ?_ nt⟩
        show pcB P b = ((if bg b = true then baseB P b else baseB P b + bn b - 1), (if bg b = true then baseB P b else baseB P b + bn b - 1), bn b)
        unfold pcB
        rw [if_neg g, if_neg g]
    · obtain ⟨y3, y4, y5, y6, us, rfl, e2, hp, pa, hr, pu⟩ := z
      rw [lv, List.take_length] at pu
      exact ⟨_, rfl, q r _ nr e2 ⟨us, hr, pu⟩⟩
theorem ok_first_reaching (B : Bt mg) {f : Addr} {fd : FuncData} (F : Fun K "first_reaching" "first_reaching" sfirst_reaching f fd) : FnOk P w K mg base CX0 1 f fd ["spans", "address"] spReach := by
  refine F.ok scfirst_reaching (fun vs H Q E h => ?_) (fun cdv A outer s H vs Q E hr h => ?_)
  · obtain ⟨p, zs, a, rfl, _⟩ := h
    rfl
  · obtain ⟨p, zs, a, rfl, ⟨vs, hp, pz⟩, few, Az, q⟩ := h
    refine ⟨_, (pss_cons (ps_par (i := 2) (j := 3) rfl scfirst_reaching.nd rfl rfl (by decide) rfl rfl (pa_cons pe_int (pa_cons (pe_callB call_len_seq (by rfl) B.len bo_len (pa_cons (pv 0) pa_nil)) pa_nil)) (by rfl))
      (pss_cons (ps_while PassesOwn.never (pt_cmpR op_lt (pv 2) (pv 3) (nomark _)) (pss_cons (ps_set (i := 4) scfirst_reaching.nd rfl (by first | exact Or.inl rfl | exact Or.inr rfl) (pe_op op_fdiv (pe_op op_add (pv 2) (pv 3)) pe_int))
      (pss_one (ps_if (pt_cmpR op_lt (pe_ix ix_tup (pe_ix ix_list (pv 0) (pv 4) (fun _ _ => rfl)) pe_int (fun _ _ => rfl)) (pv 1) (nomark _)) (pss_one (ps_set (i := 2) scfirst_reaching.nd rfl (by first | exact Or.inl rfl | exact Or.inr rfl) (pe_op op_add (pv 4) pe_int))) (pss_one (ps_set (i := 3) scfirst_reaching.nd rfl (by first | exact Or.inl rfl | exact Or.inr rfl) (pv 4)))))))
      (pss_one (ps_ret (pv 2))))), ?_⟩
    have lv : vs.length = zs.length := Pa.len pz
    refine ⟨.ref p, rfl, p, _, rfl, .inl (SqL.of hp), _, _, rfl, ?_⟩
    rw [lv]
    refine ⟨fun m σ H1 => ∃ (x y : Nat) (y4 : Option V), m = y - x ∧ σ = [some (.ref p), some (.int a), some (.int x), some (.int y), y4] ∧ Ex H H1 ∧ x ≤ y ∧ y ≤ zs.length ∧ (∀ (i : Nat) (t : Sc), zs[i]? = some t → i < x → t.2 < a) ∧ (∀ (i : Nat) (t : Sc), zs[i]? = some t → y ≤ i → a ≤ t.2),
      ⟨_, 0, zs.length, none, rfl, rfl, Ex.refl _, Nat.zero_le _, Nat.le_refl _, fun i t _ h => (by omega), fun i t hi h => by have := (List.getElem?_eq_some_iff.mp hi).1; omega⟩, fun m σ H1 hW => ?_⟩
    obtain ⟨x, y, y4, rfl, rfl, e1, xy, yl, bl, ab⟩ := hW
    refine ⟨.int x, rfl, .int y, rfl, _, _, rfl, rfl, _, rfl, ite2 (fun e => ?_) (fun e => ?_)⟩
    · have e' : (x : Int) < y := of_decide_eq_true e
      refine ⟨fun σ' H' => ∃ (x' y' : Nat) (y4 : Option V), y' - x' < y - x ∧ σ' = [some (.ref p), some (.int a), some (.int x'), some (.int y'), y4] ∧ Ex H H' ∧ x' ≤ y' ∧ y' ≤ zs.length ∧ (∀ (i : Nat) (t : Sc), zs[i]? = some t → i < x' → t.2 < a) ∧ (∀ (i : Nat) (t : Sc), zs[i]? = some t → y' ≤ i → a ≤ t.2), fun σ' H' hN => ?_, ?_⟩
      · obtain ⟨x', y', y4, c, r⟩ := hN
        exact ⟨y' - x', c, x', y', y4, rfl, r⟩
      obtain ⟨k, hk⟩ : ∃ k : Nat, k = (x + y) / 2 := ⟨_, rfl⟩
      have ek : ((x : Int) + y) / 2 = (k : Int) := by omega
      have kl : k < zs.length := by omega
      obtain ⟨v, gv, t, rfl, ht⟩ := Pa.get2 pz (List.getElem?_eq_getElem kl)
      refine ⟨.int x, rfl, .int y, rfl, _, _, rfl, rfl, _, _, rfl, rfl, ⟨by decide, by decide⟩, ?_⟩
      simp only [ek]
      refine ⟨.ref p, rfl, .int k, rfl, p, vs, k, .ref t, rfl, rfl, SqL.of (e1 _ _ hp), atI_nat gv, t, _, 1, _, rfl, rfl, SqT.of (e1 _ _ ht), rfl, .int a, rfl, _, _, rfl, rfl, _, rfl, ite2 (fun c => ?_) (fun c => ?_)⟩
      · have c' : zs[k].2 < a := of_decide_eq_true c
        refine ⟨.int k, rfl, _, _, rfl, rfl, k + 1, y, _, ?_, rfl, e1, by omega, yl, fun i u hu hi => ?_, ab⟩
        · omega
        · by_cases z : i = k
          · subst z
            rw [List.getElem?_eq_getElem kl] at hu
            cases hu
            exact c'
          · have a1 := Az.next hu (List.getElem?_eq_getElem kl) (by omega)
            have a2 := Az.leAt (List.getElem?_eq_getElem kl)
            omega
      · have c' : ¬ zs[k].2 < a := fun z => c (decide_eq_true z)
        refine ⟨.int k, rfl, x, k, _, ?_, rfl, e1, by omega, by omega, bl, fun i u hu hi => ?_⟩
        · omega
        · by_cases z : i = k
          · subst z
            rw [List.getElem?_eq_getElem kl] at hu
            cases hu
            omega
          · have a1 := Az.next (List.getElem?_eq_getElem kl) hu (by omega)
            have a2 := Az.leAt hu
            omega
    · have e' : ¬ (x : Int) < y := fun z => e (decide_eq_true z)
      have : x = y := by omega
      subst this
      exact ⟨_, rfl, q x yl bl ab H1 e1⟩
theorem ok_scan_outside (B : Bt mg) (B2 : mg "reversed" = none) (Dfirst_reaching : Df P w K mg base "first_reaching" 1 ["spans", "address"] spReach) {f : Addr} {fd : FuncData} (F : Fun K "scan_outside" "scan_outside" sscan_outside f fd) : FnOk P w K mg base CX0 2 f fd ["scan", "spans"] spOutside := by
  refine F.ok scscan_outside (fun vs H Q E h => ?_) (fun cdv A outer s H vs Q E hr h => ?_)
  · obtain ⟨v, p, s, zs, rfl, _⟩ := h
    rfl
  · obtain ⟨v, p, ⟨x, y⟩, zs, rfl, ⟨t, rfl, ht⟩, hZ, few, Az, q⟩ := h
    refine ⟨_, (pss_cons (ps_par (i := 2) (j := 3) rfl scscan_outside.nd rfl rfl (by decide) rfl rfl (pa_cons (pe_callB (cr_minT rfl) (by rfl) B.min bo_min (pa_cons (pv 0) pa_nil)) (pa_cons (pe_callB (cr_maxT rfl) (by rfl) B.max bo_max (pa_cons (pv 0) pa_nil)) pa_nil)) (by rfl))
      (pss_cons (ps_set (i := 4) scscan_outside.nd rfl (by first | exact Or.inl rfl | exact Or.inr rfl) (pe_lst pa_nil))
      (pss_cons (ps_set (i := 5) scscan_outside.nd rfl (by first | exact Or.inl rfl | exact Or.inr rfl) (pv 2))
      (pss_cons (ps_set (i := 6) scscan_outside.nd rfl (by first | exact Or.inl rfl | exact Or.inr rfl) (pe_df Dfirst_reaching hr (pa_cons (pv 1) (pa_cons (pv 2) pa_nil))))
      (pss_cons (ps_while PassesOwn.never (pw_and (pt_cmpR op_lt (pv 6) (pe_callB call_len_seq (by rfl) B.len bo_len (pa_cons (pv 1) pa_nil)) (nomark _)) (pw_and1 (pt_cmpR op_le (pe_ix ix_tup (pe_ix ix_list (pv 1) (pv 6) (fun _ _ => rfl)) pe_int (fun _ _ => rfl)) (pv 3) (nomark _)))).pt (pss_cons (ps_if (pt_cmpR op_lt (pv 5) (pe_ix ix_tup (pe_ix ix_list (pv 1) (pv 6) (fun _ _ => rfl)) pe_int (fun _ _ => rfl)) (nomark _)) (pss_one (ps_expr (pe_bm PySem.F.plainAttrs_list PySem.F.slot_list_append PySem.F.type_list_append mt_append (pv 4) (pa_cons (pe_tup (pa_cons (pv 5) (pa_cons (pe_op op_sub (pe_ix ix_tup (pe_ix ix_list (pv 1) (pv 6) (fun _ _ => rfl)) pe_int (fun _ _ => rfl)) pe_int) pa_nil))) pa_nil)))) pss_nil)
      (pss_cons (ps_set (i := 5) scscan_outside.nd rfl (by first | exact Or.inl rfl | exact Or.inr rfl) (pe_op op_add (pe_ix ix_tup (pe_ix ix_list (pv 1) (pv 6) (fun _ _ => rfl)) pe_int (fun _ _ => rfl)) pe_int))
      (pss_one (ps_aug (i := 6) scscan_outside.nd rfl (by first | exact Or.inl rfl | exact Or.inr rfl) pe_int ip_add)))))
      (pss_cons (ps_if (pt_cmpR op_le (pv 5) (pv 3) (nomark _)) (pss_one (ps_expr (pe_bm PySem.F.plainAttrs_list PySem.F.slot_list_append PySem.F.type_list_append mt_append (pv 4) (pa_cons (pe_tup (pa_cons (pv 5) (pa_cons (pv 3) pa_nil))) pa_nil)))) pss_nil)
      (pss_cons (ps_if (pt_cmpR op_le (pe_ix ix_tup (pv 0) pe_int (fun _ _ => rfl)) (pe_ix ix_tup (pv 0) pe_int (fun _ _ => rfl)) (nomark _)) (pss_one (ps_ret (pv 4))) pss_nil)
      (pss_one (ps_ret (pe_lc (own := [("low", 7), ("high", 8)]) (g := (gTup K 2 (gCons (gName 7) (gCons (gName 8) gNil)))) (te := (tTup (tCons (tVar 8) (tCons (tVar 7) tNil)))) rfl scscan_outside.nd (pi_reversed (by rfl) (Br.reversed ⟨B2⟩) (pa_cons (pv 4) pa_nil)) (blkOk_by (N := ["scan", "spans", "least", "greatest", "left", "start", "at", "low", "high"]) (sc := defScope sscan_outside) (by decide +kernel)) (by exact fun _ _ _ _ _ => (pg_tup rfl (pgs_cons (pg_name (i := 7) scscan_outside.nd rfl (by first | exact Or.inl rfl | exact Or.inr rfl)) (pgs_cons (pg_name (i := 8) scscan_outside.nd rfl (by first | exact Or.inl rfl | exact Or.inr rfl)) pgs_nil)))) (by exact fun _ _ _ _ _ => pts_nil) (by exact fun _ _ _ _ _ => (pe_tup (pa_cons (pv 8) (pa_cons (pv 7) pa_nil)))))))))))))), ?_⟩
    refine ⟨.ref t, rfl, t, x, y, rfl, ht, .ref t, rfl, t, x, y, rfl, ht, _, _, rfl, ?_⟩
    rw [show (if y < x then y else x) = lo (x, y) from rfl, show (if y > x then y else x) = hi (x, y) from rfl]
    have lg := lo_hi (x, y)
    refine ⟨Nat.zero_le _, fun L nL => ⟨.int (lo (x, y)), rfl, .ref p, rfl, .int (lo (x, y)), rfl, p, zs, lo (x, y), rfl, hZ.mono (Ex.new nL), Nat.le_trans few (by decide), Az, fun k kl bl ab H1 e1 => ?_⟩⟩
    have hL1 := e1 _ _ (upd_same (H := H) (a := L) (o := .lst []))
    have e01 : Ex H H1 := (Ex.new nL).trans e1
    obtain ⟨vs, hp, pz⟩ := hZ
    have lv : vs.length = zs.length := Pa.len pz
    refine ⟨fun m σ H2 => ∃ (k : Nat) (st : Int) (us : List V) (rows : List Sc), m = zs.length - k ∧ k ≤ zs.length ∧ σ = [some (.ref t), some (.ref p), some (.int (lo (x, y))), some (.int (hi (x, y))), some (.ref L), some (.int st), some (.int k), none, none] ∧ Ex H H2 ∧ H2 L = some (.lst us) ∧ Paired (IsSc H2) us rows ∧ OI zs (lo (x, y)) (hi (x, y)) k st rows,
      ⟨_, k, lo (x, y), [], [], rfl, kl, rfl, e01, hL1, .nil, OI.start bl ab⟩, fun m σ H2 hW => ?_⟩
    obtain ⟨k, st, us, rows, rfl, kl, rfl, e2, hus, pus, I⟩ := hW
    have lus : us.length ≤ 1001 := by
      have z := Pa.len pus
      have z2 := I.few
      have z3 := List.length_filter_le (ins (lo (x, y)) (hi (x, y))) (zs.take k)
      rw [List.length_take] at z3
      split at z2 <;> omega
    refine ⟨.int k, rfl, .ref p, rfl, p, _, rfl, .inl (SqL.of (e2 _ _ hp)), _, _, rfl, rfl, _, rfl, ?_⟩
    rw [lv]
    by_cases cc : ∃ c1 : k < zs.length, zs[k].1 ≤ hi (x, y)
    · obtain ⟨c1, c2⟩ := cc
      rw [decide_eq_true (show (k : Int) < (zs.length : Int) by omega)]
      obtain ⟨v, gv, tk, rfl, htk⟩ := Pa.get2 pz (List.getElem?_eq_getElem c1)
      have gk := List.getElem?_eq_getElem c1
      have tk2 := e2 _ _ htk
      refine iteT ⟨.ref p, rfl, .int k, rfl, p, vs, k, .ref tk, rfl, rfl, SqL.of (e2 _ _ hp), atI_nat gv, tk, _, 0, _, rfl, rfl, SqT.of tk2, rfl, .int (hi (x, y)), rfl, _, _, rfl, rfl, _, rfl, ?_⟩
      rw [decide_eq_true c2]
      refine iteT ⟨fun σ' H' => ∃ (st : Int) (us : List V) (rows : List Sc), σ' = [some (.ref t), some (.ref p), some (.int (lo (x, y))), some (.int (hi (x, y))), some (.ref L), some (.int st), some (.int ((k + 1 : Nat) : Int)), none, none] ∧ Ex H H' ∧ H' L = some (.lst us) ∧ Paired (IsSc H') us rows ∧ OI zs (lo (x, y)) (hi (x, y)) (k + 1) st rows, fun σ' H' hN => ?_, ?_⟩
      · obtain ⟨st, us, rows, r⟩ := hN
        exact ⟨zs.length - (k + 1), by omega, k + 1, st, us, rows, rfl, by omega, r⟩
      have stp := I.step Az gk lg c2
      refine ⟨.int st, rfl, .ref p, rfl, .int k, rfl, p, vs, k, .ref tk, rfl, rfl, SqL.of (e2 _ _ hp), atI_nat gv, tk, _, 0, _, rfl, rfl, SqT.of tk2, rfl, _, _, rfl, rfl, _, rfl, ite2 (fun c => ?_) (fun c => ?_)⟩
      · have c' : st < zs[k].1 := of_decide_eq_true c
        rw [if_pos c'] at stp
        refine ⟨.ref L, rfl, .inl ⟨rfl, _, .inl (.inl hus)⟩, .int st, rfl, .ref p, rfl, .int k, rfl, p, vs, k, .ref tk, rfl, rfl, SqL.of (e2 _ _ hp), atI_nat gv, tk, _, 0, _, rfl, rfl, SqT.of tk2, rfl, _, _, rfl, rfl, by show 2 ≤ sizeLine; decide, fun r nr => ?_⟩
        have Lr : L ≠ r := ne_of_none hus nr
        have er := Ex.new (o := .tup [V.int st, V.int (zs[k].1 - 1)]) nr
        refine ⟨L, us, .ref r, rfl, rfl, er _ _ hus, small20 (by omega), ?_⟩
        have ee : Ex H (upd (upd H2 r (.tup [V.int st, V.int (zs[k].1 - 1)])) L (.lst (us ++ [V.ref r]))) := (e2.trans er).mut nL
        refine ⟨.ref p, rfl, .int k, rfl, p, vs, k, .ref tk, rfl, rfl, SqL.of (ee _ _ hp), atI_nat gv, tk, _, 1, _, rfl, rfl, SqT.of (ee _ _ htk), rfl, _, _, rfl, rfl, .int k, rfl, _, _, rfl, rfl, _, us ++ [.ref r], _, rfl, ee, upd_same, ?_, stp⟩
        exact Pa.lset (er _ _ hus) (Pa.snoc (Pa.mono er pus) ⟨r, rfl, upd_same⟩)
      · have c' : ¬ st < zs[k].1 := fun z => c (decide_eq_true z)
        rw [if_neg c'] at stp
        exact ⟨.ref p, rfl, .int k, rfl, p, vs, k, .ref tk, rfl, rfl, SqL.of (e2 _ _ hp), atI_nat gv, tk, _, 1, _, rfl, rfl, SqT.of tk2, rfl, _, _, rfl, rfl, .int k, rfl, _, _, rfl, rfl, _, us, _, rfl, e2, hus, pus, stp⟩
    by_cases c1 : k < zs.length
    case' pos =>
      rw [decide_eq_true (show (k : Int) < (zs.length : Int) by omega)]
      obtain ⟨v, gv, tk, rfl, htk⟩ := Pa.get2 pz (List.getElem?_eq_getElem c1)
      have gk := List.getElem?_eq_getElem c1
      have tk2 := e2 _ _ htk
      refine iteT ⟨.ref p, rfl, .int k, rfl, p, vs, k, .ref tk, rfl, rfl, SqL.of (e2 _ _ hp), atI_nat gv, tk, _, 0, _, rfl, rfl, SqT.of tk2, rfl, .int (hi (x, y)), rfl, _, _, rfl, rfl, _, rfl, ?_⟩
      have c2 : ¬ zs[k].1 ≤ hi (x, y) := fun c2 => cc ⟨c1, c2⟩
      rw [decide_eq_false c2]
      refine iteF ?_
      have hk : ∀ u, zs[k]? = some u → hi (x, y) < u.1 := fun u hu => by
        rw [gk] at hu
        cases hu
        omega
      clear gv htk gk tk2 c2
    case' neg =>
      rw [decide_eq_false (show ¬ (k : Int) < (zs.length : Int) by omega)]
      refine iteF ?_
      have hk : ∀ u, zs[k]? = some u → hi (x, y) < u.1 := fun u hu => by
        have := (List.getElem?_eq_some_iff.mp hu).1
        omega
    all_goals
      have al := I.all Az hk
      obtain ⟨_, fw⟩ := I.stop Az hk lg
      refine ⟨.int st, rfl, .int (hi (x, y)), rfl, _, _, rfl, rfl, _, rfl, ite2 (fun c => ?_) (fun c => ?_)⟩
      case' refine_1 =>
        have c' : st ≤ hi (x, y) := of_decide_eq_true c
        rw [if_pos c'] at al fw
        refine ⟨.ref L, rfl, .inl ⟨rfl, _, .inl (.inl hus)⟩, .int st, rfl, .int (hi (x, y)), rfl, by show 2 ≤ sizeLine; decide, fun r nr => ?_⟩
        have er := Ex.new (o := .tup [V.int st, V.int (hi (x, y))]) nr
        refine ⟨L, us, .ref r, rfl, rfl, er _ _ hus, small20 (by omega), ?_⟩
        have f9 : ∃ us', (upd (upd H2 r (.tup [V.int st, V.int (hi (x, y))])) L (.lst (us ++ [V.ref r]))) L = some (.lst us') ∧ Paired (IsSc (upd (upd H2 r (.tup [V.int st, V.int (hi (x, y))])) L (.lst (us ++ [V.ref r])))) us' (rows ++ [(st, hi (x, y))]) := ⟨_, upd_same, Pa.lset (er _ _ hus) (Pa.snoc (Pa.mono er pus) ⟨r, rfl, upd_same⟩)⟩
        have ee : Ex H (upd (upd H2 r (.tup [V.int st, V.int (hi (x, y))])) L (.lst (us ++ [V.ref r]))) := (e2.trans er).mut nL
        generalize upd (upd H2 r (.tup [V.int st, V.int (hi (x, y))])) L (.lst (us ++ [V.ref r])) = H3 at f9 ee ⊢
        generalize rows ++ [(st, hi (x, y))] = rs at f9 al fw
      case' refine_2 =>
        have c' : ¬ st ≤ hi (x, y) := fun z => c (decide_eq_true z)
        rw [if_neg c'] at al fw
        have f9 : ∃ us', H2 L = some (.lst us') ∧ Paired (IsSc H2) us' rows := ⟨us, hus, pus⟩
        have ee := e2
        generalize H2 = H3 at f9 ee ⊢
        generalize rows = rs at f9 al fw
      all_goals
        obtain ⟨us3, hu3, pu3⟩ := f9
        have ht3 := ee _ _ ht
        refine ⟨.ref t, rfl, t, _, 0, _, rfl, rfl, SqT.of ht3, rfl, .ref t, rfl, t, _, 1, _, rfl, rfl, SqT.of ht3, rfl, _, _, rfl, rfl, _, rfl, ite2 (fun e => ?_) (fun e => ?_)⟩
        · have e' : x ≤ y := of_decide_eq_true e
          rw [if_pos e'] at al
          exact ⟨_, rfl, q L H3 rs nL ee ⟨us3, hu3, pu3⟩ al fw⟩
        · have e' : ¬ x ≤ y := fun z => e (decide_eq_true z)
          rw [if_neg e'] at al
          have lu3 : us3.length = rs.length := Pa.len pu3
          have cl := List.length_filter_le (ins (lo (x, y)) (hi (x, y))) zs
          refine ⟨.ref L, rfl, L, us3, rfl, SqL.of hu3, fun D2 hD2 => ?_⟩
          refine lc_rev (xs := us3) (fun i H4 => Ex H3 H4 ∧ ∃ ws, H4 D2 = some (.lst ws) ∧ Paired (IsSc H4) ws ((rs.reverse.take i).map swp)) ⟨Ex.new hD2, [], upd_same, .nil⟩ (fun i H4 _ p => SqL.of (p.1 _ _ hu3)) (fun i v H4 hx p => ?_) (fun H4 p => ?_)
          · obtain ⟨e3, ws, hws, pws⟩ := p
            obtain ⟨⟨a1, a2⟩, gs, t, rfl, ht⟩ := Pa.get (Pa.rev pu3) hx
            have li : i < us3.length := by
              have z := (List.getElem?_eq_some_iff.mp hx).1
              rwa [List.length_reverse] at z
            have lws : ws.length ≤ i := by
              have z := Pa.len pws
              rw [List.length_map, List.length_take] at z
              omega
            refine ⟨t, _, rfl, SqT.of (e3 _ _ ht), rfl, _, _, rfl, _, _, rfl, rfl, rfl, ?_⟩
            refine ⟨.int a2, rfl, .int a1, rfl, by show 2 ≤ sizeLine; decide, fun p np => ?_⟩
            have pD : D2 ≠ p := ne_of_none hws np
            refine ⟨ws, (upd_ne pD).trans hws, small20 (by omega), (e3.add np).mut hD2, _, upd_same, ?_⟩
            rw [List.take_add_one, gs, List.map_append]
            exact Pa.lset ((upd_ne pD).trans hws) (Pa.snoc (s := swp (a1, a2)) (Pa.mono (Ex.new np) pws) ⟨p, rfl, upd_same⟩)
          · obtain ⟨e3, ws, hws, pws⟩ := p
            rw [List.take_of_length_le (by rw [List.length_reverse, lu3]; exact Nat.le_refl _)] at pws
            exact q D2 H4 _ (ee.back hD2) (ee.trans e3) ⟨ws, hws, pws⟩ al (by rw [List.length_map, List.length_reverse]; exact fw)
theorem ok_others_of (B : Bt mg) (Dscan_outside : Df P w K mg base "scan_outside" 2 ["scan", "spans"] spOutside) {f : Addr} {fd : FuncData} (F : Fun K "others_of" "others_of" sothers_of f fd) : FnOk P w K mg base CX0 3 f fd ["scans", "taken"] spOthers := by
  refine F.ok scothers_of (fun vs H Q E h => ?_) (fun cdv A outer s H vs Q E hr h => ?_)
  · obtain ⟨a, t, ss, ts, rfl, _⟩ := h
    rfl
  · obtain ⟨a, t, ss, ts, rfl, hS, hT, few, tew, dis, q⟩ := h
    refine ⟨_, (pss_cons (ps_set (i := 2) scothers_of.nd rfl (by first | exact Or.inl rfl | exact Or.inr rfl) (pe_callB cr_sortedPO (by rfl) B.sorted bo_sorted (pa_cons (pe_lc (own := [("scan", 3)]) (g := (gName 3)) (te := (tTup (tCons (tCB _ (tCons (tVar 3) tNil)) (tCons (tCB _ (tCons (tVar 3) tNil)) tNil)))) rfl scothers_of.nd (pi_list (pv 1)) (blkOk_by (N := ["scans", "taken", "spans", "scan", "part"]) (sc := defScope sothers_of) (by decide +kernel)) (by exact fun _ _ _ _ _ => (pg_name (i := 3) scothers_of.nd rfl (by first | exact Or.inl rfl | exact Or.inr rfl))) (by exact fun _ _ _ _ _ => pts_nil) (by exact fun _ _ _ _ _ => (pe_tup (pa_cons (pe_callB (cr_minT rfl) (by rfl) B.min bo_min (pa_cons (pv 3) pa_nil)) (pa_cons (pe_callB (cr_maxT rfl) (by rfl) B.max bo_max (pa_cons (pv 3) pa_nil)) pa_nil))))) pa_nil)))
      (pss_one (ps_ret (pe_lc2 (own := [("scan", 3), ("part", 4)]) (vs1 := [4]) (g := (gName 3)) (g1 := (gName 4)) (wi1 := (iList K (tCall _ [] E0 (tCons (tVar 3) (tCons (tVar 2) tNil))))) (te := (tVar 4)) rfl scothers_of.nd (pi_list (pv 0)) (blkOk_by (N := ["scans", "taken", "spans", "scan", "part"]) (sc := defScope sothers_of) (by decide +kernel)) (by decide) (by exact fun _ _ _ _ _ => (pg_name (i := 3) scothers_of.nd rfl (by first | exact Or.inl rfl | exact Or.inr rfl))) (by exact fun _ _ _ _ _ => pts_nil) (by exact fun _ _ _ _ _ => (pi_list (pe_df Dscan_outside hr (pa_cons (pv 3) (pa_cons (pv 2) pa_nil))))) (by exact fun _ _ _ _ _ => (pg_name (i := 4) scothers_of.nd rfl (by first | exact Or.inl rfl | exact Or.inr rfl))) (by exact fun _ _ _ _ _ => pts_nil) (by exact fun _ _ _ _ _ => (pv 4)))))), ?_⟩
    obtain ⟨vs, ht, pt⟩ := hT
    have lv : vs.length = ts.length := Pa.len pt
    refine ⟨.ref t, rfl, t, rfl, ⟨_, SqL.of ht⟩, fun D hD => lc_list (xs := vs) (fun i H2 => Ex H H2 ∧ ∃ us, H2 D = some (.lst us) ∧ Paired (IsSc H2) us ((ts.take i).map spn)) ?_ (fun i H2 _ p => ?_) (fun i x H2 hx p => ?_) (fun H2 p => ?_)⟩
    · exact ⟨Ex.new hD, [], upd_same, .nil⟩
    · exact SqL.of (p.1 _ _ ht)
    · obtain ⟨e2, us, hus, pus⟩ := p
      obtain ⟨⟨x1, x2⟩, gs, tp, rfl, htp⟩ := Pa.get pt hx
      have lu : us.length = i := by
        have z := Pa.len pus
        rw [List.length_map, List.length_take] at z
        have y := (List.getElem?_eq_some_iff.mp gs).1
        omega
      refine ⟨rfl, .ref tp, rfl, tp, x1, x2, rfl, e2 _ _ htp, .ref tp, rfl, tp, x1, x2, rfl, e2 _ _ htp, by show 2 ≤ sizeLine; decide, fun p np => ?_⟩
      have pD : p ≠ D := fun z => by
        rw [z, hus] at np
        cases np
      refine ⟨us, (upd_ne (Ne.symm pD)).trans hus, small1000 (by have := (List.getElem?_eq_some_iff.mp gs).1; omega), (e2.add np).mut hD, _, upd_same, ?_⟩
      have k1 := Pa.snoc (s := spn (x1, x2)) (Pa.mono (Ex.new np) pus) ⟨p, rfl, upd_same⟩
      rw [List.take_add_one, gs, List.map_append]
      exact Pa.lset ((upd_ne (Ne.symm pD)).trans hus) k1
    obtain ⟨e2, us, hus, pus⟩ := p
    rw [lv, List.take_length] at pus
    refine ⟨D, us, kOf H2, rfl, SqL.of hus, fun x hx => ?_, fun zv p s1 s2 np => ?_⟩
    · obtain ⟨s1, _, i1⟩ := Pa.mem pus x hx
      have ek := kOf_eq i1
      rw [ek]
      exact i1
    obtain ⟨zs, pz, per, ord⟩ := Pa.sorted pus s1 s2
    have Az := asc_of dis per ord
    have lz : zs.length = ts.length := by rw [per.length_eq, List.length_map]
    have lzv := Pa.len pz
    have e3 : Ex H2 (upd H2 p (.lst zv)) := Ex.new np
    have hZ : Scs (upd H2 p (.lst zv)) p zs := ⟨zv, upd_same, Pa.mono e3 pz⟩
    have e03 := e2.trans e3
    generalize upd H2 p (.lst zv) = H3 at hZ e03 ⊢
    have fe : (rdL ss).filter (outL ts) = (rdL ss).filter (out zs) := by
      rw [show outL ts = out zs from funext fun z => (out_eq per z).symm]
    obtain ⟨vs, ha, pa⟩ := hS
    have lv : vs.length = ss.length := Pa.len pa
    have cb : ∀ i, i ≤ ss.length → cntS (ss.take i) zs ≤ i * ts.length := fun i hi => by
      have := cntS_le (ss.take i) zs
      rw [List.length_take, Nat.min_eq_left hi, lz] at this
      exact this
    refine ⟨.ref a, rfl, a, rfl, ⟨_, SqL.of (e03 _ _ ha)⟩, fun D hD => two_list (xs := vs) (fun i H2 => Ex H3 H2 ∧ ∃ us rows, H2 D = some (.lst us) ∧ Paired (IsSc H2) us rows ∧ rdL rows = (rdL (ss.take i)).filter (out zs) ∧ rows.length ≤ i + cntS (ss.take i) zs) ⟨Ex.new hD, [], [], upd_same, .nil, rfl, Nat.zero_le _⟩ (fun i H2 _ p => SqL.of (p.1 _ _ (e03 _ _ ha))) (fun i v H2 hx p => ?_) (fun H2 p => ?_)⟩
    · obtain ⟨e2, us, rows, hus, pus, er, fr⟩ := p
      obtain ⟨s1, gs, i1⟩ := Pa.get pa hx
      have li : i < ss.length := (List.getElem?_eq_some_iff.mp gs).1
      have rs := rdL_snoc gs
      have cs := cntS_snoc (zs := zs) gs
      have cbi := cb i (by omega)
      have lu : us.length ≤ i + i * ts.length := by
        have z := Pa.len pus
        omega
      have big : i * ts.length ≤ 999 * 1000 := Nat.mul_le_mul (by omega) tew
      refine ⟨rfl, v, rfl, .ref p, rfl, v, p, s1, zs, rfl, i1.mono (e03.trans e2), hZ.mono e2, by omega, Az, fun p4 H4 ys np4 e4 hp4 ry fy => ?_⟩
      obtain ⟨yv, hyv, pyv⟩ := hp4
      have ly := Pa.len pyv
      have cl := List.length_filter_le (ins (lo s1) (hi s1)) zs
      have pD : p4 ≠ D := fun z => by
        rw [z, hus] at np4
        cases np4
      refine ⟨p4, rfl, ⟨_, SqL.of hyv⟩, in_list (ys := yv) (fun j H5 => Ex H3 H5 ∧ H5 p4 = some (.lst yv) ∧ Paired (IsSc H5) yv ys ∧ ∃ zv, H5 D = some (.lst zv) ∧ zv.length = us.length + j ∧ Paired (IsSc H5) zv (rows ++ ys.take j)) ?_ (fun j H5 _ z => SqL.of z.2.1) (fun j x H5 hx z => ?_) (fun H5 z => ?_)⟩
      · refine ⟨e2.trans e4, hyv, pyv, us, e4 _ _ hus, rfl, ?_⟩
        rw [List.take_zero, List.append_nil]
        exact Pa.mono e4 pus
      · obtain ⟨e5, hy5, py5, wv, hwv, lw, pw⟩ := z
        obtain ⟨s2, gs2, i2⟩ := Pa.get py5 hx
        have lj : j < yv.length := (List.getElem?_eq_some_iff.mp hx).1
        refine ⟨rfl, x, rfl, wv, hwv, small20 (by omega), e5.mut hD, (upd_ne pD).trans hy5, Pa.lset hwv py5, wv ++ [x], upd_same, ?_, ?_⟩
        · rw [List.length_append, List.length_singleton, lw]
          omega
        · have z := Pa.lset (us' := wv ++ [x]) hwv (Pa.snoc pw i2)
          rw [List.append_assoc] at z
          rw [List.take_add_one, gs2]
          exact z
      · obtain ⟨e5, hy5, py5, wv, hwv, lw, pw⟩ := z
        rw [Pa.len pyv, List.take_length] at pw
        refine ⟨e5, wv, rows ++ ys, hwv, pw, ?_, ?_⟩
        · rw [rdL_app, er, ry, rs, List.filter_append]
        · rw [List.length_append, cs]
          omega
    · obtain ⟨e2, us, rows, hus, pus, er, fr⟩ := p
      rw [lv, List.take_length] at er fr
      refine q D H2 rows (e03.back hD) (e03.trans e2) ⟨us, hus, pus⟩ (by rw [fe]; exact er) ?_ fun d => ?_
      · have := cntS_le ss zs
        rw [lz] at this
        rw [Nat.mul_add, Nat.mul_one]
        omega
      · have := cntS_apart d (zs := zs) Az.le
        omega
theorem ok_joined (B : Bt mg) {f : Addr} {fd : FuncData} (F : Fun K "joined" "joined" sjoined f fd) : FnOk P w K mg base CX0 1 f fd ["scans"] spJoined := by
  refine F.ok scjoined (fun vs H Q E h => ?_) (fun cdv A outer s H vs Q E hr h => ?_)
  · obtain ⟨a, ss, rfl, _⟩ := h
    rfl
  · obtain ⟨a, ss, rfl, ⟨vs, ha, pa⟩, few, q⟩ := h
    refine ⟨_, (pss_cons (ps_set (i := 1) scjoined.nd rfl (by first | exact Or.inl rfl | exact Or.inr rfl) (pe_lst pa_nil))
      (pss_cons (ps_for PassesOwn.never rfl (pi_list (pv 0)) (pg_tup rfl (pgs_cons (pg_name (i := 2) scjoined.nd rfl (by first | exact Or.inl rfl | exact Or.inr rfl)) (pgs_cons (pg_name (i := 3) scjoined.nd rfl (by first | exact Or.inl rfl | exact Or.inr rfl)) pgs_nil))) (pss_one (ps_if (pw_and (pt_truth (pv 1) (by intro _; rfl)) (pw_and1 (pt_cmpR op_eq (pe_callB call_abs (by rfl) B.abs bo_abs (pa_cons (pe_op op_sub (pv 2) (pe_ix ix_tup (pe_ix ix_list (pv 1) (pe_un un_neg pe_int) (fun _ _ => rfl)) pe_int (fun _ _ => rfl))) pa_nil)) pe_int (nomark _)))).pt (pss_one (ps_asg (pe_tup (pa_cons (pe_ix ix_tup (pe_ix ix_list (pv 1) (pe_un un_neg pe_int) (fun _ _ => rfl)) pe_int (fun _ _ => rfl)) (pa_cons (pv 3) pa_nil))) (pg_sub (pv 1) (pe_un un_neg pe_int) set_list))) (pss_one (ps_expr (pe_bm PySem.F.plainAttrs_list PySem.F.slot_list_append PySem.F.type_list_append mt_append (pv 1) (pa_cons (pe_tup (pa_cons (pv 2) (pa_cons (pv 3) pa_nil))) pa_nil)))))))
      (pss_one (ps_ret (pv 1))))), ?_⟩
    have lv : vs.length = ss.length := Pa.len pa
    refine ⟨Nat.zero_le _, fun p np => ?_⟩
    refine ⟨.ref a, rfl, a, rfl, ⟨_, SqL.of (Ex.new np _ _ ha)⟩, for_list (xs := vs) (JW H a p ss) ⟨none, none, [], rfl, Ex.new np, upd_same, .nil⟩ (fun i σ H1 _ pv => ?_) (fun i v0 σ H1 hx pv => ?_) (fun σ H1 pv => ?_)⟩
    · obtain ⟨_, _, _, _, e1, _⟩ := pv
      exact SqL.of (e1 _ _ ha)
    · obtain ⟨y2, y3, us, rfl, e1, hp, pu⟩ := pv
      obtain ⟨⟨x, y⟩, gs, t0, rfl, ht0⟩ := Pa.get pa hx
      have hi : i < ss.length := (List.getElem?_eq_some_iff.mp gs).1
      have lu : us.length ≤ i := by
        have z := Pa.len pu
        have z2 := jn_len (ss.take i)
        rw [List.length_take] at z2
        omega
      refine ⟨t0, _, rfl, SqT.of (e1 _ _ ht0), rfl, _, _, rfl, _, _, rfl, rfl, ?_⟩
      refine ⟨.ref p, rfl, !us.isEmpty, .inl ⟨us, SqL.of hp, rfl⟩, ?_⟩
      rcases eq_nil_or_snoc us with eu | ⟨pre, v, eu⟩
      · subst eu
        have ej : jn (ss.take i) = [] := by
          cases hj : jn (ss.take i) with
          | nil => rfl
          | cons c r =>
            rw [hj] at pu
            cases pu
        refine iteF (iteF ⟨.ref p, rfl, .inl ⟨rfl, _, .inl (.inl hp)⟩, .int x, rfl, .int y, rfl, by show 2 ≤ sizeLine; decide, fun q nq => ⟨p, [], .ref q, rfl, rfl, (upd_ne (ne_of_none hp nq)).trans hp, by decide, ?_⟩⟩)
        exact jw_app np gs e1 hp pu nq (by rw [ej]; rfl) ⟨_, _, rfl⟩
      · subst eu
        obtain ⟨pre', t, ej, pp, tv, rfl, htv⟩ := Pa.concat pu
        have emp : (!(pre ++ [V.ref tv]).isEmpty) = true := by simp
        rw [emp]
        refine iteT ⟨.int x, rfl, .ref p, rfl, 1, rfl, p, _, -1, .ref tv, rfl, rfl, SqL.of hp, atI_last _ _, tv, _, 1, _, rfl, rfl, SqT.of htv, rfl, x, t.2, rfl, rfl, x - t.2, rfl, rfl, _, rfl, ite2 (fun e => ?_) (fun e => ?_)⟩
        · have hc : absI (x - t.2) = 1 := V.int.inj (of_decide_eq_true e)
          refine ⟨.ref p, rfl, 1, rfl, p, _, -1, .ref tv, rfl, rfl, SqL.of hp, atI_last _ _, tv, _, 0, _, rfl, rfl, SqT.of htv, rfl, .int y, rfl, by show 2 ≤ sizeLine; decide, fun q nq => ?_⟩
          exact ⟨.ref p, rfl, 1, rfl, p, _, -1, pre.length, rfl, rfl, (upd_ne (ne_of_none hp nq)).trans hp, ix_last _ _, jw_set np gs e1 hp pp nq ej hc ⟨_, _, rfl⟩⟩
        · have hc : ¬ absI (x - t.2) = 1 := fun z => e (decide_eq_true (congrArg V.int z))
          refine ⟨.ref p, rfl, .inl ⟨rfl, _, .inl (.inl hp)⟩, .int x, rfl, .int y, rfl, by show 2 ≤ sizeLine; decide, fun q nq => ⟨p, _, .ref q, rfl, rfl, (upd_ne (ne_of_none hp nq)).trans hp, small20 (by omega), ?_⟩⟩
          exact jw_app np gs e1 hp pu nq (by rw [ej, jstep_snoc, if_neg hc]) ⟨_, _, rfl⟩
    · obtain ⟨y2, y3, us, rfl, e1, hp, pu⟩ := pv
      rw [lv, List.take_length] at pu
      exact ⟨_, rfl, q p _ np e1 ⟨us, hp, pu⟩⟩
theorem ok_put_ahead (Dothers_of : Df P w K mg base "others_of" 3 ["scans", "taken"] spOthers) (Djoined : Df P w K mg base "joined" 1 ["scans"] spJoined) {f : Addr} {fd : FuncData} (F : Fun K "put_ahead" "put_ahead" sput_ahead f fd) : FnOk P w K mg base CX0 4 f fd ["scans", "others"] spAhead := by
  refine F.ok scput_ahead (fun vs H Q E h => ?_) (fun cdv A outer s H vs Q E hr h => ?_)
  · obtain ⟨t, a, ts, ss, rfl, _⟩ := h
    rfl
  · obtain ⟨t, a, ts, ss, rfl, hT, hS, tew, few, dis, q⟩ := h
    refine ⟨_, (pss_one (ps_ret (pe_df Djoined hr (pa_cons (pe_op op_cat (pv 0) (pe_df Dothers_of hr (pa_cons (pv 1) (pa_cons (pv 0) pa_nil)))) pa_nil)))), ?_⟩
    refine ⟨.ref t, rfl, .ref a, rfl, .ref t, rfl, a, t, ss, ts, rfl, hS, hT, few, tew, dis, fun p H1 rows np e1 hp er fr fr2 => ?_⟩
    obtain ⟨vs, ht, pt⟩ := hT.mono e1
    obtain ⟨us, hus, pus⟩ := hp
    have big : ss.length * (ts.length + 1) ≤ 1000 * 1001 := Nat.mul_le_mul few (by omega)
    have lus : us.length ≤ 1000 * 1001 := by
      have z := Pa.len pus
      omega
    have lvs := Pa.len pt
    refine ⟨t, p, vs, us, rfl, rfl, ht, hus, Nat.le_of_lt (small20 (by omega)), fun r nr => ?_⟩
    have xr := Ex.new (o := .lst (vs ++ us)) nr
    have ej : jn (ts ++ rows) = ahead ts ss := by
      unfold ahead
      rw [← er, ← rdL_app, jn_rdL]
    refine ⟨r, ts ++ rows, rfl, ⟨_, upd_same, Pa.app (Pa.mono xr pt) (Pa.mono xr pus)⟩, by rw [List.length_append]; omega, fun b H4 nb e4 hb => ?_⟩
    rw [ej] at hb
    refine q b H4 (e1.back (xr.back nb)) ((e1.trans xr).trans e4) hb fun d => ?_
    rw [← ej]
    have := jn_len (ts ++ rows)
    rw [List.length_append] at this
    have := fr2 d
    omega
theorem ok_behind (B : Bt mg) (Dstraight_pieces : Df P w K mg base "straight_pieces" 4 ["lasts", "firsts"] spPieces) (Dput_ahead : Df P w K mg base "put_ahead" 4 ["scans", "others"] spAhead) {f : Addr} {fd : FuncData} (F : Fun K "three_behind" "three_behind" sthree_behind f fd) : FnOk P w K mg base CX0 5 f fd ["one", "two"] spBehind := by
  refine F.ok scthree_behind (fun vs H Q E h => ?_) (fun cdv A outer s H vs Q E hr h => ?_)
  · obtain ⟨v, u, X, Y, ps, qs, M, N, Z, rfl, _⟩ := h
    rfl
  · obtain ⟨v, u, X, Y, ps, qs, M, N, Z, rfl, ⟨t, f1, l1, c1, rfl, ht, hf1, hl1, hc1⟩, ⟨s2, f2, l2, c2, rfl, hs, hf2, hl2, hc2⟩, tX, tY, fX, fY, M1, N1, few, q⟩ := h
    refine ⟨_, (pss_cons (ps_set (i := 2) scthree_behind.nd rfl (by first | exact Or.inl rfl | exact Or.inr rfl) (pe_op op_cat (pe_op op_cat (pe_ix ix_tup (pv 0) pe_int (fun _ _ => rfl)) (pe_ix ix_tup (pv 1) pe_int (fun _ _ => rfl))) (pe_df Dstraight_pieces hr (pa_cons (pe_ix ix_tup (pv 0) pe_int (fun _ _ => rfl)) (pa_cons (pe_ix ix_tup (pv 1) pe_int (fun _ _ => rfl)) pa_nil)))))
      (pss_one (ps_ret (pe_tup (pa_cons (pe_df Dput_ahead hr (pa_cons (pe_ix ix_tup (pv 0) pe_int (fun _ _ => rfl)) (pa_cons (pe_ix ix_tup (pv 1) pe_int (fun _ _ => rfl)) pa_nil))) (pa_cons (pe_df Dput_ahead hr (pa_cons (pe_ix ix_tup (pv 1) pe_int (fun _ _ => rfl)) (pa_cons (pe_ix ix_tup (pv 0) pe_int (fun _ _ => rfl)) pa_nil))) (pa_cons (pv 2) pa_nil))))))), ?_⟩
    refine ⟨_, rfl, t, _, 2, _, rfl, rfl, SqT.of ht, rfl, _, rfl, s2, _, 2, _, rfl, rfl, SqT.of hs, rfl, ?_⟩
    refine Pcs.cat hc1 hc2 (by omega) fun p H1 np e1 hp => ?_
    refine ⟨_, rfl, t, _, 1, _, rfl, rfl, SqT.of (e1 _ _ ht), rfl, _, rfl, s2, _, 0, _, rfl, rfl, SqT.of (e1 _ _ hs), rfl, l1, f2, _, _, rfl, ⟨hl1.mono e1, hf2.mono e1, by have := fX.l; omega, by have := fY.f; omega, tdy_apart (lstF_nodup _), tdy_apart (lstR_nodup _)⟩, fun p2 H2 LA LB np2 e2 SA SB hp2 => ?_⟩
    obtain ⟨g1, g2, g3⟩ := straight_tp fX fY SA SB
    generalize (shr LA LB).map (pcB (shr LA LB)) = ss at g1 g2 g3 hp2
    refine Pcs.cat (hp.mono e2) hp2 (by rw [List.length_append]; omega) fun p3 H3 np3 e3 hp3 => ?_
    have e13 := (e1.trans e2).trans e3
    refine ⟨_, rfl, t, _, 0, _, rfl, rfl, SqT.of (e13 _ _ ht), rfl, _, rfl, s2, _, 0, _, rfl, rfl, SqT.of (e13 _ _ hs), rfl, f1, f2, _, _, rfl, hf1.mono e13, hf2.mono e13, by have := fX.f; omega, by have := fY.f; omega, tdy_apart (lstR_nodup _), fun p4 H4 np4 e4 hp4 _ => ?_⟩
    rw [firsts_app] at hp4
    have e14 := e13.trans e4
    refine ⟨_, rfl, s2, _, 1, _, rfl, rfl, SqT.of (e14 _ _ hs), rfl, _, rfl, t, _, 1, _, rfl, rfl, SqT.of (e14 _ _ ht), rfl, l2, l1, _, _, rfl, hl2.mono e14, hl1.mono e14, by have := fY.l; omega, by have := fX.l; omega, tdy_apart (lstF_nodup _), fun p5 H5 np5 e5 hp5 _ => ?_⟩
    rw [lasts_app] at hp5
    refine ⟨_, rfl, by show 3 ≤ sizeLine; decide, fun p6 np6 => ?_⟩
    have e6 := Ex.new (o := .tup [V.ref p4, V.ref p5, V.ref p3]) np6
    have e46 := e5.trans e6
    exact q _ _ _ (e14.trans e46) ⟨p6, p4, p5, p3, rfl, upd_same, hp4.mono e46, hp5.mono e6, hp3.mono (e4.trans e46)⟩ (tX.app tY g1 g2) (by rw [List.length_append, List.length_append]; omega)
theorem ok_mulT {f : Addr} {fd : FuncData} (F : Fun K "multiplied" "multiplied" smultiplied f fd) : FnOk P w K mg base CX0 1 f fd ["pieces", "times"] spMulT := by
  refine F.ok scmultiplied (fun vs H Q E h => ?_) (fun cdv A outer s H vs Q E hr h => ?_)
  · obtain ⟨a, ps, n, rfl, _⟩ := h
    rfl
  · obtain ⟨a, ps, n, rfl, ⟨vs, ha, pa⟩, few, bd, n0, n1, q⟩ := h
    refine ⟨_, (pss_one (ps_ret (pe_lc (own := [("low", 2), ("high", 3), ("many", 4)]) (g := (gTup K 3 (gCons (gName 2) (gCons (gName 3) (gCons (gName 4) gNil))))) (te := (tTup (tCons (tVar 2) (tCons (tVar 3) (tCons (tOp _ (tVar 4) (tVar 1)) tNil))))) rfl scmultiplied.nd (pi_list (pv 0)) (blkOk_by (N := ["pieces", "times", "low", "high", "many"]) (sc := defScope smultiplied) (by decide +kernel)) (by exact fun _ _ _ _ _ => (pg_tup rfl (pgs_cons (pg_name (i := 2) scmultiplied.nd rfl (by first | exact Or.inl rfl | exact Or.inr rfl)) (pgs_cons (pg_name (i := 3) scmultiplied.nd rfl (by first | exact Or.inl rfl | exact Or.inr rfl)) (pgs_cons (pg_name (i := 4) scmultiplied.nd rfl (by first | exact Or.inl rfl | exact Or.inr rfl)) pgs_nil))))) (by exact fun _ _ _ _ _ => pts_nil) (by exact fun _ _ _ _ _ => (pe_tup (pa_cons (pv 2) (pa_cons (pv 3) (pa_cons (pe_op op_mulW (pv 4) (pv 1)) pa_nil)))))))), ?_⟩
    have lv : vs.length = ps.length := Pr.len pa
    refine ⟨.ref a, rfl, a, rfl, ⟨_, SqL.of ha⟩, fun D hD => lc_list (xs := vs) (fun i H1 => Ex H H1 ∧ ∃ us, H1 D = some (.lst us) ∧ PaP H1 us (mulP (ps.take i) n)) ⟨Ex.new hD, [], upd_same, .nil⟩ (fun i H1 _ p => SqL.of (p.1 _ _ ha)) (fun i v H1 hx p => ?_) (fun H1 p => ?_)⟩
    · obtain ⟨e1, us, hL, pu⟩ := p
      obtain ⟨⟨l, h, t⟩, gs, tp, rfl, ht⟩ := Pr.get pa hx
      have li : i < ps.length := (List.getElem?_eq_some_iff.mp gs).1
      obtain ⟨b3, b5⟩ := bd _ (List.mem_of_getElem? gs)
      have b3' : 1 ≤ t := b3
      have b5' : t ≤ 10 ^ 300 := b5
      have big : (10 : Nat) ^ 300 < 2 ^ 1000 := by decide +kernel
      have big2 : (10 : Nat) ^ 100 < 2 ^ 1000 := by decide +kernel
      have lu : us.length ≤ i := by
        have z := Pr.len pu
        unfold mulP at z
        rw [List.length_map, List.length_take] at z
        omega
      refine ⟨tp, _, rfl, SqT.of (e1 _ _ ht), rfl, _, _, rfl, _, _, rfl, _, _, rfl, rfl, rfl, ?_⟩
      refine ⟨.int l, rfl, .int h, rfl, .int t, rfl, .int n, rfl, t, n, rfl, rfl, ?_, by show 3 ≤ sizeLine; decide, fun p np => ?_⟩
      · exact wide_mul (a := 1000) (b := 1000) (Nat.lt_of_le_of_lt (m := 10 ^ 300) (by omega) big) (Nat.lt_of_le_of_lt (m := 10 ^ 100) (by omega) big2) (by decide) (by decide) (by decide)
      have x1 := Ex.new (o := .tup [V.int l, V.int h, V.int (t * n)]) np
      have hL2 := x1 _ _ hL
      refine ⟨us, hL2, small20 (by omega), (e1.trans x1).mut hD, us ++ [.ref p], upd_same, ?_⟩
      have tk : mulP (ps.take (i + 1)) n = mulP (ps.take i) n ++ [(l, h, t * n)] := by
        unfold mulP
        rw [List.take_add_one, gs, List.map_append]
        rfl
      rw [tk]
      exact PaP.lset hL2 (Pr.snoc (PaP.mono x1 pu) ⟨p, rfl, upd_same⟩)
    · obtain ⟨e1, us, hL, pu⟩ := p
      rw [lv, List.take_length] at pu
      exact q D H1 hD e1 ⟨us, hL, pu⟩
theorem ok_times3 (B : Bt mg) (Dstraight_pieces : Df P w K mg base "straight_pieces" 4 ["lasts", "firsts"] spPieces) (Dmultiplied : Df P w K mg base "multiplied" 1 ["pieces", "times"] spMulT) {f : Addr} {fd : FuncData} (F : Fun K "three_times" "three_times" sthree_times f fd) : FnOk P w K mg base CX0 5 f fd ["three", "times"] spTimes3 := by
  refine F.ok scthree_times (fun vs H Q E h => ?_) (fun cdv A outer s H vs Q E hr h => ?_)
  · obtain ⟨v, X, ps, n, M, Z, rfl, _⟩ := h
    rfl
  · obtain ⟨v, X, ps, n, M, Z, rfl, ⟨t, f1, l1, c1, rfl, ht, hf1, hl1, hc1⟩, tX, fX, M1, few, lX, n2, n3, q⟩ := h
    refine ⟨_, (pss_cons (ps_if (pt_cmpR op_eq (pv 1) pe_int (nomark _)) (pss_one (ps_ret (pe_tup (pa_cons (pe_lst pa_nil) (pa_cons (pe_lst pa_nil) (pa_cons (pe_lst pa_nil) pa_nil)))))) pss_nil)
      (pss_cons (ps_asg (pv 0) (pg_tup rfl (pgs_cons (pg_name (i := 2) scthree_times.nd rfl (by first | exact Or.inl rfl | exact Or.inr rfl)) (pgs_cons (pg_name (i := 3) scthree_times.nd rfl (by first | exact Or.inl rfl | exact Or.inr rfl)) (pgs_cons (pg_name (i := 4) scthree_times.nd rfl (by first | exact Or.inl rfl | exact Or.inr rfl)) pgs_nil)))))
      (pss_cons (ps_set (i := 5) scthree_times.nd rfl (by first | exact Or.inl rfl | exact Or.inr rfl) (pe_df Dstraight_pieces hr (pa_cons (pv 3) (pa_cons (pv 2) pa_nil))))
      (pss_one (ps_ret (pe_tup (pa_cons (pv 2) (pa_cons (pv 3) (pa_cons (pe_op op_cat (pe_df Dmultiplied hr (pa_cons (pv 4) (pa_cons (pv 1) pa_nil))) (pe_df Dmultiplied hr (pa_cons (pv 5) (pa_cons (pe_op op_sub (pv 1) pe_int) pa_nil)))) pa_nil))))))))), ?_⟩
    refine ⟨_, rfl, rfl, _, rfl, ?_⟩
    rw [decide_eq_false (fun e => absurd (V.int.inj e) (by omega))]
    refine iteF ⟨_, rfl, t, _, rfl, SqT.of ht, rfl, _, _, rfl, _, _, rfl, _, _, rfl, rfl, ?_⟩
    have mX : (tdy (lstR X)).length ≤ 1000 ∧ (tdy (lstF X)).length ≤ 1000 := ⟨by have := fX.f; omega, by have := fX.l; omega⟩
    refine ⟨_, rfl, _, rfl, l1, f1, _, _, rfl, ⟨hl1, hf1, by omega, by omega, tdy_apart (lstF_nodup _), tdy_apart (lstR_nodup _)⟩, fun p2 H2 LA LB np2 e2 SA SB hp2 => ?_⟩
    obtain ⟨g1, g2, g3⟩ := straight_tp fX fX SA SB
    generalize (shr LA LB).map (pcB (shr LA LB)) = ss at g1 g2 g3 hp2
    have lz : ∀ p ∈ ss, p.2.2 ≤ 10 ^ 300 := fun p hp => by
      have a := at_mem (fun p hp => (g1 p hp).1) hp
      rw [g2] at a
      have b := (stH_bd (lstF X) (lstR X) p.1).2
      have c := (lstR_nodup X).length_le_of_subset fun z hz => mem_lstR.mp hz
      omega
    refine ⟨_, rfl, _, rfl, _, rfl, _, rfl, c1, ps, n, rfl, hc1.mono e2, by omega, fun p hp => ⟨(tX.pok p hp).2.2, Int.le_trans (tX.tm hp) lX⟩, by omega, n3, fun p3 H3 np3 e3 hp3 => ?_⟩
    refine ⟨_, rfl, _, rfl, _, 1, rfl, rfl, p2, ss, n - 1, rfl, hp2.mono e3, by omega, fun p hp => ⟨(g1 p hp).1.2.2, lz p hp⟩, by omega, by omega, fun p4 H4 np4 e4 hp4 => ?_⟩
    refine Pcs.cat (hp3.mono e4) hp4 (by unfold mulP; rw [List.length_map, List.length_map]; omega) fun p5 H5 np5 e5 hp5 => ⟨by show 3 ≤ sizeLine; decide, fun p6 np6 => ?_⟩
    have e6 := Ex.new (o := .tup [V.ref f1, V.ref l1, V.ref p5]) np6
    have e16 := (((e2.trans e3).trans e4).trans e5).trans e6
    obtain ⟨k, ek⟩ : ∃ k : Nat, n.toNat = k + 1 := ⟨n.toNat - 1, by omega⟩
    refine q _ _ _ e16 ⟨p6, f1, l1, p5, rfl, upd_same, ?_, ?_, hp5.mono e6⟩ (tX.rep n2 g1 g2) (by unfold mulP; rw [List.length_append, List.length_map, List.length_map]; omega)
    · rw [ek, lstR_rep]
      exact hf1.mono e16
    · rw [ek, lstF_rep]
      exact hl1.mono e16
theorem ok_three (B : Bt2 mg) (Dis_repeat : Df P w K mg base "is_repeat" 1 ["part"] spIsRep) (Dthree_behind : Df P w K mg base "three_behind" 5 ["one", "two"] spBehind) (Dthree_times : Df P w K mg base "three_times" 5 ["three", "times"] spTimes3) {f : Addr} {fd : FuncData} (F : Fun K "three_of" "three_of" sthree_of f fd)
    (mk : ∀ {k : Nat} {sp : Sp}, FnOk P w K mg base CX0 k f fd ["parts"] sp → Df P w K mg base "three_of" k ["parts"] sp) : ∀ d : Nat, FnOk P w K mg base CX0 (d + 6) f fd ["parts"] (spThree d)
  | 0 => ⟨fun vs H Q E h => by obtain ⟨v, g, Bd, M, Z, rfl, _⟩ := h; rfl, fun A outer s H args us vs Q E _ _ _ _ h => by obtain ⟨v, g, Bd, M, Z, rfl, _, h0, _⟩ := h; exact absurd h0 (Nat.not_lt_zero _)⟩
  | d + 1 => by
    have Dthree_of := mk (ok_three B Dis_repeat Dthree_behind Dthree_times F mk d)
    refine F.ok scthree_of (fun vs H Q E h => ?_) (fun cdv A outer s H vs Q E hr h => ?_)
    · obtain ⟨v, g, Bd, M, Z, rfl, _⟩ := h
      rfl
    · obtain ⟨v, g, Bd, M, Z, rfl, ⟨t, vs, rfl, ht, hI⟩, hd, hok, hBd, hF, hc, M1, nd, q⟩ := h
      refine ⟨_, (pss_cons (ps_set (i := 1) scthree_of.nd rfl (by first | exact Or.inl rfl | exact Or.inr rfl) (pe_tup (pa_cons (pe_lst pa_nil) (pa_cons (pe_lst pa_nil) (pa_cons (pe_lst pa_nil) pa_nil)))))
      (pss_cons (ps_for PassesOwn.never rfl (pi_tup (pv 0)) (pg_name (i := 2) scthree_of.nd rfl (by first | exact Or.inl rfl | exact Or.inr rfl)) (pss_cons (ps_if (pt_val (pe_df Dis_repeat hr (pa_cons (pv 2) pa_nil) (hk := by omega))) (pss_one (ps_set (i := 3) scthree_of.nd rfl (by first | exact Or.inl rfl | exact Or.inr rfl) (pe_df Dthree_times hr (pa_cons (pe_df Dthree_of hr (pa_cons (pe_ix ix_tup (pv 2) pe_int (fun _ _ => rfl)) pa_nil) (hk := by omega)) (pa_cons (pe_ix ix_tup (pv 2) pe_int (fun _ _ => rfl)) pa_nil)) (hk := by omega)))) (pss_one (ps_set (i := 3) scthree_of.nd rfl (by first | exact Or.inl rfl | exact Or.inr rfl) (pe_tup (pa_cons (pe_lst (pa_cons (pv 2) pa_nil)) (pa_cons (pe_lst (pa_cons (pe_tup (pa_cons (pe_ix ix_tup (pv 2) pe_int (fun _ _ => rfl)) (pa_cons (pe_ix ix_tup (pv 2) pe_int (fun _ _ => rfl)) pa_nil))) pa_nil)) (pa_cons (pe_lst pa_nil) pa_nil)))))))
      (pss_one (ps_set (i := 1) scthree_of.nd rfl (by first | exact Or.inl rfl | exact Or.inr rfl) (pe_df Dthree_behind hr (pa_cons (pv 1) (pa_cons (pv 3) pa_nil)) (hk := by omega))))))
      (pss_one (ps_ret (pv 1))))), ?_⟩
      refine ⟨Nat.zero_le _, fun p1 np1 => ⟨Nat.zero_le _, fun p2 np2 => ⟨Nat.zero_le _, fun p3 np3 => ⟨by show 3 ≤ sizeLine; decide, fun p4 np4 => ?_⟩⟩⟩⟩
      have x1 := Ex.new (o := .lst ([] : List V)) np1
      have x2 := Ex.new (o := .lst ([] : List V)) np2
      have x3 := Ex.new (o := .lst ([] : List V)) np3
      have x4 := Ex.new (o := .tup [V.ref p1, V.ref p2, V.ref p3]) np4
      have x14 := ((x1.trans x2).trans x3).trans x4
      have i0 : IsTr (upd (upd (upd (upd H p1 (.lst [])) p2 (.lst [])) p3 (.lst [])) p4 (.tup [V.ref p1, V.ref p2, V.ref p3])) (.ref p4) [] [] := ⟨p4, p1, p2, p3, rfl, upd_same, ⟨[], ((x2.trans x3).trans x4) _ _ upd_same, .nil⟩, ⟨[], (x3.trans x4) _ _ upd_same, .nil⟩, ⟨[], x4 _ _ upd_same, .nil⟩⟩
      generalize upd (upd (upd (upd H p1 (.lst [])) p2 (.lst [])) p3 (.lst [])) p4 (.tup [V.ref p1, V.ref p2, V.ref p3]) = H0 at x14 i0 ⊢
      refine ⟨.ref t, rfl, t, rfl, ⟨_, SqT.of (x14 _ _ ht)⟩, for_tup (xs := vs) (fun i σ H1 => ∃ y2 y3 w a b rs, σ = [some (.ref t), some w, y2, y3] ∧ Ex H H1 ∧ IsTr H1 w a.rd rs ∧ Tp Z a.rd rs ∧ rs.length ≤ 2 * M * a.nds ∧ g = Pg.app a b ∧ a.len = i) ⟨none, none, .ref p4, .nil, g, [], rfl, x14, i0, Tp.nil Z, Nat.zero_le _, rfl, rfl⟩ (fun i σ H1 _ z => ?_) (fun i v σ H1 hx z => ?_) (fun σ H1 z => ?_)⟩
      · obtain ⟨_, _, _, _, _, _, _, e1, _⟩ := z
        exact SqT.of (e1 _ _ ht)
      · obtain ⟨y2, y3, w, a, b, rs, rfl, e1, iw, tw, lw, eg, rfl⟩ := z
        have hI1 := hI.kp e1.kp
        obtain ⟨hF1, hF2, hF3⟩ := hF
        have fa := hF1 a b eg
        subst eg
        obtain ⟨oka, okb⟩ := app_ok hok
        rw [nds_app] at nd
        rw [Pg.cnt_app] at hc
        have ca := Pg.cnt_nn oka
        rcases hI1.get hx with ⟨s1, r, rfl, i1⟩ | ⟨n, x, r, t1, u1, bs, rfl, rfl, h1, h2, h3⟩
        · have fs := hF3 a s1 r rfl
          have nd : 2 * M * (a.nds + (r.nds + 1)) ≤ 2 ^ 17 := nd
          rw [Nat.mul_add, Nat.mul_add, Nat.mul_one] at nd
          refine ⟨v, rfl, v, rfl, .inl ⟨s1, i1, fun H2 e2 => ⟨false, rfl, iteF ?_⟩⟩⟩
          obtain ⟨t1, rfl, ht1⟩ := i1.mono e2
          refine ⟨_, rfl, by show 1 ≤ sizeLine; decide, fun q1 nq1 => ?_⟩
          have z1 := Ex.new (o := .lst [V.ref t1]) nq1
          refine ⟨.ref t1, rfl, t1, _, 1, _, rfl, rfl, SqT.of (z1 _ _ ht1), rfl, .ref t1, rfl, t1, _, 0, _, rfl, rfl, SqT.of (z1 _ _ ht1), rfl, by show 2 ≤ sizeLine; decide, fun q2 nq2 => ⟨by show 1 ≤ sizeLine; decide, fun q3 nq3 => ⟨Nat.zero_le _, fun q4 nq4 => ⟨by show 3 ≤ sizeLine; decide, fun q5 nq5 => ?_⟩⟩⟩⟩
          have z2 := Ex.new (o := .tup [V.int s1.2, V.int s1.1]) nq2
          have z3 := Ex.new (o := .lst [V.ref q2]) nq3
          have z4 := Ex.new (o := .lst ([] : List V)) nq4
          have z5 := Ex.new (o := .tup [V.ref q1, V.ref q3, V.ref q4]) nq5
          have z25 := ((z2.trans z3).trans z4).trans z5
          have iF : IsTr _ (.ref q5) (rd s1) [] := ⟨q5, q1, q3, q4, rfl, upd_same, by
              rw [lstR_id (rd_nodup _), tdy_rd]
              exact ⟨[V.ref t1], z25 _ _ upd_same, .cons ⟨t1, rfl, (z1.trans z25) _ _ ht1⟩ .nil⟩, by
              unfold lstF
              rw [← rd_swp, lstR_id (rd_nodup _), tdy_rd]
              exact ⟨[V.ref q2], (z4.trans z5) _ _ upd_same, .cons ⟨q2, rfl, ((z3.trans z4).trans z5) _ _ upd_same⟩ .nil⟩, ⟨[], z5 _ _ upd_same, .nil⟩⟩
          have e15 := (e1.trans e2).trans (z1.trans z25)
          refine ⟨_, rfl, _, rfl, w, .ref q5, a.rd, rd s1, rs, [], M, M, Z, rfl, iw.mono (e2.trans (z1.trans z25)), iF, tw, Tp.one Z (rd_nodup _), fa, fs, M1, M1, by rw [List.length_nil]; omega, fun w' H4 rs' e4 i4 t4 l4 => ?_⟩
          refine ⟨_, _, w', a.app (.sc s1 .nil), r, rs', rfl, e15.trans e4, ?_, ?_, ?_, Pg.sc_app _ _ _, ?_⟩
          · rw [rd_app]
            show IsTr H4 w' (a.rd ++ (rdS s1 ++ [])) rs'
            rw [List.append_nil, ← rd_rdS]
            exact i4
          · rw [rd_app]
            show Tp Z (a.rd ++ (rdS s1 ++ [])) rs'
            rw [List.append_nil, ← rd_rdS]
            exact t4
          · rw [nds_app]
            show rs'.length ≤ 2 * M * (a.nds + (0 + 1))
            rw [Nat.mul_add, Nat.zero_add, Nat.mul_one]
            rw [List.length_nil] at l4
            omega
          · rw [Pg.len_app]
            rfl
        · obtain ⟨n2, nC, xn, okx, okr⟩ := okb
          have hdx : x.dep < d := by
            rw [Pg.dep_app] at hd
            have hd : max a.dep (max (x.dep + 1) r.dep) < d + 1 := hd
            omega
          have nd : 2 * M * (a.nds + (x.nds + r.nds + 2)) ≤ 2 ^ 17 := nd
          have nd' : 2 * M * a.nds + 2 * M * x.nds + 2 * M * 2 ≤ 2 ^ 17 := by
            refine Nat.le_trans ?_ nd
            rw [← Nat.mul_add, ← Nat.mul_add]
            exact Nat.mul_le_mul_left _ (by omega)
          have hc : a.cnt + (n * x.cnt + r.cnt) ≤ 10 ^ 300 := hc
          have cx := Pg.cnt_nn okx
          have cr := Pg.cnt_nn okr
          have cn : x.cnt ≤ n * x.cnt := by
            have := Int.mul_le_mul_of_nonneg_right (show 1 ≤ n by omega) cx
            omega
          have fx := hF2 a n x r rfl
          have fxx : Fs M Z x.rd := by
            obtain ⟨g1, _, _⟩ := fx
            exact g1 x .nil (Pg.app_nil x).symm
          refine ⟨_, rfl, _, rfl, .inr ⟨t1, n, u1, bs, rfl, h1, h2, fun H2 e2 => ⟨true, rfl, iteT ?_⟩⟩⟩
          refine ⟨.ref t1, rfl, t1, _, 1, _, rfl, rfl, SqT.of (e2 _ _ h1), rfl, .ref u1, x, Bd, M, Z, rfl, ⟨u1, bs, rfl, e2 _ _ h2, h3.kp e2.kp⟩, hdx, okx, hBd, fx, by omega, M1, by omega, fun w3 H3 rs3 e3 i3 t3 l3 => ?_⟩
          refine ⟨.ref t1, rfl, t1, _, 0, _, rfl, rfl, SqT.of ((e2.trans e3) _ _ h1), rfl, w3, x.rd, rs3, n, M, Z, rfl, i3, t3, fxx, M1, by omega, by rw [prd_len okx]; omega, n2, by omega, fun w4 H4 rs4 e4 i4 t4 l4 => ?_⟩
          have e24 := (e2.trans e3).trans e4
          have frep : Fs M Z (List.replicate n.toNat x.rd).flatten := by
            obtain ⟨k, ek⟩ : ∃ k : Nat, n.toNat = k + 1 := ⟨n.toNat - 1, by omega⟩
            rw [ek]
            exact ⟨by rw [lstR_rep]; exact fxx.f, by rw [lstF_rep]; exact fxx.l, by rw [lstR_rep]; exact fxx.z⟩
          refine ⟨_, rfl, _, rfl, w, w4, a.rd, _, rs, rs4, M, M, Z, rfl, iw.mono e24, i4, tw, t4, fa, frep, M1, M1, by omega, fun w' H5 rs' e5 i5 t5 l5 => ?_⟩
          refine ⟨_, _, w', a.app (.rp n x .nil), r, rs', rfl, (e1.trans e24).trans e5, ?_, ?_, ?_, Pg.rp_app _ _ _ _, ?_⟩
          · rw [rd_app]
            show IsTr H5 w' (a.rd ++ ((List.replicate n.toNat x.rd).flatten ++ [])) rs'
            rw [List.append_nil]
            exact i5
          · rw [rd_app]
            show Tp Z (a.rd ++ ((List.replicate n.toNat x.rd).flatten ++ [])) rs'
            rw [List.append_nil]
            exact t5
          · rw [nds_app]
            show rs'.length ≤ 2 * M * (a.nds + (x.nds + 0 + 2))
            rw [Nat.mul_add, Nat.mul_add, Nat.add_zero]
            omega
          · rw [Pg.len_app]
            rfl
      · obtain ⟨y2, y3, w, a, b, rs, rfl, e1, iw, tw, lw, rfl, hl⟩ := z
        have := hI.done hl
        subst this
        rw [Pg.app_nil] at q
        exact ⟨_, rfl, q w H1 rs e1 iw tw lw⟩
theorem ok_is_integer (B : Bt mg) {f : Addr} {fd : FuncData} (F : Fun K "is_integer" "is_integer" sis_integer f fd) : FnOk P w K mg base CX0 1 f fd ["value"] spIsInteger := by
  refine F.ok scis_integer (fun vs H Q E h => ?_) (fun cdv A outer s H vs Q E hr h => ?_)
  · obtain ⟨i, rfl, _⟩ := h
    rfl
  · obtain ⟨i, rfl, q⟩ := h
    refine ⟨_, (pss_one (ps_ret (pe_and (pe_callB call_isi (by rfl) B.isinstance bo_isinstance (pa_cons (pv 0) (pa_cons (pe_bltn (v := .ty "int") (by rfl) B.int bo_int rfl) pa_nil))) (pe_one (pe_not (pe_callB call_isi (by rfl) B.isinstance bo_isinstance (pa_cons (pv 0) (pa_cons (pe_bltn (v := .ty "bool") (by rfl) B.bool bo_bool rfl) pa_nil)))))))), ?_⟩
    exact ⟨.int i, rfl, .int i, .ty "int", _, _, true, rfl, .ty _, .base (.int i), kit_ty (by decide +kernel), true, rfl, iteT
      ⟨.int i, rfl, .int i, .ty "bool", _, _, false, rfl, .ty _, .base (.int i), kit_ty (by decide +kernel), false, rfl, q.go (Ex.refl _)⟩⟩
theorem ok_is_from_zero (Dis_integer : Df P w K mg base "is_integer" 1 ["value"] spIsInteger) {f : Addr} {fd : FuncData} (F : Fun K "is_from_zero" "is_from_zero" sis_from_zero f fd) : FnOk P w K mg base CX0 2 f fd ["value"] spFromZero := by
  refine F.ok scis_from_zero (fun vs H Q E h => ?_) (fun cdv A outer s H vs Q E hr h => ?_)
  · obtain ⟨i, rfl, _⟩ := h
    rfl
  · obtain ⟨i, rfl, h0, q⟩ := h
    refine ⟨_, (pss_one (ps_ret (pe_and (pe_df Dis_integer hr (pa_cons (pv 0) pa_nil)) (pe_one (pe_cmpR op_ge (pv 0) pe_int (nomark _)))))), ?_⟩
    refine ⟨.int i, rfl, i, rfl, fun H1 e1 => ⟨true, rfl, iteT ⟨.int i, rfl, i, 0, rfl, rfl, ?_⟩⟩⟩
    show Q (.bl (decide (0 ≤ i))) H1
    rw [decide_eq_true h0]
    exact q.go e1
theorem ok_is_piece (B : Bt mg) (Dis_integer : Df P w K mg base "is_integer" 1 ["value"] spIsInteger) {f : Addr} {fd : FuncData} (F : Fun K "is_piece" "is_piece" sis_piece f fd) : FnOk P w K mg base CX0 2 f fd ["value"] spIsPiece := by
  refine F.ok scis_piece (fun vs H Q E h => ?_) (fun cdv A outer s H vs Q E hr h => ?_)
  · obtain ⟨v, p, rfl, _⟩ := h
    rfl
  · obtain ⟨v, ⟨l, h, t⟩, rfl, ⟨a, rfl, ha⟩, ⟨h1, h2, h3⟩, q⟩ := h
    refine ⟨_, (pss_cons (ps_if (pw_or (pt_not (pt_val (pe_callB call_isi (by rfl) B.isinstance bo_isinstance (pa_cons (pv 0) (pa_cons (pe_bltn (v := .ty "tuple") (by rfl) B.tuple bo_tuple rfl) pa_nil))))) (pw_or (pt_cmpR op_ne (pe_callB call_len_seq (by rfl) B.len bo_len (pa_cons (pv 0) pa_nil)) pe_int (nomark _)) (pw_or1 (pt_not (pt_val (pe_callB (cr_all rfl) (by rfl) B.all bo_all (pa_cons (pe_lc (own := [("number", 4)]) (g := (gName 4)) (te := (tCall _ [] E0 (tCons (tVar 4) tNil))) rfl scis_piece.nd (pi_tup (pv 0)) (blkOk_by (N := ["value", "low", "high", "times", "number"]) (sc := defScope sis_piece) (by decide +kernel)) (by exact fun _ _ _ _ _ => (pg_name (i := 4) scis_piece.nd rfl (by first | exact Or.inl rfl | exact Or.inr rfl))) (by exact fun _ _ _ _ _ => pts_nil) (by exact fun _ _ _ _ _ => (pe_df Dis_integer hr (pa_cons (pv 4) pa_nil)))) pa_nil))))))).pt (pss_one (ps_ret pe_bl)) pss_nil)
      (pss_cons (ps_asg (pv 0) (pg_tup rfl (pgs_cons (pg_name (i := 1) scis_piece.nd rfl (by first | exact Or.inl rfl | exact Or.inr rfl)) (pgs_cons (pg_name (i := 2) scis_piece.nd rfl (by first | exact Or.inl rfl | exact Or.inr rfl)) (pgs_cons (pg_name (i := 3) scis_piece.nd rfl (by first | exact Or.inl rfl | exact Or.inr rfl)) pgs_nil)))))
      (pss_one (ps_ret (pe_and (pe_chain op_le op_le pe_int (pv 1) (pv 2)) (pe_one (pe_cmpR op_ge (pv 3) pe_int (nomark _)))))))), ?_⟩
    refine ⟨.ref a, rfl, .ref a, .ty "tuple", _, _, true, rfl, .ty _, .base (.tup ha), kit_ty (by decide +kernel), true, rfl, iteF ?_⟩
    refine ⟨.ref a, rfl, a, _, rfl, .inr (SqT.of ha), rfl, _, rfl, iteF ?_⟩
    refine ⟨.ref a, rfl, a, rfl, ⟨_, SqT.of ha⟩, fun D hD => ?_⟩
    refine lc_tup (xs := [V.int l, V.int h, V.int t]) (fun i H1 => Ex H H1 ∧ H1 D = some (.lst ((List.replicate i true).map V.bl))) ⟨Ex.new hD, upd_same⟩ (fun i H1 _ p => SqT.of (p.1 _ _ ha)) (fun i v H1 hx p => ?_) (fun H1 p => ?_)
    · obtain ⟨e1, hL⟩ := p
      have li : i < 3 := (List.getElem?_eq_some_iff.mp hx).1
      obtain ⟨z, rfl⟩ : ∃ z, v = V.int z := by
        match i, hx with
        | 0, e => cases e; exact ⟨_, rfl⟩
        | 1, e => cases e; exact ⟨_, rfl⟩
        | 2, e => cases e; exact ⟨_, rfl⟩
      refine ⟨rfl, .int z, rfl, z, rfl, fun H2 e2 => ⟨_, e2 _ _ hL, ?_, (e1.trans e2).mut hD, ?_⟩⟩
      · rw [List.length_map, List.length_replicate]
        exact small1000 (by omega)
      · rw [upd_same, List.replicate_succ', List.map_append]
        rfl
    · obtain ⟨e1, hL⟩ := p
      have hL' : H1 D = some (.lst ((List.replicate 3 true).map V.bl)) := hL
      refine ⟨D, _, rfl, SqL.of hL', ?_⟩
      refine ⟨true, rfl, iteF ?_⟩
      refine ⟨.ref a, rfl, a, _, rfl, SqT.of (e1 _ _ ha), rfl, _, _, rfl, _, _, rfl, _, _, rfl, rfl, ?_⟩
      refine ⟨.int l, rfl, 1, l, rfl, rfl, true, ?_, iteT ?_⟩
      · show V.bl (decide (1 ≤ l)) = _
        rw [decide_eq_true h1]
      · refine ⟨.int h, rfl, l, h, rfl, rfl, decide (l ≤ h), rfl, ?_⟩
        rw [decide_eq_true (show l ≤ h from h2)]
        refine iteT ⟨.int t, rfl, t, 1, rfl, rfl, ?_⟩
        have e : decide (t ≥ 1) = true := decide_eq_true h3
        show Q (.bl (decide (t ≥ 1))) H1
        rw [e]
        exact q.go e1
theorem ok_are_pieces (B : Bt mg) (Dis_piece : Df P w K mg base "is_piece" 2 ["value"] spIsPiece) {f : Addr} {fd : FuncData} (F : Fun K "are_pieces" "are_pieces" sare_pieces f fd) : FnOk P w K mg base CX0 3 f fd ["value"] spArePieces := by
  refine F.ok scare_pieces (fun vs H Q E h => ?_) (fun cdv A outer s H vs Q E hr h => ?_)
  · obtain ⟨a, ps, rfl, _⟩ := h
    rfl
  · obtain ⟨a, ps, rfl, ⟨vs, ha, pa⟩, ok, asc, few, q⟩ := h
    refine ⟨_, (pss_cons (ps_if (pw_or (pt_not (pt_val (pe_callB call_isi (by rfl) B.isinstance bo_isinstance (pa_cons (pv 0) (pa_cons (pe_bltn (v := .ty "list") (by rfl) B.list bo_list rfl) pa_nil))))) (pw_or1 (pt_not (pt_val (pe_callB (cr_all rfl) (by rfl) B.all bo_all (pa_cons (pe_lc (own := [("piece", 3)]) (g := (gName 3)) (te := (tCall _ [] E0 (tCons (tVar 3) tNil))) rfl scare_pieces.nd (pi_list (pv 0)) (blkOk_by (N := ["value", "one", "two", "piece"]) (sc := defScope sare_pieces) (by decide +kernel)) (by exact fun _ _ _ _ _ => (pg_name (i := 3) scare_pieces.nd rfl (by first | exact Or.inl rfl | exact Or.inr rfl))) (by exact fun _ _ _ _ _ => pts_nil) (by exact fun _ _ _ _ _ => (pe_df Dis_piece hr (pa_cons (pv 3) pa_nil)))) pa_nil)))))).pt (pss_one (ps_ret pe_bl)) pss_nil)
      (pss_one (ps_ret (pe_callB (cr_all rfl) (by rfl) B.all bo_all (pa_cons (pe_lc (own := [("one", 1), ("two", 2)]) (g := (gTup K 2 (gCons (gName 1) (gCons (gName 2) gNil)))) (te := (tOp _ (tOp (rIxT K) (tVar 1) _) (tOp (rIxT K) (tVar 2) _))) rfl scare_pieces.nd (pi_zip (by rfl) B.zip (pa_cons (pv 0) (pa_cons (pe_slice sl_list (pv 0) (po_some pe_int) po_none) pa_nil))) (blkOk_by (N := ["value", "one", "two", "piece"]) (sc := defScope sare_pieces) (by decide +kernel)) (by exact fun _ _ _ _ _ => (pg_tup rfl (pgs_cons (pg_name (i := 1) scare_pieces.nd rfl (by first | exact Or.inl rfl | exact Or.inr rfl)) (pgs_cons (pg_name (i := 2) scare_pieces.nd rfl (by first | exact Or.inl rfl | exact Or.inr rfl)) pgs_nil)))) (by exact fun _ _ _ _ _ => pts_nil) (by exact fun _ _ _ _ _ => (pe_cmpR op_lt (pe_ix ix_tup (pv 1) pe_int (fun _ _ => rfl)) (pe_ix ix_tup (pv 2) pe_int (fun _ _ => rfl)) (nomark _)))) pa_nil))))), ?_⟩
    have lv : vs.length = ps.length := Pr.len pa
    refine ⟨.ref a, rfl, .ref a, .ty "list", _, _, true, rfl, .ty _, .base (.lst ha), kit_ty (by decide +kernel), true, rfl, iteF ?_⟩
    refine ⟨.ref a, rfl, a, rfl, ⟨_, SqL.of ha⟩, fun D hD => lc_list (xs := vs) (fun i H1 => Ex H H1 ∧ H1 D = some (.lst ((List.replicate i true).map V.bl))) ⟨Ex.new hD, upd_same⟩ (fun i H1 _ p => SqL.of (p.1 _ _ ha)) (fun i v H1 hx p => ?_) (fun H1 p => ?_)⟩
    · obtain ⟨e1, hL⟩ := p
      have li : i < vs.length := (List.getElem?_eq_some_iff.mp hx).1
      obtain ⟨p1, m1, i1⟩ := Pr.mem pa v (List.mem_of_getElem? hx)
      refine ⟨rfl, v, rfl, v, p1, rfl, i1.nx e1.nx, ok _ m1, fun H2 e2 => ⟨_, e2 _ _ hL, ?_, (e1.trans e2).mut hD, ?_⟩⟩
      · rw [List.length_map, List.length_replicate]
        exact small20 (by omega)
      · rw [upd_same, List.replicate_succ', List.map_append]
        rfl
    obtain ⟨e1, hL⟩ := p
    have ha1 := e1 _ _ ha
    have pa1 : PaP H1 vs ps := pa.mono e1
    refine ⟨D, _, rfl, SqL.of hL, (List.replicate vs.length true).all id, rfl, ?_⟩
    rw [show (List.replicate vs.length true).all id = true by rw [List.all_replicate]; simp]
    refine iteF ?_
    refine ⟨.ref a, rfl, .ref a, rfl, 1, rfl, a, vs, rfl, SqL.of ha1, fun c nc => ?_⟩
    have hp : (upd H1 c (.lst (cutV vs (some 1) none))) a = some (.lst vs) := (Ex.new nc) _ _ ha1
    refine ⟨a, c, vs, _, rfl, SqL.of hp, SqL.of upd_same, fun D2 hD2 => ?_⟩
    have ec : cutV vs (some 1) none = vs.drop 1 := by
      unfold cutV
      rw [show HT.sIx vs.length 0 (some 1) = min 1 vs.length from HT.sIx_nat vs.length 0 1, HT.sIx_none]
      cases vs with
      | nil => rfl
      | cons z r =>
        rw [List.length_cons, show min 1 (r.length + 1) = 1 by omega]
        exact List.take_of_length_le (by rw [List.length_drop, List.length_cons]; exact Nat.le_refl _)
    rw [ec] at hp hD2 ⊢
    generalize hg : upd H1 c (.lst (vs.drop 1)) = H3 at hp hD2 ⊢
    have hc : H3 c = some (.lst (vs.drop 1)) := by rw [← hg]; exact upd_same
    have e3 : Ex H1 H3 := by
      rw [← hg]
      exact Ex.new nc
    have pa3 := pa1.mono e3
    refine lc_zip (n := vs.length - 1) (xs := vs) (ys := vs.drop 1) (by rw [List.length_drop]; omega) (fun i H4 => Ex H3 H4 ∧ H4 D2 = some (.lst ((List.replicate i true).map V.bl))) ⟨Ex.new hD2, upd_same⟩ (fun i H4 _ p4 => ⟨SqL.of (p4.1 _ _ hp), SqL.of (p4.1 _ _ hc)⟩) (fun i x y T H4 hi hx hy nT p4 => ?_) (fun H4 p4 => ?_)
    · obtain ⟨e5, hL⟩ := p4
      obtain ⟨⟨x1, x2, x3⟩, gx, tx, rfl, htx⟩ := Pr.get pa3 hx
      rw [List.getElem?_drop, Nat.add_comm 1 i] at hy
      obtain ⟨⟨y1, y2, y3⟩, gy, ty, rfl, hty⟩ := Pr.get pa3 hy
      have hlt : x2 < y1 := by
        obtain ⟨l1, g1⟩ := List.getElem?_eq_some_iff.mp gx
        obtain ⟨l2, g2⟩ := List.getElem?_eq_some_iff.mp gy
        have z := List.pairwise_iff_getElem.mp asc i (i + 1) l1 l2 (Nat.lt_succ_self i)
        rw [g1, g2] at z
        exact z
      have e6 : Ex H4 (upd H4 T (.tup [.ref tx, .ref ty])) := Ex.new nT
      refine ⟨T, _, rfl, SqT.of upd_same, rfl, _, _, rfl, _, _, rfl, rfl, rfl, ?_⟩
      refine ⟨.ref tx, rfl, tx, _, 1, _, rfl, rfl, SqT.of (e6 _ _ (e5 _ _ htx)), rfl, .ref ty, rfl, ty, _, 0, _, rfl, rfl, SqT.of (e6 _ _ (e5 _ _ hty)), rfl, x2, y1, rfl, rfl, _, e6 _ _ hL, ?_, ?_, ?_⟩
      · rw [List.length_map, List.length_replicate]
        exact small20 (by omega)
      · exact (e5.add nT).mut hD2
      · rw [upd_same]
        show some (HO.lst (List.map V.bl (List.replicate i true) ++ [V.bl (decide (x2 < y1))])) = _
        rw [decide_eq_true hlt, List.replicate_succ', List.map_append]
        rfl
    · obtain ⟨e5, hL⟩ := p4
      refine ⟨D2, _, rfl, SqL.of hL, ?_⟩
      rw [show (List.replicate (vs.length - 1) true).all id = true by rw [List.all_replicate]; simp]
      exact q.go ((e1.trans e3).trans e5)
theorem ok_check_distances (Dis_from_zero : Df P w K mg base "is_from_zero" 2 ["value"] spFromZero) (Dare_pieces : Df P w K mg base "are_pieces" 3 ["value"] spArePieces) {f : Addr} {fd : FuncData} (F : Fun K "check_distances" "check_distances" scheck_distances f fd) : FnOk P w K mg base CX0 4 f fd ["cold", "pieces"] spCheckDist := by
  refine F.ok sccheck_distances (fun vs H Q E h => ?_) (fun cdv A outer s H vs Q E hr h => ?_)
  · obtain ⟨c, a, ps, rfl, _⟩ := h
    rfl
  · obtain ⟨c, a, ps, rfl, h0, pa, ok, asc, few, q⟩ := h
    refine ⟨_, (pss_cons (ps_if (pt_not (pt_val (pe_df Dis_from_zero hr (pa_cons (pv 0) pa_nil)))) (pss_one ps_never) pss_nil)
      (pss_one (ps_if (pt_not (pt_val (pe_df Dare_pieces hr (pa_cons (pv 1) pa_nil)))) (pss_one ps_never) pss_nil))), ?_⟩
    refine ⟨.int c, rfl, c, rfl, h0, fun H1 e1 => ⟨true, rfl, iteF ?_⟩⟩
    exact ⟨.ref a, rfl, a, ps, rfl, pa.mono e1, ok, asc, few, fun H2 e2 => ⟨true, rfl, iteF (q.go (e1.trans e2))⟩⟩
theorem ok_flattened (B : Bt mg) {f : Addr} {fd : FuncData} (F : Fun K "flattened" "flattened" sflattened f fd) : FnOk P w K mg base CX0 1 f fd ["pieces"] spFlat := by
  refine F.ok scflattened (fun vs H Q E h => ?_) (fun cdv A outer s H vs Q E hr h => ?_)
  · obtain ⟨a, ps, rfl, _⟩ := h
    rfl
  · obtain ⟨a, ps, rfl, ⟨vs, ha, pa⟩, few, q⟩ := h
    refine ⟨_, (pss_cons (ps_set (i := 1) scflattened.nd rfl (by first | exact Or.inl rfl | exact Or.inr rfl) pe_dnewK)
      (pss_cons (ps_for PassesOwn.never rfl (pi_list (pv 0)) (pg_tup rfl (pgs_cons (pg_name (i := 2) scflattened.nd rfl (by first | exact Or.inl rfl | exact Or.inr rfl)) (pgs_cons (pg_name (i := 3) scflattened.nd rfl (by first | exact Or.inl rfl | exact Or.inr rfl)) (pgs_cons (pg_name (i := 4) scflattened.nd rfl (by first | exact Or.inl rfl | exact Or.inr rfl)) pgs_nil)))) (pss_cons (ps_dput (hu_of hr) (pv 1) (pv 2) (pe_op op_add (pe_dget2 (hu_of hr) (pv 1) (pv 2) pe_int ⟨rfl, rfl, rfl, rfl⟩) (pv 4)) rfl)
      (pss_one (ps_dput (hu_of hr) (pv 1) (pe_op op_add (pv 3) pe_int) (pe_op op_sub (pe_dget2 (hu_of hr) (pv 1) (pe_op op_add (pv 3) pe_int) pe_int ⟨rfl, rfl, rfl, rfl⟩) (pv 4)) rfl))))
      (pss_cons (ps_set (i := 5) scflattened.nd rfl (by first | exact Or.inl rfl | exact Or.inr rfl) (pe_callB cr_sortedI (by rfl) B.sorted bo_sorted (pa_cons (pe_lock (pe_lc (own := [("distance", 10)]) (g := (gName 10)) (te := (tVar 10)) (tt := (tTest (tOp _ (tDGet (tVar 1) (tVar 10)) _))) rfl scflattened.nd (pi_keys (pv 1)) (blkOk_by (N := ["pieces", "changes", "low", "high", "times", "turns", "rows", "now", "start", "following", "distance"]) (sc := defScope sflattened) (by decide +kernel)) (by exact fun _ _ _ _ _ => (pg_name (i := 10) scflattened.nd rfl (by first | exact Or.inl rfl | exact Or.inr rfl))) (by exact fun _ _ _ _ _ => (pts_one (pt_cmpR op_ne (pe_dget (hu_of hr) (pv 1) (pv 10) (fun _ _ => rfl)) pe_int (nomark _)))) (by exact fun _ _ _ _ _ => (pv 10)))) pa_nil)))
      (pss_cons (ps_set (i := 6) scflattened.nd rfl (by first | exact Or.inl rfl | exact Or.inr rfl) (pe_lst pa_nil))
      (pss_cons (ps_set (i := 7) scflattened.nd rfl (by first | exact Or.inl rfl | exact Or.inr rfl) pe_int)
      (pss_cons (ps_for PassesOwn.never rfl (pi_zip (by rfl) B.zip (pa_cons (pv 5) (pa_cons (pe_slice sl_list (pv 5) (po_some pe_int) po_none) pa_nil))) (pg_tup rfl (pgs_cons (pg_name (i := 8) scflattened.nd rfl (by first | exact Or.inl rfl | exact Or.inr rfl)) (pgs_cons (pg_name (i := 9) scflattened.nd rfl (by first | exact Or.inl rfl | exact Or.inr rfl)) pgs_nil))) (pss_cons (ps_set (i := 7) scflattened.nd rfl (by first | exact Or.inl rfl | exact Or.inr rfl) (pe_op op_add (pv 7) (pe_dget (hu_of hr) (pv 1) (pv 8) (fun _ _ => rfl))))
      (pss_one (ps_if (pt_cmpR op_ne (pv 7) pe_int (nomark _)) (pss_one (ps_expr (pe_bm PySem.F.plainAttrs_list PySem.F.slot_list_append PySem.F.type_list_append mt_append (pv 6) (pa_cons (pe_tup (pa_cons (pv 8) (pa_cons (pe_op op_sub (pv 9) pe_int) (pa_cons (pv 7) pa_nil)))) pa_nil)))) pss_nil))))
      (pss_one (ps_ret (pv 6))))))))), ?_⟩
    have lv : vs.length = ps.length := Pr.len pa
    intro d nd
    have x0 := Ex.new (o := .dK []) nd
    refine ⟨.ref a, rfl, a, rfl, ⟨_, SqL.of (x0 _ _ ha)⟩, for_list (xs := vs) (fun i σ H1 => ∃ y2 y3 y4 kvs ks, σ = [some (.ref a), some (.ref d), y2, y3, y4, none, none, none, none, none, none] ∧ Ex H H1 ∧ H1 d = some (.dK kvs) ∧ DI kvs (chg (ps.take i)) ks ∧ (∀ p ∈ ps.take i, p.1 ∈ ks ∧ p.2.1 + 1 ∈ ks) ∧ ks.length ≤ 2 * i)
      ⟨none, none, none, [], [], rfl, x0, upd_same, DI.nil, fun p hp => absurd hp (by simp), by simp⟩ (fun i σ H1 _ z => ?_) (fun i v σ H1 hx z => ?_) (fun σ H1 z => ?_)⟩
    · obtain ⟨_, _, _, _, _, _, e1, _⟩ := z
      exact SqL.of (e1 _ _ ha)
    · obtain ⟨y2, y3, y4, kvs, ks, rfl, e1, hd, di, ends, lk⟩ := z
      obtain ⟨⟨l, h, t⟩, gs, tp, rfl, ht⟩ := Pr.get pa hx
      have li : i < ps.length := (List.getElem?_eq_some_iff.mp gs).1
      refine ⟨tp, _, rfl, SqT.of (e1 _ _ ht), rfl, _, _, rfl, _, _, rfl, _, _, rfl, rfl, ?_⟩
      refine ⟨.ref d, rfl, d, rfl, .inl ⟨kvs, .inl hd⟩, .int l, rfl, _, DGet.k (k := Sum.inl l) hd, ?_⟩
      rw [di.getD]
      refine ⟨.int t, rfl, _, _, rfl, rfl, .ref d, rfl, .int l, rfl, d, _, rfl, DPut.k (k := Sum.inl l) hd ?_, ?_⟩
      · rw [di.len]
        exact small20 (by omega)
      obtain ⟨ks1, di1, m1, s1, l1⟩ := di.put l (chg (ps.take i) l + t)
      refine ⟨.ref d, rfl, d, rfl, .inl ⟨_, .inl upd_same⟩, .int h, rfl, h, 1, rfl, rfl, _, DGet.k (k := Sum.inl (h + 1)) upd_same, ?_⟩
      rw [di1.getD]
      refine ⟨.int t, rfl, _, _, rfl, rfl, .ref d, rfl, .int h, rfl, h, 1, rfl, rfl, d, _, rfl, DPut.k (k := Sum.inl (h + 1)) upd_same ?_, ?_⟩
      · rw [di1.len]
        exact small20 (by omega)
      obtain ⟨ks2, di2, m2, s2, l2⟩ := di1.put (h + 1) ((if h + 1 = l then chg (ps.take i) l + t else chg (ps.take i) (h + 1)) - t)
      refine ⟨_, _, _, _, ks2, rfl, (e1.mut nd).mut nd, upd_same, di2.congr fun x => ?_, fun p hp => ?_, by omega⟩
      · rw [chg_snoc gs]
        show _ = if x = h + 1 then _ else if x = l then _ else _
        show chg (ps.take i) x + (if x = l then t else 0) - (if x = h + 1 then t else 0) = _
        by_cases b : x = h + 1
        · subst b
          rw [if_pos rfl, if_pos rfl]
          by_cases c : h + 1 = l
          · rw [if_pos c, if_pos c, c]
          · rw [if_neg c, if_neg c]
            omega
        · rw [if_neg b, if_neg b]
          by_cases c : x = l
          · subst c
            rw [if_pos rfl, if_pos rfl]
            omega
          · rw [if_neg c, if_neg c]
            omega
      · rw [List.take_add_one, gs] at hp
        rcases List.mem_append.mp hp with hp | hp
        · obtain ⟨u1, u2⟩ := ends p hp
          exact ⟨s2 _ (s1 _ u1), s2 _ (s1 _ u2)⟩
        · rw [List.mem_singleton.mp hp]
          exact ⟨s2 _ m1, m2⟩
    · obtain ⟨y2, y3, y4, kvs, ks, rfl, e1, hd, di, ends, lk⟩ := z
      rw [lv, List.take_length] at di ends
      rw [lv] at lk
      -- turns
      refine ⟨d, .dK kvs, hd, trivial, fun od => ?_⟩
      refine ⟨.ref d, rfl, d, od, rfl, .inl ⟨kvs, upd_same, fun D hD => lc_it walk_keys (fun i H2 => (∀ b u, b ≠ d → H1 b = some u → H2 b = some u) ∧ H2 d = some (.frz od (.dK kvs)) ∧ H2 D = some (.lst (((ks.take i).filter fun k => decide (chg ps k ≠ 0)).map V.int))) ?_ (fun i H2 _ p => p.2.1) (fun i x H2 H2' hi p y => ?_) (fun H2 p => ?_)⟩⟩
      · have nD : d ≠ D := fun z => by
          rw [z, upd_same] at hD
          cases hD
        refine ⟨fun b u nb hb => ?_, (upd_ne nD).trans upd_same, upd_same⟩
        have nb2 : b ≠ D := fun z => by
          rw [← z, upd_ne nb, hb] at hD
          cases hD
        rw [upd_ne nb2, upd_ne nb]
        exact hb
      · obtain ⟨p1, p2, p3⟩ := p
        obtain ⟨rfl, k, v, hk, rfl⟩ := y
        obtain ⟨n, gn, rfl, vn⟩ := di.at hk
        refine ⟨rfl, .ref d, rfl, .int n, rfl, d, .int (chg ps n), rfl, .inl ⟨kvs, Sum.inl n, .inr ⟨od, p2⟩, rfl, vn.symm⟩, rfl, _, rfl, ?_⟩
        have tk : (ks.take (i + 1)).filter (fun k => decide (chg ps k ≠ 0)) = (ks.take i).filter (fun k => decide (chg ps k ≠ 0)) ++ if chg ps n ≠ 0 then [n] else [] := by
          rw [List.take_add_one, gn, List.filter_append]
          show _ ++ List.filter _ [n] = _
          by_cases c : chg ps n = 0
          · rw [if_neg (by simp [c])]
            simp [c]
          · rw [if_pos c]
            simp [c]
        refine ite2 (fun e => ?_) (fun e => ?_)
        · have c : chg ps n ≠ 0 := fun z => by
            rw [z] at e
            cases e
          rw [if_pos c] at tk
          have nD : d ≠ D := fun z => by
            rw [← z, p2] at p3
            cases p3
          refine ⟨.int n, rfl, _, p3, ?_, fun b u nb hb => ?_, (upd_ne nD).trans p2, ?_⟩
          · rw [List.length_map]
            have := List.length_filter_le (fun k => decide (chg ps k ≠ 0)) (ks.take i)
            rw [List.length_take] at this
            exact small20 (by omega)
          · have nbD : b ≠ D := fun z => by
              rw [z] at hb
              have q1 : (upd H1 d (.frz od (.dK kvs))) D = none := hD
              rw [upd_ne (z ▸ nb), hb] at q1
              cases q1
            rw [upd_ne nbD]
            exact p1 b u nb hb
          · rw [upd_same, tk, List.map_append]
            rfl
        · have c : chg ps n = 0 := by
            by_cases z : chg ps n = 0
            · exact z
            · exact absurd (show (!decide (V.int (chg ps n) = V.int 0)) = true by rw [decide_eq_false (fun q => z (V.int.inj q))]; rfl) e
          rw [if_neg (by simp [c]), List.append_nil] at tk
          exact ⟨p1, p2, by rw [tk]; exact p3⟩
      · obtain ⟨p1, p2, p3⟩ := p
        rw [di.len, List.take_length] at p3
        refine ⟨p2, ?_⟩
        have e12 : Ex H1 (upd H2 d (.dK kvs)) := fun b u hb => by
          by_cases c : b = d
          · rw [c] at hb ⊢
            rw [hd] at hb
            rw [upd_same]
            exact hb
          · rw [upd_ne c]
            exact p1 b u c hb
        have nD : D ≠ d := fun z => by
          rw [z, p2] at p3
          cases p3
        have hD2 : (upd H2 d (.dK kvs)) D = some (.lst ((ks.filter fun k => decide (chg ps k ≠ 0)).map V.int)) := (upd_ne nD).trans p3
        have hd2 : (upd H2 d (.dK kvs)) d = some (.dK kvs) := upd_same
        generalize upd H2 d (.dK kvs) = H3 at e12 hD2 hd2 ⊢
        refine ⟨D, _, rfl, SqL.of hD2, fun ts p per ord np => ?_⟩
        have e13 := e1.trans (e12.trans (Ex.new (o := .lst (ts.map V.int)) np))
        have hp4 : (upd H3 p (.lst (ts.map V.int))) p = some (.lst (ts.map V.int)) := upd_same
        have hd4 : (upd H3 p (.lst (ts.map V.int))) d = some (.dK kvs) := Ex.new np _ _ hd2
        generalize upd H3 p (.lst (ts.map V.int)) = H4 at e13 hp4 hd4 ⊢
        obtain ⟨fc, fw, fl⟩ := flat_ok (ks := ks) (ts := ts) di.nd ends per ord
        -- rows, now
        refine ⟨Nat.zero_le _, fun r nr => ?_⟩
        have hp5 : (upd H4 r (.lst [])) p = some (.lst (ts.map V.int)) := Ex.new nr _ _ hp4
        have hd5 : (upd H4 r (.lst [])) d = some (.dK kvs) := Ex.new nr _ _ hd4
        have hr5 : (upd H4 r (.lst [])) r = some (.lst []) := upd_same
        have e15 := e13.trans (Ex.new (o := .lst []) nr)
        have nr0 := e13.back nr
        generalize upd H4 r (.lst []) = H5 at e15 hp5 hd5 hr5 ⊢
        refine ⟨.ref p, rfl, .ref p, rfl, 1, rfl, p, _, rfl, SqL.of hp5, fun c nc => ?_⟩
        rw [cut_one]
        have hp6 : (upd H5 c (.lst ((ts.map V.int).drop 1))) p = some (.lst (ts.map V.int)) := Ex.new nc _ _ hp5
        have hd6 : (upd H5 c (.lst ((ts.map V.int).drop 1))) d = some (.dK kvs) := Ex.new nc _ _ hd5
        have hr6 : (upd H5 c (.lst ((ts.map V.int).drop 1))) r = some (.lst []) := Ex.new nc _ _ hr5
        have hc6 : (upd H5 c (.lst ((ts.map V.int).drop 1))) c = some (.lst ((ts.map V.int).drop 1)) := upd_same
        have e16 := e15.trans (Ex.new (o := .lst ((ts.map V.int).drop 1)) nc)
        generalize upd H5 c (.lst ((ts.map V.int).drop 1)) = H6 at e16 hp6 hd6 hr6 hc6 ⊢
        have npr : p ≠ r := fun z => by
          rw [← z, hp4] at nr
          cases nr
        have ncr : c ≠ r := fun z => by
          rw [z, hr5] at nc
          cases nc
        have ndr : d ≠ r := fun z => by
          rw [← z, hd4] at nr
          cases nr
        have lts : ts.length ≤ ks.length := by rw [per.length_eq]; exact List.length_filter_le _ _
        refine ⟨p, c, _, _, rfl, SqL.of hp6, SqL.of hc6, for_zip (n := ts.length - 1) (xs := ts.map V.int) (ys := (ts.map V.int).drop 1) (by rw [List.length_drop, List.length_map]; omega)
          (fun i σ H7 => ∃ now y8 y9 us rs, σ = [some (.ref a), some (.ref d), y2, y3, y4, some (.ref p), some (.ref r), some (.int now), y8, y9, none] ∧ Ex H H7 ∧ H7 p = some (.lst (ts.map V.int)) ∧ H7 c = some (.lst ((ts.map V.int).drop 1)) ∧ H7 d = some (.dK kvs) ∧ H7 r = some (.lst us) ∧ PaP H7 us rs ∧ rs.length ≤ i ∧
            rs ++ rowsG (chg ps) (ts.drop i) now = rowsG (chg ps) ts 0)
          ⟨0, none, none, [], [], rfl, e16, hp6, hc6, hd6, hr6, .nil, Nat.zero_le _, rfl⟩ (fun i σ H7 _ z => ?_) (fun i x y T σ H7 hi hx hy nT z => ?_) (fun σ H7 z => ?_)⟩
        · obtain ⟨_, _, _, _, _, _, _, k1, k2, _⟩ := z
          exact ⟨SqL.of k1, SqL.of k2⟩
        · obtain ⟨now, y8, y9, us, rs, rfl, e7, hp7, hc7, hd7, hr7, prs, lrs, inv⟩ := z
          rw [List.getElem?_drop, Nat.add_comm 1 i] at hy
          rw [List.getElem?_map] at hx hy
          obtain ⟨s0, gs, rfl⟩ : ∃ s0, ts[i]? = some s0 ∧ x = V.int s0 := by
            cases g : ts[i]? with
            | none => rw [g] at hx; cases hx
            | some s0 => rw [g] at hx; exact ⟨s0, rfl, (Option.some.inj hx).symm⟩
          obtain ⟨f0, gf, rfl⟩ : ∃ f0, ts[i + 1]? = some f0 ∧ y = V.int f0 := by
            cases g : ts[i + 1]? with
            | none => rw [g] at hy; cases hy
            | some s0 => rw [g] at hy; exact ⟨s0, rfl, (Option.some.inj hy).symm⟩
          have mk : s0 ∈ ks := (List.mem_filter.mp (per.mem_iff.mp (List.mem_of_getElem? gs))).1
          have vk := di.val s0
          rw [if_pos mk] at vk
          have x7 := Ex.new (o := .tup [V.int s0, V.int f0]) nT
          have hd8 := x7 _ _ hd7
          have st := rowsG_step (c := chg ps) (now := now) gs gf
          refine ⟨T, _, rfl, SqT.of upd_same, rfl, _, _, rfl, _, _, rfl, rfl, ?_⟩
          have dg := DGet.k (k := Sum.inl s0) hd8
          rw [vk] at dg
          refine ⟨.int now, rfl, .ref d, rfl, .int s0, rfl, d, _, rfl, dg, now, _, rfl, rfl, ?_⟩
          refine ⟨.int (now + chg ps s0), rfl, rfl, _, rfl, ite2 (fun e => ?_) (fun e => ?_)⟩
          · have cz : now + chg ps s0 ≠ 0 := fun z => by
              rw [z] at e
              cases e
            rw [if_pos cz] at st
            refine ⟨.ref r, rfl, .inl ⟨rfl, _, .inl (.inl (x7 _ _ hr7))⟩, .int s0, rfl, .int f0, rfl, f0, 1, rfl, rfl, .int (now + chg ps s0), rfl, by show 3 ≤ sizeLine; decide, fun t nt => ?_⟩
            have x8 := Ex.new (o := .tup [V.int s0, V.int (f0 - 1), V.int (now + chg ps s0)]) nt
            have hr9 := x8 _ _ (x7 _ _ hr7)
            have lu : us.length ≤ i := by rw [Pr.len prs]; exact lrs
            refine ⟨r, us, .ref t, rfl, rfl, hr9, small20 (by omega), now + chg ps s0, some (.int s0), some (.int f0), us ++ [.ref t], rs ++ [(s0, f0 - 1, now + chg ps s0)], rfl, ((e7.trans x7).trans x8).mut nr0, (upd_ne npr).trans (x8 _ _ (x7 _ _ hp7)), (upd_ne ncr).trans (x8 _ _ (x7 _ _ hc7)), (upd_ne ndr).trans (x8 _ _ hd8), upd_same, PaP.lset hr9 (Pr.snoc ((prs.mono x7).mono x8) ⟨t, rfl, upd_same⟩), by rw [List.length_append, List.length_singleton]; omega, ?_⟩
            rw [← inv, st, List.append_assoc]
          · have cz : now + chg ps s0 = 0 := by
              by_cases z : now + chg ps s0 = 0
              · exact z
              · exact absurd (show (!decide (V.int (now + chg ps s0) = V.int 0)) = true by rw [decide_eq_false (fun q => z (V.int.inj q))]; rfl) e
            rw [if_neg (by simp [cz]), List.nil_append] at st
            refine ⟨now + chg ps s0, some (.int s0), some (.int f0), us, rs, rfl, e7.trans x7, x7 _ _ hp7, x7 _ _ hc7, hd8, x7 _ _ hr7, prs.mono x7, Nat.le_succ_of_le lrs, ?_⟩
            rw [← inv, st]
        · obtain ⟨now, y8, y9, us, rs, rfl, e7, hp7, hc7, hd7, hr7, prs, lrs, inv⟩ := z
          rw [rowsG_end (ts.length - 1) (Nat.le_refl _), List.append_nil] at inv
          refine ⟨_, rfl, q r H7 rs nr0 e7 ⟨us, hr7, prs⟩ ?_ ?_⟩
          · rw [inv]
            exact ⟨fc, fw⟩
          · rw [inv]
            omega
theorem ok_initF {C : Addr} (T : Ptx K C) (Dcheck_distances : Df P w K mg base "check_distances" 4 ["cold", "pieces"] spCheckDist) (Dflattened : Df P w K mg base "flattened" 1 ["pieces"] spFlat) {f : Addr} {fd : FuncData} (F : Fun K "__init__" "Profile.__init__" sProfile___init__ f fd) :
    FnOk P w K mg base CX0 5 f fd ["self", "cold", "pieces"] (spInitF C) := by
  refine F.ok scProfile___init__ (fun vs H Q E h => ?_) (fun cdv A outer s H vs Q E hr h => ?_)
  · obtain ⟨x, dx, c, a, ps, rfl, _⟩ := h
    rfl
  · obtain ⟨x, dx, c, a, ps, rfl, hx, c0, pa, V, q⟩ := h
    refine ⟨_, (pss_cons (ps_expr (pe_df Dcheck_distances hr (pa_cons (pv 1) (pa_cons (pv 2) pa_nil))))
      (pss_cons (ps_fld (pv 0) (pv 1) rfl)
      (pss_one (ps_fld (pv 0) (pe_df Dflattened hr (pa_cons (pv 2) pa_nil)) rfl)))), ?_⟩
    refine ⟨.int c, rfl, .ref a, rfl, c, a, ps, rfl, c0, pa, V.pok, V.asc, by have := V.few; omega, fun H1 e1 => ?_⟩
    have hx1 := e1 _ _ hx
    refine ⟨.int c, rfl, .ref x, rfl, x, C, dx, [], rfl, hx1, T.cl, T.nC, (by show 0 < 1000; decide), ?_⟩
    obtain ⟨vs, ha, pv⟩ := pa.mono e1
    have nxa : a ≠ x := ne_of ha hx1 (by intro z; cases z)
    have pa2 : Pcs (upd H1 x (.ins C dx (putF "cold" (.int c) []))) a ps := ⟨vs, (upd_ne nxa).trans ha, Pr.imp (fun v p r => by
      obtain ⟨t, e, ht⟩ := r
      exact ⟨t, e, (upd_ne (ne_of ht hx1 (by intro z; cases z))).trans ht⟩) pv⟩
    refine ⟨.ref a, rfl, a, ps, rfl, pa2, by have := V.few; omega, fun l H2 rs nl e2 hl Tl lr => ?_⟩
    have hx2 := e2 _ _ (upd_same (H := H1) (a := x) (o := .ins C dx (putF "cold" (.int c) [])))
    refine ⟨.ref x, rfl, x, C, dx, _, rfl, hx2, T.cl, T.nP, (by show 1 < 1000; decide), ?_⟩
    rw [pf_put]
    obtain ⟨us, hl2, pl⟩ := hl
    have nxl : l ≠ x := ne_of hl2 hx2 (by intro z; cases z)
    refine q _ rs l (fun b o nb hb => ?_) ⟨⟨dx, l, upd_same, us, (upd_ne nxl).trans hl2, Pr.imp (fun v p r => by
      obtain ⟨t, e, ht⟩ := r
      exact ⟨t, e, (upd_ne (ne_of ht hx2 (by intro z; cases z))).trans ht⟩) pl⟩, V.tells Tl, Tl.can, by have := V.few; omega⟩ Tl (e1.back ?_) upd_same
    · rw [upd_ne nb]
      exact e2 _ _ ((upd_ne nb).trans (e1 _ _ hb))
    · rw [upd_ne nxl] at nl
      exact nl
theorem ok_initSm {C D : Addr} (B : Bt mg) (T : Smx K C) (Tp' : Ptx K D) {f : Addr} {fd : FuncData} (F : Fun K "__init__" "Summary.__init__" sSummary___init__ f fd) :
    FnOk P w K mg base CX0 1 f fd ["self", "firsts", "lasts", "profile"] (spInitSm C D) := by
  refine F.ok scSummary___init__ (fun vs H Q E h => ?_) (fun cdv A outer s H vs Q E hr h => ?_)
  · obtain ⟨x, dx, a, b, q, X, Y, c, rs, rfl, _⟩ := h
    rfl
  · obtain ⟨x, dx, a, b, q, X, Y, c, rs, rfl, hx, ha, hb, hq, k⟩ := h
    refine ⟨_, (pss_cons (ps_fld (pv 0) (pe_callTy call_list_of (by rfl) B.list bo_list (pa_cons (pv 1) pa_nil)) rfl)
      (pss_cons (ps_fld (pv 0) (pe_callTy call_list_of (by rfl) B.list bo_list (pa_cons (pv 2) pa_nil)) rfl)
      (pss_one (ps_fld (pv 0) (pv 3) rfl)))), ?_⟩
    obtain ⟨us, ha1, pa⟩ := id ha
    obtain ⟨ws, hb1, pb⟩ := id hb
    refine ⟨.ref a, rfl, a, us, rfl, .inl (SqL.of ha1), fun p1 np1 => ?_⟩
    have e1 := Ex.new (o := .lst us) np1
    have hx1 := e1 _ _ hx
    have f1 : ∀ e o, e ≠ x → H e = some o → upd (upd H p1 (.lst us)) x (.ins C dx (putF "_firsts" (.ref p1) [])) e = some o := fun e o ne he => (upd_ne ne).trans (e1 _ _ he)
    have nx1 : p1 ≠ x := fun z => by
      rw [z, hx] at np1
      cases np1
    refine ⟨.ref x, rfl, x, C, dx, [], rfl, hx1, T.cl, T.nF, (by show 0 < 1000; decide), ?_⟩
    have s1 : Scs (upd (upd H p1 (.lst us)) x (.ins C dx (putF "_firsts" (.ref p1) []))) p1 X := by
      obtain ⟨us', ha', pa'⟩ := ha.fr hx f1
      have : us' = us := by
        rw [f1 a _ (ne_of ha1 hx (by intro z; cases z)) ha1] at ha'
        cases ha'
        rfl
      subst this
      exact ⟨_, (upd_ne nx1).trans upd_same, pa'⟩
    have hx2 : (upd (upd H p1 (.lst us)) x (.ins C dx (putF "_firsts" (.ref p1) []))) x = some (.ins C dx (putF "_firsts" (.ref p1) [])) := upd_same
    generalize upd (upd H p1 (.lst us)) x (.ins C dx (putF "_firsts" (.ref p1) [])) = H2 at f1 s1 hx2 ⊢
    obtain ⟨ws', hb2, pb2⟩ := hb.fr hx f1
    refine ⟨.ref b, rfl, b, ws', rfl, .inl (SqL.of hb2), fun p2 np2 => ?_⟩
    have e2 := Ex.new (o := .lst ws') np2
    have hx3 := e2 _ _ hx2
    have nx2 : p2 ≠ x := fun z => by
      rw [z, hx2] at np2
      cases np2
    refine ⟨.ref x, rfl, x, C, dx, _, rfl, hx3, T.cl, T.nL, (by show 1 < 1000; decide), ?_⟩
    have g3 : ∀ e o, e ≠ x → H2 e = some o → upd (upd H2 p2 (.lst ws')) x (.ins C dx (putF "_lasts" (.ref p2) (putF "_firsts" (.ref p1) []))) e = some o := fun e o ne he => (upd_ne ne).trans (e2 _ _ he)
    have gS : ∀ {p : Addr} {Z : List Sc}, Scs H2 p Z → Scs (upd (upd H2 p2 (.lst ws')) x (.ins C dx (putF "_lasts" (.ref p2) (putF "_firsts" (.ref p1) [])))) p Z := fun {p Z} h => by
      obtain ⟨vs, hv, pv⟩ := h
      refine ⟨vs, g3 _ _ (ne_of hv hx2 (by intro z; cases z)) hv, Pr.imp (fun v s r => ?_) pv⟩
      obtain ⟨t, e, ht⟩ := r
      exact ⟨t, e, g3 _ _ (ne_of ht hx2 (by intro z; cases z)) ht⟩
    have s1' := gS s1
    have s2 : Scs (upd (upd H2 p2 (.lst ws')) x (.ins C dx (putF "_lasts" (.ref p2) (putF "_firsts" (.ref p1) [])))) p2 Y := by
      obtain ⟨vs, hv, pv⟩ := gS ⟨ws', hb2, pb2⟩
      have : vs = ws' := by
        rw [g3 b _ (ne_of hb2 hx2 (by intro z; cases z)) hb2] at hv
        cases hv
        rfl
      subst this
      exact ⟨_, (upd_ne nx2).trans upd_same, pv⟩
    have hx4 : (upd (upd H2 p2 (.lst ws')) x (.ins C dx (putF "_lasts" (.ref p2) (putF "_firsts" (.ref p1) [])))) x = some (.ins C dx (putF "_lasts" (.ref p2) (putF "_firsts" (.ref p1) []))) := upd_same
    have f4 : ∀ e o, e ≠ x → H e = some o → (upd (upd H2 p2 (.lst ws')) x (.ins C dx (putF "_lasts" (.ref p2) (putF "_firsts" (.ref p1) [])))) e = some o := fun e o ne he => g3 e o ne (f1 e o ne he)
    generalize upd (upd H2 p2 (.lst ws')) x (.ins C dx (putF "_lasts" (.ref p2) (putF "_firsts" (.ref p1) []))) = H4 at s1' s2 hx4 f4 ⊢
    refine ⟨.ref q, rfl, .ref x, rfl, x, C, dx, _, rfl, hx4, T.cl, T.nP, (by show 2 < 1000; decide), ?_⟩
    have g5 : ∀ e o, e ≠ x → H4 e = some o → upd H4 x (.ins C dx (smF (.ref p1) (.ref p2) (.ref q))) e = some o := fun e o ne he => (upd_ne ne).trans he
    have gS5 : ∀ {p : Addr} {Z : List Sc}, Scs H4 p Z → Scs (upd H4 x (.ins C dx (smF (.ref p1) (.ref p2) (.ref q)))) p Z := fun {p Z} h => by
      obtain ⟨vs, hv, pv⟩ := h
      refine ⟨vs, g5 _ _ (ne_of hv hx4 (by intro z; cases z)) hv, Pr.imp (fun v s r => ?_) pv⟩
      obtain ⟨t, e, ht⟩ := r
      exact ⟨t, e, g5 _ _ (ne_of ht hx4 (by intro z; cases z)) ht⟩
    have f5 : ∀ e o, e ≠ x → H e = some o → upd H4 x (.ins C dx (smF (.ref p1) (.ref p2) (.ref q))) e = some o := fun e o ne he => g5 e o ne (f4 e o ne he)
    exact k _ f5 ⟨dx, p1, p2, q, upd_same, gS5 s1', gS5 s2, hq.fr hx f5⟩
theorem ok_scan_length (B : Bt mg) {f : Addr} {fd : FuncData} (F : Fun K "scan_length" "scan_length" sscan_length f fd) : FnOk P w K mg base CX0 1 f fd ["scan"] spScanLength := by
  refine F.ok scscan_length (fun vs H Q E h => ?_) (fun cdv A outer s H vs Q E hr h => ?_)
  · obtain ⟨v, s, rfl, _⟩ := h
    rfl
  · obtain ⟨v, ⟨x, y⟩, rfl, ⟨t, rfl, ht⟩, q⟩ := h
    refine ⟨_, (pss_one (ps_ret (pe_op op_add (pe_callB call_abs (by rfl) B.abs bo_abs (pa_cons (pe_op op_sub (pe_ix ix_tup (pv 0) pe_int (fun _ _ => rfl)) (pe_ix ix_tup (pv 0) pe_int (fun _ _ => rfl))) pa_nil)) pe_int))), ?_⟩
    exact ⟨.ref t, rfl, t, _, 1, _, rfl, rfl, SqT.of ht, rfl, .ref t, rfl, t, _, 0, _, rfl, rfl, SqT.of ht, rfl, y, x, rfl, rfl, y - x, rfl, _, 1, rfl, rfl, q.go (Ex.refl _)⟩
theorem ok_count_all (B : Bt mg) (Dscan_length : Df P w K mg base "scan_length" 1 ["scan"] spScanLength) {f : Addr} {fd : FuncData} (F : Fun K "count_all" "count_all" scount_all f fd) :
    FnOk P w K mg base CX0 2 f fd ["scans"] spCount := by
  refine F.ok sccount_all (fun vs H Q E h => ?_) (fun cdv A outer s H vs Q E hr h => ?_)
  · obtain ⟨a, ss, rfl, _⟩ := h
    rfl
  · obtain ⟨a, ss, rfl, ⟨vs, ha, pa⟩, G, q⟩ := h
    refine ⟨_, (pss_one (ps_ret (pe_callB (cr_sum rfl) (by rfl) B.sum bo_sum (pa_cons (pe_lc (own := [("scan", 1)]) (g := (gName 1)) (te := (tCall _ [] E0 (tCons (tVar 1) tNil))) rfl sccount_all.nd (pi_list (pv 0)) (blkOk_by (N := ["scans", "scan"]) (sc := defScope scount_all) (by decide +kernel)) (by exact fun _ _ _ _ _ => (pg_name (i := 1) sccount_all.nd rfl (by first | exact Or.inl rfl | exact Or.inr rfl))) (by exact fun _ _ _ _ _ => pts_nil) (by exact fun _ _ _ _ _ => (pe_df Dscan_length hr (pa_cons (pv 1) pa_nil)))) pa_nil)))), ?_⟩
    have lv : vs.length = ss.length := Pa.len pa
    refine ⟨.ref a, rfl, a, rfl, ⟨_, SqL.of ha⟩, fun D hD => lc_list (xs := vs) (fun i H2 => Ex H H2 ∧ H2 D = some (.lst (((ss.take i).map slen).map V.int))) ⟨Ex.new hD, upd_same⟩ (fun i H2 _ p => SqL.of (p.1 _ _ ha)) (fun i x H2 hx p => ?_) (fun H2 p => ?_)⟩
    · obtain ⟨e2, hus⟩ := p
      obtain ⟨s1, gs, i1⟩ := Pa.get pa hx
      have hi : i < ss.length := (List.getElem?_eq_some_iff.mp gs).1
      refine ⟨rfl, x, rfl, x, s1, rfl, i1.mono e2, fun H3 e3 => ⟨_, e3 _ _ hus, ?_, (e2.trans e3).mut hD, ?_⟩⟩
      · rw [List.length_map, List.length_map, List.length_take]
        exact small1000 (by have := G.few; omega)
      · rw [upd_same, List.take_add_one, gs, List.map_append, List.map_append]
        rfl
    · obtain ⟨e2, hus⟩ := p
      rw [lv, List.take_length] at hus
      refine ⟨D, ss.map slen, rfl, SqL.of hus, ?_⟩
      have es : ∀ l : List Sc, (l.map slen).sum = psum l := fun l => by
        induction l with
        | nil => rfl
        | cons s r ih =>
          rw [List.map_cons, List.sum_cons, ih]
          rfl
      rw [es]
      exact q.go e2
theorem ok_sumFrom {C D : Addr} (T : Smx K C) (Tp' : Ptx K D) (DProfile : DMk P w K mg base "Profile" D 5 ["self", "cold", "pieces"] (spInitF D)) (DSummary : DMk P w K mg base "Summary" C 1 ["self", "firsts", "lasts", "profile"] (spInitSm C D)) (Dcount_all : Df P w K mg base "count_all" 2 ["scans"] spCount) (Dflattened : Df P w K mg base "flattened" 1 ["pieces"] spFlat) {f : Addr} {fd : FuncData} (F : Fun K "summary_from" "summary_from" ssummary_from f fd) : FnOk P w K mg base CX0 7 f fd ["three"] (spSumFrom C D) := by
  refine F.ok scsummary_from (fun vs H Q E h => ?_) (fun cdv A outer s H vs Q E hr h => ?_)
  · obtain ⟨v, X, ps, rfl, _⟩ := h
    rfl
  · obtain ⟨v, X, ps, rfl, ⟨t, f1, l1, c1, rfl, ht, hf, hl, hc⟩, tp, fs, few, lX, nn, k⟩ := h
    refine ⟨_, (pss_cons (ps_asg (pv 0) (pg_tup rfl (pgs_cons (pg_name (i := 1) scsummary_from.nd rfl (by first | exact Or.inl rfl | exact Or.inr rfl)) (pgs_cons (pg_name (i := 2) scsummary_from.nd rfl (by first | exact Or.inl rfl | exact Or.inr rfl)) (pgs_cons (pg_name (i := 3) scsummary_from.nd rfl (by first | exact Or.inl rfl | exact Or.inr rfl)) pgs_nil)))))
      (pss_one (ps_ret (pe_mk DSummary hr (pa_cons (pv 1) (pa_cons (pv 2) (pa_cons (pe_mk DProfile hr (pa_cons (pe_df Dcount_all hr (pa_cons (pv 1) pa_nil)) (pa_cons (pe_df Dflattened hr (pa_cons (pv 3) pa_nil)) pa_nil))) pa_nil))))))), ?_⟩
    refine ⟨_, rfl, t, _, rfl, SqT.of ht, rfl, _, _, rfl, _, _, rfl, _, _, rfl, rfl, ?_⟩
    refine ⟨.ref f1, rfl, .ref l1, rfl, .ref f1, rfl, f1, _, rfl, hf, tdy_good' (lstR_nodup X) (fun z hz => nn z (mem_lstR.mp hz)) (by have := fs.f; omega), fun H1 e1 => ?_⟩
    rw [psum_tdy (lstR_nodup X)]
    refine ⟨.ref c1, rfl, c1, ps, rfl, hc.mono e1, by omega, fun r H2 rs nr e2 hr Tl lr => ?_⟩
    have at_ : ∀ d, atP rs d = DH X d := fun d => (Tl.at tp.pok d).trans (tp.at_ d)
    have S : Sz 190 rs := Sz.of Tl tp.pok (fun p hp => Int.le_trans (tp.ok p hp).2 (by decide +kernel)) fun d => by
      rw [tp.at_]
      have := (DH_bd X d).2
      omega
    have Vr : Val rs := S.val (by decide) (by omega)
    have e12 := e1.trans e2
    intro x dx nx ndx ne
    refine ⟨x, dx, ((lstR X).length : Int), r, rs, rfl, upd_same, Int.natCast_nonneg _, hr.mono (mk_ex0 nx ndx), Vr, fun H3 rs2 l fr P3 T3 nl hx => ⟨rfl, ?_⟩⟩
    have ers : rs2 = rs := Can.unique T3.can Tl.can fun d => T3.at Vr.pok d
    subst ers
    have e3 := mk_ex nx ndx fr
    have e13 := e12.trans e3
    intro y dy ny ndy ney
    have e4 := mk_ex0 (C := C) ny ndy
    refine ⟨y, dy, f1, l1, x, _, _, ((lstR X).length : Int), rs2, rfl, upd_same, (hf.mono e13).mono e4, (hl.mono e13).mono e4, P3.at_.mono e4, fun H5 fr5 S5 => ⟨rfl, ?_⟩⟩
    exact k y H5 (e13.back ny) (e13.trans (mk_ex ny ndy fr5)) ⟨⟨rs2, S5, P3.can, P3.bd, P3.few, S, at_⟩, fs⟩
theorem ok_sumOf {Cp C D : Addr} (T : Tpg K Cp) (Dcheck_program : Df P w K mg base "check_program" 1 ["program"] (spCheckProf Cp)) (Dthree_of : Df P w K mg base "three_of" 18 ["parts"] (spThree 12)) (Dsummary_from : Df P w K mg base "summary_from" 7 ["three"] (spSumFrom C D)) {f : Addr} {fd : FuncData} (F : Fun K "summary_of" "summary_of" ssummary_of f fd) : FnOk P w K mg base CX0 19 f fd ["program"] (spSumOf Cp C D) := by
  refine F.ok scsummary_of (fun vs H Q E h => ?_) (fun cdv A outer s H vs Q E hr h => ?_)
  · obtain ⟨x, g, rfl, _⟩ := h
    rfl
  · obtain ⟨x, g, rfl, Px, lg, k⟩ := h
    refine ⟨_, (pss_cons (ps_expr (pe_df Dcheck_program hr (pa_cons (pv 0) pa_nil)))
      (pss_one (ps_ret (pe_df Dsummary_from hr (pa_cons (pe_df Dthree_of hr (pa_cons (pe_fld (pv 0) rfl) pa_nil)) pa_nil))))), ?_⟩
    obtain ⟨d0, t0, hx0, _⟩ := id Px
    refine ⟨.ref x, rfl, x, d0, _, rfl, hx0, fun H1 e1 => ?_⟩
    obtain ⟨d1, t1, hx1, i1⟩ := Px.mono e1
    have c1 := lim_cnt lg
    have n1 := lim_nds lg
    refine ⟨.ref x, rfl, x, Cp, d1, _, _, rfl, hx1, T.cl, T.nP, pgF_get _, t1, g, 10 ^ 30, 80, 10 ^ 32, rfl, i1, by have := lg.dep; omega, lg.ok, by decide +kernel, lim_fw lg, Int.le_trans c1 (by decide +kernel), by decide, by omega, fun w H2 rs e2 tr tp lr => ?_⟩
    refine ⟨w, g.rd, rs, rfl, tr, tp, lim_fs lg, by omega, by rw [prd_len lg.ok]; exact c1, fun z hz => (rd_bound lg.ok z hz).1, fun y H3 ny e3 S3 => ?_⟩
    have e12 := e1.trans e2
    exact k y H3 (e12.back ny) (e12.trans e3) S3
theorem ok_profOfX {Cp C D : Addr} (T : Smx K C) (Dsummary_of : Df P w K mg base "summary_of" 19 ["program"] (spSumOf Cp C D)) {f : Addr} {fd : FuncData} (F : Fun K "profile_of" "profile_of" sprofile_of f fd) : FnOk P w K mg base CX0 20 f fd ["program"] (spProfX Cp D) := by
  refine F.ok scprofile_of (fun vs H Q E h => ?_) (fun cdv A outer s H vs Q E hr h => ?_)
  · obtain ⟨x, g, rfl, _⟩ := h
    rfl
  · obtain ⟨x, g, rfl, Px, lg, k⟩ := h
    refine ⟨_, (pss_one (ps_ret (pe_fld (pe_df Dsummary_of hr (pa_cons (pv 0) pa_nil)) rfl))), ?_⟩
    refine ⟨.ref x, rfl, x, g, rfl, Px, lg, fun y H1 ny e1 S1 => ?_⟩
    obtain ⟨⟨rs, A1, cx, bx, lx, _, ax⟩, _⟩ := S1
    obtain ⟨d1, f1, l1, q1, h1, _, _, hq1⟩ := id A1
    refine ⟨y, C, d1, _, _, rfl, h1, T.cl, T.nP, smF_p _ _ _, ?_⟩
    exact k q1 H1 rs e1 ⟨hq1, bx, cx, lx⟩ ax (fun s => mss_bey (fun p hp => (bx p hp).1) ax s)
theorem ok_check_size (Dis_from_zero : Df P w K mg base "is_from_zero" 2 ["value"] spFromZero) {f : Addr} {fd : FuncData} (F : Fun K "check_size" "check_size" scheck_size f fd) : FnOk P w K mg base CX0 3 f fd ["size"] spCheckSize := by
  refine F.ok sccheck_size (fun vs H Q E h => ?_) (fun cdv A outer s H vs Q E hr h => ?_)
  · obtain ⟨i, rfl, _⟩ := h
    rfl
  · obtain ⟨i, rfl, h0, q⟩ := h
    refine ⟨_, (pss_one (ps_if (pt_not (pt_val (pe_df Dis_from_zero hr (pa_cons (pv 0) pa_nil)))) (pss_one ps_never) pss_nil)), ?_⟩
    exact ⟨.int i, rfl, i, rfl, h0, fun H1 e1 => ⟨true, rfl, iteF (q.go e1)⟩⟩
theorem ok_count_beyond (B : Bt mg) {f : Addr} {fd : FuncData} (F : Fun K "count_beyond" "count_beyond" scount_beyond f fd) : FnOk P w K mg base CX0 1 f fd ["pieces", "size"] spBeyond := by
  refine F.ok sccount_beyond (fun vs H Q E h => ?_) (fun cdv A outer s H vs Q E hr h => ?_)
  · obtain ⟨a, rs, z, rfl, _⟩ := h
    rfl
  · obtain ⟨a, rs, z, rfl, ⟨vs, ha, pa⟩, bd, few, z0, q⟩ := h
    refine ⟨_, (pss_one (ps_ret (pe_callB (cr_sum rfl) (by rfl) B.sum bo_sum (pa_cons (pe_lc (own := [("low", 2), ("high", 3), ("times", 4)]) (g := (gTup K 3 (gCons (gName 2) (gCons (gName 3) (gCons (gName 4) gNil))))) (te := (tOp _ (tOp _ (tVar 3) (tCB _ (tCons (tOp _ (tVar 2) _) (tCons (tVar 1) tNil)))) (tVar 4))) (tt := (tTest (tOp _ (tVar 3) (tVar 1)))) rfl sccount_beyond.nd (pi_list (pv 0)) (blkOk_by (N := ["pieces", "size", "low", "high", "times"]) (sc := defScope scount_beyond) (by decide +kernel)) (by exact fun _ _ _ _ _ => (pg_tup rfl (pgs_cons (pg_name (i := 2) sccount_beyond.nd rfl (by first | exact Or.inl rfl | exact Or.inr rfl)) (pgs_cons (pg_name (i := 3) sccount_beyond.nd rfl (by first | exact Or.inl rfl | exact Or.inr rfl)) (pgs_cons (pg_name (i := 4) sccount_beyond.nd rfl (by first | exact Or.inl rfl | exact Or.inr rfl)) pgs_nil))))) (by exact fun _ _ _ _ _ => (pts_one (pt_cmpR op_gt (pv 3) (pv 1) (nomark _)))) (by exact fun _ _ _ _ _ => (pe_op op_mulW (pe_op op_sub (pv 3) (pe_callB (call_max2 rfl) (by rfl) B.max bo_max (pa_cons (pe_op op_sub (pv 2) pe_int) (pa_cons (pv 1) pa_nil)))) (pv 4)))) pa_nil)))), ?_⟩
    have lv : vs.length = rs.length := Pr.len pa
    refine ⟨.ref a, rfl, a, rfl, ⟨_, SqL.of ha⟩, fun D hD => lc_list (xs := vs) (fun i H1 => Ex H H1 ∧ H1 D = some (.lst ((((rs.take i).filter fun p => decide (p.2.1 > z)).map fun p => (p.2.1 - max (p.1 - 1) z) * p.2.2).map V.int))) ⟨Ex.new hD, upd_same⟩ (fun i H1 _ p => SqL.of (p.1 _ _ ha)) (fun i v H1 hx p => ?_) (fun H1 p => ?_)⟩
    · obtain ⟨e1, hL⟩ := p
      obtain ⟨⟨l, h, t⟩, gs, tp, rfl, ht⟩ := Pr.get pa hx
      have li : i < rs.length := (List.getElem?_eq_some_iff.mp gs).1
      obtain ⟨⟨b1, b2, b3⟩, b4, b5⟩ := bd _ (List.mem_of_getElem? gs)
      have b1' : 1 ≤ l := b1
      have b2' : l ≤ h := b2
      have b3' : 1 ≤ t := b3
      have b4' : h ≤ 10 ^ 300 := b4
      have b5' : t ≤ 10 ^ 300 := b5
      have fs := filt_snoc (fun p => decide (p.2.1 > z)) gs
      have le := filt_le (ps := rs) (i := i) fun p => decide (p.2.1 > z)
      refine ⟨tp, _, rfl, SqT.of (e1 _ _ ht), rfl, _, _, rfl, _, _, rfl, _, _, rfl, rfl, rfl, ?_⟩
      refine ⟨.int h, rfl, .int z, rfl, h, z, rfl, rfl, _, rfl, ite2 (fun e => ?_) (fun e => ?_)⟩
      · have e' : h > z := of_decide_eq_true e
        rw [if_pos (show decide ((l, h, t).2.1 > z) = true from e)] at fs
        have big : (10 : Nat) ^ 300 < 2 ^ 1000 := by decide +kernel
        refine ⟨.int h, rfl, .int l, rfl, l, 1, rfl, rfl, .int z, rfl, l - 1, z, rfl, h, _, rfl, rfl, .int t, rfl, _, t, rfl, rfl, ?_, _, hL, ?_, e1.mut hD, ?_⟩
        · refine wide_mul (a := 1000) (b := 1000) (Nat.lt_of_le_of_lt (m := 10 ^ 300) ?_ big) (Nat.lt_of_le_of_lt (m := 10 ^ 300) ?_ big) (by decide) (by decide) (by decide)
          · show (h - (if z > l - 1 then z else l - 1)).natAbs ≤ 10 ^ 300
            split <;> omega
          · omega
        · rw [List.length_map, List.length_map]
          exact small20 (by omega)
        · rw [upd_same, fs, List.map_append, List.map_append]
          show some (HO.lst (_ ++ [V.int ((h - (if z > l - 1 then z else l - 1)) * t)])) = _
          rw [max_if]
          rfl
      · rw [if_neg (show ¬ decide ((l, h, t).2.1 > z) = true from e), List.append_nil] at fs
        exact ⟨e1, by rw [fs]; exact hL⟩
    · obtain ⟨e1, hL⟩ := p
      rw [lv, List.take_length] at hL
      refine ⟨D, _, rfl, SqL.of hL, ?_⟩
      rw [sum_filter_bey rs z fun p hp => (bd p hp).1.2.1]
      exact q.go e1
theorem ok_callP {C : Addr} (T : Ptx K C) (Dcheck_size : Df P w K mg base "check_size" 3 ["size"] spCheckSize) (Dcount_beyond : Df P w K mg base "count_beyond" 1 ["pieces", "size"] spBeyond) {f : Addr} {fd : FuncData} (F : Fun K "__call__" "Profile.__call__" sProfile___call__ f fd) :
    FnOk P w K mg base CX0 4 f fd ["self", "size"] (spCallP C) := by
  refine F.ok scProfile___call__ (fun vs H Q E h => ?_) (fun cdv A outer s H vs Q E hr h => ?_)
  · obtain ⟨x, c, rs, z, rfl, _⟩ := h
    rfl
  · obtain ⟨x, c, rs, z, rfl, Pp, z0, q⟩ := h
    refine ⟨_, (pss_cons (ps_expr (pe_df Dcheck_size hr (pa_cons (pv 1) pa_nil)))
      (pss_one (ps_ret (pe_op op_add (pe_fld (pv 0) rfl) (pe_df Dcount_beyond hr (pa_cons (pe_fld (pv 0) rfl) (pa_cons (pv 1) pa_nil))))))), ?_⟩
    refine ⟨.int z, rfl, z, rfl, z0, fun H1 e1 => ?_⟩
    obtain ⟨dx, l, hx, hl⟩ := Pp.at_.mono e1
    refine ⟨.ref x, rfl, x, C, dx, _, _, rfl, hx, T.cl, T.nC, pf_cold _ _, .ref x, rfl, x, C, dx, _, _, rfl, hx, T.cl, T.nP, pf_pieces _ _, .int z, rfl, l, rs, z, rfl, hl, Pp.bd, by have := Pp.few; omega, z0, fun H2 e2 => ⟨_, _, rfl, rfl, q.go (e1.trans e2)⟩⟩
theorem ok_kettle0 (B : Bt mg) {f : Addr} {fd : FuncData} (F : Fun K "_law_kettle" "_law_kettle" s_law_kettle f fd) : FnOk P w K mg base CX0 1 f fd ["script", "k"] (spPond0 K) := by
  refine F.ok sc_law_kettle (fun vs H Q E h => ?_) (fun cdv A outer s H vs Q E hr h => ?_)
  · obtain ⟨a, ns, k, rfl, _⟩ := h
    rfl
  · obtain ⟨a, ns, k, rfl, hS, k0, k1, q⟩ := h
    refine ⟨_, (pss_cons (ps_set (i := 2) sc_law_kettle.nd rfl (by first | exact Or.inl rfl | exact Or.inr rfl) pe_int)
      (pss_cons (ps_if (pt_cmpR op_lt (pv 1) (pe_callB call_len_seq (by rfl) B.len bo_len (pa_cons (pv 0) pa_nil)) (nomark _)) (pss_one (ps_set (i := 2) sc_law_kettle.nd rfl (by first | exact Or.inl rfl | exact Or.inr rfl) (pe_ix ix_list (pv 0) (pv 1) (fun _ _ => rfl)))) pss_nil)
      (pss_one (ps_ret (pe_lst (pa_cons (pe_callB (call_max2 rfl) (by rfl) B.max bo_max (pa_cons pe_int (pa_cons (pe_op op_sub (pv 2) (pe_op op_pow pe_int pe_int)) pa_nil))) (pa_cons (pe_op op_add (pe_op op_add (pe_op op_mul (pe_op op_mod (pe_callTy call_int1 (by rfl) B.int bo_int (pa_cons (pv 2) pa_nil)) (pe_op op_add (pe_op op_pow pe_int pe_int) pe_int)) pe_int) (pe_op op_mul pe_int (pv 1))) pe_int) (pa_cons pe_int pa_nil)))))))), ?_⟩
    have fin : ∀ z : Int, Pn 0 (z % (10 ^ 38 + 133) * 167 + 80021 * k + 13) 0 := fun z => by
      have a1 : 0 ≤ z % (10 ^ 38 + 133) := Int.emod_nonneg _ (by decide)
      have a2 : z % (10 ^ 38 + 133) < 10 ^ 38 + 133 := Int.emod_lt_of_pos _ (by decide)
      have a3 : ((10 : Int) ^ 38 + 133) * 167 + 80021 * 100 + 13 ≤ 10 ^ 45 := by decide
      exact ⟨by omega, by omega, Int.le_refl _, Int.le_refl _⟩
    refine ⟨.int k, rfl, .ref a, rfl, a, _, rfl, .inl hS, k, _, rfl, rfl, _, rfl, ite2 (fun e => ?_) (fun e => ?_)⟩
    · have e' : k < ((ns.map V.int).length : Int) := of_decide_eq_true e
      obtain ⟨z, hz⟩ : ∃ z, ns[k.toNat]? = some z := ⟨_, List.getElem?_eq_getElem (by rw [List.length_map] at e'; omega)⟩
      have ai : atI (ns.map V.int) k = some (.int z) := by
        have g : atI (ns.map V.int) ((k.toNat : Nat) : Int) = some (.int z) := atI_nat (by
          rw [List.getElem?_map, hz]
          rfl)
        rwa [Int.toNat_of_nonneg k0] at g
      refine ⟨.ref a, rfl, .int k, rfl, a, _, k, _, rfl, rfl, hS, ai, ?_⟩
      refine ⟨.int z, rfl, 10, 18, rfl, rfl, ⟨by decide, by decide, by decide⟩, z, _, rfl, rfl, 0, _, rfl, ?_⟩
      refine ⟨.int z, rfl, .inl ⟨z, rfl, 10, 38, rfl, rfl, ⟨by decide, by decide, by decide⟩, _, 133, rfl, rfl, z, _, rfl, rfl, by show (0 : Int) < 10 ^ 38 + 133; decide, ?_⟩⟩
      refine ⟨_, 167, rfl, rfl, .inr ⟨by decide, by decide⟩, .int k, rfl, 80021, k, rfl, rfl, .inl ⟨by decide, by decide⟩, _, _, rfl, rfl, _, 13, rfl, rfl, by show 3 ≤ sizeLine; decide, fun p np => ?_⟩
      exact q p _ _ _ _ np (Ex.new np) upd_same (fin z)
    · refine ⟨.int 0, rfl, 10, 18, rfl, rfl, ⟨by decide, by decide, by decide⟩, 0, _, rfl, rfl, 0, _, rfl, ?_⟩
      refine ⟨.int 0, rfl, .inl ⟨0, rfl, 10, 38, rfl, rfl, ⟨by decide, by decide, by decide⟩, _, 133, rfl, rfl, 0, _, rfl, rfl, by show (0 : Int) < 10 ^ 38 + 133; decide, ?_⟩⟩
      refine ⟨_, 167, rfl, rfl, .inr ⟨by decide, by decide⟩, .int k, rfl, 80021, k, rfl, rfl, .inl ⟨by decide, by decide⟩, _, _, rfl, rfl, _, 13, rfl, rfl, by show 3 ≤ sizeLine; decide, fun p np => ?_⟩
      exact q p _ _ _ _ np (Ex.new np) upd_same (fin 0)
theorem ok_kettle (B : Bt mg) {f : Addr} {fd : FuncData} (F : Fun K "_law_kettle" "_law_kettle" s_law_kettle f fd) : FnOk P w K mg base CX0 1 f fd ["script", "k"] (spPond K) :=
  pond_new (ok_kettle0 B F) fun vs H Q E h => by
    obtain ⟨a, ns, k, rfl, hS, k0, k1, q⟩ := h
    refine ⟨rfl, a, ns, k, rfl, hS, k0, k1, fun b H' x c t nb e hb pn => ⟨b, 0, x, c, t, pn, rfl, nb, hb, q b _ nb (fun o u ho => ?_) ⟨0, Nat.le_refl _, upd_same⟩⟩⟩
    rw [upd_ne (ne_of_none ho nb)]
    exact e o u ho
theorem ok_scoop0 (B : Bt mg) {f : Addr} {fd : FuncData} (F : Fun K "_law_scoop" "_law_scoop" s_law_scoop f fd) : FnOk P w K mg base CX0 1 f fd ["kettle", "many"] spDip0 := by
  refine F.ok sc_law_scoop (fun vs H Q E h => ?_) (fun cdv A outer s H vs Q E hr h => ?_)
  · obtain ⟨b, m, x, c, t, n, rfl, _⟩ := h
    rfl
  · obtain ⟨b, m, x, c, t, n, rfl, hb, pn, hn, h1, h2, q⟩ := h
    refine ⟨_, (pss_cons (ps_if (pt_cmpR op_gt (pe_ix ix_list (pv 0) pe_int (fun _ _ => rfl)) pe_int (nomark _)) (pss_cons (ps_set (i := 2) sc_law_scoop.nd rfl (by first | exact Or.inl rfl | exact Or.inr rfl) (pe_op op_mod (pe_callTy call_int1 (by rfl) B.int bo_int (pa_cons (pe_ix ix_list (pv 0) pe_int (fun _ _ => rfl)) pa_nil)) (pv 1)))
      (pss_cons (ps_asg (pe_op op_fdivW (pe_callTy call_int1 (by rfl) B.int bo_int (pa_cons (pe_ix ix_list (pv 0) pe_int (fun _ _ => rfl)) pa_nil)) (pv 1)) (pg_sub (pv 0) pe_int set_list))
      (pss_one (ps_ret (pv 2))))) pss_nil)
      (pss_cons (ps_asg (pe_op op_add (pe_ix ix_list (pv 0) pe_int (fun _ _ => rfl)) pe_int) (pg_sub (pv 0) pe_int set_list))
      (pss_cons (ps_set (i := 3) sc_law_scoop.nd rfl (by first | exact Or.inl rfl | exact Or.inr rfl) (pe_op op_mod (pe_callTy call_int1 (by rfl) B.int bo_int (pa_cons (pe_op op_powW (pe_op op_add (pe_ix ix_list (pv 0) pe_int (fun _ _ => rfl)) (pe_op op_mul pe_int (pe_ix ix_list (pv 0) pe_int (fun _ _ => rfl)))) pe_int) pa_nil)) (pe_op op_add (pe_op op_pow pe_int pe_int) pe_int)))
      (pss_cons (ps_set (i := 3) sc_law_scoop.nd rfl (by first | exact Or.inl rfl | exact Or.inr rfl) (pe_op op_mod (pe_callTy call_int1 (by rfl) B.int bo_int (pa_cons (pe_op op_powW (pe_op op_add (pv 3) (pe_op op_mul pe_int (pe_ix ix_list (pv 0) pe_int (fun _ _ => rfl)))) pe_int) pa_nil)) (pe_op op_add (pe_op op_pow pe_int pe_int) pe_int)))
      (pss_one (ps_ret (pe_op op_mod (pe_callTy call_int1 (by rfl) B.int bo_int (pa_cons (pe_op op_fdiv (pv 3) pe_int) pa_nil)) (pv 1)))))))), ?_⟩
    have big : ∀ z : Int, 0 ≤ z → z ≤ 10 ^ 46 → ∀ y : Int, 0 ≤ y → y ≤ 10 ^ 46 → CPowW (z + y) 3 := fun z z0 z1 y y0 y1 => by
      have g : (10 : Nat) ^ 46 + 10 ^ 46 < 2 ^ 200 := by decide
      have : (z + y).natAbs < 2 ^ 200 := Nat.lt_of_le_of_lt (show (z + y).natAbs ≤ 10 ^ 46 + 10 ^ 46 by omega) g
      have b1 := bits_le this (by decide)
      refine ⟨by decide, ?_⟩
      omega
    refine ⟨.ref b, rfl, b, _, 0, _, rfl, rfl, SqL.of hb, rfl, x, 0, rfl, rfl, _, rfl, ite2 (fun e => ?_) (fun e => ?_)⟩
    · refine ⟨.ref b, rfl, b, _, 0, _, rfl, rfl, SqL.of hb, rfl, .inl ⟨x, rfl, .int m, rfl, x, m, rfl, rfl, by show 0 < m; omega, ?_⟩⟩
      refine ⟨.ref b, rfl, b, _, 0, _, rfl, rfl, SqL.of hb, rfl, .inl ⟨x, rfl, .int m, rfl, x, m, rfl, rfl, ?_, .ref b, rfl, b, _, 0, 0, rfl, rfl, hb, rfl, ?_⟩⟩
      · exact wide_div (b := 4000) (by omega) (Nat.lt_of_le_of_lt (show m.natAbs ≤ 10 ^ 600 by omega) (by decide +kernel)) (by decide) (by decide)
      · refine ⟨_, rfl, q _ _ (x / m) t (Int.emod_nonneg _ (by omega)) (Int.emod_lt_of_pos _ (by omega)) (fun a o n e => ?_) upd_same (pn.mono (by omega))⟩
        rw [upd_ne n]
        exact e
    · have t0 := pn.t0
      have t1 := pn.t1
      have c0 := pn.c0
      have c1 := pn.c1
      have t2 : (n : Int) ≤ 2 ^ 60 := by omega
      have g1 : (86028157 : Int) * (2 ^ 60 + 1) ≤ 10 ^ 46 := by decide
      have g2 : (10 : Int) ^ 45 ≤ 10 ^ 46 := by decide
      have g3 : (10 : Int) ^ 44 + 31 ≤ 10 ^ 46 := by decide
      refine ⟨.ref b, rfl, b, _, 2, _, rfl, rfl, SqL.of hb, rfl, t, 1, rfl, rfl, .ref b, rfl, b, _, 2, 2, rfl, rfl, hb, rfl, ?_⟩
      refine ⟨.ref b, rfl, b, _, 1, _, rfl, rfl, SqL.of upd_same, rfl, .ref b, rfl, b, _, 2, _, rfl, rfl, SqL.of upd_same, rfl, 49979687, t + 1, rfl, rfl, .inl ⟨by decide, by decide⟩, c, _, rfl, rfl, _, 3, rfl, rfl, big c c0 (by omega) _ (by omega) (by omega), ?_⟩
      refine .inl ⟨_, rfl, 10, 44, rfl, rfl, ⟨by decide, by decide, by decide⟩, _, 31, rfl, rfl, _, _, rfl, rfl, by show (0 : Int) < 10 ^ 44 + 31; decide, ?_⟩
      have m0 : 0 ≤ (c + 49979687 * (t + 1)) ^ (3 : Int).toNat % (10 ^ (44 : Int).toNat + 31) := Int.emod_nonneg _ (by decide)
      have m1 : (c + 49979687 * (t + 1)) ^ (3 : Int).toNat % (10 ^ (44 : Int).toNat + 31) < 10 ^ 44 + 31 := Int.emod_lt_of_pos _ (by decide)
      have bg : CPowW ((c + 49979687 * (t + 1)) ^ (3 : Int).toNat % (10 ^ (44 : Int).toNat + 31) + 86028157 * (t + 1)) 3 := by
        generalize (c + 49979687 * (t + 1)) ^ (3 : Int).toNat % (10 ^ (44 : Int).toNat + 31) = mx at m0 m1 ⊢
        exact big mx m0 (by omega) _ (by omega) (by omega)
      refine ⟨_, rfl, .ref b, rfl, b, _, 2, _, rfl, rfl, SqL.of upd_same, rfl, 86028157, t + 1, rfl, rfl, .inl ⟨by decide, by decide⟩, _, _, rfl, rfl, _, 3, rfl, rfl, bg, ?_⟩
      refine .inl ⟨_, rfl, 10, 42, rfl, rfl, ⟨by decide, by decide, by decide⟩, _, 63, rfl, rfl, _, _, rfl, rfl, by show (0 : Int) < 10 ^ 42 + 63; decide, ?_⟩
      refine ⟨_, rfl, _, 524287, rfl, rfl, ⟨by decide, by decide⟩, .inl ⟨_, rfl, .int m, rfl, _, m, rfl, rfl, by show 0 < m; omega, ?_⟩⟩
      refine q _ _ x (t + 1) (Int.emod_nonneg _ (by omega)) (Int.emod_lt_of_pos _ (by omega)) (fun a o n e => (upd_ne n).trans e) upd_same ⟨c0, c1, by omega, by omega⟩
theorem ok_scoop (B : Bt mg) {f : Addr} {fd : FuncData} (F : Fun K "_law_scoop" "_law_scoop" s_law_scoop f fd) : FnOk P w K mg base CX0 1 f fd ["kettle", "many"] spDip :=
  pond_fn (ok_scoop0 B F) fun vs H Q E h => by
    obtain ⟨b, m, n', rfl, ⟨n, ln, hb⟩, hn', h1, h2, q⟩ := h
    have hn : n ≤ 2 ^ 60 := Nat.le_trans ln hn'
    refine ⟨rfl, b, n, n + 1, hb, fun x c t pn => ⟨b, m, x, c, t, n, rfl, upd_same, pn, hn, h1, h2, fun r H' x' t' r0 r1 k e pn' => ⟨x', c, t', pn', e, q r r0 r1 _ (fun a o ha => ?_) ⟨n + 1, by omega, upd_same⟩⟩⟩⟩
    by_cases z : a = b
    · subst z
      rw [hb] at ha
      cases ha
      exact ⟨_, upd_same, fun p => p.elim⟩
    · refine ⟨o, ?_, fun _ => rfl⟩
      rw [upd_ne z]
      exact k a o z (by rw [upd_ne z]; exact ha)
theorem ok_nscans {f : Addr} {fd : FuncData} (F : Fun K "_law_scans" "_law_scans" s_law_scans f fd)
    (mk : ∀ {k : Nat} {sp : Sp}, FnOk P w K mg base CX0 k f fd ["nodes"] sp → Df P w K mg base "_law_scans" k ["nodes"] sp) : ∀ d : Nat, FnOk P w K mg base CX0 (d + 1) f fd ["nodes"] (spNScans d)
  | 0 => ⟨fun vs H Q E h => by obtain ⟨a, g, rfl, _⟩ := h; rfl, fun A outer s H args us vs Q E _ _ _ _ h => by obtain ⟨a, g, rfl, _, h0, _⟩ := h; omega⟩
  | d + 1 => by
    have D_law_scans := mk (ok_nscans F mk d)
    refine F.ok sc_law_scans (fun vs H Q E h => ?_) (fun cdv A outer s H vs Q E hr h => ?_)
    · obtain ⟨a, g, rfl, _⟩ := h
      rfl
    · obtain ⟨a, g, rfl, ⟨ws, ha, hg⟩, hd, hn, q⟩ := h
      refine ⟨_, (pss_cons (ps_set (i := 1) sc_law_scans.nd rfl (by first | exact Or.inl rfl | exact Or.inr rfl) (pe_lst pa_nil))
      (pss_cons (ps_for PassesOwn.never rfl (pi_list (pv 0)) (pg_name (i := 2) sc_law_scans.nd rfl (by first | exact Or.inl rfl | exact Or.inr rfl)) (pss_one (ps_set (i := 1) sc_law_scans.nd rfl (by first | exact Or.inl rfl | exact Or.inr rfl) (pe_op op_cat (pv 1) (pe_ifExp (pt_cmpR op_eq (pe_ix ix_tup (pv 2) pe_int (fun _ _ => rfl)) pe_str (nomark _)) (pe_df D_law_scans hr (pa_cons (pe_ix ix_tup (pv 2) pe_int (fun _ _ => rfl)) pa_nil) (hk := by omega)) (pe_lst (pa_cons (pe_slice sl_tupA (pv 2) (po_some pe_int) po_none) pa_nil)))))))
      (pss_one (ps_ret (pv 1))))), ?_⟩
      refine ⟨Nat.zero_le _, fun p np => ?_⟩
      have e0 := Ex.new (o := .lst ([] : List V)) np
      refine ⟨.ref a, rfl, a, rfl, ⟨_, SqL.of (e0 _ _ ha)⟩, for_list (xs := ws) (fun i σ H1 => ∃ y x c us q1, σ = [some (.ref a), some (.ref q1), y] ∧ Ex H H1 ∧ H q1 = none ∧ g = Pg.app x c ∧ x.len = i ∧ H1 q1 = some (.lst us) ∧ us.length = x.scs.length) ⟨none, .nil, g, [], p, rfl, e0, np, rfl, rfl, upd_same, rfl⟩ (fun i σ H1 _ z => ?_) (fun i v σ H1 hx z => ?_) (fun σ H1 z => ?_)⟩
      · obtain ⟨_, _, _, _, _, _, e1, _⟩ := z
        exact SqL.of (e1 _ _ ha)
      · obtain ⟨y, x, c, us, q1, rfl, e1, nq1, eg, rfl, hp, lu⟩ := z
        subst eg
        rw [Pg.scs_app, List.length_append] at hn
        rcases (hg.ex e1).get hx with ⟨s1, r, t, rfl, rfl, ht⟩ | ⟨n, b, r, t, l, bs, rfl, rfl, ht, _, hl, hb⟩
        · have hn : x.scs.length + (r.scs.length + 1) ≤ 2 ^ 18 := hn
          refine ⟨_, rfl, _, rfl, t, _, 0, _, rfl, rfl, SqT.of ht, rfl, rfl, _, rfl, ?_⟩
          rw [decide_eq_false (show ¬ V.str scanW = V.str (Str.ofString "again") from by decide +kernel)]
          refine iteF ⟨.ref t, rfl, 1, rfl, t, _, rfl, SqT.of ht, fun h => absurd h.1 (by show ¬ HT.sIx 3 0 (some 1) = 0; decide), fun _ r1 nr1 => ⟨by show 1 ≤ sizeLine; decide, fun l1 nl1 => ?_⟩⟩
          have z1 := (Ex.new (o := .tup (cutV [V.str scanW, V.int s1.1, V.int s1.2] (some 1) none)) nr1).trans (Ex.new (o := .lst [V.ref r1]) nl1)
          refine ⟨q1, l1, us, [V.ref r1], rfl, rfl, z1 _ _ hp, upd_same, Nat.le_of_lt (small20 (by rw [List.length_singleton]; omega)), fun q3 nq3 => ?_⟩
          have e3 := (e1.trans z1).trans (Ex.new (o := .lst (us ++ [V.ref r1])) nq3)
          refine ⟨_, x.app (.sc s1 .nil), r, us ++ [V.ref r1], q3, rfl, e3, (e1.trans z1).back nq3, Pg.sc_app _ _ _, by rw [Pg.len_app]; rfl, upd_same, ?_⟩
          rw [List.length_append, lu, Pg.scs_app, List.length_append]
          rfl
        · have hn : x.scs.length + (b.scs ++ r.scs).length ≤ 2 ^ 18 := hn
          rw [List.length_append] at hn
          have hd1 := Pg.mid_dep x b r n
          refine ⟨_, rfl, _, rfl, t, _, 0, _, rfl, rfl, SqT.of ht, rfl, rfl, _, rfl, ?_⟩
          rw [decide_eq_true (show V.str againW = V.str (Str.ofString "again") from rfl)]
          refine iteT ⟨_, rfl, t, _, 1, _, rfl, rfl, SqT.of ht, rfl, l, b, rfl, ⟨bs, hl, hb.nx (Nx.refl _) fun _ _ => trivial⟩, by omega, by omega, fun q2 H2 vs2 nq2 e2 hq2 l2 => ?_⟩
          refine ⟨q1, q2, us, vs2, rfl, rfl, e2 _ _ hp, hq2, Nat.le_of_lt (small20 (by omega)), fun q3 nq3 => ?_⟩
          have e3 := (e1.trans e2).trans (Ex.new (o := .lst (us ++ vs2)) nq3)
          refine ⟨_, x.app (.rp n b .nil), r, us ++ vs2, q3, rfl, e3, (e1.trans e2).back nq3, Pg.rp_app _ _ _ _, by rw [Pg.len_app]; rfl, upd_same, ?_⟩
          rw [List.length_append, lu, l2, Pg.scs_app, List.length_append]
          show _ = _ + (b.scs ++ []).length
          rw [List.append_nil]
      · obtain ⟨y, x, c, us, q1, rfl, e1, nq1, rfl, hl, hp, lu⟩ := z
        rw [hg.done hl, Pg.app_nil] at q
        exact ⟨_, rfl, q q1 H1 us nq1 e1 hp lu⟩
theorem ok_nodes (B : Bt2 mg) (D_law_scoop : Df P w K mg base "_law_scoop" 1 ["kettle", "many"] spDip) (D_law_scans : Df P w K mg base "_law_scans" 12 ["nodes"] (spNScans 11)) {f : Addr} {fd : FuncData} (F : Fun K "_law_nodes" "_law_nodes" s_law_nodes f fd)
    (mk : ∀ {k : Nat} {sp : Sp}, FnOk P w K mg base CX0 k f fd ["kettle", "most", "deep", "wide", "high"] sp → Df P w K mg base "_law_nodes" k ["kettle", "most", "deep", "wide", "high"] sp) : ∀ d : Nat, FnOk P w K mg base CX0 (d + 13) f fd ["kettle", "most", "deep", "wide", "high"] (spNodes d)
  | 0 => ⟨fun vs H Q E h => by obtain ⟨b, most, deep, wd, hh, M, n, rfl, _⟩ := h; rfl, fun A outer s H args us vs Q E _ _ _ _ h => by obtain ⟨b, most, deep, wd, hh, M, n, rfl, _, _, _, _, _, h0, h1, _⟩ := h; omega⟩
  | d + 1 => by
    have D_law_nodes := mk (ok_nodes B D_law_scoop D_law_scans F mk d)
    refine F.ok sc_law_nodes (fun vs H Q E h => ?_) (fun cdv A outer s H vs Q E hr h => ?_)
    · obtain ⟨b, most, deep, wd, hh, M, n, rfl, _⟩ := h
      rfl
    · obtain ⟨b, most, deep, wd, hh, M, n, rfl, hb, m1, mM, M1000, hK, d0, d1, d10, w1, w2, h1, h2, q⟩ := h
      refine ⟨_, (pss_cons (ps_par (i := 5) (j := 6) rfl sc_law_nodes.nd rfl rfl (by decide) rfl rfl (pa_cons (pe_lst pa_nil) (pa_cons (pe_op op_add pe_int (pe_df D_law_scoop hr (pa_cons (pv 0) (pa_cons (pv 1) pa_nil)) (hk := by omega))) pa_nil)) (by rfl))
      (pss_cons (ps_while PassesOwn.never (pt_cmpR op_gt (pv 6) pe_int (nomark _)) (pss_one (ps_if (pw_and (pt_cmpR op_gt (pv 2) pe_int (nomark _)) (pw_and1 (pt_cmpR op_eq (pe_df D_law_scoop hr (pa_cons (pv 0) (pa_cons pe_int pa_nil)) (hk := by omega)) pe_int (nomark _)))).pt (pss_cons (ps_set (i := 7) sc_law_nodes.nd rfl (by first | exact Or.inl rfl | exact Or.inr rfl) (pe_df D_law_nodes hr (pa_cons (pv 0) (pa_cons (pv 6) (pa_cons (pe_op op_sub (pv 2) pe_int) (pa_cons (pv 3) (pa_cons (pv 4) pa_nil))))) (hk := by omega)))
      (pss_cons (ps_expr (pe_bm PySem.F.plainAttrs_list PySem.F.slot_list_append PySem.F.type_list_append mt_append (pv 5) (pa_cons (pe_tup (pa_cons pe_str (pa_cons (pv 7) (pa_cons (pe_op op_add pe_int (pe_df D_law_scoop hr (pa_cons (pv 0) (pa_cons (pv 4) pa_nil)) (hk := by omega))) pa_nil)))) pa_nil)))
      (pss_one (ps_set (i := 6) sc_law_nodes.nd rfl (by first | exact Or.inl rfl | exact Or.inr rfl) (pe_op op_sub (pv 6) (pe_callB call_len_seq (by rfl) B.len bo_len (pa_cons (pe_df D_law_scans hr (pa_cons (pv 7) pa_nil) (hk := by omega)) pa_nil))))))) (pss_cons (ps_par3 (i := 8) (j := 9) (l := 10) rfl sc_law_nodes.nd rfl rfl rfl (by decide) (by decide) (by decide) rfl rfl rfl (pa_cons (pe_df D_law_scoop hr (pa_cons (pv 0) (pa_cons (pv 3) pa_nil)) (hk := by omega)) (pa_cons (pe_df D_law_scoop hr (pa_cons (pv 0) (pa_cons (pv 3) pa_nil)) (hk := by omega)) (pa_cons (pe_df D_law_scoop hr (pa_cons (pv 0) (pa_cons pe_int pa_nil)) (hk := by omega)) pa_nil))) (by rfl))
      (pss_cons (ps_expr (pe_bm PySem.F.plainAttrs_list PySem.F.slot_list_append PySem.F.type_list_append mt_append (pv 5) (pa_cons (pe_tup (pa_cons pe_str (pa_cons (pv 8) (pa_cons (pe_ix ix_list (pe_lst (pa_cons (pv 9) (pa_cons (pv 9) (pa_cons (pv 9) (pa_cons (pv 8) (pa_cons (pe_callB (call_min2 rfl) (by rfl) B.min bo_min (pa_cons (pe_op op_sub (pv 3) pe_int) (pa_cons (pe_op op_add (pv 8) pe_int) pa_nil))) pa_nil)))))) (pv 10) (fun _ _ => rfl)) pa_nil)))) pa_nil)))
      (pss_one (ps_set (i := 6) sc_law_nodes.nd rfl (by first | exact Or.inl rfl | exact Or.inr rfl) (pe_op op_sub (pv 6) pe_int))))))))
      (pss_one (ps_ret (pv 5))))), ?_⟩
      obtain ⟨C, hC⟩ : ∃ C, C = nodeK M d + 4 := ⟨_, rfl⟩
      have hKe : nodeK M (d + 1) = 1 + M * C := by rw [hC]; rfl
      rw [hKe] at hK q
      have g30 : (10 : Int) ^ 30 ≤ 10 ^ 600 := by decide +kernel
      refine ⟨Nat.zero_le _, fun p np => ?_⟩
      have x0 := Ex.new (o := .lst ([] : List V)) np
      refine ⟨.ref b, rfl, .int most, rfl, b, most, n, rfl, hb.ex x0, by omega, m1, by omega, fun r r0 r1 H1 e1 hb1 => ⟨_, _, rfl, rfl, _, _, rfl, ?_⟩⟩
      have hp1 := e1.at (upd_same (H := H) (a := p) (o := .lst []))
      have e01 := x0.nx.trans e1
      refine ⟨fun m σ H2 => ∃ (g : Pg) (us : List V) (left : Int) (y7 y8 y9 y10 : Option V), m = left.toNat ∧ σ = [some (.ref b), some (.int most), some (.int deep), some (.int wd), some (.int hh), some (.ref p), some (.int left), y7, y8, y9, y10] ∧ Nx H H2 ∧ Pd H2 b (n + 1 + (M - left.toNat) * C) ∧ H2 p = some (.lst us) ∧ ItsQ (fun l => H l = none ∧ l ≠ p) H2 g us ∧ g.Ok (10 ^ 30) ∧ (∀ s ∈ g.scs, s.1 < wd ∧ s.2 < wd) ∧ (g.dep : Int) ≤ deep ∧ (g.scs.length : Int) + left = 1 + r ∧ 0 ≤ left,
        ⟨_, .nil, [], 1 + r, none, none, none, none, rfl, rfl, e01, hb1.mono (by omega), hp1, rfl, trivial, fun s hs => (by cases hs), d0, by show (0 : Int) + _ = _; omega, by omega⟩, fun m σ H2 hW => ?_⟩
      obtain ⟨g, us, left, y7, y8, y9, y10, rfl, rfl, e2, hb2, hp, hg, ok, lt, dg, tot, l0⟩ := hW
      have lus := hg.len
      have lgs := Pg.len_le ok
      refine ⟨.int left, rfl, _, _, rfl, rfl, _, rfl, ite2 (fun e => ?_) (fun e => ?_)⟩
      case' refine_2 =>
        have e' : ¬ left > 0 := fun z => e (decide_eq_true z)
        refine ⟨_, rfl, q p H2 g np e2 (hb2.mono ?_) ⟨us, hp, hg.nx (Nx.refl _) fun _ h => h.1⟩ ⟨ok, lt, dg, by omega, by omega⟩⟩
        have : M - left.toNat = M := by omega
        rw [this]
        omega
      have e' : left > 0 := of_decide_eq_true e
      have key : (M - left.toNat) * C + C ≤ M * C := by
        have := Nat.mul_le_mul_right C (show M - left.toNat + 1 ≤ M by omega)
        rw [Nat.add_mul, Nat.one_mul] at this
        exact this
      have step : ∀ left' : Int, left' < left → 0 ≤ left' → (M - left.toNat) * C + C ≤ (M - left'.toNat) * C := fun left' h h' => by
        have := Nat.mul_le_mul_right C (show M - left.toNat + 1 ≤ M - left'.toNat by omega)
        rw [Nat.add_mul, Nat.one_mul] at this
        exact this
      obtain ⟨X, hX⟩ : ∃ X, X = (M - left.toNat) * C := ⟨_, rfl⟩
      rw [← hX] at hb2 key step
      refine ⟨fun σ' H' => ∃ (g : Pg) (us : List V) (left' : Int) (y7 y8 y9 y10 : Option V), left' < left ∧ σ' = [some (.ref b), some (.int most), some (.int deep), some (.int wd), some (.int hh), some (.ref p), some (.int left'), y7, y8, y9, y10] ∧ Nx H H' ∧ Pd H' b (n + 1 + (M - left'.toNat) * C) ∧ H' p = some (.lst us) ∧ ItsQ (fun l => H l = none ∧ l ≠ p) H' g us ∧ g.Ok (10 ^ 30) ∧ (∀ s ∈ g.scs, s.1 < wd ∧ s.2 < wd) ∧ (g.dep : Int) ≤ deep ∧ (g.scs.length : Int) + left' = 1 + r ∧ 0 ≤ left', fun σ' H' hN => ?_, ?_⟩
      · obtain ⟨g, us, left', y7, y8, y9, y10, l, r⟩ := hN
        exact ⟨left'.toNat, by omega, g, us, left', y7, y8, y9, y10, rfl, r⟩
      refine ⟨.int deep, rfl, _, _, rfl, rfl, _, rfl, ite2 (fun e => ?_) (fun e => ?_)⟩
      case' refine_1 =>
        have dpos : deep > 0 := of_decide_eq_true e
        refine ⟨.ref b, rfl, b, 4, _, rfl, hb2, by omega, by decide, by decide +kernel, fun k k0 k1 H3 e3 hb3 => ⟨rfl, _, rfl, ite2 (fun e => ?_) (fun e => ?_)⟩⟩
      case' refine_1.refine_1 =>
        have e23 := e2.trans e3
        have hp3 := e3.at hp
        have hg3 := hg.nx e3 (fun _ => id)
        refine ⟨.ref b, rfl, .int left, rfl, .int deep, rfl, _, _, rfl, rfl, .int wd, rfl, .int hh, rfl, ?_⟩
        refine ⟨b, left, deep - 1, wd, hh, M, _, rfl, hb3, by omega, by omega, M1000, by omega, by omega, by omega, by omega, w1, w2, h1, h2, fun pp H4 x npp e4 hb4 hx dx => ?_⟩
        have e24 := e23.trans e4
        have hp4 := e4.at hp3
        have hg4 := hg3.nx e4 (fun _ => id)
        have xlen := dx.one
        have xfew := dx.few
        refine ⟨.ref p, rfl, .inl ⟨rfl, _, .inl (.inl hp4)⟩, .ref pp, rfl, .ref b, rfl, .int hh, rfl, b, hh, _, rfl, hb4, by omega, h1, by omega, fun z z0 z1 H5 e5 hb5 => ⟨_, _, rfl, rfl, by show 3 ≤ sizeLine; decide, fun t nt => ?_⟩⟩
        have zt := Ex.new (o := .tup [V.str (Str.ofString "again"), V.ref pp, V.int (2 + z)]) nt
        have e45 := e5.trans zt.nx
        have hp5 := e45.at hp4
        refine ⟨p, us, .ref t, rfl, rfl, hp5, small20 (by omega), ?_⟩
        have nep : ∀ l, H3 l = none → H l = none ∧ l ≠ p := fun l hl => ⟨e23.back hl, fun z => by rw [z, hp3] at hl; cases hl⟩
        have hx5 := hx.nx e45 nep
        obtain ⟨xs, hxs, ixs⟩ := hx5
        have npp' : pp ≠ p := (nep pp npp).2
        have hp6 : (upd (upd H5 t (.tup [V.str (Str.ofString "again"), V.ref pp, V.int (2 + z)])) p (.lst (us ++ [V.ref t]))) p = some (.lst (us ++ [V.ref t])) := upd_same
        have hxs6 : (upd (upd H5 t (.tup [V.str (Str.ofString "again"), V.ref pp, V.int (2 + z)])) p (.lst (us ++ [V.ref t]))) pp = some (.lst xs) := by rw [upd_ne npp']; exact hxs
        have ixs6 := ixs.mut (o := .lst (us ++ [V.ref t])) hp5 (fun l h => h.2)
        have hg6 := (hg4.nx e45 (fun _ => id)).mut (o := .lst (us ++ [V.ref t])) hp5 (fun l h => h.2)
        have ht6 := (Kp.lst (o := .lst (us ++ [V.ref t])) hp5) _ _ (upd_same (H := H5) (a := t) (o := .tup [V.str (Str.ofString "again"), V.ref pp, V.int (2 + z)]))
        have e06 := (e24.trans e45).mut (o := .lst (us ++ [V.ref t])) np
        have hb6 : Pd (upd (upd H5 t (.tup [V.str (Str.ofString "again"), V.ref pp, V.int (2 + z)])) p (.lst (us ++ [V.ref t]))) b _ := Pd.lset hp5 (hb5.ex zt)
        generalize upd (upd H5 t (.tup [V.str (Str.ofString "again"), V.ref pp, V.int (2 + z)])) p (.lst (us ++ [V.ref t])) = H6 at hp6 hxs6 ixs6 hg6 ht6 e06 hb6 ⊢
        have hgx : ItsQ (fun l => H l = none ∧ l ≠ p) H6 (g.app (.rp (2 + z) x .nil)) (us ++ [V.ref t]) := hg6.app ⟨t, pp, xs, [], rfl, ht6, ⟨(nep pp npp).1, npp'⟩, hxs6, ixs6, rfl⟩
        refine ⟨.int left, rfl, .ref pp, rfl, pp, x, rfl, ⟨xs, hxs6, ixs6.nx (Nx.refl _) fun _ _ => trivial⟩, by have := dx.dep; omega, by omega, fun p7 H7 us7 np7 e7 hp7 l7 => ⟨p7, us7, rfl, .inl (SqL.of hp7), _, _, rfl, rfl, ?_⟩⟩
        have sl := step (left - (us7.length : Int)) (by omega) (by omega)
        refine ⟨g.app (.rp (2 + z) x .nil), us ++ [V.ref t], left - (us7.length : Int), _, _, _, _, by omega, rfl, e06.trans e7.nx, (hb6.ex e7).mono (by omega), e7 _ _ hp6, hgx.ex e7, ok.app ⟨by omega, by omega, fun h => by rw [h] at xlen; exact absurd xlen (by decide), dx.ok, trivial⟩, ?_, ?_, ?_, by omega⟩
        · intro s hs
          rw [Pg.scs_app] at hs
          rcases List.mem_append.mp hs with hs | hs
          · exact lt s hs
          · have hs : s ∈ x.scs ++ [] := hs
            rw [List.append_nil] at hs
            exact dx.lt s hs
        · rw [Pg.dep_app]
          have := dx.dep
          show ((max g.dep (max (x.dep + 1) 0) : Nat) : Int) ≤ deep
          omega
        · rw [Pg.scs_app, List.length_append]
          show ((g.scs.length + (x.scs ++ []).length : Nat) : Int) + _ = _
          rw [List.append_nil]
          omega
      case' refine_1.refine_2 =>
        have e2 := e2.trans e3
        have hp := e3.at hp
        have hg := hg.nx e3 (fun _ => id)
        have hb2 := hb3
        clear e3 hb3
        generalize H3 = H2 at *
      all_goals
        have hb2 : Pd H2 b (n + 1 + X + 1) := by
          first
            | exact hb2
            | exact hb2.mono (Nat.le_succ _)
        refine ⟨.ref b, rfl, .int wd, rfl, b, wd, _, rfl, hb2, by omega, w1, by omega, fun a1 a10 a11 H4 e4 hb4 => ⟨.ref b, rfl, .int wd, rfl, b, wd, _, rfl, hb4, by omega, w1, by omega, fun a2 a20 a21 H5 e5 hb5 => ⟨.ref b, rfl, b, 5, _, rfl, hb5, by omega, by decide, by decide +kernel, fun a3 a30 a31 H6 e6 hb6 => ⟨_, _, _, rfl, ?_⟩⟩⟩⟩
        have e46 := (e4.trans e5).trans e6
        have hp6 := e46.at hp
        have hg6 := hg.nx e46 (fun _ => id)
        refine ⟨.ref p, rfl, .inl ⟨rfl, _, .inl (.inl hp6)⟩, .int a1, rfl, .int a2, rfl, .int a2, rfl, .int a2, rfl, .int a1, rfl, .int wd, rfl, wd, 1, rfl, rfl, .int a1, rfl, a1, 1, rfl, rfl, wd - 1, a1 + 1, rfl, by show 5 ≤ sizeLine; decide, fun l nl => ?_⟩
        obtain ⟨yv, am, yv0, yv1⟩ : ∃ yv : Int, atI [V.int a2, V.int a2, V.int a2, V.int a1, V.int (if a1 + 1 < wd - 1 then a1 + 1 else wd - 1)] a3 = some (.int yv) ∧ 0 ≤ yv ∧ yv < wd := by
          rcases (show a3 = 0 ∨ a3 = 1 ∨ a3 = 2 ∨ a3 = 3 ∨ a3 = 4 by omega) with rfl | rfl | rfl | rfl | rfl
          · exact ⟨_, rfl, a20, a21⟩
          · exact ⟨_, rfl, a20, a21⟩
          · exact ⟨_, rfl, a20, a21⟩
          · exact ⟨_, rfl, a10, a11⟩
          · refine ⟨_, rfl, ?_⟩
            split <;> omega
        have zl := Ex.new (o := .lst [V.int a2, V.int a2, V.int a2, V.int a1, V.int (if a1 + 1 < wd - 1 then a1 + 1 else wd - 1)]) nl
        refine ⟨.int a3, rfl, l, _, a3, .int yv, rfl, rfl, SqL.of upd_same, am, by show 3 ≤ sizeLine; decide, fun t nt => ?_⟩
        have zt := zl.trans (Ex.new (o := .tup [V.str (Str.ofString "scan"), V.int a1, V.int yv]) nt)
        have hp7 := zt _ _ hp6
        refine ⟨p, us, .ref t, rfl, rfl, hp7, small20 (by omega), ?_⟩
        have hgx := ((hg6.ex zt).mut (o := .lst (us ++ [V.ref t])) hp7 (fun l h => h.2)).app (b := .sc (a1, yv) .nil) ⟨t, [], rfl, (Kp.lst (o := .lst (us ++ [V.ref t])) hp7) _ _ upd_same, rfl⟩
        have sl := step (left - 1) (by omega) (by omega)
        refine ⟨_, rfl, _, _, rfl, rfl, g.app (.sc (a1, yv) .nil), us ++ [V.ref t], left - 1, _, _, _, _, by omega, rfl, ((e2.trans e46).trans zt.nx).mut np, (Pd.lset hp7 (hb6.ex zt)).mono (by omega), upd_same, hgx, ok.app ⟨⟨a10, by show a1 ≤ _; omega, yv0, by show yv ≤ _; omega⟩, trivial⟩, ?_, ?_, ?_, by omega⟩
        · intro s hs
          rw [Pg.scs_app] at hs
          rcases List.mem_append.mp hs with hs | hs
          · exact lt s hs
          · have hs : s ∈ [(a1, yv)] := hs
            rw [List.mem_singleton.mp hs]
            exact ⟨a11, yv1⟩
        · rw [Pg.dep_app]
          show ((max g.dep 0 : Nat) : Int) ≤ deep
          omega
        · rw [Pg.scs_app, List.length_append]
          show ((g.scs.length + 1 : Nat) : Int) + _ = _
          omega
theorem ok_nlen (B : Bt mg) {f : Addr} {fd : FuncData} (F : Fun K "_law_length" "_law_length" s_law_length f fd)
    (mk : ∀ {k : Nat} {sp : Sp}, FnOk P w K mg base CX0 k f fd ["nodes"] sp → Df P w K mg base "_law_length" k ["nodes"] sp) : ∀ d : Nat, FnOk P w K mg base CX0 (d + 1) f fd ["nodes"] (spNLen d)
  | 0 => ⟨fun vs H Q E h => by obtain ⟨a, g, Bd, rfl, _⟩ := h; rfl, fun A outer s H args us vs Q E _ _ _ _ h => by obtain ⟨a, g, Bd, rfl, _, h0, _⟩ := h; omega⟩
  | d + 1 => by
    have D_law_length := mk (ok_nlen B F mk d)
    refine F.ok sc_law_length (fun vs H Q E h => ?_) (fun cdv A outer s H vs Q E hr h => ?_)
    · obtain ⟨a, g, Bd, rfl, _⟩ := h
      rfl
    · obtain ⟨a, g, Bd, rfl, ⟨ws, ha, hg⟩, hd, d100, hB, hok, hn, q⟩ := h
      refine ⟨_, (pss_cons (ps_set (i := 1) sc_law_length.nd rfl (by first | exact Or.inl rfl | exact Or.inr rfl) pe_int)
      (pss_cons (ps_for PassesOwn.never rfl (pi_list (pv 0)) (pg_name (i := 2) sc_law_length.nd rfl (by first | exact Or.inl rfl | exact Or.inr rfl)) (pss_one (ps_if (pt_cmpR op_eq (pe_ix ix_tup (pv 2) pe_int (fun _ _ => rfl)) pe_str (nomark _)) (pss_one (ps_set (i := 1) sc_law_length.nd rfl (by first | exact Or.inl rfl | exact Or.inr rfl) (pe_op op_add (pv 1) (pe_op op_mulW (pe_df D_law_length hr (pa_cons (pe_ix ix_tup (pv 2) pe_int (fun _ _ => rfl)) pa_nil) (hk := by omega)) (pe_ix ix_tup (pv 2) pe_int (fun _ _ => rfl)))))) (pss_one (ps_set (i := 1) sc_law_length.nd rfl (by first | exact Or.inl rfl | exact Or.inr rfl) (pe_op op_add (pe_op op_add (pv 1) (pe_callB call_abs (by rfl) B.abs bo_abs (pa_cons (pe_op op_sub (pe_ix ix_tup (pv 2) pe_int (fun _ _ => rfl)) (pe_ix ix_tup (pv 2) pe_int (fun _ _ => rfl))) pa_nil))) pe_int))))))
      (pss_one (ps_ret (pv 1))))), ?_⟩
      refine ⟨.ref a, rfl, a, rfl, ⟨_, SqL.of ha⟩, for_list (xs := ws) (fun i σ H1 => ∃ y x c, σ = [some (.ref a), some (.int x.cnt), y] ∧ Ex H H1 ∧ g = Pg.app x c ∧ x.len = i) ⟨none, .nil, g, rfl, Ex.refl _, rfl, rfl⟩ (fun i σ H1 _ z => ?_) (fun i v σ H1 hx z => ?_) (fun σ H1 z => ?_)⟩
      · obtain ⟨_, _, _, _, e1, _⟩ := z
        exact SqL.of (e1 _ _ ha)
      · obtain ⟨y, x, c, rfl, e1, eg, rfl⟩ := z
        subst eg
        rw [Pg.scs_app, List.length_append] at hn
        obtain ⟨okx, okc⟩ := app_ok hok
        rcases (hg.ex e1).get hx with ⟨s1, r, t, rfl, rfl, ht⟩ | ⟨n, b, r, t, l, bs, rfl, rfl, ht, _, hl, hb⟩
        · refine ⟨_, rfl, t, _, 0, _, rfl, rfl, SqT.of ht, rfl, rfl, _, rfl, ?_⟩
          rw [decide_eq_false (show ¬ V.str scanW = V.str (Str.ofString "again") from by decide +kernel)]
          refine iteF ⟨_, rfl, _, rfl, t, _, 2, _, rfl, rfl, SqT.of ht, rfl, _, rfl, t, _, 1, _, rfl, rfl, SqT.of ht, rfl, _, _, rfl, rfl, _, rfl, _, _, rfl, rfl, _, _, rfl, rfl, ?_⟩
          refine ⟨some (.ref t), x.app (.sc s1 .nil), r, ?_, e1, Pg.sc_app _ _ _, by rw [Pg.len_app]; rfl⟩
          rw [Pg.cnt_app]
          show [_, some (V.int (x.cnt + (if s1.2 - s1.1 < 0 then -(s1.2 - s1.1) else s1.2 - s1.1) + 1)), _] = [_, some (V.int (x.cnt + (slen s1 + 0))), _]
          unfold slen
          rw [Int.add_zero, Int.add_assoc]
        · have hn : x.scs.length + (b.scs ++ r.scs).length ≤ 2 ^ 18 := hn
          rw [List.length_append] at hn
          have hd1 := Pg.mid_dep x b r n
          obtain ⟨n2, nB, bn, okb, okr⟩ := okc
          refine ⟨_, rfl, t, _, 0, _, rfl, rfl, SqT.of ht, rfl, rfl, _, rfl, ?_⟩
          rw [decide_eq_true (show V.str againW = V.str (Str.ofString "again") from rfl)]
          have bits := cnt_bits (d := d) hB okb (by omega) (by omega)
          refine iteT ⟨_, rfl, _, rfl, t, _, 1, _, rfl, rfl, SqT.of ht, rfl, l, b, Bd, rfl, ⟨bs, hl, hb.nx (Nx.refl _) fun _ _ => trivial⟩, by omega, by omega, hB, okb, by omega, fun H2 e2 => ?_⟩
          refine ⟨_, rfl, t, _, 2, _, rfl, rfl, SqT.of (e2 _ _ ht), rfl, b.cnt, n, rfl, rfl, ?_, _, _, rfl, rfl, ?_⟩
          · exact wide_mul (abs_lt bits.1 bits.2) (abs_lt (show 0 ≤ n by omega) (show n < 2 ^ 400 by have := hB.2; omega)) (by omega) (by decide) (by omega)
          · refine ⟨some (.ref t), x.app (.rp n b .nil), r, ?_, e1.trans e2, Pg.rp_app _ _ _ _, by rw [Pg.len_app]; rfl⟩
            rw [Pg.cnt_app]
            show [_, some (V.int (x.cnt + b.cnt * n)), _] = [_, some (V.int (x.cnt + (n * b.cnt + 0))), _]
            rw [Int.add_zero, Int.mul_comm]
      · obtain ⟨y, x, c, rfl, e1, rfl, hl⟩ := z
        rw [hg.done hl, Pg.app_nil] at q
        exact ⟨_, rfl, q H1 e1⟩
theorem ok_small (B : Bt2 mg) (D_law_nodes : Df P w K mg base "_law_nodes" 17 ["kettle", "most", "deep", "wide", "high"] (spNodes 4)) (D_law_length : Df P w K mg base "_law_length" 12 ["nodes"] (spNLen 11)) {f : Addr} {fd : FuncData} (F : Fun K "_law_small" "_law_small" s_law_small f fd) : FnOk P w K mg base CX0 18 f fd ["kettle", "most", "deep", "wide", "limit"] spSmall := by
  refine F.ok sc_law_small (fun vs H Q E h => ?_) (fun cdv A outer s H vs Q E hr h => ?_)
  · obtain ⟨b, most, deep, wd, lim, n, rfl, _⟩ := h
    rfl
  · obtain ⟨b, most, deep, wd, lim, n, rfl, hb, m1, m2, hn, d0, d3, w1, w2, l4, q⟩ := h
    refine ⟨_, (pss_cons (ps_set (i := 5) sc_law_small.nd rfl (by first | exact Or.inl rfl | exact Or.inr rfl) (pe_df D_law_nodes hr (pa_cons (pv 0) (pa_cons (pv 1) (pa_cons (pv 2) (pa_cons (pv 3) (pa_cons pe_int pa_nil)))))))
      (pss_cons (ps_while PassesOwn.never (pt_cmpR op_gt (pe_df D_law_length hr (pa_cons (pv 5) pa_nil)) (pv 4) (nomark _)) (pss_one (ps_set (i := 5) sc_law_small.nd rfl (by first | exact Or.inl rfl | exact Or.inr rfl) (pe_ifExp (pt_cmpR op_gt (pe_callB call_len_seq (by rfl) B.len bo_len (pa_cons (pv 5) pa_nil)) pe_int (nomark _)) (pe_slice sl_list (pv 5) po_none (po_some (pe_un un_neg pe_int))) (pe_lst (pa_cons (pe_tup (pa_cons pe_str (pa_cons pe_int (pa_cons (pe_callB (call_min2 rfl) (by rfl) B.min bo_min (pa_cons (pe_op op_sub (pv 3) pe_int) (pa_cons pe_int pa_nil))) pa_nil)))) pa_nil))))))
      (pss_one (ps_ret (pv 5))))), ?_⟩
    have nk : nodeK 100 4 = 505050501 := rfl
    refine ⟨.ref b, rfl, .int most, rfl, .int deep, rfl, .int wd, rfl, b, most, deep, wd, 3, 100, n, rfl, hb, m1, m2, by decide, by omega, d0, by omega, by decide, w1, Int.le_trans w2 (by decide +kernel), by decide, by decide +kernel, fun p H1 g np e1 hb1 hg dr => ?_⟩
    have hg : IsQ Any H1 p g := hg.nx (Nx.refl _) fun _ _ => trivial
    have hb1 := hb1.mono (show n + nodeK 100 4 ≤ n + 2 ^ 40 by omega)
    refine ⟨fun m σ H2 => ∃ (g : Pg) (q : Addr), σ = [some (.ref b), some (.int most), some (.int deep), some (.int wd), some (.int lim), some (.ref q)] ∧ Nx H H2 ∧ Pd H2 b (n + 2 ^ 40) ∧ IsQ Any H2 q g ∧ Dwn deep most wd g ∧ (m = g.len ∨ (m = 0 ∧ g.cnt ≤ lim)), ⟨_, g, p, rfl, e1, hb1, hg, dr, .inl rfl⟩, fun m σ H2 hW => ?_⟩
    obtain ⟨g, q', rfl, e2, hb2, hg, dr, hm⟩ := hW
    have few := dr.few
    refine ⟨.ref q', rfl, q', g, 10 ^ 30, rfl, hg, by have := dr.dep; omega, by decide, ⟨by decide +kernel, by decide +kernel⟩, dr.ok, by omega, fun H3 e3 => ⟨.int lim, rfl, _, _, rfl, rfl, _, rfl, ite2 (fun e => ?_) (fun e => ?_)⟩⟩
    · have e' : lim < g.cnt := of_decide_eq_true e
      have hm : m = g.len := by
        rcases hm with h | h
        · exact h
        · have := h.2
          omega
      subst hm
      have e23 := e2.trans e3.nx
      obtain ⟨us, hq, ig⟩ := hg.nx e3.nx (fun _ => id)
      have lus := ig.len
      refine ⟨fun σ' H' => ∃ (g' : Pg) (q : Addr), σ' = [some (.ref b), some (.int most), some (.int deep), some (.int wd), some (.int lim), some (.ref q)] ∧ Nx H H' ∧ Pd H' b (n + 2 ^ 40) ∧ IsQ Any H' q g' ∧ Dwn deep most wd g' ∧ (g'.len < g.len ∨ (0 < g.len ∧ g'.cnt ≤ lim)), fun σ' H' hN => ?_, ?_⟩
      · obtain ⟨g', q, r1, r2, r3, r4, r5, h | h⟩ := hN
        · exact ⟨_, h, g', q, r1, r2, r3, r4, r5, .inl rfl⟩
        · exact ⟨0, h.1, g', q, r1, r2, r3, r4, r5, .inr ⟨rfl, h.2⟩⟩
      refine ⟨.ref q', rfl, q', us, rfl, .inl (SqL.of hq), _, _, rfl, rfl, _, rfl, ite2 (fun e => ?_) (fun e => ?_)⟩
      · have l1 : 1 < (us.length : Int) := of_decide_eq_true e
        refine ⟨.ref q', rfl, 1, rfl, -1, rfl, q', us, rfl, SqL.of hq, fun c nc => ?_⟩
        have gn : g ≠ .nil := fun h => by
          rw [h] at lus
          have : us.length = 0 := lus
          omega
        obtain ⟨g', x, eg, lx⟩ : ∃ g' x : Pg, g = g'.app x ∧ x.len = 1 := by
          rcases Pg.last g gn with ⟨a, s, e⟩ | ⟨a, k, x, e⟩
          · exact ⟨a, _, e, rfl⟩
          · exact ⟨a, _, e, rfl⟩
        subst eg
        have lg : (g'.app x).len = g'.len + x.len := Pg.len_app _ _
        obtain ⟨k1, _⟩ := ig.split
        have zc := Ex.new (o := .lst (cutV us none (some (-1)))) nc
        have ec : cutV us none (some (-1)) = us.take g'.len := by
          rw [cut_neg us (by omega)]
          congr 1
          omega
        obtain ⟨ok1, _⟩ := app_ok dr.ok
        have ll := Pg.len_le ok1
        refine ⟨g', c, rfl, e23.trans zc.nx, hb2.ex (e3.trans zc), ⟨us.take g'.len, by rw [upd_same, ec], k1.ex zc⟩, ⟨ok1, fun s hs => dr.lt s (by rw [Pg.scs_app]; exact List.mem_append_left _ hs), ?_, ?_, by omega⟩, .inl (by omega)⟩
        · have := dr.dep
          rw [Pg.dep_app] at this
          omega
        · have := dr.few
          rw [Pg.scs_app, List.length_append] at this
          omega
      · refine ⟨.int wd, rfl, wd, 1, rfl, rfl, wd - 1, 3, rfl, by show 3 ≤ sizeLine; decide, fun t nt => ⟨by show 1 ≤ sizeLine; decide, fun c nc => ?_⟩⟩
        have z1 := Ex.new (o := .tup [V.str (Str.ofString "scan"), V.int 0, V.int (if 3 < wd - 1 then 3 else wd - 1)]) nt
        have z2 := Ex.new (o := .lst [V.ref t]) nc
        obtain ⟨yv, hy⟩ : ∃ yv, yv = if 3 < wd - 1 then 3 else wd - 1 := ⟨_, rfl⟩
        have y01 : 0 ≤ yv ∧ yv ≤ 3 ∧ yv < wd := by
          rw [hy]
          split <;> omega
        have g30 : (3 : Int) ≤ 10 ^ 30 := by decide +kernel
        refine ⟨.sc (0, yv) .nil, c, rfl, e23.trans (z1.trans z2).nx, hb2.ex ((e3.trans z1).trans z2), ⟨_, upd_same, t, [], rfl, by rw [hy]; exact z2 _ _ upd_same, rfl⟩, ⟨⟨⟨by show (0 : Int) ≤ 0; decide, by show (0 : Int) ≤ 10 ^ 30; decide +kernel, y01.1, by show yv ≤ _; omega⟩, trivial⟩, fun s hs => ?_, d0, by show ((1 : Nat) : Int) ≤ most; omega, Nat.le_refl _⟩, .inr ⟨?_, ?_⟩⟩
        · have hs : s ∈ [((0 : Int), yv)] := hs
          rw [List.mem_singleton.mp hs]
          exact ⟨by show (0 : Int) < wd; omega, y01.2.2⟩
        · have h1 := dr.one
          cases g with
          | nil => exact absurd h1 (by decide)
          | sc s r => exact Nat.succ_pos _
          | rp k x r => exact Nat.succ_pos _
        · show slen (0, yv) + 0 ≤ lim
          unfold slen
          show (if yv - 0 < 0 then -(yv - 0) else yv - 0) + 1 + 0 ≤ lim
          split <;> omega
    · have e' : ¬ lim < g.cnt := fun y => e (decide_eq_true y)
      exact ⟨_, rfl, q q' H3 g (e2.trans e3.nx) (hb2.ex e3) (hg.nx e3.nx fun _ => id) dr (by omega)⟩
theorem ok_nwords (B : Bt2 mg) {f : Addr} {fd : FuncData} (F : Fun K "_law_words" "_law_words" s_law_words f fd)
    (mk : ∀ {k : Nat} {sp : Sp}, FnOk P w K mg base CX0 k f fd ["nodes"] sp → Df P w K mg base "_law_words" k ["nodes"] sp) : ∀ d : Nat, FnOk P w K mg base CX0 (d + 1) f fd ["nodes"] (spNWords d)
  | 0 => ⟨fun vs H Q E h => by obtain ⟨a, g, rfl, _⟩ := h; rfl, fun A outer s H args us vs Q E _ _ _ _ h => by obtain ⟨a, g, rfl, _, h0, _⟩ := h; omega⟩
  | d + 1 => by
    have D_law_words := mk (ok_nwords B F mk d)
    refine F.ok sc_law_words (fun vs H Q E h => ?_) (fun cdv A outer s H vs Q E hr h => ?_)
    · obtain ⟨a, g, rfl, _⟩ := h
      rfl
    · obtain ⟨a, g, rfl, ⟨ws, ha, hg⟩, hd, hok, hn, q⟩ := h
      refine ⟨_, (pss_cons (ps_set (i := 1) sc_law_words.nd rfl (by first | exact Or.inl rfl | exact Or.inr rfl) (pe_lst pa_nil))
      (pss_cons (ps_for PassesOwn.never rfl (pi_list (pv 0)) (pg_name (i := 2) sc_law_words.nd rfl (by first | exact Or.inl rfl | exact Or.inr rfl)) (pss_one (ps_if (pt_cmpR op_eq (pe_ix ix_tup (pv 2) pe_int (fun _ _ => rfl)) pe_str (nomark _)) (pss_one (ps_set (i := 1) sc_law_words.nd rfl (by first | exact Or.inl rfl | exact Or.inr rfl) (pe_op op_cat (pe_op op_cat (pe_op op_cat (pv 1) (pe_lst (pa_cons pe_str pa_nil))) (pe_df D_law_words hr (pa_cons (pe_ix ix_tup (pv 2) pe_int (fun _ _ => rfl)) pa_nil) (hk := by omega))) (pe_lst (pa_cons (pe_op op_add_str pe_str (pe_callTy call_str_int (by rfl) B.str bo_str (pa_cons (pe_ix ix_tup (pv 2) pe_int (fun _ _ => rfl)) pa_nil))) pa_nil))))) (pss_one (ps_expr (pe_bm PySem.F.plainAttrs_list PySem.F.slot_list_append PySem.F.type_list_append mt_append (pv 1) (pa_cons (pe_op op_add_str (pe_callTy call_str_int (by rfl) B.str bo_str (pa_cons (pe_ix ix_tup (pv 2) pe_int (fun _ _ => rfl)) pa_nil)) (pe_ifExp (pt_cmpR (op_neD hr.units) (pe_ix ix_tup (pv 2) pe_int (fun _ _ => rfl)) (pe_ix ix_tup (pv 2) pe_int (fun _ _ => rfl)) (nomark _)) (pe_op op_add_str pe_str (pe_callTy call_str_int (by rfl) B.str bo_str (pa_cons (pe_ix ix_tup (pv 2) pe_int (fun _ _ => rfl)) pa_nil))) pe_str)) pa_nil)))))))
      (pss_one (ps_ret (pv 1))))), ?_⟩
      refine ⟨Nat.zero_le _, fun p np => ?_⟩
      have e0 := Ex.new (o := .lst ([] : List V)) np
      refine ⟨.ref a, rfl, a, rfl, ⟨_, SqL.of (e0 _ _ ha)⟩, for_list (xs := ws) (fun i σ H1 => ∃ y x c q1, σ = [some (.ref a), some (.ref q1), y] ∧ Ex H H1 ∧ H q1 = none ∧ g = Pg.app x c ∧ x.len = i ∧ H1 q1 = some (.lst (x.wl.map V.str))) ⟨none, .nil, g, p, rfl, e0, np, rfl, rfl, upd_same⟩ (fun i σ H1 _ z => ?_) (fun i v σ H1 hx z => ?_) (fun σ H1 z => ?_)⟩
      · obtain ⟨_, _, _, _, _, e1, _⟩ := z
        exact SqL.of (e1 _ _ ha)
      · obtain ⟨y, x, c, q1, rfl, e1, nq1, eg, rfl, hp⟩ := z
        subst eg
        have wx : x.wl.length = x.toks.length := wl_len x
        rw [toks_app, List.length_append] at hn
        obtain ⟨okx, okc⟩ := app_ok hok
        rcases (hg.ex e1).get hx with ⟨s1, r, t, rfl, rfl, ht⟩ | ⟨n, b, r, t, l, bs, rfl, rfl, ht, _, hl, hb⟩
        · have hn : x.toks.length + (r.toks.length + 1) ≤ 2 ^ 18 := hn
          obtain ⟨⟨s10, s11, s20, s21⟩, _⟩ := okc
          have g30 : (10 : Int) ^ 30 < 10 ^ 500 := by decide +kernel
          have lx := nw_len s10 (k := 31) (by decide) (by omega)
          have ly := nw_len s20 (k := 31) (by decide) (by omega)
          refine ⟨_, rfl, t, _, 0, _, rfl, rfl, SqT.of ht, rfl, rfl, _, rfl, ?_⟩
          rw [decide_eq_false (show ¬ V.str scanW = V.str (Str.ofString "again") from by decide +kernel)]
          refine iteF ⟨.ref q1, rfl, .inl ⟨rfl, _, .inl (.inl hp)⟩, _, rfl, t, _, 1, _, rfl, rfl, SqT.of ht, rfl, s1.1, rfl, log_nw s10 (by omega), _, rfl, t, _, 1, _, rfl, rfl, SqT.of ht, rfl, _, rfl, t, _, 2, _, rfl, rfl, SqT.of ht, rfl, .int s1.1, .int s1.2, .int _, .int _, rfl, rfl, _, rfl, ?_⟩
          rw [show (!PyData.eqv (.int s1.1) (.int s1.2)) = !decide (s1.1 = s1.2) from rfl]
          by_cases c : s1.1 = s1.2
          case' pos =>
            rw [decide_eq_true c]
            have ew : nw s1.1 ++ Str.ofString "" = scw s1 := by
              rw [show scw s1 = nw s1.1 from if_pos c]
              refine ext_tl ?_
              rw [tl_append, show tl (Str.ofString "") = [] from by decide +kernel, List.append_nil]
            refine iteF ⟨nw s1.1, Str.ofString "", rfl, rfl, by rw [show (Str.ofString "").length = 0 from by decide +kernel, sizeLine_eq]; omega, ?_⟩
          case' neg =>
            rw [decide_eq_false c]
            have ew : nw s1.1 ++ (dash ++ nw s1.2) = scw s1 := by
              rw [show scw s1 = nw s1.1 ++ dash ++ nw s1.2 from if_neg c]
              refine ext_tl ?_
              rw [tl_append, tl_append, tl_append, tl_append, List.append_assoc]
            refine iteT ⟨_, rfl, t, _, 2, _, rfl, rfl, SqT.of ht, rfl, s1.2, rfl, log_nw s20 (by omega), dash, nw s1.2, rfl, rfl, by rw [dash_len, sizeLine_eq]; omega, nw s1.1, dash ++ nw s1.2, rfl, rfl, by rw [l2s, dash_len, sizeLine_eq]; omega, ?_⟩
          all_goals
            simp only [ew]
            refine ⟨q1, _, .str (scw s1), rfl, rfl, hp, small20 (by rw [List.length_map]; omega), ?_⟩
            refine ⟨some (.ref t), x.app (.sc s1 .nil), r, q1, rfl, e1.mut nq1, nq1, Pg.sc_app _ _ _, by rw [Pg.len_app]; rfl, ?_⟩
            rw [upd_same, wl_app, List.map_append]
            rfl
        · have hn : x.toks.length + (Tk.op :: (b.toks ++ Tk.cl n :: r.toks)).length ≤ 2 ^ 18 := hn
          rw [List.length_cons, List.length_append, List.length_cons] at hn
          have hd1 := Pg.mid_dep x b r n
          obtain ⟨n2, nB, bn, okb, okr⟩ := okc
          have wb : b.wl.length = b.toks.length := wl_len b
          have g30 : (10 : Int) ^ 30 < 10 ^ 500 := by decide +kernel
          have ln := nw_len (show 0 ≤ n by omega) (k := 31) (by decide) (by omega)
          refine ⟨_, rfl, t, _, 0, _, rfl, rfl, SqT.of ht, rfl, rfl, _, rfl, ?_⟩
          rw [decide_eq_true (show V.str againW = V.str (Str.ofString "again") from rfl)]
          refine iteT ⟨_, rfl, by show 1 ≤ sizeLine; decide, fun k1 nk1 => ?_⟩
          have z1 := Ex.new (o := .lst [V.str (Str.ofString "(")]) nk1
          refine ⟨q1, k1, x.wl.map V.str, [V.str (Str.ofString "(")], rfl, rfl, z1 _ _ hp, upd_same, by rw [List.length_map, List.length_singleton, sizeLine_eq]; omega, fun k2 nk2 => ?_⟩
          have z2 := z1.trans (Ex.new (o := .lst (x.wl.map V.str ++ [V.str (Str.ofString "(")])) nk2)
          refine ⟨_, rfl, t, _, 1, _, rfl, rfl, SqT.of (z2 _ _ ht), rfl, l, b, rfl, ⟨bs, z2 _ _ hl, hb.nx z2.nx fun _ _ => trivial⟩, by omega, okb, by omega, fun q2 H2 e2 hq2 => ?_⟩
          refine ⟨k2, q2, x.wl.map V.str ++ [V.str (Str.ofString "(")], b.wl.map V.str, rfl, rfl, e2 _ _ upd_same, hq2, by rw [List.length_append, List.length_map, List.length_map, List.length_singleton, sizeLine_eq]; omega, fun k3 nk3 => ?_⟩
          have z3 := (z2.trans e2).trans (Ex.new (o := .lst (x.wl.map V.str ++ [V.str (Str.ofString "(")] ++ b.wl.map V.str)) nk3)
          refine ⟨_, rfl, t, _, 2, _, rfl, rfl, SqT.of (z3 _ _ ht), rfl, n, rfl, log_nw (show 0 ≤ n by omega) (by omega), clW, nw n, rfl, rfl, by rw [cl_len, sizeLine_eq]; omega, by show 1 ≤ sizeLine; decide, fun k4 nk4 => ?_⟩
          have z4 := Ex.new (o := .lst [V.str (clW ++ nw n)]) nk4
          refine ⟨k3, k4, x.wl.map V.str ++ [V.str (Str.ofString "(")] ++ b.wl.map V.str, [V.str (clW ++ nw n)], rfl, rfl, z4 _ _ upd_same, upd_same, by rw [List.length_append, List.length_append, List.length_map, List.length_map, List.length_singleton, List.length_singleton, sizeLine_eq]; omega, fun k5 nk5 => ?_⟩
          have e5 := (e1.trans (z3.trans z4)).trans (Ex.new (o := .lst (x.wl.map V.str ++ [V.str (Str.ofString "(")] ++ b.wl.map V.str ++ [V.str (clW ++ nw n)])) nk5)
          refine ⟨_, x.app (.rp n b .nil), r, k5, rfl, e5, (e1.trans (z3.trans z4)).back nk5, Pg.rp_app _ _ _ _, by rw [Pg.len_app]; rfl, ?_⟩
          rw [upd_same, wl_app, wl_rp, List.map_append, List.map_cons, List.map_append, List.append_assoc, List.append_assoc]
          rfl
      · obtain ⟨y, x, c, q1, rfl, e1, nq1, rfl, hl, hp⟩ := z
        rw [hg.done hl, Pg.app_nil] at q
        exact ⟨_, rfl, q q1 H1 e1 hp⟩
theorem ok_made {C : Addr} (B : Bt2 mg) (DProgram : DMk P w K mg base "Program" C 5 ["self", "text"] (spInitPg C)) (D_law_words : Df P w K mg base "_law_words" 12 ["nodes"] (spNWords 11)) {f : Addr} {fd : FuncData} (F : Fun K "_law_made" "_law_made" s_law_made f fd) : FnOk P w K mg base CX0 13 f fd ["nodes"] (spMade C) := by
  refine F.ok sc_law_made (fun vs H Q E h => ?_) (fun cdv A outer s H vs Q E hr h => ?_)
  · obtain ⟨a, g, rfl, _⟩ := h
    rfl
  · obtain ⟨a, g, rfl, hg, lim, q⟩ := h
    refine ⟨_, (pss_one (ps_ret (pe_mk DProgram hr (pa_cons (pe_join pe_str (pe_df D_law_words hr (pa_cons (pv 0) pa_nil))) pa_nil)))), ?_⟩
    have big := lim.big
    have tk := lim.toks
    refine ⟨⟨_, rfl⟩, .ref a, rfl, a, g, rfl, hg, by have := lim.dep; omega, lim.ok, by omega, fun p H1 e1 hp => ⟨spW, p, g.wl, rfl, rfl, .inl (SqL.of hp), by omega, fun x dx nx ndx ne => ?_⟩⟩
    refine ⟨x, dx, g, rfl, upd_same, lim, fun H2 fr P2 => ⟨rfl, q x H2 (e1.back nx) (e1.trans (mk_ex nx ndx fr)) P2⟩⟩
theorem ok_nreads (B : Bt2 mg) {f : Addr} {fd : FuncData} (F : Fun K "_law_reads" "_law_reads" s_law_reads f fd)
    (mk : ∀ {k : Nat} {sp : Sp}, FnOk P w K mg base CX0 k f fd ["nodes"] sp → Df P w K mg base "_law_reads" k ["nodes"] sp) : ∀ d : Nat, FnOk P w K mg base CX0 (d + 1) f fd ["nodes"] (spNReads d)
  | 0 => ⟨fun vs H Q E h => by obtain ⟨a, g, Bd, rfl, _⟩ := h; rfl, fun A outer s H args us vs Q E _ _ _ _ h => by obtain ⟨a, g, Bd, rfl, _, h0, _⟩ := h; omega⟩
  | d + 1 => by
    have D_law_reads := mk (ok_nreads B F mk d)
    refine F.ok sc_law_reads (fun vs H Q E h => ?_) (fun cdv A outer s H vs Q E hr h => ?_)
    · obtain ⟨a, g, Bd, rfl, _⟩ := h
      rfl
    · obtain ⟨a, g, Bd, rfl, ⟨ws, ha, hg⟩, hd, hok, hc, q⟩ := h
      refine ⟨_, (pss_cons (ps_set (i := 1) sc_law_reads.nd rfl (by first | exact Or.inl rfl | exact Or.inr rfl) (pe_lst pa_nil))
      (pss_cons (ps_for PassesOwn.never rfl (pi_list (pv 0)) (pg_name (i := 2) sc_law_reads.nd rfl (by first | exact Or.inl rfl | exact Or.inr rfl)) (pss_one (ps_if (pt_cmpR op_eq (pe_ix ix_tup (pv 2) pe_int (fun _ _ => rfl)) pe_str (nomark _)) (pss_one (ps_set (i := 1) sc_law_reads.nd rfl (by first | exact Or.inl rfl | exact Or.inr rfl) (pe_op op_cat (pv 1) (pe_op op_rep (pe_df D_law_reads hr (pa_cons (pe_ix ix_tup (pv 2) pe_int (fun _ _ => rfl)) pa_nil) (hk := by omega)) (pe_ix ix_tup (pv 2) pe_int (fun _ _ => rfl)))))) (pss_cons (ps_set (i := 3) sc_law_reads.nd rfl (by first | exact Or.inl rfl | exact Or.inr rfl) (pe_ifExp (pt_cmpR op_le (pe_ix ix_tup (pv 2) pe_int (fun _ _ => rfl)) (pe_ix ix_tup (pv 2) pe_int (fun _ _ => rfl)) (nomark _)) pe_int (pe_un un_neg pe_int)))
      (pss_one (ps_set (i := 1) sc_law_reads.nd rfl (by first | exact Or.inl rfl | exact Or.inr rfl) (pe_op op_cat (pv 1) (pe_lc (own := [("spot", 4)]) (g := (gName 4)) (te := (tOp _ (tOp (rIxT K) (tVar 2) _) (tOp _ (tVar 3) (tVar 4)))) rfl sc_law_reads.nd (pi_range1 (by rfl) B.range (pa_cons (pe_op op_add (pe_callB call_abs (by rfl) B.abs bo_abs (pa_cons (pe_op op_sub (pe_ix ix_tup (pv 2) pe_int (fun _ _ => rfl)) (pe_ix ix_tup (pv 2) pe_int (fun _ _ => rfl))) pa_nil)) pe_int) pa_nil)) (blkOk_by (N := ["nodes", "found", "node", "step", "spot"]) (sc := defScope s_law_reads) (by decide +kernel)) (by exact fun _ _ _ _ _ => (pg_name (i := 4) sc_law_reads.nd rfl (by first | exact Or.inl rfl | exact Or.inr rfl))) (by exact fun _ _ _ _ _ => pts_nil) (by exact fun _ _ _ _ _ => (pe_op op_add (pe_ix ix_tup (pv 2) pe_int (fun _ _ => rfl)) (pe_op op_mul (pv 3) (pv 4))))))))))))
      (pss_one (ps_ret (pv 1))))), ?_⟩
      refine ⟨Nat.zero_le _, fun p np => ?_⟩
      have e0 := Ex.new (o := .lst ([] : List V)) np
      refine ⟨.ref a, rfl, a, rfl, ⟨_, SqL.of (e0 _ _ ha)⟩, for_list (xs := ws) (fun i σ H1 => ∃ y y3 x c q1, σ = [some (.ref a), some (.ref q1), y, y3, none] ∧ Ex H H1 ∧ H q1 = none ∧ g = Pg.app x c ∧ x.len = i ∧ H1 q1 = some (.lst (x.rd.map V.int))) ⟨none, none, .nil, g, p, rfl, e0, np, rfl, rfl, upd_same⟩ (fun i σ H1 _ z => ?_) (fun i v σ H1 hx z => ?_) (fun σ H1 z => ?_)⟩
      · obtain ⟨_, _, _, _, _, _, e1, _⟩ := z
        exact SqL.of (e1 _ _ ha)
      · obtain ⟨y, y3, x, c, q1, rfl, e1, nq1, eg, rfl, hp⟩ := z
        subst eg
        obtain ⟨okx, okc⟩ := app_ok hok
        rw [Pg.cnt_app] at hc
        have lx := prd_len okx
        have cx0 := Pg.cnt_nn okx
        rcases (hg.ex e1).get hx with ⟨s1, r, t, rfl, rfl, ht⟩ | ⟨n, b, r, t, l, bs, rfl, rfl, ht, _, hl, hb⟩
        · have hc : x.cnt + (slen s1 + r.cnt) ≤ 2 ^ 20 := hc
          have r0 := Pg.cnt_nn okc.2
          have sp := slen_pos s1
          have lS := rdS_len s1
          refine ⟨_, rfl, t, _, 0, _, rfl, rfl, SqT.of ht, rfl, rfl, _, rfl, ?_⟩
          rw [decide_eq_false (show ¬ V.str scanW = V.str (Str.ofString "again") from by decide +kernel)]
          refine iteF ⟨_, rfl, t, _, 1, _, rfl, rfl, SqT.of ht, rfl, _, rfl, t, _, 2, _, rfl, rfl, SqT.of ht, rfl, s1.1, s1.2, rfl, rfl, _, rfl, ?_⟩
          obtain ⟨st, hst⟩ : ∃ st : Int, st = if s1.1 ≤ s1.2 then 1 else -1 := ⟨_, rfl⟩
          by_cases c : s1.1 ≤ s1.2
          case' pos =>
            rw [decide_eq_true c]
            rw [if_pos c] at hst
            refine iteT ?_
          case' neg =>
            rw [decide_eq_false c]
            rw [if_neg c] at hst
            refine iteF ⟨1, rfl, ?_⟩
          all_goals
            refine ⟨_, rfl, _, rfl, t, _, 2, _, rfl, rfl, SqT.of ht, rfl, _, rfl, t, _, 1, _, rfl, rfl, SqT.of ht, rfl, _, _, rfl, rfl, _, rfl, _, _, rfl, rfl, slen s1, rfl, by omega, by omega, fun D hD => ?_⟩
            refine lc_range (lo := 0) (n := (slen s1).toNat) (fun i H2 => Ex H1 H2 ∧ H2 D = some (.lst (((List.range i).map fun (j : Nat) => adr s1 (j : Int)).map V.int))) ⟨Ex.new hD, upd_same⟩ (fun i H2 hi w => ?_) (fun H2 w => ?_)
            · obtain ⟨e2, hL⟩ := w
              refine ⟨rfl, _, rfl, t, _, 1, _, rfl, rfl, SqT.of (e2 _ _ ht), rfl, _, rfl, _, rfl, _, _, rfl, rfl, ?_, _, _, rfl, rfl, _, hL, by rw [List.length_map, List.length_map, List.length_range]; exact small20 (by omega), e2.mut hD, ?_⟩
              · exact .inl ⟨by decide, by decide⟩
              · rw [upd_same, List.range_succ, List.map_append, List.map_append]
                show some (HO.lst (_ ++ [_])) = some (HO.lst (_ ++ [V.int (adr s1 (i : Int))]))
                unfold adr
                rw [show (if s1.1 ≤ s1.2 then s1.1 + (i : Int) else s1.1 - (i : Int)) = s1.1 + st * (0 + (i : Int)) from by
                  rw [hst]
                  first
                    | rw [if_pos c]; omega
                    | rw [if_neg c]; omega, hst]
            obtain ⟨e2, hL⟩ := w
            refine ⟨q1, D, x.rd.map V.int, _, rfl, rfl, e2 _ _ hp, hL, ?_, fun q3 nq3 => ?_⟩
            · rw [List.length_map, List.length_map, List.length_map, List.length_range, sizeLine_eq]
              omega
            have e3 := (e1.trans e2).trans (Ex.new (o := .lst (x.rd.map V.int ++ ((List.range (slen s1).toNat).map fun (j : Nat) => adr s1 (j : Int)).map V.int)) nq3)
            refine ⟨some (.ref t), some (.int st), x.app (.sc s1 .nil), r, q3, by rw [hst]; rfl, e3, (e1.trans e2).back nq3, Pg.sc_app _ _ _, by rw [Pg.len_app]; rfl, ?_⟩
            rw [upd_same, rd_app, List.map_append]
            show _ = some (HO.lst (_ ++ (rdS s1 ++ []).map V.int))
            rw [List.append_nil]
            rfl
        · have hc : x.cnt + (n * b.cnt + r.cnt) ≤ 2 ^ 20 := hc
          obtain ⟨n2, nB, bn, okb, okr⟩ := okc
          have r0 := Pg.cnt_nn okr
          have b1 := cnt_pos okb bn
          have hd1 := Pg.mid_dep x b r n
          have nk := mul_small (n := n) (c := b.cnt) (k := 2 ^ 20) (by omega) b1 (by omega)
          have bk := mul_small (n := b.cnt) (c := n) (k := 2 ^ 20) (by omega) (by omega) (by rw [Int.mul_comm]; omega)
          have lb := prd_len okb
          have nb0 : 0 ≤ n * b.cnt := Int.mul_nonneg (by omega) (by omega)
          refine ⟨_, rfl, t, _, 0, _, rfl, rfl, SqT.of ht, rfl, rfl, _, rfl, ?_⟩
          rw [decide_eq_true (show V.str againW = V.str (Str.ofString "again") from rfl)]
          refine iteT ⟨_, rfl, _, rfl, t, _, 1, _, rfl, rfl, SqT.of ht, rfl, l, b, Bd, rfl, ⟨bs, hl, hb.nx (Nx.refl _) fun _ _ => trivial⟩, by omega, okb, bk, fun p2 H2 e2 hp2 np2 => ?_⟩
          have fl : (b.rd.map V.int).length * n.toNat ≤ 2 ^ 20 := by
            rw [List.length_map]
            have : ((b.rd.length * n.toNat : Nat) : Int) = b.cnt * n := by
              rw [Int.natCast_mul, lb]
              congr 1
              omega
            rw [Int.mul_comm] at this
            omega
          refine ⟨_, rfl, t, _, 2, _, rfl, rfl, SqT.of (e2 _ _ ht), rfl, p2, n, _, rfl, rfl, hp2, by omega, by omega, by rw [sizeLine_eq]; omega, fun p3 np3 => ?_⟩
          have z3 := e2.trans (Ex.new (o := .lst (List.replicate n.toNat (b.rd.map V.int)).flatten) np3)
          have em : (List.replicate n.toNat (b.rd.map V.int)).flatten = ((List.replicate n.toNat b.rd).flatten).map V.int := by
            rw [List.map_flatten, List.map_replicate]
          refine ⟨q1, p3, x.rd.map V.int, _, rfl, rfl, z3 _ _ hp, upd_same, ?_, fun p4 np4 => ?_⟩
          · rw [em, List.length_map, List.length_map, flat_len, sizeLine_eq]
            rw [List.length_map, Nat.mul_comm] at fl
            omega
          have e4 := (e1.trans z3).trans (Ex.new (o := .lst (x.rd.map V.int ++ (List.replicate n.toNat (b.rd.map V.int)).flatten)) np4)
          refine ⟨some (.ref t), y3, x.app (.rp n b .nil), r, p4, rfl, e4, (e1.trans z3).back np4, Pg.rp_app _ _ _ _, by rw [Pg.len_app]; rfl, ?_⟩
          rw [upd_same, rd_app, List.map_append, em]
          show _ = some (HO.lst (_ ++ ((List.replicate n.toNat b.rd).flatten ++ []).map V.int))
          rw [List.append_nil]
      · obtain ⟨y, y3, x, c, q1, rfl, e1, nq1, rfl, hl, hp⟩ := z
        rw [hg.done hl, Pg.app_nil] at q
        exact ⟨_, rfl, q q1 H1 e1 hp nq1⟩
end
end Kb
namespace Kb
open PySem PySem.Spec PyProof.Rows L2 TL
/-! ### so many addresses in the place of each one: the misses of a cache so many times as wide -/
theorem take_last {p1 p2 : List Int} {y : Int} (h : y ∉ p2) (n : Nat) : y ∈ (lstF (p1 ++ y :: p2)).take n ↔ (lstR p2).length < n := by
  obtain ⟨R, e⟩ : ∃ R, lstF (p1 ++ y :: p2) = lstF p2 ++ y :: R := by
    refine ⟨(lstF p1).filter fun z => !decide (z ∈ y :: p2), ?_⟩
    rw [lstF_app, show y :: p2 = [y] ++ p2 from rfl, lstF_app [y] p2]
    rw [show lstF [y] = [y] from rfl, List.filter_cons, if_pos (by simp [h]), List.filter_nil, List.append_assoc]
    rfl
  rw [e, ← lst_len]
  constructor
  · intro m
    apply Nat.lt_of_not_le
    intro c
    rw [List.take_append_of_le_length c] at m
    exact h (mem_lstF.mp (List.mem_of_mem_take m))
  · intro c
    rw [List.take_append, List.take_of_length_le (by omega)]
    obtain ⟨k, hk⟩ : ∃ k, n - (lstF p2).length = k + 1 := ⟨n - (lstF p2).length - 1, by omega⟩
    rw [hk, List.take_succ_cons]
    exact List.mem_append_right _ List.mem_cons_self
def blkF (w : Nat) (p : Int × Bool) (i : Nat) : Int := (w : Int) * p.1 + if p.2 then (i : Int) else (w : Int) - 1 - i
def blk (w : Nat) (p : Int × Bool) : List Int := (List.range w).map (blkF w p)
def sprL (w : Nat) (L : List (Int × Bool)) : List Int := L.flatMap (blk w)
theorem blk_len (w : Nat) (p : Int × Bool) : (blk w p).length = w := by
  unfold blk
  rw [List.length_map, List.length_range]
theorem mem_blk {w : Nat} {p : Int × Bool} {z : Int} : z ∈ blk w p ↔ (w : Int) * p.1 ≤ z ∧ z < (w : Int) * p.1 + w := by
  unfold blk
  rw [List.mem_map]
  constructor
  · rintro ⟨i, hi, rfl⟩
    have := List.mem_range.mp hi
    unfold blkF
    split <;> omega
  · rintro ⟨h1, h2⟩
    by_cases c : p.2 = true
    · refine ⟨(z - (w : Int) * p.1).toNat, List.mem_range.mpr (by omega), ?_⟩
      unfold blkF
      rw [if_pos c]
      omega
    · refine ⟨(w - 1 - (z - (w : Int) * p.1)).toNat, List.mem_range.mpr (by omega), ?_⟩
      unfold blkF
      rw [if_neg c]
      omega
theorem blk_uni {w : Nat} {p q : Int × Bool} {z : Int} (h1 : z ∈ blk w p) (h2 : z ∈ blk w q) : p.1 = q.1 := by
  have a := mem_blk.mp h1
  have b := mem_blk.mp h2
  rcases Int.lt_trichotomy p.1 q.1 with c | c | c
  · have := Int.mul_le_mul_of_nonneg_left (show p.1 + 1 ≤ q.1 by omega) (show (0 : Int) ≤ w by omega)
    rw [Int.mul_add, Int.mul_one] at this
    omega
  · exact c
  · have := Int.mul_le_mul_of_nonneg_left (show q.1 + 1 ≤ p.1 by omega) (show (0 : Int) ≤ w by omega)
    rw [Int.mul_add, Int.mul_one] at this
    omega
theorem map_nodup {f : Nat → Int} : ∀ {l : List Nat}, l.Nodup → (∀ a ∈ l, ∀ b ∈ l, f a = f b → a = b) → (l.map f).Nodup
  | [], _, _ => List.nodup_nil
  | x :: l, h, k => by
    have hh := List.nodup_cons.mp h
    rw [List.map_cons, List.nodup_cons]
    refine ⟨fun m => ?_, map_nodup hh.2 fun a ha b hb => k a (List.mem_cons_of_mem _ ha) b (List.mem_cons_of_mem _ hb)⟩
    obtain ⟨y, hy, e⟩ := List.mem_map.mp m
    have := k y (List.mem_cons_of_mem _ hy) x List.mem_cons_self e
    exact hh.1 (this ▸ hy)
theorem blk_nodup (w : Nat) (p : Int × Bool) : (blk w p).Nodup := by
  refine map_nodup List.nodup_range fun a ha b hb e => ?_
  have := List.mem_range.mp ha
  have := List.mem_range.mp hb
  unfold blkF at e
  split at e <;> omega
theorem mem_spr {w : Nat} {L : List (Int × Bool)} {z : Int} : z ∈ sprL w L ↔ ∃ p ∈ L, z ∈ blk w p := List.mem_flatMap
theorem spr_app (w : Nat) (A B : List (Int × Bool)) : sprL w (A ++ B) = sprL w A ++ sprL w B := List.flatMap_append
/-- the blocks of addresses that are all different -/
def blks (w : Nat) (l : List Int) : List Int := sprL w (l.map fun a => (a, true))
theorem blks_cons (w : Nat) (a : Int) (l : List Int) : blks w (a :: l) = blk w (a, true) ++ blks w l := rfl
theorem blks_len (w : Nat) : ∀ l : List Int, (blks w l).length = w * l.length
  | [] => rfl
  | a :: l => by
    rw [blks_cons, List.length_append, blk_len, blks_len w l, List.length_cons, Nat.mul_succ]
    omega
theorem mem_blks {w : Nat} {l : List Int} {z : Int} : z ∈ blks w l ↔ ∃ a ∈ l, z ∈ blk w (a, true) := by
  unfold blks
  rw [mem_spr]
  constructor
  · rintro ⟨p, hp, h⟩
    obtain ⟨a, ha, rfl⟩ := List.mem_map.mp hp
    exact ⟨a, ha, h⟩
  · rintro ⟨a, ha, h⟩
    exact ⟨_, List.mem_map.mpr ⟨a, ha, rfl⟩, h⟩
theorem blks_nodup (w : Nat) : ∀ {l : List Int}, l.Nodup → (blks w l).Nodup
  | [], _ => List.nodup_nil
  | a :: l, h => by
    have hh := List.nodup_cons.mp h
    rw [blks_cons]
    refine List.nodup_append.mpr ⟨blk_nodup w _, blks_nodup w hh.2, fun x hx y hy e => ?_⟩
    obtain ⟨b, hb, k⟩ := mem_blks.mp hy
    rw [← e] at k
    have := blk_uni hx k
    exact hh.1 (by rw [show a = b from this]; exact hb)
theorem blk_any {w : Nat} {a : Int} {d d' : Bool} {z : Int} (h : z ∈ blk w (a, d)) : z ∈ blk w (a, d') := (mem_blk (p := (a, d'))).mpr ((mem_blk (p := (a, d))).mp h)
theorem mem_spr_blks {w : Nat} {L : List (Int × Bool)} {z : Int} : z ∈ sprL w L ↔ z ∈ blks w (lstR (L.map Prod.fst)) := by
  rw [mem_spr, mem_blks]
  constructor
  · rintro ⟨p, hp, h⟩
    exact ⟨p.1, mem_lstR.mpr (List.mem_map.mpr ⟨p, hp, rfl⟩), blk_any h⟩
  · rintro ⟨a, ha, h⟩
    obtain ⟨p, hp, rfl⟩ := List.mem_map.mp (mem_lstR.mp ha)
    exact ⟨p, hp, blk_any h⟩
theorem spr_lst (w : Nat) (L : List (Int × Bool)) : (lstR (sprL w L)).length = w * (lstR (L.map Prod.fst)).length := by
  rw [← blks_len]
  exact sameLen (lstR_nodup _) (blks_nodup w (lstR_nodup _)) fun z => mem_lstR.trans mem_spr_blks
theorem last_at {a : Int} : ∀ {P : List (Int × Bool)}, a ∈ P.map Prod.fst → ∃ P1 d P2, P = P1 ++ (a, d) :: P2 ∧ a ∉ P2.map Prod.fst
  | [], h => nomatch h
  | x :: P, h => by
    by_cases c : a ∈ P.map Prod.fst
    · obtain ⟨P1, d, P2, e, n⟩ := last_at c
      exact ⟨x :: P1, d, P2, by rw [e]; rfl, n⟩
    · rcases List.mem_cons.mp h with e | e
      · exact ⟨[], x.2, P, by rw [e]; rfl, c⟩
      · exact absurd e c
theorem spr_step {w s : Nat} {P : List (Int × Bool)} {a : Int} {d : Bool} {q r : List Int} {e : Int} (hb : blk w (a, d) = q ++ e :: r) : e ∈ (lstF (sprL w P ++ q)).take (w * s) ↔ a ∈ (lstF (P.map Prod.fst)).take s := by
  have hn := blk_nodup w (a, d)
  rw [hb] at hn
  have he : e ∈ blk w (a, d) := by rw [hb]; simp
  have eq : e ∉ q := fun m => (List.nodup_append.mp hn).2.2 e m e List.mem_cons_self rfl
  by_cases c : a ∈ P.map Prod.fst
  · obtain ⟨P1, d', P2, rfl, hn2⟩ := last_at c
    obtain ⟨u, v, huv⟩ := List.append_of_mem (blk_any (d' := d') he)
    have hn' := blk_nodup w (a, d')
    rw [huv] at hn'
    have ev : e ∉ v := (List.nodup_cons.mp (List.nodup_append.mp hn').2.1).1
    have e2 : e ∉ sprL w P2 := fun m => by
      obtain ⟨p, hp, hz⟩ := mem_spr.mp m
      exact hn2 (List.mem_map.mpr ⟨p, hp, (blk_uni he hz).symm⟩)
    have t1 := take_last (p1 := sprL w P1 ++ u) (p2 := v ++ sprL w P2 ++ q) (y := e) (by simp [ev, e2, eq]) (w * s)
    have t2 := take_last (p1 := P1.map Prod.fst) (p2 := P2.map Prod.fst) hn2 s
    rw [show sprL w (P1 ++ (a, d') :: P2) ++ q = (sprL w P1 ++ u) ++ e :: (v ++ sprL w P2 ++ q) by
      rw [spr_app, show sprL w ((a, d') :: P2) = blk w (a, d') ++ sprL w P2 from rfl, huv]
      simp only [List.append_assoc, List.cons_append], t1]
    rw [List.map_append, List.map_cons, t2]
    have lo : w * (lstR (P2.map Prod.fst)).length ≤ (lstR (v ++ sprL w P2 ++ q)).length := by
      rw [← spr_lst]
      exact List.Nodup.length_le_of_subset (lstR_nodup _) fun z hz => mem_lstR.mpr (by simp [mem_lstR.mp hz])
    have wl : (u ++ v).length + 1 = w := by
      have := blk_len w (a, d')
      rw [huv] at this
      simp only [List.length_append, List.length_cons] at this ⊢
      omega
    have hi : (lstR (v ++ sprL w P2 ++ q)).length ≤ w * (lstR (P2.map Prod.fst)).length + (u ++ v).length := by
      rw [← spr_lst, ← List.length_append]
      refine List.Nodup.length_le_of_subset (lstR_nodup _) fun z hz => ?_
      have := mem_lstR.mp hz
      simp only [List.mem_append] at this ⊢
      rcases this with (h | h) | h
      · exact .inr (.inr h)
      · exact .inl (mem_lstR.mpr h)
      · have hz : z ∈ blk w (a, d') := blk_any (d := d) (by rw [hb]; simp [h])
        rw [huv] at hz
        rcases List.mem_append.mp hz with k | k
        · exact .inr (.inl k)
        · rcases List.mem_cons.mp k with k | k
          · exact absurd (k ▸ h) eq
          · exact .inr (.inr k)
    constructor
    · intro h
      apply Nat.lt_of_not_le
      intro c
      have := Nat.mul_le_mul_left w c
      omega
    · intro h
      have := Nat.mul_le_mul_left w (show (lstR (P2.map Prod.fst)).length + 1 ≤ s by omega)
      rw [Nat.mul_succ] at this
      omega
  · constructor
    · intro m
      have := mem_lstF.mp (List.mem_of_mem_take m)
      rcases List.mem_append.mp this with h | h
      · obtain ⟨p, hp, hz⟩ := mem_spr.mp h
        exact absurd (List.mem_map.mpr ⟨p, hp, (blk_uni he hz).symm⟩) c
      · exact absurd h eq
    · intro m
      exact absurd (mem_lstF.mp (List.mem_of_mem_take m)) c
theorem spr_part {w s : Nat} {P : List (Int × Bool)} {a : Int} {d : Bool} : ∀ (n : Nat) {q r : List Int}, q.length = n → blk w (a, d) = q ++ r → mss (sprL w P ++ q) ((w * s : Nat) : Int) = mss (sprL w P) ((w * s : Nat) : Int) + (n : Int) * if a ∈ (lstF (P.map Prod.fst)).take s then 0 else 1
  | 0, q, r, hq, hb => by
    rw [List.length_eq_zero_iff.mp hq, List.append_nil]
    omega
  | n + 1, q, r, hq, hb => by
    obtain ⟨q', e, rfl⟩ : ∃ q' e, q = q' ++ [e] := by
      have ne : q ≠ [] := fun h => by rw [h] at hq; cases hq
      exact ⟨q.dropLast, q.getLast ne, (List.dropLast_concat_getLast ne).symm⟩
    have hb' : blk w (a, d) = q' ++ e :: r := by rw [hb, List.append_assoc]; rfl
    have ih := spr_part (w := w) (s := s) (P := P) n (q := q') (r := e :: r) (by rw [List.length_append, List.length_singleton] at hq; omega) hb'
    rw [← List.append_assoc, mss_snoc, ih]
    by_cases c : a ∈ (lstF (P.map Prod.fst)).take s
    · rw [if_pos c, if_pos ((spr_step hb').mpr c)]
      omega
    · rw [if_neg c, if_neg fun h => c ((spr_step hb').mp h)]
      omega
theorem mss_spr (w s : Nat) (L : List (Int × Bool)) : mss (sprL w L) ((w * s : Nat) : Int) = (w : Int) * mss (L.map Prod.fst) (s : Int) := by
  suffices H : ∀ (n : Nat) (L : List (Int × Bool)), L.length = n → mss (sprL w L) ((w * s : Nat) : Int) = (w : Int) * mss (L.map Prod.fst) (s : Int) from H _ L rfl
  intro n
  induction n with
  | zero =>
    intro L h
    rw [List.length_eq_zero_iff.mp h]
    exact (Int.mul_zero _).symm
  | succ n ih =>
    intro L h
    obtain ⟨P, x, rfl⟩ : ∃ q' e, L = q' ++ [e] := by
      have ne : L ≠ [] := fun k => by rw [k] at h; cases h
      exact ⟨L.dropLast, L.getLast ne, (List.dropLast_concat_getLast ne).symm⟩
    have i := ih P (by rw [List.length_append, List.length_singleton] at h; omega)
    have sp := spr_part (w := w) (s := s) (P := P) (a := x.1) (d := x.2) w (q := blk w x) (r := []) (blk_len w x) (List.append_nil _).symm
    rw [spr_app, show sprL w [x] = blk w x from List.append_nil _, sp, i, List.map_append, show ([x] : List (Int × Bool)).map Prod.fst = [x.1] from rfl, mss_snoc, Int.mul_add]
/-! #### programs -/
def tgS (s : Sc) : List (Int × Bool) := (rdS s).map fun a => (a, decide (s.1 ≤ s.2))
def spS (w : Int) (s : Sc) : Sc := if s.1 ≤ s.2 then (w * s.1, w * s.2 + w - 1) else (w * s.1 + w - 1, w * s.2)
def Pg.sp (w : Int) : Pg → Pg
  | .nil => .nil
  | .sc s r => .sc (spS w s) (r.sp w)
  | .rp n b r => .rp n (b.sp w) (r.sp w)
def Pg.tg : Pg → List (Int × Bool)
  | .nil => []
  | .sc s r => tgS s ++ r.tg
  | .rp n b r => (List.replicate n.toNat b.tg).flatten ++ r.tg
theorem tgS_fst (s : Sc) : (tgS s).map Prod.fst = rdS s := by
  unfold tgS
  rw [List.map_map]
  exact List.map_id _
theorem Pg.tg_fst : ∀ g : Pg, g.tg.map Prod.fst = g.rd
  | .nil => rfl
  | .sc s r => by
    show (tgS s ++ r.tg).map Prod.fst = rdS s ++ r.rd
    rw [List.map_append, tgS_fst, Pg.tg_fst r]
  | .rp n b r => by
    show ((List.replicate n.toNat b.tg).flatten ++ r.tg).map Prod.fst = (List.replicate n.toNat b.rd).flatten ++ r.rd
    rw [List.map_append, Pg.tg_fst r, List.map_flatten, List.map_replicate, Pg.tg_fst b]
theorem spr_rep (w : Nat) (L : List (Int × Bool)) : ∀ n : Nat, sprL w (List.replicate n L).flatten = (List.replicate n (sprL w L)).flatten
  | 0 => rfl
  | n + 1 => by
    rw [List.replicate_succ, List.replicate_succ, List.flatten_cons, List.flatten_cons, spr_app, spr_rep w L n]
theorem run_blks (w : Nat) (f : Nat → Int) (g : Nat → Int × Bool) (h : ∀ j i : Nat, i < w → f (w * j + i) = blkF w (g j) i) : ∀ n : Nat, (List.range (w * n)).map f = sprL w ((List.range n).map g)
  | 0 => rfl
  | n + 1 => by
    rw [Nat.mul_succ, List.range_add, List.map_append, run_blks w f g h n, List.range_succ, List.map_append, spr_app]
    congr 1
    rw [List.map_map]
    show _ = blk w (g n) ++ []
    rw [List.append_nil]
    unfold blk
    refine List.map_congr_left fun i hi => ?_
    exact h n i (List.mem_range.mp hi)
theorem rdS_sp {w : Nat} (hw : 0 < w) (s : Sc) : rdS (spS w s) = sprL w (tgS s) := by
  unfold spS tgS
  by_cases c : s.1 ≤ s.2
  · rw [if_pos c, decide_eq_true c]
    unfold rdS
    have m := Int.mul_le_mul_of_nonneg_left c (show (0 : Int) ≤ w by omega)
    have e1 : slen ((w : Int) * s.1, (w : Int) * s.2 + w - 1) = (w : Int) * slen s := by
      unfold slen
      rw [if_neg (by show ¬ ((w : Int) * s.2 + w - 1 - (w : Int) * s.1 < 0); omega), if_neg (by omega), Int.mul_add, Int.mul_sub]
      show (w : Int) * s.2 + w - 1 - (w : Int) * s.1 + 1 = _
      omega
    rw [e1, Int.toNat_mul (by omega) (by have := slen_pos s; omega), Int.toNat_natCast, List.map_map]
    refine run_blks w _ _ (fun j i hi => ?_) _
    show (if (w : Int) * s.1 ≤ (w : Int) * s.2 + w - 1 then (w : Int) * s.1 + ((w * j + i : Nat) : Int) else _) = (w : Int) * (adr s j) + if true = true then (i : Int) else _
    rw [if_pos (by omega), if_pos rfl]
    unfold adr
    rw [if_pos c, Int.mul_add, Int.natCast_add, Int.natCast_mul]
    omega
  · rw [if_neg c, decide_eq_false c]
    unfold rdS
    have m := Int.mul_le_mul_of_nonneg_left (show s.2 + 1 ≤ s.1 by omega) (show (0 : Int) ≤ w by omega)
    rw [Int.mul_add, Int.mul_one] at m
    have e1 : slen ((w : Int) * s.1 + w - 1, (w : Int) * s.2) = (w : Int) * slen s := by
      unfold slen
      rw [if_pos (by show ((w : Int) * s.2 - ((w : Int) * s.1 + w - 1) < 0); omega), if_pos (by omega), Int.mul_add, Int.mul_neg, Int.mul_sub]
      show -((w : Int) * s.2 - ((w : Int) * s.1 + w - 1)) + 1 = _
      omega
    rw [e1, Int.toNat_mul (by omega) (by have := slen_pos s; omega), Int.toNat_natCast, List.map_map]
    refine run_blks w _ _ (fun j i hi => ?_) _
    show (if (w : Int) * s.1 + w - 1 ≤ (w : Int) * s.2 then _ else (w : Int) * s.1 + w - 1 - ((w * j + i : Nat) : Int)) = (w : Int) * (adr s j) + if false = true then (i : Int) else (w : Int) - 1 - (i : Int)
    rw [if_neg (by omega), if_neg (by decide)]
    unfold adr
    rw [if_neg c, Int.mul_sub, Int.natCast_add, Int.natCast_mul]
    omega
theorem Pg.sp_rd {w : Nat} (hw : 0 < w) : ∀ g : Pg, (g.sp w).rd = sprL w g.tg
  | .nil => rfl
  | .sc s r => by
    show rdS (spS w s) ++ (r.sp w).rd = sprL w (tgS s ++ r.tg)
    rw [spr_app, rdS_sp hw, Pg.sp_rd hw r]
  | .rp n b r => by
    show (List.replicate n.toNat (b.sp w).rd).flatten ++ (r.sp w).rd = sprL w ((List.replicate n.toNat b.tg).flatten ++ r.tg)
    rw [spr_app, spr_rep, Pg.sp_rd hw b, Pg.sp_rd hw r]
theorem Pg.sp_mss {w : Nat} (hw : 0 < w) (g : Pg) (s : Nat) : mss (g.sp w).rd ((w * s : Nat) : Int) = (w : Int) * mss g.rd (s : Int) := by
  rw [Pg.sp_rd hw, mss_spr, Pg.tg_fst]
end Kb
namespace Kb
open PySem PySem.Spec PyProof.Rows L2 StX TL
abbrev s_law_spread : Stmt := topS 91
theorem sc_law_spread : FnScope ["nodes", "width", "found", "node"] ["nodes", "width"] (defScope s_law_spread) := ⟨rfl, rfl, rfl, by decide +kernel, rfl, by decide +kernel, by decide +kernel⟩
def spNSpread (d : Nat) : Sp := fun vs H Q _ => ∃ (a : Addr) (g : Pg) (w B : Int), vs = [.ref a, .int w] ∧ IsQ Any H a g ∧ g.dep < d ∧ g.Ok B ∧ B ≤ 10 ^ 30 ∧ g.toks.length ≤ 2 ^ 18 ∧ 0 ≤ w ∧ (∀ s ∈ g.scs, s.1 < 2 ^ 64 ∧ s.2 < 2 ^ 64) ∧ ∀ p H', H p = none → Ex H H' → IsQ (fun l => H l = none) H' p (g.sp w) → Q (.ref p) H'
theorem sp_app (w : Int) : ∀ a b : Pg, (a.app b).sp w = (a.sp w).app (b.sp w)
  | .nil, b => rfl
  | .sc s r, b => by
    show Pg.sc _ ((r.app b).sp w) = Pg.sc _ ((r.sp w).app (b.sp w))
    rw [sp_app w r b]
  | .rp n x r, b => by
    show Pg.rp _ _ ((r.app b).sp w) = Pg.rp _ _ ((r.sp w).app (b.sp w))
    rw [sp_app w r b]
theorem sp_len (w : Int) : ∀ a : Pg, (a.sp w).len = a.len
  | .nil => rfl
  | .sc s r => congrArg (· + 1) (sp_len w r)
  | .rp n x r => congrArg (· + 1) (sp_len w r)
theorem len_toks : ∀ a : Pg, a.len ≤ a.toks.length
  | .nil => Nat.le_refl _
  | .sc s r => Nat.succ_le_succ (len_toks r)
  | .rp n x r => by
    show r.len + 1 ≤ (Tk.op :: (x.toks ++ Tk.cl n :: r.toks)).length
    have := len_toks r
    rw [List.length_cons, List.length_append, List.length_cons]
    omega
section
variable {P : Program} {w : World} {K : PySem.W.Frag} {mg : Str → Option Value} {base : Heap}
theorem ok_nspread {f : Addr} {fd : FuncData} (F : Fun K "_law_spread" "_law_spread" s_law_spread f fd)
    (mk : ∀ {k : Nat} {sp : Sp}, FnOk P w K mg base CX0 k f fd ["nodes", "width"] sp → Df P w K mg base "_law_spread" k ["nodes", "width"] sp) : ∀ d : Nat, FnOk P w K mg base CX0 (d + 1) f fd ["nodes", "width"] (spNSpread d)
  | 0 => ⟨fun vs H Q E h => by obtain ⟨a, g, w, Bd, rfl, _⟩ := h; rfl, fun A outer s H args us vs Q E _ _ _ _ h => by obtain ⟨a, g, w, Bd, rfl, _, h0, _⟩ := h; omega⟩
  | d + 1 => by
    have D_law_spread := mk (ok_nspread F mk d)
    refine F.ok sc_law_spread (fun vs H Q E h => ?_) (fun cdv A outer s H vs Q E hr h => ?_)
    · obtain ⟨a, g, w, Bd, rfl, _⟩ := h
      rfl
    · obtain ⟨a, g, m, Bd, rfl, ⟨ws, ha, hg⟩, hd, hok, hB, hc, hw0, hlt, q⟩ := h
      refine ⟨_, (pss_cons (ps_set (i := 2) sc_law_spread.nd rfl (by first | exact Or.inl rfl | exact Or.inr rfl) (pe_lst pa_nil))
      (pss_cons (ps_for PassesOwn.never rfl (pi_list (pv 0)) (pg_name (i := 3) sc_law_spread.nd rfl (by first | exact Or.inl rfl | exact Or.inr rfl)) (pss_one (ps_if (pt_cmpR op_eq (pe_ix ix_tup (pv 3) pe_int (fun _ _ => rfl)) pe_str (nomark _)) (pss_one (ps_expr (pe_bm PySem.F.plainAttrs_list PySem.F.slot_list_append PySem.F.type_list_append mt_append (pv 2) (pa_cons (pe_tup (pa_cons pe_str (pa_cons (pe_df D_law_spread hr (pa_cons (pe_ix ix_tup (pv 3) pe_int (fun _ _ => rfl)) (pa_cons (pv 1) pa_nil)) (hk := by omega)) (pa_cons (pe_ix ix_tup (pv 3) pe_int (fun _ _ => rfl)) pa_nil)))) pa_nil)))) (pss_one (ps_if (pt_cmpR op_le (pe_ix ix_tup (pv 3) pe_int (fun _ _ => rfl)) (pe_ix ix_tup (pv 3) pe_int (fun _ _ => rfl)) (nomark _)) (pss_one (ps_expr (pe_bm PySem.F.plainAttrs_list PySem.F.slot_list_append PySem.F.type_list_append mt_append (pv 2) (pa_cons (pe_tup (pa_cons pe_str (pa_cons (pe_op op_mul (pv 1) (pe_ix ix_tup (pv 3) pe_int (fun _ _ => rfl))) (pa_cons (pe_op op_sub (pe_op op_add (pe_op op_mul (pv 1) (pe_ix ix_tup (pv 3) pe_int (fun _ _ => rfl))) (pv 1)) pe_int) pa_nil)))) pa_nil)))) (pss_one (ps_expr (pe_bm PySem.F.plainAttrs_list PySem.F.slot_list_append PySem.F.type_list_append mt_append (pv 2) (pa_cons (pe_tup (pa_cons pe_str (pa_cons (pe_op op_sub (pe_op op_add (pe_op op_mul (pv 1) (pe_ix ix_tup (pv 3) pe_int (fun _ _ => rfl))) (pv 1)) pe_int) (pa_cons (pe_op op_mul (pv 1) (pe_ix ix_tup (pv 3) pe_int (fun _ _ => rfl))) pa_nil)))) pa_nil)))))))))
      (pss_one (ps_ret (pv 2))))), ?_⟩
      refine ⟨Nat.zero_le _, fun p np => ?_⟩
      have e0 := Ex.new (o := .lst ([] : List V)) np
      refine ⟨.ref a, rfl, a, rfl, ⟨_, SqL.of (e0 _ _ ha)⟩, for_list (xs := ws) (fun i σ H1 => ∃ y x c q1 vs', σ = [some (.ref a), some (.int m), some (.ref q1), y] ∧ Ex H H1 ∧ H q1 = none ∧ g = Pg.app x c ∧ x.len = i ∧ H1 q1 = some (.lst vs') ∧ ItsQ (fun l => H l = none ∧ l ≠ q1) H1 (x.sp m) vs') ⟨none, .nil, g, p, [], rfl, e0, np, rfl, rfl, upd_same, rfl⟩ (fun i σ H1 _ z => ?_) (fun i v σ H1 hx z => ?_) (fun σ H1 z => ?_)⟩
      · obtain ⟨_, _, _, _, _, _, e1, _⟩ := z
        exact SqL.of (e1 _ _ ha)
      · obtain ⟨y, x, c, q1, vs', rfl, e1, nq1, eg, rfl, hp, it⟩ := z
        subst eg
        have lv := it.len
        rw [sp_len] at lv
        have wx := len_toks x
        rw [toks_app, List.length_append] at hc
        obtain ⟨okx, okc⟩ := app_ok hok
        rcases (hg.ex e1).get hx with ⟨s1, r, t, rfl, rfl, ht⟩ | ⟨n, b, r, t, l, bs, rfl, rfl, ht, _, hl, hb⟩
        · have hc : x.toks.length + (r.toks.length + 1) ≤ 2 ^ 18 := hc
          have hs := hlt s1 (by rw [Pg.scs_app]; exact List.mem_append_right _ List.mem_cons_self)
          obtain ⟨⟨s10, s11, s20, s21⟩, _⟩ := okc
          refine ⟨_, rfl, t, _, 0, _, rfl, rfl, SqT.of ht, rfl, rfl, _, rfl, ?_⟩
          rw [decide_eq_false (show ¬ V.str scanW = V.str (Str.ofString "again") from by decide +kernel)]
          refine iteF ⟨_, rfl, t, _, 1, _, rfl, rfl, SqT.of ht, rfl, _, rfl, t, _, 2, _, rfl, rfl, SqT.of ht, rfl, s1.1, s1.2, rfl, rfl, _, rfl, ?_⟩
          have fin : ∀ (t2 : Addr) (H2 : Hp), Ex H1 H2 → H1 t2 = none → H2 t2 = some (.tup [.str scanW, .int (spS m s1).1, .int (spS m s1).2]) → ItsQ (fun l => H l = none ∧ l ≠ q1) (upd H2 q1 (.lst (vs' ++ [.ref t2]))) ((x.app (.sc s1 .nil)).sp m) (vs' ++ [.ref t2]) := fun t2 H2 e2 n2 h2 => by
            rw [sp_app]
            refine ItsQ.app ((it.ex e2).mut (e2 _ _ hp) fun l k => k.2) ⟨t2, [], rfl, ?_, rfl⟩
            rw [upd_ne fun e => by rw [e, hp] at n2; cases n2]
            exact h2
          by_cases c : s1.1 ≤ s1.2
          · rw [decide_eq_true c]
            refine iteT ⟨.ref q1, rfl, .inl ⟨rfl, _, .inl (.inl hp)⟩, _, rfl, _, rfl, t, _, 1, _, rfl, rfl, SqT.of ht, rfl, m, s1.1, rfl, rfl, .inr ⟨by omega, by omega⟩, _, rfl, _, rfl, t, _, 2, _, rfl, rfl, SqT.of ht, rfl, m, s1.2, rfl, rfl, .inr ⟨by omega, by omega⟩, _, rfl, _, m, rfl, rfl, _, 1, rfl, rfl, by show 3 ≤ sizeLine; decide, fun t2 nt2 => ⟨q1, vs', .ref t2, rfl, rfl, Ex.new nt2 _ _ hp, small20 (by omega), some (.ref t), x.app (.sc s1 .nil), r, q1, _, rfl, (e1.trans (Ex.new nt2)).mut nq1, nq1, Pg.sc_app _ _ _, by rw [Pg.len_app]; rfl, upd_same, fin t2 _ (Ex.new nt2) nt2 (by rw [upd_same]; unfold spS; rw [if_pos c]; rfl)⟩⟩
          · rw [decide_eq_false c]
            refine iteF ⟨.ref q1, rfl, .inl ⟨rfl, _, .inl (.inl hp)⟩, _, rfl, _, rfl, t, _, 1, _, rfl, rfl, SqT.of ht, rfl, m, s1.1, rfl, rfl, .inr ⟨by omega, by omega⟩, _, rfl, _, m, rfl, rfl, _, 1, rfl, rfl, _, rfl, _, rfl, t, _, 2, _, rfl, rfl, SqT.of ht, rfl, m, s1.2, rfl, rfl, .inr ⟨by omega, by omega⟩, by show 3 ≤ sizeLine; decide, fun t2 nt2 => ⟨q1, vs', .ref t2, rfl, rfl, Ex.new nt2 _ _ hp, small20 (by omega), some (.ref t), x.app (.sc s1 .nil), r, q1, _, rfl, (e1.trans (Ex.new nt2)).mut nq1, nq1, Pg.sc_app _ _ _, by rw [Pg.len_app]; rfl, upd_same, fin t2 _ (Ex.new nt2) nt2 (by rw [upd_same]; unfold spS; rw [if_neg c]; rfl)⟩⟩
        · have hc : x.toks.length + (Tk.op :: (b.toks ++ Tk.cl n :: r.toks)).length ≤ 2 ^ 18 := hc
          rw [List.length_cons, List.length_append, List.length_cons] at hc
          have hd1 := Pg.mid_dep x b r n
          obtain ⟨n2, nB, bn, okb, okr⟩ := okc
          refine ⟨_, rfl, t, _, 0, _, rfl, rfl, SqT.of ht, rfl, rfl, _, rfl, ?_⟩
          rw [decide_eq_true (show V.str againW = V.str (Str.ofString "again") from rfl)]
          refine iteT ⟨.ref q1, rfl, .inl ⟨rfl, _, .inl (.inl hp)⟩, _, rfl, t, _, 1, _, rfl, rfl, SqT.of ht, rfl, _, rfl, l, b, m, Bd, rfl, ⟨bs, hl, hb.nx (Nx.refl _) fun _ _ => trivial⟩, by omega, okb, hB, by omega, hw0, fun s hs => hlt s (by rw [Pg.scs_app]; exact List.mem_append_right _ (List.mem_append_left _ hs)), fun p2 H2 np2 e2 hg2 => ⟨_, rfl, t, _, 2, _, rfl, rfl, SqT.of (e2 _ _ ht), rfl, ?_⟩⟩
          refine ⟨by show 3 ≤ sizeLine; decide, fun t2 nt2 => ?_⟩
          obtain ⟨bs2, hl2, hb2⟩ := hg2
          have e3 : Ex H2 (upd H2 t2 (.tup [.str (Str.ofString "again"), .ref p2, .int n])) := Ex.new nt2
          have e4 := e2.trans e3
          have ne1 : ∀ l, H1 l = none → H l = none ∧ l ≠ q1 := fun l k => ⟨e1.back k, fun e => by rw [e, hp] at k; cases k⟩
          refine ⟨q1, vs', .ref t2, rfl, rfl, e4 _ _ hp, small20 (by omega), some (.ref t), x.app (.rp n b .nil), r, q1, _, rfl, (e1.trans e4).mut nq1, nq1, Pg.rp_app _ _ _ _, by rw [Pg.len_app]; rfl, upd_same, ?_⟩
          rw [sp_app]
          refine ItsQ.app ((it.ex e4).mut (e4 _ _ hp) fun l k => k.2) ⟨t2, p2, bs2, [], rfl, ?_, ne1 p2 np2, ?_, (((hb2.nx (Nx.refl _) ne1).ex e3).mut (e4 _ _ hp) fun l k => k.2), rfl⟩
          · rw [upd_ne (fun e => by rw [e] at nt2; rw [e2 _ _ hp] at nt2; cases nt2)]
            exact upd_same
          · rw [upd_ne (ne1 p2 np2).2]
            exact e3 _ _ hl2
      · obtain ⟨y, x, c, q1, vs', rfl, e1, nq1, rfl, hl, hp, it⟩ := z
        rw [hg.done hl, Pg.app_nil] at q
        exact ⟨_, rfl, q q1 H1 nq1 e1 ⟨vs', hp, it.nx (Nx.refl _) fun l k => k.1⟩⟩
end
end Kb
namespace Kb
open PySem PySem.Spec PyProof.Rows L2 TL
/-! ### caches behind one another: pieces of one row of the latest addresses -/
/-- the hits of caches behind one another, by the misses of one cache -/
def stkF (X ns : List Int) (i : Nat) : Int := mss X (ns.take i).sum - mss X (ns.take (i + 1)).sum
def stk (X ns : List Int) : List Int := (List.range ns.length).map (stkF X ns)
def cutN (szs : List Nat) (l : Nat) : Nat := (szs.take l).sum
def segN (T : List Int) (szs : List Nat) (l : Nat) : List Int := (T.drop (cutN szs l)).take (szs.getD l 0)
def woX (x : Int) (l : List Int) : List Int := l.filter fun z => !decide (z = x)
def intN (szs : List Nat) : List Int := szs.map fun (n : Nat) => (n : Int)
theorem cut_int (szs : List Nat) (l : Nat) : ((intN szs).take l).sum = (cutN szs l : Int) := by
  unfold intN cutN
  rw [← List.map_take]
  generalize szs.take l = t
  induction t with
  | nil => rfl
  | cons a t ih => rw [List.map_cons, List.sum_cons, List.sum_cons, ih, Int.natCast_add]
theorem cut_succ {szs : List Nat} {l s : Nat} (h : szs[l]? = some s) : cutN szs (l + 1) = cutN szs l + s := by
  unfold cutN
  rw [List.take_succ, h, List.sum_append]
  show _ + (s + 0) = _
  omega
theorem seg_at {T : List Int} {szs : List Nat} {l s : Nat} (h : szs[l]? = some s) : segN T szs l = (T.drop (cutN szs l)).take s := by
  unfold segN
  rw [List.getD_eq_getElem?_getD, h]
  rfl
theorem woX_none {x : Int} {l : List Int} (h : x ∉ l) : woX x l = l := List.filter_eq_self.mpr fun z hz => by
  have : ¬ z = x := fun e => h (e ▸ hz)
  simp [this]
theorem woX_len {x : Int} : ∀ {l : List Int}, l.Nodup → (woX x l).length + (if x ∈ l then 1 else 0) = l.length
  | [], _ => rfl
  | y :: l, h => by
    have hh := List.nodup_cons.mp h
    have ih := woX_len (x := x) hh.2
    by_cases c : y = x
    · subst c
      rw [if_neg hh.1] at ih
      rw [if_pos List.mem_cons_self]
      show ((y :: l).filter fun z => !decide (z = y)).length + 1 = l.length + 1
      rw [List.filter_cons, if_neg (by simp)]
      exact congrArg (· + 1) ih
    · show ((y :: l).filter fun z => !decide (z = x)).length + _ = l.length + 1
      rw [List.filter_cons, if_pos (by simp [c]), List.length_cons]
      have e : (if x ∈ y :: l then 1 else 0) = if x ∈ l then 1 else 0 := by
        by_cases k : x ∈ l
        · rw [if_pos k, if_pos (List.mem_cons_of_mem _ k)]
        · rw [if_neg k, if_neg fun m => (List.mem_cons.mp m).elim (fun e => c e.symm) k]
      rw [e]
      have : (woX x l).length = (l.filter fun z => !decide (z = x)).length := rfl
      omega
theorem mem_segN {T : List Int} (nd : T.Nodup) {szs : List Nat} {l s : Nat} (h : szs[l]? = some s) {x : Int} : x ∈ segN T szs l ↔ x ∈ T.take (cutN szs (l + 1)) ∧ x ∉ T.take (cutN szs l) := by
  rw [seg_at h, cut_succ h, List.take_add]
  have nd2 : (T.take (cutN szs l) ++ T.drop (cutN szs l)).Nodup := by rw [List.take_append_drop]; exact nd
  have dj := (List.nodup_append.mp nd2).2.2
  constructor
  · intro m
    exact ⟨List.mem_append_right _ m, fun k => dj _ k _ (List.mem_of_mem_take m) rfl⟩
  · rintro ⟨m, k⟩
    exact (List.mem_append.mp m).resolve_left k
theorem stk_snoc (p : List Int) (x : Int) {szs : List Nat} {l s : Nat} (h : szs[l]? = some s) : stkF (p ++ [x]) (intN szs) l = stkF p (intN szs) l + if x ∈ segN (lstF p) szs l then 1 else 0 := by
  unfold stkF
  rw [cut_int, cut_int, mss_snoc, mss_snoc]
  have m := mem_segN (lstF_nodup p) h (x := x)
  have mono : x ∈ (lstF p).take (cutN szs l) → x ∈ (lstF p).take (cutN szs (l + 1)) := fun k => by
    rw [cut_succ h, List.take_add]
    exact List.mem_append_left _ k
  by_cases c1 : x ∈ (lstF p).take (cutN szs l)
  · rw [if_pos c1, if_pos (mono c1), if_neg fun k => (m.mp k).2 c1]
    omega
  · by_cases c2 : x ∈ (lstF p).take (cutN szs (l + 1))
    · rw [if_neg c1, if_pos c2, if_pos (m.mpr ⟨c2, c1⟩)]
      omega
    · rw [if_neg c1, if_neg c2, if_neg fun k => c2 (m.mp k).1]
      omega
/-- what falls from a cache into the next one -/
theorem fall_step {p : List Int} {x : Int} {szs : List Nat} {l s : Nat} (h : szs[l]? = some s) {fal : List Int} (hf : fal ++ woX x ((lstF p).drop (cutN szs l)) = (lstF (p ++ [x])).drop (cutN szs l)) :
    (fal ++ woX x (segN (lstF p) szs l)).take s = segN (lstF (p ++ [x])) szs l ∧ (fal ++ woX x (segN (lstF p) szs l)).drop s ++ woX x ((lstF p).drop (cutN szs (l + 1))) = (lstF (p ++ [x])).drop (cutN szs (l + 1)) := by
  have nd := lstF_nodup p
  have eT : lstF (p ++ [x]) = x :: woX x (lstF p) := lstF_snoc p x
  rw [seg_at h, seg_at h, cut_succ h]
  generalize lstF (p ++ [x]) = T' at *
  generalize lstF p = T at *
  generalize cutN szs l = a at *
  have ndD : (T.drop a).Nodup := nd.sublist (List.drop_sublist a T)
  have sp : T.drop a = (T.drop a).take s ++ T.drop (a + s) := by
    rw [show T.drop (a + s) = (T.drop a).drop s from (List.drop_drop ..).symm, List.take_append_drop]
  have sw : woX x (T.drop a) = woX x ((T.drop a).take s) ++ woX x (T.drop (a + s)) := by
    conv => lhs; rw [sp]
    exact List.filter_append ..
  have whole : (fal ++ woX x ((T.drop a).take s)) ++ woX x (T.drop (a + s)) = T'.drop a := by
    rw [List.append_assoc, ← sw, hf]
  have ds : T'.drop (a + s) = (T'.drop a).drop s := (List.drop_drop ..).symm
  have cond : woX x (T.drop (a + s)) = [] ∨ s ≤ (fal ++ woX x ((T.drop a).take s)).length := by
    by_cases c : a + s < T.length
    · right
      have l1 : ((T.drop a).take s).length = s := by
        rw [List.length_take, List.length_drop]
        omega
      have l2 := woX_len (x := x) (ndD.sublist (List.take_sublist s _))
      rw [l1] at l2
      rw [List.length_append]
      by_cases m : x ∈ (T.drop a).take s
      · rw [if_pos m] at l2
        have mD : x ∈ T.drop a := List.mem_of_mem_take m
        have mT : x ∈ T := List.mem_of_mem_drop mD
        have l3 := woX_len (x := x) ndD
        rw [if_pos mD, List.length_drop] at l3
        have l4 := woX_len (x := x) nd
        rw [if_pos mT] at l4
        have l5 := congrArg List.length hf
        rw [List.length_append, List.length_drop, eT, List.length_cons] at l5
        omega
      · rw [if_neg m] at l2
        omega
    · left
      rw [List.drop_eq_nil_of_le (by omega)]
      rfl
  rcases cond with c | c
  · rw [c, List.append_nil] at whole
    rw [c, List.append_nil, ds, ← whole]
    exact ⟨rfl, rfl⟩
  · rw [ds, ← whole]
    exact ⟨(List.take_append_of_le_length c).symm, (List.drop_append_of_le_length c).symm⟩
theorem cut_to (vs : List V) (i : Nat) : cutV vs none (some (i : Int)) = vs.take i := by
  by_cases h : i ≤ vs.length
  · exact cut_at vs i h
  · unfold cutV
    rw [HT.sIx_none, HT.sIx_nat, Nat.sub_zero, List.drop_zero, Nat.min_eq_right (by omega), List.take_of_length_le (Nat.le_refl _), List.take_of_length_le (by omega)]
theorem cut_off (vs : List V) (i : Nat) : cutV vs (some (i : Int)) none = vs.drop i := by
  by_cases h : i ≤ vs.length
  · exact cut_from vs i h
  · unfold cutV
    rw [HT.sIx_none, HT.sIx_nat, Nat.min_eq_right (by omega), List.drop_eq_nil_of_le (as := vs) (i := i) (by omega), List.drop_eq_nil_of_le (Nat.le_refl _)]
    exact List.take_nil
end Kb
namespace Kb
open PySem PySem.Spec PyProof.Rows L2 StX TL
abbrev scheck_sizes : Stmt := topS 43
theorem sccheck_sizes : FnScope ["sizes", "size"] ["sizes"] (defScope scheck_sizes) := ⟨rfl, rfl, rfl, by decide +kernel, rfl, by decide +kernel, by decide +kernel⟩
abbrev sstacked_hits : Stmt := topS 80
theorem scstacked_hits : FnScope ["program", "sizes", "profile", "found", "whole", "size"] ["program", "sizes"] (defScope sstacked_hits) := ⟨rfl, rfl, rfl, by decide +kernel, rfl, by decide +kernel, by decide +kernel⟩
def spCkSizes : Sp := fun vs H Q _ => ∃ (a : Addr) (ns : List Int), vs = [.ref a] ∧ H a = some (.lst (ns.map V.int)) ∧ 1 ≤ ns.length ∧ ns.length ≤ 3 ∧ (∀ n ∈ ns, 0 ≤ n) ∧ RetV .non H Q
def spStack (Cp : Addr) : Sp := fun vs H Q _ => ∃ (x : Addr) (g : Pg) (a : Addr) (ns : List Int), vs = [.ref x, .ref a] ∧ PgAt Cp H x g ∧ Lim g ∧ H a = some (.lst (ns.map V.int)) ∧ 1 ≤ ns.length ∧ ns.length ≤ 3 ∧ (∀ n ∈ ns, 0 ≤ n) ∧ ∀ p H', H p = none → Ex H H' → H' p = some (.lst ((stk g.rd ns).map V.int)) → Q (.ref p) H'
theorem take_sum {ns : List Int} {i : Nat} {n : Int} (h : ns[i]? = some n) : (ns.take (i + 1)).sum = (ns.take i).sum + n := by
  rw [List.take_succ, h, List.sum_append]
  show _ + (n + 0) = _
  omega
theorem take_nn {ns : List Int} (h : ∀ n ∈ ns, 0 ≤ n) (i : Nat) : 0 ≤ (ns.take i).sum := by
  have k : ∀ l : List Int, (∀ n ∈ l, 0 ≤ n) → 0 ≤ l.sum := fun l => by
    induction l with
    | nil => intro _; exact Int.le_refl 0
    | cons x l ih =>
      intro h
      rw [List.sum_cons]
      have := h x List.mem_cons_self
      have := ih fun n m => h n (List.mem_cons_of_mem _ m)
      omega
  exact k _ fun n m => h n (List.mem_of_mem_take m)
section
variable {P : Program} {w : World} {K : PySem.W.Frag} {mg : Str → Option Value} {base : Heap}
theorem ok_ckSizes (B : Bt mg) (hMS : ∃ u, mg "MOST_SIZES" = some u ∧ RelV (.int 3) u) (Dis_from_zero : Df P w K mg base "is_from_zero" 2 ["value"] spFromZero) {f : Addr} {fd : FuncData} (F : Fun K "check_sizes" "check_sizes" scheck_sizes f fd) : FnOk P w K mg base CX0 3 f fd ["sizes"] spCkSizes := by
  obtain ⟨uMS, hMOST_SIZES, rMOST_SIZES⟩ := hMS
  refine F.ok sccheck_sizes (fun vs H Q E h => ?_) (fun cdv A outer s H vs Q E hr h => ?_)
  · obtain ⟨a, ns, rfl, _⟩ := h
    rfl
  · obtain ⟨a, ns, rfl, ha, l1, l3, nn, q⟩ := h
    refine ⟨_, (pss_cons (ps_if (pw_or (pt_not (pt_val (pe_callB call_isi (by rfl) B.isinstance bo_isinstance (pa_cons (pv 0) (pa_cons (pe_bltn (v := .ty "list") (by rfl) B.list bo_list rfl) pa_nil))))) (pw_or1 (pt_not (pt_chain op_le op_le pe_int (pe_callB call_len_seq (by rfl) B.len bo_len (pa_cons (pv 0) pa_nil)) (pe_glob (v := .int (3)) (by rfl) hMOST_SIZES rMOST_SIZES))))).pt (pss_one ps_never) pss_nil)
      (pss_one (ps_if (pt_not (pt_val (pe_callB (cr_all rfl) (by rfl) B.all bo_all (pa_cons (pe_lc (own := [("size", 1)]) (g := (gName 1)) (te := (tCall _ [] E0 (tCons (tVar 1) tNil))) rfl sccheck_sizes.nd (pi_list (pv 0)) (blkOk_by (N := ["sizes", "size"]) (sc := defScope scheck_sizes) (by decide +kernel)) (by exact fun _ _ _ _ _ => (pg_name (i := 1) sccheck_sizes.nd rfl (by first | exact Or.inl rfl | exact Or.inr rfl))) (by exact fun _ _ _ _ _ => pts_nil) (by exact fun _ _ _ _ _ => (pe_df Dis_from_zero hr (pa_cons (pv 1) pa_nil)))) pa_nil)))) (pss_one ps_never) pss_nil))), ?_⟩
    have lv : (ns.map V.int).length = ns.length := List.length_map ..
    refine ⟨_, rfl, .ref a, .ty "list", _, _, true, rfl, .ty _, .base (.lst ha), kit_ty (by decide +kernel), true, rfl, iteF ?_⟩
    refine ⟨_, rfl, a, _, rfl, .inl (SqL.of ha), 1, _, rfl, rfl, _, rfl, ?_⟩
    rw [decide_eq_true (show (1 : Int) ≤ (((ns.map V.int).length : Nat) : Int) by omega)]
    refine iteT ⟨_, _, rfl, rfl, _, rfl, ?_⟩
    rw [decide_eq_true (show (((ns.map V.int).length : Nat) : Int) ≤ 3 by omega)]
    refine iteF ?_
    refine ⟨_, rfl, a, rfl, ⟨_, SqL.of ha⟩, fun D hD => lc_list (xs := ns.map V.int) (fun j H2 => Ex H H2 ∧ H2 D = some (.lst ((List.replicate j true).map V.bl))) ⟨Ex.new hD, upd_same⟩ (fun j H2 _ z => SqL.of (z.1 _ _ ha)) (fun j v H2 hx z => ?_) (fun H2 z => ?_)⟩
    · obtain ⟨e2, hL⟩ := z
      rw [List.getElem?_map] at hx
      obtain ⟨n, gs, rfl⟩ := Option.map_eq_some_iff.mp hx
      have lj : j < ns.length := (List.getElem?_eq_some_iff.mp gs).1
      refine ⟨rfl, _, rfl, n, rfl, nn n (List.mem_of_getElem? gs), fun H3 e3 => ⟨_, e3 _ _ hL, small20 (by rw [List.length_map, List.length_replicate]; omega), (e2.trans e3).mut hD, ?_⟩⟩
      rw [upd_same, List.replicate_succ', List.map_append]
      rfl
    · obtain ⟨e2, hL⟩ := z
      refine ⟨D, List.replicate (ns.map V.int).length true, rfl, SqL.of hL, _, rfl, ?_⟩
      rw [show (List.replicate (ns.map V.int).length true).all id = true by simp]
      exact iteF (q.go e2)
theorem ok_stack {C_pg C_pf : Addr} (Dcheck_program : Df P w K mg base "check_program" 1 ["program"] (spCheckProf C_pg)) (Dcheck_sizes : Df P w K mg base "check_sizes" 3 ["sizes"] spCkSizes) (Dprofile_of : Df P w K mg base "profile_of" 20 ["program"] (spProfX C_pg C_pf)) (Dcall_pf : DCl P w K mg base C_pf 4 ["self", "size"] (spCallP C_pf)) {f : Addr} {fd : FuncData} (F : Fun K "stacked_hits" "stacked_hits" sstacked_hits f fd) : FnOk P w K mg base CX0 21 f fd ["program", "sizes"] (spStack C_pg) := by
  refine F.ok scstacked_hits (fun vs H Q E h => ?_) (fun cdv A outer s H vs Q E hr h => ?_)
  · obtain ⟨x, g, a, ns, rfl, _⟩ := h
    rfl
  · obtain ⟨x, g, a, ns, rfl, Px, lg, ha, l1, l3, nn, q⟩ := h
    refine ⟨_, (pss_cons (ps_expr (pe_df Dcheck_program hr (pa_cons (pv 0) pa_nil)))
      (pss_cons (ps_expr (pe_df Dcheck_sizes hr (pa_cons (pv 1) pa_nil)))
      (pss_cons (ps_set (i := 2) scstacked_hits.nd rfl (by first | exact Or.inl rfl | exact Or.inr rfl) (pe_df Dprofile_of hr (pa_cons (pv 0) pa_nil)))
      (pss_cons (ps_set (i := 3) scstacked_hits.nd rfl (by first | exact Or.inl rfl | exact Or.inr rfl) (pe_lst pa_nil))
      (pss_cons (ps_set (i := 4) scstacked_hits.nd rfl (by first | exact Or.inl rfl | exact Or.inr rfl) pe_int)
      (pss_cons (ps_for PassesOwn.never rfl (pi_list (pv 1)) (pg_name (i := 5) scstacked_hits.nd rfl (by first | exact Or.inl rfl | exact Or.inr rfl)) (pss_cons (ps_expr (pe_bm PySem.F.plainAttrs_list PySem.F.slot_list_append PySem.F.type_list_append mt_append (pv 3) (pa_cons (pe_op op_sub (pe_cl Dcall_pf hr (pv 2) (pa_cons (pv 4) pa_nil)) (pe_cl Dcall_pf hr (pv 2) (pa_cons (pe_op op_add (pv 4) (pv 5)) pa_nil))) pa_nil)))
      (pss_one (ps_set (i := 4) scstacked_hits.nd rfl (by first | exact Or.inl rfl | exact Or.inr rfl) (pe_op op_add (pv 4) (pv 5))))))
      (pss_one (ps_ret (pv 3))))))))), ?_⟩
    obtain ⟨d0, t0, hx0, _⟩ := id Px
    refine ⟨.ref x, rfl, x, d0, _, rfl, hx0, fun H1 e1 => ?_⟩
    refine ⟨.ref a, rfl, a, ns, rfl, e1 _ _ ha, l1, l3, nn, fun H2 e2 => ?_⟩
    have e12 := e1.trans e2
    refine ⟨.ref x, rfl, x, g, rfl, Px.mono e12, lg, fun pr H3 rs e3 Fp _ bm => ?_⟩
    have e123 := e12.trans e3
    refine ⟨Nat.zero_le _, fun p np => ?_⟩
    have eN := Ex.new (o := .lst ([] : List V)) np
    refine ⟨.ref a, rfl, a, rfl, ⟨_, SqL.of (eN _ _ (e123 _ _ ha))⟩, ?_⟩
    refine for_list (xs := ns.map V.int) (fun i σ H4 => ∃ y, σ = [some (.ref x), some (.ref a), some (.ref pr), some (.ref p), some (.int (ns.take i).sum), y] ∧ Ex H3 H4 ∧ H4 p = some (.lst (((List.range i).map (stkF g.rd ns)).map V.int))) ⟨none, rfl, eN, upd_same⟩ (fun i σ H4 _ z => ?_) (fun i v σ H4 hx z => ?_) (fun σ H4 z => ?_)
    · obtain ⟨y, _, e4, _⟩ := z
      exact SqL.of (e4 _ _ (e123 _ _ ha))
    · obtain ⟨y, rfl, e4, hp⟩ := z
      rw [List.getElem?_map] at hx
      obtain ⟨n, gs, rfl⟩ := Option.map_eq_some_iff.mp hx
      have li : i < ns.length := (List.getElem?_eq_some_iff.mp gs).1
      have n0 := nn n (List.mem_of_getElem? gs)
      have s0 := take_nn nn i
      have Fp4 := Fp.mono e4
      obtain ⟨d4, l4, h4, _⟩ := id Fp4.at_
      refine ⟨.ref p, rfl, .inl ⟨rfl, _, .inl (.inl hp)⟩, .ref pr, rfl, pr, rfl, .int _, rfl, .inr ⟨d4, _, h4⟩, pr, _, rs, _, rfl, Fp4, s0, fun H5 e5 => ?_⟩
      have Fp5 := Fp4.mono e5
      obtain ⟨d5, l5, h5, _⟩ := id Fp5.at_
      refine ⟨.ref pr, rfl, pr, rfl, _, rfl, _, rfl, _, n, rfl, rfl, .inr ⟨d5, _, h5⟩, pr, _, rs, _, rfl, Fp5, by omega, fun H6 e6 => ?_⟩
      have e56 := e5.trans e6
      refine ⟨_, _, rfl, rfl, p, _, _, rfl, rfl, e56 _ _ hp, small20 (by rw [List.length_map, List.length_map, List.length_range]; omega), _, rfl, _, rfl, _, n, rfl, rfl, some (.int n), by rw [take_sum gs]; rfl, (e4.trans e56).mut np, ?_⟩
      rw [upd_same, List.range_succ, List.map_append, List.map_append, bm, bm]
      show _ = some (HO.lst (_ ++ [V.int (mss g.rd (ns.take i).sum - mss g.rd (ns.take (i + 1)).sum)]))
      rw [take_sum gs]
    · obtain ⟨y, rfl, e4, hp⟩ := z
      rw [List.length_map] at hp
      exact ⟨_, rfl, q p H4 (e123.back np) (e123.trans e4) hp⟩
end
end Kb
namespace Kb
open PySem PySem.Spec PyProof.Rows L2 StX TL
abbrev s_law_hits : Stmt := topS 92
theorem sc_law_hits : FnScope ["reads", "sizes_here", "size_here", "caches", "found", "address_here", "level", "falling", "row"] ["reads", "sizes_here"] (defScope s_law_hits) := ⟨rfl, rfl, rfl, by decide +kernel, rfl, by decide +kernel, by decide +kernel⟩
def spLHits : Sp := fun vs H Q _ => ∃ (a b : Addr) (X : List Int) (szs : List Nat), vs = [.ref a, .ref b] ∧ H a = some (.lst (X.map V.int)) ∧ X.length ≤ 2 ^ 18 ∧ H b = some (.lst ((intN szs).map V.int)) ∧ szs.length ≤ 3 ∧ ∀ p H', H p = none → Ex H H' → H' p = some (.lst ((stk X (intN szs)).map V.int)) → Q (.ref p) H'
/-- lists that are caches -/
def Csh (Hb H : Hp) (q r : Addr) (n : Nat) (L : Nat → List Int) (cs : List Addr) : Prop := H q = some (.lst (cs.map V.ref)) ∧ cs.length = n ∧ cs.Nodup ∧ ∀ i c, cs[i]? = some c → c ≠ q ∧ c ≠ r ∧ Hb c = none ∧ H c = some (.lst ((L i).map V.int))
structure Wk (Hb H : Hp) (q r : Addr) (n : Nat) (L : Nat → List Int) (G : Nat → Int) : Prop where
  ex : Ex Hb H
  nq : Hb q = none
  nr : Hb r = none
  ne : r ≠ q
  cs : ∃ cs, Csh Hb H q r n L cs
  fo : H r = some (.lst (((List.range n).map G).map V.int))
theorem Wk.mono {Hb H H' : Hp} {q r : Addr} {n : Nat} {L : Nat → List Int} {G : Nat → Int} (h : Wk Hb H q r n L G) (e : Ex H H') : Wk Hb H' q r n L G := by
  obtain ⟨cs, h1, h2, h3, h4⟩ := h.cs
  exact ⟨h.ex.trans e, h.nq, h.nr, h.ne, ⟨cs, e _ _ h1, h2, h3, fun i c hc => ⟨(h4 i c hc).1, (h4 i c hc).2.1, (h4 i c hc).2.2.1, e _ _ (h4 i c hc).2.2.2⟩⟩, e _ _ h.fo⟩
theorem Wk.congr {Hb H : Hp} {q r : Addr} {n : Nat} {L L' : Nat → List Int} {G G' : Nat → Int} (h : Wk Hb H q r n L G) (eL : ∀ i, i < n → L i = L' i) (eG : ∀ i, i < n → G i = G' i) : Wk Hb H q r n L' G' := by
  obtain ⟨cs, h1, h2, h3, h4⟩ := h.cs
  refine ⟨h.ex, h.nq, h.nr, h.ne, ⟨cs, h1, h2, h3, fun i c hc => ⟨(h4 i c hc).1, (h4 i c hc).2.1, (h4 i c hc).2.2.1, ?_⟩⟩, ?_⟩
  · rw [(h4 i c hc).2.2.2, eL i (by rw [← h2]; exact (List.getElem?_eq_some_iff.mp hc).1)]
  · rw [h.fo, List.map_congr_left fun i hi => eG i (List.mem_range.mp hi)]
theorem nil_at {i : Nat} {c : Addr} (h : ([] : List Addr)[i]? = some c) : False := by
  rw [List.getElem?_nil] at h
  cases h
theorem set_range {n : Nat} (G : Nat → Int) (j : Nat) (v : Int) : ((List.range n).map G).set j v = (List.range n).map fun i => if i = j then v else G i := by
  refine List.ext_getElem? fun i => ?_
  rw [List.getElem?_set, List.getElem?_map, List.getElem?_map, List.length_map, List.length_range]
  by_cases c : i < n
  · rw [List.getElem?_range c]
    by_cases d : j = i
    · subst d
      rw [if_pos rfl, if_pos c]
      show some v = some (if j = j then v else G j)
      rw [if_pos rfl]
    · rw [if_neg d]
      show some (G i) = some (if i = j then v else G i)
      rw [if_neg fun e => d e.symm]
  · rw [List.getElem?_eq_none (l := List.range n) (by rw [List.length_range]; omega)]
    by_cases d : j = i
    · rw [if_pos d, if_neg (by omega)]
      rfl
    · rw [if_neg d]
      rfl
theorem Wk.setF {Hb H : Hp} {q r : Addr} {n : Nat} {L : Nat → List Int} {G : Nat → Int} (h : Wk Hb H q r n L G) (j : Nat) (v : Int) : Wk Hb (upd H r (.lst ((((List.range n).map G).map V.int).set j (.int v)))) q r n L (fun i => if i = j then v else G i) := by
  obtain ⟨cs, h1, h2, h3, h4⟩ := h.cs
  refine ⟨h.ex.mut h.nr, h.nq, h.nr, h.ne, ⟨cs, ?_, h2, h3, fun i c hc => ⟨(h4 i c hc).1, (h4 i c hc).2.1, (h4 i c hc).2.2.1, ?_⟩⟩, ?_⟩
  · rw [upd_ne h.ne.symm]
    exact h1
  · rw [upd_ne (h4 i c hc).2.1]
    exact (h4 i c hc).2.2.2
  · rw [upd_same, ← List.map_set, set_range]
theorem Wk.rem {Hb H : Hp} {q r : Addr} {n : Nat} {L : Nat → List Int} {G : Nat → Int} (h : Wk Hb H q r n L G) {cs : List Addr} (hcs : Csh Hb H q r n L cs) {j : Nat} {c : Addr} (hj : cs[j]? = some c) (l : List Int) : Wk Hb (upd H c (.lst (l.map V.int))) q r n (fun i => if i = j then l else L i) G := by
  obtain ⟨h1, h2, h3, h4⟩ := hcs
  obtain ⟨cq, cr, cn, cl⟩ := h4 j c hj
  refine ⟨h.ex.mut cn, h.nq, h.nr, h.ne, ⟨cs, ?_, h2, h3, fun i d hd => ⟨(h4 i d hd).1, (h4 i d hd).2.1, (h4 i d hd).2.2.1, ?_⟩⟩, ?_⟩
  · rw [upd_ne cq.symm]
    exact h1
  · show _ = some (HO.lst (List.map V.int (if i = j then l else L i)))
    by_cases e : i = j
    · subst e
      rw [hj] at hd
      cases hd
      rw [upd_same, if_pos rfl]
    · have ne : d ≠ c := fun k => e ((List.getElem?_inj (List.getElem?_eq_some_iff.mp hd).1 h3).mp (by rw [hd, hj, k]))
      rw [upd_ne ne, if_neg e]
      exact (h4 i d hd).2.2.2
  · rw [upd_ne cr.symm]
    exact h.fo
theorem Wk.put {Hb H : Hp} {q r : Addr} {n : Nat} {L : Nat → List Int} {G : Nat → Int} (h : Wk Hb H q r n L G) {cs : List Addr} (hcs : Csh Hb H q r n L cs) (j : Nat) {c : Addr} (nc : H c = none) (l : List Int) : Wk Hb (upd (upd H c (.lst (l.map V.int))) q (.lst ((cs.map V.ref).set j (.ref c)))) q r n (fun i => if i = j then l else L i) G := by
  obtain ⟨h1, h2, h3, h4⟩ := hcs
  have cq : c ≠ q := fun e => by rw [e, h1] at nc; cases nc
  have cr : c ≠ r := fun e => by rw [e, h.fo] at nc; cases nc
  have cm : c ∉ cs := fun m => by
    obtain ⟨i, hi⟩ := List.getElem?_of_mem m
    rw [(h4 i c hi).2.2.2] at nc
    cases nc
  refine ⟨(h.ex.trans (Ex.new nc)).mut h.nq, h.nq, h.nr, h.ne, ⟨cs.set j c, ?_, by rw [List.length_set, h2], ?_, fun i d hd => ?_⟩, ?_⟩
  · rw [upd_same, List.map_set]
  · refine List.pairwise_iff_getElem.mpr fun i k hi hk ik => ?_
    rw [List.getElem_set, List.getElem_set]
    rw [List.length_set] at hi hk
    by_cases c1 : j = i
    · rw [if_pos c1, if_neg (by omega)]
      exact fun e => cm (e ▸ List.getElem_mem hk)
    · rw [if_neg c1]
      by_cases c2 : j = k
      · rw [if_pos c2]
        exact fun e => cm (e ▸ List.getElem_mem hi)
      · rw [if_neg c2]
        exact (List.pairwise_iff_getElem.mp h3) i k hi hk ik
  · rw [List.getElem?_set] at hd
    by_cases e : j = i
    · subst e
      rw [if_pos rfl] at hd
      split at hd
      · cases hd
        refine ⟨cq, cr, h.ex.back nc, ?_⟩
        show _ = some (HO.lst (List.map V.int (if j = j then l else L j)))
        rw [upd_ne cq, upd_same, if_pos rfl]
      · cases hd
    · rw [if_neg e] at hd
      obtain ⟨dq, dr, dn, dl⟩ := h4 i d hd
      refine ⟨dq, dr, dn, ?_⟩
      show _ = some (HO.lst (List.map V.int (if i = j then l else L i)))
      rw [upd_ne dq, upd_ne (fun k => by rw [k, nc] at dl; cases dl), if_neg fun k => e k.symm]
      exact dl
  · rw [upd_ne h.ne, upd_ne cr.symm]
    exact h.fo
section
variable {P : Program} {w : World} {K : PySem.W.Frag} {mg : Str → Option Value} {base : Heap}
theorem ok_lhits (B : Bt2 mg) {f : Addr} {fd : FuncData} (F : Fun K "_law_hits" "_law_hits" s_law_hits f fd) : FnOk P w K mg base CX0 1 f fd ["reads", "sizes_here"] spLHits := by
  refine F.ok sc_law_hits (fun vs H Q E h => ?_) (fun cdv A outer s H vs Q E hr h => ?_)
  · obtain ⟨a, b, X, szs, rfl, _⟩ := h
    rfl
  · obtain ⟨a, b, X, szs, rfl, ha, lX, hb, l3, q⟩ := h
    refine ⟨_, (pss_cons (ps_par (i := 3) (j := 4) rfl sc_law_hits.nd rfl rfl (by decide) rfl rfl (pa_cons (pe_lc (own := [("size_here", 2)]) (g := (gName 2)) (te := (tLst tNil)) rfl sc_law_hits.nd (pi_list (pv 1)) (blkOk_by (N := ["reads", "sizes_here", "size_here", "caches", "found", "address_here", "level", "falling", "row"]) (sc := defScope s_law_hits) (by decide +kernel)) (by exact fun _ _ _ _ _ => (pg_name (i := 2) sc_law_hits.nd rfl (by first | exact Or.inl rfl | exact Or.inr rfl))) (by exact fun _ _ _ _ _ => pts_nil) (by exact fun _ _ _ _ _ => (pe_lst pa_nil))) (pa_cons (pe_op op_rep (pe_lst (pa_cons pe_int pa_nil)) (pe_callB call_len_seq (by rfl) B.len bo_len (pa_cons (pv 1) pa_nil))) pa_nil)) (by rfl))
      (pss_cons (ps_for PassesOwn.never rfl (pi_list (pv 0)) (pg_name (i := 5) sc_law_hits.nd rfl (by first | exact Or.inl rfl | exact Or.inr rfl)) (pss_cons (ps_for PassesOwn.never rfl (pi_range1 (by rfl) B.range (pa_cons (pe_callB call_len_seq (by rfl) B.len bo_len (pa_cons (pv 3) pa_nil)) pa_nil)) (pg_name (i := 6) sc_law_hits.nd rfl (by first | exact Or.inl rfl | exact Or.inr rfl)) (pss_one (ps_if (pt_cmpR op_in_seq (pv 5) (pe_ix ix_list (pv 3) (pv 6) (fun _ _ => rfl)) (by with_unfolding_all rfl)) (pss_cons (ps_asg (pe_op op_add (pe_ix ix_list (pv 4) (pv 6) (fun _ _ => rfl)) pe_int) (pg_sub (pv 4) (pv 6) set_list))
      (pss_one (ps_expr (pe_bm PySem.F.plainAttrs_list PySem.F.slot_list_remove PySem.F.type_list_remove mt_remove (pe_ix ix_list (pv 3) (pv 6) (fun _ _ => rfl)) (pa_cons (pv 5) pa_nil))))) pss_nil)))
      (pss_cons (ps_set (i := 7) sc_law_hits.nd rfl (by first | exact Or.inl rfl | exact Or.inr rfl) (pe_lst (pa_cons (pv 5) pa_nil)))
      (pss_one (ps_for PassesOwn.never rfl (pi_enum (by rfl) B.enumerate (pa_cons (pv 1) pa_nil)) (pg_tup rfl (pgs_cons (pg_name (i := 6) sc_law_hits.nd rfl (by first | exact Or.inl rfl | exact Or.inr rfl)) (pgs_cons (pg_name (i := 2) sc_law_hits.nd rfl (by first | exact Or.inl rfl | exact Or.inr rfl)) pgs_nil))) (pss_cons (ps_set (i := 8) sc_law_hits.nd rfl (by first | exact Or.inl rfl | exact Or.inr rfl) (pe_op op_cat (pv 7) (pe_ix ix_list (pv 3) (pv 6) (fun _ _ => rfl))))
      (pss_cons (ps_set (i := 7) sc_law_hits.nd rfl (by first | exact Or.inl rfl | exact Or.inr rfl) (pe_slice sl_list (pv 8) (po_some (pv 2)) po_none))
      (pss_one (ps_asg (pe_slice sl_list (pv 8) po_none (po_some (pv 2))) (pg_sub (pv 3) (pv 6) set_list))))))))))
      (pss_one (ps_ret (pv 4))))), ?_⟩
    have lI : (intN szs).length = szs.length := List.length_map ..
    refine ⟨.ref b, rfl, b, rfl, ⟨_, SqL.of hb⟩, fun D hD => lc_list (xs := (intN szs).map V.int) (fun i H1 => Ex H H1 ∧ ∃ cs : List Addr, H1 D = some (.lst (cs.map V.ref)) ∧ cs.length = i ∧ cs.Nodup ∧ ∀ i c, cs[i]? = some c → c ≠ D ∧ H c = none ∧ H1 c = some (.lst [])) ⟨Ex.new hD, [], upd_same, rfl, List.nodup_nil, fun i c hc => (nil_at hc).elim⟩ (fun i H1 _ z => SqL.of (z.1 _ _ hb)) (fun i v H1 hx z => ?_) (fun H1 z => ?_)⟩
    · obtain ⟨e1, cs, h1, h2, h3, h4⟩ := z
      refine ⟨rfl, Nat.zero_le _, fun c nc => ⟨cs.map V.ref, (Ex.new nc) _ _ h1, small20 (by rw [List.length_map]; have := (List.getElem?_eq_some_iff.mp hx).1; rw [List.length_map] at this; omega), (e1.trans (Ex.new nc)).mut hD, cs ++ [c], ?_, by rw [List.length_append, h2]; rfl, ?_, fun k d hd => ?_⟩⟩
      · rw [upd_same, List.map_append]
        rfl
      · refine List.nodup_append.mpr ⟨h3, List.nodup_cons.mpr ⟨List.not_mem_nil, List.nodup_nil⟩, fun x hx y hy e => ?_⟩
        obtain ⟨k, hk⟩ := List.getElem?_of_mem hx
        have := (h4 k x hk).2.2
        rw [e, List.mem_singleton.mp hy, nc] at this
        cases this
      · have cD : c ≠ D := fun e => by rw [e, h1] at nc; cases nc
        by_cases lt : k < cs.length
        · rw [List.getElem?_append_left lt] at hd
          obtain ⟨a1, a2, a3⟩ := h4 k d hd
          exact ⟨a1, a2, by rw [upd_ne a1]; exact (Ex.new nc) _ _ a3⟩
        · rw [List.getElem?_append_right (by omega)] at hd
          have : d = c := by
            cases z : k - cs.length with
            | zero => rw [z] at hd; cases hd; rfl
            | succ m => rw [z] at hd; cases hd
          subst this
          exact ⟨cD, e1.back nc, by rw [upd_ne cD, upd_same]⟩
    obtain ⟨e1, cs, h1, h2, h3, h4⟩ := z
    rw [List.length_map, lI] at h2
    refine ⟨by show 1 ≤ sizeLine; decide, fun z nz => ⟨_, rfl, b, _, rfl, .inl (SqL.of ((e1.trans (Ex.new nz)) _ _ hb)), z, _, _, rfl, rfl, upd_same, by omega, by rw [List.length_map, lI]; omega, ?_, fun r nr => ⟨.ref D, .ref r, rfl, ?_⟩⟩⟩
    · rw [List.length_map, lI, sizeLine_eq]
      show 1 * ((szs.length : Nat) : Int).toNat ≤ _
      omega
    have ez := Ex.new (o := .lst [V.int 0]) nz
    have ex1 := (e1.trans ez).trans (Ex.new (o := .lst (List.replicate ((((intN szs).map V.int).length : Nat) : Int).toNat [V.int 0]).flatten) nr)
    have w0 : Wk H (upd (upd H1 z (.lst [V.int 0])) r (.lst (List.replicate ((((intN szs).map V.int).length : Nat) : Int).toNat [V.int 0]).flatten)) D r szs.length (segN (lstF ([] : List Int)) szs) (stkF ([] : List Int) (intN szs)) := by
      have hD2 : (upd H1 z (.lst [V.int 0])) D = some (.lst (cs.map V.ref)) := ez _ _ h1
      refine ⟨ex1, hD, (e1.trans ez).back nr, (fun e => by rw [e, hD2] at nr; cases nr), ⟨cs, (Ex.new nr) _ _ hD2, h2, h3, fun i c hc => ⟨(h4 i c hc).1, fun e => ?_, (h4 i c hc).2.1, ?_⟩⟩, ?_⟩
      · rw [← e, ez _ _ (h4 i c hc).2.2] at nr
        cases nr
      · rw [(Ex.new nr) _ _ (ez _ _ (h4 i c hc).2.2)]
        unfold segN
        rw [show lstF ([] : List Int) = [] from rfl, List.drop_nil, List.take_nil]
        rfl
      · rw [upd_same, List.length_map, lI, Int.toNat_natCast]
        congr 2
        generalize szs.length = n
        have k : ∀ n : Nat, (List.replicate n [V.int 0]).flatten = ((List.range n).map (stkF ([] : List Int) (intN szs))).map V.int := fun n => by
          induction n with
          | zero => rfl
          | succ n ih =>
            rw [List.replicate_succ', List.flatten_append, ih, List.range_succ, List.map_append, List.map_append]
            rfl
        exact k n
    show Ends.nx _ [some (.ref a), some (.ref b), none, some (.ref D), some (.ref r), none, none, none, none] _
    refine ⟨.ref a, rfl, a, rfl, ⟨_, SqL.of (ex1 _ _ ha)⟩, for_list (xs := X.map V.int) (fun i σ H2 => ∃ y2 y5 y6 y7 y8, σ = [some (.ref a), some (.ref b), y2, some (.ref D), some (.ref r), y5, y6, y7, y8] ∧ Wk H H2 D r szs.length (segN (lstF (X.take i)) szs) (stkF (X.take i) (intN szs))) ⟨none, none, none, none, none, rfl, w0⟩ (fun i σ H2 _ z => ?_) (fun i v σ H2 hx z => ?_) (fun σ H2 z => ?_)⟩
    · obtain ⟨_, _, _, _, _, _, W⟩ := z
      exact SqL.of (W.ex _ _ ha)
    · obtain ⟨y2, y5, y6, y7, y8, rfl, W⟩ := z
      rw [List.getElem?_map] at hx
      obtain ⟨x, gx, rfl⟩ := Option.map_eq_some_iff.mp hx
      have tk : X.take (i + 1) = X.take i ++ [x] := by
        rw [List.take_succ, gx]
        rfl
      have li : i < X.length := (List.getElem?_eq_some_iff.mp gx).1
      have lp : (X.take i).length ≤ 2 ^ 18 := by rw [List.length_take]; omega
      rw [tk]
      generalize hp : X.take i = p at *
      have lT : (lstF p).length ≤ 2 ^ 18 := by
        have := lstF_len (xs := p) (l := p) fun z hz => hz
        omega
      obtain ⟨cs0, hq0, lc0, _⟩ := W.cs
      refine ⟨.ref D, rfl, D, _, rfl, .inl (SqL.of hq0), _, rfl, by omega, by rw [List.length_map]; omega, ?_⟩
      have hn : ((((cs0.map V.ref).length : Nat) : Int)).toNat = szs.length := by rw [List.length_map, lc0]; rfl
      rw [hn]
      refine for_range (lo := 0) (n := szs.length) (fun j σ H3 => ∃ y6, σ = [some (.ref a), some (.ref b), y2, some (.ref D), some (.ref r), some (.int x), y6, y7, y8] ∧ Wk H H3 D r szs.length (fun l => if l < j then woX x (segN (lstF p) szs l) else segN (lstF p) szs l) (fun l => if l < j then stkF (p ++ [x]) (intN szs) l else stkF p (intN szs) l)) ⟨y6, rfl, W.congr (fun l _ => (if_neg (Nat.not_lt_zero l)).symm) (fun l _ => (if_neg (Nat.not_lt_zero l)).symm)⟩ (fun j σ H3 lj z => ?_) (fun σ H3 z => ?_)
      · obtain ⟨y6, rfl, W3⟩ := z
        obtain ⟨cs, hcs⟩ := W3.cs
        obtain ⟨hq, lc, nd, he⟩ := id hcs
        obtain ⟨c, hc⟩ : ∃ c, cs[j]? = some c := ⟨_, List.getElem?_eq_getElem (by omega)⟩
        obtain ⟨s, hs⟩ : ∃ s, szs[j]? = some s := ⟨_, List.getElem?_eq_getElem lj⟩
        obtain ⟨cq, cr, cn, cl⟩ := he j c hc
        rw [show (fun l => if l < j then woX x (segN (lstF p) szs l) else segN (lstF p) szs l) j = segN (lstF p) szs j from if_neg (Nat.lt_irrefl j)] at cl
        have ndS : (segN (lstF p) szs j).Nodup := by
          rw [seg_at hs]
          exact ((lstF_nodup p).sublist (List.drop_sublist _ _)).sublist (List.take_sublist _ _)
        have sn := stk_snoc p x hs
        rw [Int.zero_add]
        refine ⟨.int x, rfl, _, rfl, _, rfl, D, _, (j : Int), .ref c, rfl, rfl, SqL.of hq, atI_nat (by rw [List.getElem?_map, hc]; rfl), c, _, rfl, .inl (SqL.of cl), rfl, by simp [flatV], _, rfl, ?_⟩
        have hr3 := W3.fo
        have gj : (((List.range szs.length).map (fun l => if l < j then stkF (p ++ [x]) (intN szs) l else stkF p (intN szs) l)).map V.int)[j]? = some (.int (stkF p (intN szs) j)) := by
          rw [List.getElem?_map, List.getElem?_map, List.getElem?_range lj]
          show some (V.int (if j < j then _ else _)) = _
          rw [if_neg (Nat.lt_irrefl j)]
        by_cases m : x ∈ segN (lstF p) szs j
        · rw [if_pos m] at sn
          have ei : inV (.int x) ((segN (lstF p) szs j).map V.int) = true := by rw [inV_ints, decide_eq_true m]
          simp only [ei]
          have W4 := W3.setF j (stkF p (intN szs) j + 1)
          obtain ⟨cs', hcs'⟩ := W4.cs
          obtain ⟨hq', lc', nd', he'⟩ := id hcs'
          obtain ⟨c', hc'⟩ : ∃ c, cs'[j]? = some c := ⟨_, List.getElem?_eq_getElem (by omega)⟩
          obtain ⟨_, _, _, cl'⟩ := he' j c' hc'
          rw [show (fun l => if l < j then woX x (segN (lstF p) szs l) else segN (lstF p) szs l) j = segN (lstF p) szs j from if_neg (Nat.lt_irrefl j)] at cl'
          obtain ⟨k, hk⟩ := List.getElem?_of_mem m
          have W5 := W4.rem hcs' hc' (woX x (segN (lstF p) szs j))
          refine iteT ⟨_, rfl, _, rfl, r, _, (j : Int), _, rfl, rfl, SqL.of hr3, atI_nat gj, _, 1, rfl, rfl, _, rfl, _, rfl, r, _, (j : Int), j, rfl, rfl, hr3, ?_, _, rfl, _, rfl, D, _, (j : Int), .ref c', rfl, rfl, SqL.of hq', atI_nat (by rw [List.getElem?_map, hc']; rfl), .inl ⟨rfl, _, .inl (.inl cl')⟩, _, rfl, c', _, x, k, rfl, rfl, cl', hk, fun m hm e => ?_, ?_⟩
          · unfold ixN
            rw [if_pos (by omega), if_pos (by rw [List.length_map, List.length_map, List.length_range]; omega)]
            rfl
          · have := (List.getElem?_inj (j := k) (List.getElem?_eq_some_iff.mp e).1 ndS).mp (e.trans hk.symm)
            omega
          · rw [erase_at ndS hk]
            refine ⟨_, rfl, W5.congr (fun l _ => ?_) (fun l _ => ?_)⟩
            · show (if l = j then woX x (segN (lstF p) szs j) else if l < j then woX x (segN (lstF p) szs l) else segN (lstF p) szs l) = if l < j + 1 then woX x (segN (lstF p) szs l) else segN (lstF p) szs l
              by_cases e : l = j
              · subst e
                rw [if_pos rfl, if_pos (Nat.lt_succ_self l)]
              · rw [if_neg e]
                by_cases e2 : l < j
                · rw [if_pos e2, if_pos (by omega)]
                · rw [if_neg e2, if_neg (by omega)]
            · show (if l = j then stkF p (intN szs) j + 1 else if l < j then stkF (p ++ [x]) (intN szs) l else stkF p (intN szs) l) = if l < j + 1 then stkF (p ++ [x]) (intN szs) l else stkF p (intN szs) l
              by_cases e : l = j
              · subst e
                rw [if_pos rfl, if_pos (Nat.lt_succ_self l), sn]
              · rw [if_neg e]
                by_cases e2 : l < j
                · rw [if_pos e2, if_pos (by omega)]
                · rw [if_neg e2, if_neg (by omega)]
        · rw [if_neg m, Int.add_zero] at sn
          have ei : inV (.int x) ((segN (lstF p) szs j).map V.int) = false := by rw [inV_ints, decide_eq_false m]
          simp only [ei]
          refine iteF ⟨_, rfl, W3.congr (fun l _ => ?_) (fun l _ => ?_)⟩
          · show (if l < j then woX x (segN (lstF p) szs l) else segN (lstF p) szs l) = if l < j + 1 then woX x (segN (lstF p) szs l) else segN (lstF p) szs l
            by_cases e : l = j
            · subst e
              rw [if_neg (Nat.lt_irrefl l), if_pos (Nat.lt_succ_self l), woX_none m]
            · by_cases e2 : l < j
              · rw [if_pos e2, if_pos (by omega)]
              · rw [if_neg e2, if_neg (by omega)]
          · show (if l < j then stkF (p ++ [x]) (intN szs) l else stkF p (intN szs) l) = if l < j + 1 then stkF (p ++ [x]) (intN szs) l else stkF p (intN szs) l
            by_cases e : l = j
            · subst e
              rw [if_neg (Nat.lt_irrefl l), if_pos (Nat.lt_succ_self l), sn]
            · by_cases e2 : l < j
              · rw [if_pos e2, if_pos (by omega)]
              · rw [if_neg e2, if_neg (by omega)]
      · obtain ⟨y6, rfl, W3⟩ := z
        have W4 := W3.congr (L' := fun l => woX x (segN (lstF p) szs l)) (G' := fun l => stkF (p ++ [x]) (intN szs) l) (fun l hl => if_pos hl) (fun l hl => if_pos hl)
        have lT' : (lstF (p ++ [x])).length ≤ 2 ^ 18 + 1 := by
          have := lstF_len (xs := p ++ [x]) (l := p ++ [x]) fun z hz => hz
          rw [List.length_append, List.length_singleton] at this
          omega
        refine ⟨_, rfl, by show 1 ≤ sizeLine; decide, fun fa nfa => ?_⟩
        show Ends.nx _ [some (.ref a), some (.ref b), y2, some (.ref D), some (.ref r), some (.int x), y6, some (.ref fa), y8] _
        have W5 := W4.mono (Ex.new (o := .lst [V.int x]) nfa)
        obtain ⟨_, hqz, _⟩ := W4.cs
        have faD : fa ≠ D := fun e => by rw [e, hqz] at nfa; cases nfa
        refine ⟨.ref b, rfl, b, _, rfl, SqL.of (W5.ex _ _ hb), ?_⟩
        refine for_enum (xs := (intN szs).map V.int) (fun j σ H4 => ∃ y2 y6 y8 fa fal, σ = [some (.ref a), some (.ref b), y2, some (.ref D), some (.ref r), some (.int x), y6, some (.ref fa), y8] ∧ Wk H H4 D r szs.length (fun l => if l < j then segN (lstF (p ++ [x])) szs l else woX x (segN (lstF p) szs l)) (fun l => stkF (p ++ [x]) (intN szs) l) ∧ fa ≠ D ∧ H4 fa = some (.lst (fal.map V.int)) ∧ fal ++ woX x ((lstF p).drop (cutN szs j)) = (lstF (p ++ [x])).drop (cutN szs j)) ⟨y2, y6, y8, fa, [x], rfl, W5.congr (fun l _ => (if_neg (Nat.not_lt_zero l)).symm) (fun l _ => rfl), faD, upd_same, ?_⟩ (fun j σ H4 _ z => ?_) (fun j v t σ H4 hv nt z => ?_) (fun σ H4 z => ?_)
        · rw [lstF_snoc]
          rfl
        · obtain ⟨_, _, _, _, _, _, W6, _⟩ := z
          exact SqL.of (W6.ex _ _ hb)
        · obtain ⟨y2, y6, y8, fa, fal, rfl, W6, faD, hfa, ef⟩ := z
          rw [List.getElem?_map] at hv
          obtain ⟨sI, gsI, rfl⟩ := Option.map_eq_some_iff.mp hv
          unfold intN at gsI
          rw [List.getElem?_map] at gsI
          obtain ⟨s, hs, rfl⟩ := Option.map_eq_some_iff.mp gsI
          have lj : j < szs.length := (List.getElem?_eq_some_iff.mp hs).1
          obtain ⟨st1, st2⟩ := fall_step hs ef
          have W7 := W6.mono (Ex.new (o := .tup [V.int (j : Int), V.int (s : Int)]) nt)
          have hfa7 := (Ex.new (o := .tup [V.int (j : Int), V.int (s : Int)]) nt) _ _ hfa
          obtain ⟨cs, hcs⟩ := W7.cs
          obtain ⟨hq, lc, nd, he⟩ := id hcs
          obtain ⟨c, hc⟩ : ∃ c, cs[j]? = some c := ⟨_, List.getElem?_eq_getElem (by omega)⟩
          obtain ⟨cq, cr, cn, cl⟩ := he j c hc
          rw [show (fun l => if l < j then segN (lstF (p ++ [x])) szs l else woX x (segN (lstF p) szs l)) j = woX x (segN (lstF p) szs j) from if_neg (Nat.lt_irrefl j)] at cl
          have lf : fal.length ≤ 2 ^ 18 + 1 := by
            have := congrArg List.length ef
            rw [List.length_append, List.length_drop] at this
            omega
          have lw : (woX x (segN (lstF p) szs j)).length ≤ 2 ^ 18 := by
            have h1 : (woX x (segN (lstF p) szs j)).length ≤ (segN (lstF p) szs j).length := List.length_filter_le _ _
            have h2 : (segN (lstF p) szs j).length ≤ 2 ^ 18 := by
              rw [seg_at hs, List.length_take, List.length_drop]
              omega
            omega
          have er : fal.map V.int ++ (woX x (segN (lstF p) szs j)).map V.int = (fal ++ woX x (segN (lstF p) szs j)).map V.int := (List.map_append ..).symm
          refine ⟨t, _, rfl, SqT.of upd_same, rfl, _, _, rfl, _, _, rfl, rfl, ?_⟩
          refine ⟨_, rfl, _, rfl, _, rfl, D, _, (j : Int), .ref c, rfl, rfl, SqL.of hq, atI_nat (by rw [List.getElem?_map, hc]; rfl), fa, c, _, _, rfl, rfl, hfa7, cl, by rw [List.length_map, List.length_map, sizeLine_eq]; omega, fun wr nwr => ?_⟩
          rw [er]
          have e8 := Ex.new (o := .lst ((fal ++ woX x (segN (lstF p) szs j)).map V.int)) nwr
          refine ⟨_, rfl, _, rfl, (s : Int), rfl, wr, _, rfl, SqL.of upd_same, fun g ng => ?_⟩
          rw [cut_off, ← List.map_drop]
          have e9 := Ex.new (o := .lst (((fal ++ woX x (segN (lstF p) szs j)).drop s).map V.int)) ng
          refine ⟨_, rfl, _, rfl, (s : Int), rfl, wr, _, rfl, SqL.of (e9 _ _ upd_same), fun c2 nc2 => ?_⟩
          rw [cut_to, ← List.map_take]
          have e10 := Ex.new (o := .lst (((fal ++ woX x (segN (lstF p) szs j)).take s).map V.int)) nc2
          have W9 := W7.mono (e8.trans e9)
          obtain ⟨cs9, hcs9⟩ := W9.cs
          have hq9 := (e8.trans e9) _ _ hq
          have ec : cs9 = cs := by
            have h1 := hcs9.1
            rw [hq9] at h1
            have h2 : cs.map V.ref = cs9.map V.ref := by
              injection h1 with h1
              injection h1
            exact ((List.map_inj_right (fun a b e => by cases e; rfl)).mp h2).symm
          rw [ec] at hcs9
          have W11 := W9.put hcs9 j nc2 ((fal ++ woX x (segN (lstF p) szs j)).take s)
          have gD : g ≠ D := fun e => by rw [e, e8 _ _ hq] at ng; cases ng
          refine ⟨_, rfl, _, rfl, D, _, (j : Int), j, rfl, rfl, e10 _ _ hq9, ?_, ?_⟩
          · unfold ixN
            rw [if_pos (by omega), if_pos (by rw [List.length_map]; omega)]
            rfl
          · refine ⟨_, _, _, g, (fal ++ woX x (segN (lstF p) szs j)).drop s, rfl, W11.congr (fun l _ => ?_) (fun l _ => rfl), gD, ?_, st2⟩
            · show (if l = j then (fal ++ woX x (segN (lstF p) szs j)).take s else if l < j then segN (lstF (p ++ [x])) szs l else woX x (segN (lstF p) szs l)) = if l < j + 1 then segN (lstF (p ++ [x])) szs l else woX x (segN (lstF p) szs l)
              by_cases e : l = j
              · subst e
                rw [if_pos rfl, if_pos (Nat.lt_succ_self l), st1]
              · rw [if_neg e]
                by_cases e2 : l < j
                · rw [if_pos e2, if_pos (by omega)]
                · rw [if_neg e2, if_neg (by omega)]
            · rw [upd_ne gD]
              exact e10 _ _ upd_same
        · obtain ⟨y2, y6, y8, fa, fal, rfl, W6, _⟩ := z
          rw [List.length_map, show (intN szs).length = szs.length from List.length_map ..] at W6
          exact ⟨_, _, _, _, _, rfl, W6.congr (fun l hl => if_pos hl) (fun l hl => rfl)⟩
    · obtain ⟨y2, y5, y6, y7, y8, rfl, W⟩ := z
      have hr := W.fo
      rw [List.length_map, List.take_length] at hr
      refine ⟨_, rfl, q r H2 W.nr W.ex ?_⟩
      unfold stk
      rw [lI]
      exact hr
end
end Kb
namespace Kb
open PySem PySem.Spec PyProof.Rows L2 TL
/-! ### hits of caches behind one another: bounds, spread programs -/
theorem mss_mono (X : List Int) {s t : Int} (h : s ≤ t) : mss X t ≤ mss X s := by
  unfold mss mssO
  rw [← List.countP_eq_length_filter, ← List.countP_eq_length_filter]
  refine Int.ofNat_le.mpr (List.countP_mono_left fun o _ k => ?_)
  cases o with
  | none => rfl
  | some d =>
    have k : decide (d > t) = true := k
    have := of_decide_eq_true k
    exact decide_eq_true (by omega)
theorem stk_bd (X : List Int) {szs : List Nat} : ∀ z ∈ stk X (intN szs), 0 ≤ z ∧ z ≤ X.length := fun z hz => by
  obtain ⟨i, hi, rfl⟩ := List.mem_map.mp hz
  have li := List.mem_range.mp hi
  unfold stkF
  rw [cut_int, cut_int]
  have a := mss_bd X (cutN szs i : Int)
  have b := mss_bd X (cutN szs (i + 1) : Int)
  have li2 : i < szs.length := by
    rw [show (intN szs).length = szs.length from List.length_map ..] at li
    exact li
  have c := cut_succ (szs := szs) (l := i) (s := szs[i]) (List.getElem?_eq_getElem li2)
  have m := mss_mono X (show (cutN szs i : Int) ≤ (cutN szs (i + 1) : Int) by omega)
  omega
theorem sum_mul (w : Int) : ∀ l : List Int, (l.map fun n => w * n).sum = w * l.sum
  | [] => (Int.mul_zero w).symm
  | a :: l => by rw [List.map_cons, List.sum_cons, List.sum_cons, sum_mul w l, Int.mul_add]
theorem stk_sp {w : Nat} (hw : 0 < w) (g : Pg) (szs : List Nat) : stk (g.sp w).rd ((intN szs).map fun n => (w : Int) * n) = (stk g.rd (intN szs)).map fun z => (w : Int) * z := by
  unfold stk
  rw [List.length_map, List.map_map]
  refine List.map_congr_left fun i _ => ?_
  show stkF (g.sp w).rd _ i = (w : Int) * stkF g.rd (intN szs) i
  unfold stkF
  rw [← List.map_take, ← List.map_take, sum_mul, sum_mul, cut_int, cut_int]
  have a := Pg.sp_mss hw g (cutN szs i)
  have b := Pg.sp_mss hw g (cutN szs (i + 1))
  rw [Int.natCast_mul] at a b
  rw [a, b, Int.mul_sub]
theorem spS_ok {w : Int} (w1 : 1 ≤ w) (w2 : w ≤ 10 ^ 28) {s : Sc} (h : SOk (10 ^ 30) s) (h1 : s.1 < 12) (h2 : s.2 < 12) : SOk (10 ^ 30) (spS w s) := by
  obtain ⟨a0, a1, b0, b1⟩ := h
  have e : (10 : Int) ^ 30 = 100 * 10 ^ 28 := by decide +kernel
  have x1 := Int.mul_le_mul_of_nonneg_left (show s.1 ≤ 11 by omega) (show 0 ≤ w by omega)
  have x2 := Int.mul_le_mul_of_nonneg_left (show s.2 ≤ 11 by omega) (show 0 ≤ w by omega)
  have y1 := Int.mul_nonneg (show 0 ≤ w by omega) a0
  have y2 := Int.mul_nonneg (show 0 ≤ w by omega) b0
  unfold spS
  split
  · refine ⟨y1, ?_, ?_, ?_⟩ <;> (show _; simp only []; omega)
  · refine ⟨?_, ?_, y2, ?_⟩ <;> (show _; simp only []; omega)
theorem sp_ok {w : Int} (w1 : 1 ≤ w) (w2 : w ≤ 10 ^ 28) : ∀ {g : Pg}, g.Ok (10 ^ 30) → (∀ s ∈ g.scs, s.1 < 12 ∧ s.2 < 12) → (g.sp w).Ok (10 ^ 30)
  | .nil, _, _ => trivial
  | .sc s r, h, k => ⟨spS_ok w1 w2 h.1 (k s List.mem_cons_self).1 (k s List.mem_cons_self).2, sp_ok w1 w2 h.2 fun z m => k z (List.mem_cons_of_mem _ m)⟩
  | .rp n b r, h, k => ⟨h.1, h.2.1, (by
      intro e
      cases b with
      | nil => exact h.2.2.1 rfl
      | sc s r => cases e
      | rp n b r => cases e), sp_ok w1 w2 h.2.2.2.1 (fun z m => k z (List.mem_append_left _ m)), sp_ok w1 w2 h.2.2.2.2 fun z m => k z (List.mem_append_right _ m)⟩
theorem sp_dep (w : Int) : ∀ g : Pg, (g.sp w).dep = g.dep
  | .nil => rfl
  | .sc s r => sp_dep w r
  | .rp n b r => by
    show max ((b.sp w).dep + 1) (r.sp w).dep = max (b.dep + 1) r.dep
    rw [sp_dep w b, sp_dep w r]
theorem sp_few (w : Int) : ∀ g : Pg, (g.sp w).scs.length = g.scs.length
  | .nil => rfl
  | .sc s r => congrArg (· + 1) (sp_few w r)
  | .rp n b r => by
    show ((b.sp w).scs ++ (r.sp w).scs).length = (b.scs ++ r.scs).length
    rw [List.length_append, List.length_append, sp_few w b, sp_few w r]
theorem lim_sp {w : Int} (w1 : 1 ≤ w) (w2 : w ≤ 10 ^ 28) {g : Pg} (h : Lim g) (k : ∀ s ∈ g.scs, s.1 < 12 ∧ s.2 < 12) : Lim (g.sp w) := ⟨sp_ok w1 w2 h.ok k, by rw [sp_dep]; exact h.dep, by rw [sp_few]; exact h.few⟩
end Kb
namespace Kb
open PySem PySem.Spec PyProof.Rows L2 StX TL
abbrev slaw : Stmt := topS 93
theorem sclaw : FnScope ["script", "k", "kettle", "wide", "nodes", "program", "reads", "turn", "sizes_here", "kept", "due", "told", "width", "far", "level", "size_here", "one"] ["script"] (defScope slaw) := ⟨rfl, rfl, rfl, by decide +kernel, rfl, by decide +kernel, by decide +kernel⟩
def g37 : Pg := .rp 5 (.sc (0, 3) (.sc (3, 0) .nil)) .nil
theorem txt37 : Str.ofString "( 0-3 3-0 )5" = txt g37 := by decide +kernel
theorem lim37 : Lim g37 := ⟨⟨by decide, by decide +kernel, (by intro z; cases z), ⟨⟨by decide, by decide +kernel, by decide, by decide +kernel⟩, ⟨by decide, by decide +kernel, by decide, by decide +kernel⟩, trivial⟩, trivial⟩, by decide, by decide⟩
theorem v37a : stk g37.rd [3, 1] = [27, 9] := by decide +kernel
theorem v37b : stk Pg.nil.rd [0, 5] = [0, 0] := by decide +kernel
section
variable {P : Program} {w : World} {K : PySem.W.Frag} {mg : Str → Option Value} {base : Heap}
theorem ok_law37 {C_pg : Addr} (B : Bt2 mg) (nfC : PySem.W.notFirst K C_pg (.ref C_pg) = true) (DProgram : DMk P w K mg base "Program" C_pg 5 ["self", "text"] (spInitPg C_pg)) (Dm___eq__ : DMt P w K mg base C_pg "__eq__" 1 ["self", "other"] (spEqPg K C_pg))
    (D_law_kettle : Df P w K mg base "_law_kettle" 1 ["script", "k"] (spPond K)) (D_law_scoop : Df P w K mg base "_law_scoop" 1 ["kettle", "many"] spDip) (D_law_small : Df P w K mg base "_law_small" 18 ["kettle", "most", "deep", "wide", "limit"] spSmall)
    (D_law_made : Df P w K mg base "_law_made" 13 ["nodes"] (spMade C_pg)) (D_law_reads : Df P w K mg base "_law_reads" 12 ["nodes"] (spNReads 11)) (D_law_spread : Df P w K mg base "_law_spread" 12 ["nodes", "width"] (spNSpread 11)) (D_law_hits : Df P w K mg base "_law_hits" 1 ["reads", "sizes_here"] spLHits) (Dstacked_hits : Df P w K mg base "stacked_hits" 21 ["program", "sizes"] (spStack C_pg))
    {f : Addr} {fd : FuncData} (F : Fun K "law" "law" slaw f fd) : FnG P w K mg base 22 f fd ["script"] (spLaw K) := by
  refine okG F sclaw (fun vs H Q E h => ?_) (fun cdv A outer s H vs Q E hr hg h => ?_)
  · obtain ⟨a, ns, rfl, _⟩ := h
    rfl
  · obtain ⟨a, ns, rfl, hS, hlen, q⟩ := h
    refine ⟨_, (pss_cons (ps_for PassesOwn.never rfl (pi_range1 (by rfl) B.range (pa_cons (pe_callB (call_max2 rfl) (by rfl) B.max bo_max (pa_cons pe_int (pa_cons (pe_callB (call_min2 rfl) (by rfl) B.min bo_min (pa_cons pe_int (pa_cons (pe_callB call_len_seq (by rfl) B.len bo_len (pa_cons (pv 0) pa_nil)) pa_nil))) pa_nil))) pa_nil)) (pg_name (i := 1) sclaw.nd rfl (by first | exact Or.inl rfl | exact Or.inr rfl)) (pss_cons (ps_set (i := 2) sclaw.nd rfl (by first | exact Or.inl rfl | exact Or.inr rfl) (pe_df D_law_kettle hr (pa_cons (pv 0) (pa_cons (pv 1) pa_nil))))
      (pss_cons (ps_set (i := 3) sclaw.nd rfl (by first | exact Or.inl rfl | exact Or.inr rfl) (pe_ix ix_list (pe_lst (pa_cons pe_int (pa_cons pe_int (pa_cons pe_int pa_nil)))) (pe_df D_law_scoop hr (pa_cons (pv 2) (pa_cons pe_int pa_nil))) (fun _ _ => rfl)))
      (pss_cons (ps_set (i := 4) sclaw.nd rfl (by first | exact Or.inl rfl | exact Or.inr rfl) (pe_df D_law_small hr (pa_cons (pv 2) (pa_cons (pe_ix ix_list (pe_lst (pa_cons pe_int (pa_cons pe_int pa_nil))) (pe_df D_law_scoop hr (pa_cons (pv 2) (pa_cons pe_int pa_nil))) (fun _ _ => rfl)) (pa_cons pe_int (pa_cons (pv 3) (pa_cons pe_int pa_nil)))))))
      (pss_cons (ps_par (i := 5) (j := 6) rfl sclaw.nd rfl rfl (by decide) rfl rfl (pa_cons (pe_df D_law_made hr (pa_cons (pv 4) pa_nil)) (pa_cons (pe_df D_law_reads hr (pa_cons (pv 4) pa_nil)) pa_nil)) (by rfl))
      (pss_cons (ps_for PassesOwn.never rfl (pi_range1 (by rfl) B.range (pa_cons (pe_ix ix_list (pe_lst (pa_cons pe_int (pa_cons pe_int pa_nil))) (pe_callTy call_int1 (by rfl) B.int bo_int (pa_cons (pe_cmpR op_eq (pv 1) pe_int (nomark _)) pa_nil)) (fun _ _ => rfl)) pa_nil)) (pg_name (i := 7) sclaw.nd rfl (by first | exact Or.inl rfl | exact Or.inr rfl)) (pss_cons (ps_setLc (i := 8) (own := [("level", 14)]) (g := (gName 14)) (te := (tCall _ [] E0 (tCons (tVar 2) (tCons (tOp _ (tVar 3) _) tNil)))) rfl sclaw.nd rfl rfl (sw_true rfl rfl rfl (by decide +kernel)) (pi_range1 (by rfl) B.range (pa_cons (pe_op op_add pe_int (pe_df D_law_scoop hr (pa_cons (pv 2) (pa_cons pe_int pa_nil)))) pa_nil)) (blkOk_by (N := ["script", "k", "kettle", "wide", "nodes", "program", "reads", "turn", "sizes_here", "kept", "due", "told", "width", "far", "level", "size_here", "one"]) (sc := defScope slaw) (by decide +kernel)) (by exact fun _ _ _ _ _ => (pg_name (i := 14) sclaw.nd rfl (by first | exact Or.inl rfl | exact Or.inr rfl))) (by exact fun _ _ _ _ _ => pts_nil) (by exact fun _ _ _ _ _ => (pe_df D_law_scoop hr (pa_cons (pv 2) (pa_cons (pe_op op_add (pv 3) pe_int) pa_nil)))))
      (pss_cons (ps_par (i := 9) (j := 10) rfl sclaw.nd rfl rfl (by decide) rfl rfl (pa_cons (pe_callTy call_list_of (by rfl) B.list bo_list (pa_cons (pv 8) pa_nil)) (pa_cons (pe_df D_law_hits hr (pa_cons (pv 6) (pa_cons (pv 8) pa_nil))) pa_nil)) (by rfl))
      (pss_cons (ps_set (i := 11) sclaw.nd rfl (by first | exact Or.inl rfl | exact Or.inr rfl) (pe_df Dstacked_hits hr (pa_cons (pv 5) (pa_cons (pv 8) pa_nil))))
      (pss_cons (ps_if (pw_or (pt_cmpR op_ne (pe_callB (cr_reprD hg hr.units) (by rfl) B.repr bo_repr (pa_cons (pv 11) pa_nil)) (pe_callB (cr_reprD hg hr.units) (by rfl) B.repr bo_repr (pa_cons (pv 10) pa_nil)) (nomark _)) (pw_or1 (pt_cmpR (op_neD hr.units) (pv 8) (pv 9) (nomark _)))).pt (pss_one (ps_ret pe_bl)) pss_nil)
      (pss_cons (ps_expr (pe_bm PySem.F.plainAttrs_list PySem.F.slot_list_append PySem.F.type_list_append mt_append (pv 11) (pa_cons pe_non pa_nil)))
      (pss_cons (ps_set (i := 12) sclaw.nd rfl (by first | exact Or.inl rfl | exact Or.inr rfl) (pe_op op_add pe_int (pe_df D_law_scoop hr (pa_cons (pv 2) (pa_cons (pe_op op_pow pe_int pe_int) pa_nil)))))
      (pss_cons (ps_set (i := 13) sclaw.nd rfl (by first | exact Or.inl rfl | exact Or.inr rfl) (pe_df Dstacked_hits hr (pa_cons (pe_df D_law_made hr (pa_cons (pe_df D_law_spread hr (pa_cons (pv 4) (pa_cons (pv 12) pa_nil))) pa_nil)) (pa_cons (pe_lc (own := [("size_here", 15)]) (g := (gName 15)) (te := (tOp _ (tVar 12) (tVar 15))) rfl sclaw.nd (pi_list (pv 8)) (blkOk_by (N := ["script", "k", "kettle", "wide", "nodes", "program", "reads", "turn", "sizes_here", "kept", "due", "told", "width", "far", "level", "size_here", "one"]) (sc := defScope slaw) (by decide +kernel)) (by exact fun _ _ _ _ _ => (pg_name (i := 15) sclaw.nd rfl (by first | exact Or.inl rfl | exact Or.inr rfl))) (by exact fun _ _ _ _ _ => pts_nil) (by exact fun _ _ _ _ _ => (pe_op op_mul (pv 12) (pv 15)))) pa_nil))))
      (pss_one (ps_if (pw_or (pt_cmpR (op_neD hr.units) (pv 13) (pe_lc (own := [("one", 16)]) (g := (gName 16)) (te := (tOp _ (tVar 12) (tVar 16))) rfl sclaw.nd (pi_list (pv 10)) (blkOk_by (N := ["script", "k", "kettle", "wide", "nodes", "program", "reads", "turn", "sizes_here", "kept", "due", "told", "width", "far", "level", "size_here", "one"]) (sc := defScope slaw) (by decide +kernel)) (by exact fun _ _ _ _ _ => (pg_name (i := 16) sclaw.nd rfl (by first | exact Or.inl rfl | exact Or.inr rfl))) (by exact fun _ _ _ _ _ => pts_nil) (by exact fun _ _ _ _ _ => (pe_op op_mul (pv 12) (pv 16)))) (nomark _)) (pw_or1 (pt_cmpR (op_neD hr.units) (pe_df Dstacked_hits hr (pa_cons (pv 5) (pa_cons (pv 8) pa_nil))) (pv 10) (nomark _)))).pt (pss_one (ps_ret pe_bl)) pss_nil))))))))))
      (pss_one (ps_if (pt_not (pt_cmpR (op_ownEq (k := 1) (k' := 21) Dm___eq__ hr) (pv 5) (pe_df D_law_made hr (pa_cons (pv 4) pa_nil)) (nomark _))) (pss_one (ps_ret pe_bl)) pss_nil))))))))
      (pss_one (ps_ret (pe_cmpR (op_eqD hr.units) (pe_lst (pa_cons (pe_df Dstacked_hits hr (pa_cons (pe_mk DProgram hr (pa_cons pe_str pa_nil)) (pa_cons (pe_lst (pa_cons pe_int (pa_cons pe_int pa_nil))) pa_nil))) (pa_cons (pe_df Dstacked_hits hr (pa_cons (pe_mk DProgram hr (pa_cons pe_str pa_nil)) (pa_cons (pe_lst (pa_cons pe_int (pa_cons pe_int pa_nil))) pa_nil))) pa_nil))) (pe_lst (pa_cons (pe_lst (pa_cons pe_int (pa_cons pe_int pa_nil))) (pa_cons (pe_lst (pa_cons pe_int (pa_cons pe_int pa_nil))) pa_nil))) (nomark _))))), ?_⟩
    have g600 : (2 : Int) ≤ 10 ^ 600 := by decide +kernel
    have b600 : (10001 : Int) ≤ 10 ^ 600 := by decide +kernel
    have d600 : (10 : Int) ^ 28 ≤ 10 ^ 600 := by decide +kernel
    refine ⟨.ref a, rfl, a, _, rfl, .inl hS, 6, _, rfl, 1, _, rfl, ?_⟩
    generalize hN : (if (if ((ns.map V.int).length : Int) < 6 then ((ns.map V.int).length : Int) else 6) > 1 then (if ((ns.map V.int).length : Int) < 6 then ((ns.map V.int).length : Int) else 6) else 1) = N
    have N8 : 1 ≤ N ∧ N ≤ 6 := by
      rw [← hN]
      split <;> split at * <;> omega
    have g600' : (3 : Int) ≤ 10 ^ 600 := by decide +kernel
    refine ⟨N, rfl, by omega, by omega, for_range (lo := 0) (n := N.toNat) (fun k σ H1 => ∃ y1 y2 y3 y4 y5 y6 y7 y8 y9 y10 y11 y12 y13, σ = [some (.ref a), y1, y2, y3, y4, y5, y6, y7, y8, y9, y10, y11, y12, y13, none, none, none] ∧ Nx H H1) ⟨none, none, none, none, none, none, none, none, none, none, none, none, none, rfl, Nx.refl _⟩ (fun k σ H1 hk z => ?_) (fun σ H1 z => ?_)⟩
    · obtain ⟨y1, y2, y3, y4, y5, y6, y7, y8, y9, y10, y11, y12, y13, rfl, e1⟩ := z
      refine ⟨.ref a, rfl, .int (0 + (k : Int)), rfl, a, ns, _, rfl, SqL.nxx e1 hS, by omega, by omega, fun b H2 nb e2 hb => ?_⟩
      refine ⟨by show 3 ≤ sizeLine; decide, fun l1 nl1 => ?_⟩
      have z1 := Ex.new (o := .lst [V.int 4, V.int 8, V.int 12]) nl1
      refine ⟨.ref b, rfl, b, 3, _, rfl, hb.ex z1, by omega, by decide, g600', fun j j0 j1 H3 e3 hb3 => ?_⟩
      obtain ⟨wd, am1, wd1, wd2⟩ := pick3 (p := fun m => 4 ≤ m ∧ m ≤ 12) j0 j1 (x := 4) (y := 8) (z := 12) ⟨by decide, by decide⟩ ⟨by decide, by decide⟩ ⟨by decide, by decide⟩
      refine ⟨l1, _, j, .int wd, rfl, rfl, SqL.of (e3.at upd_same), am1, ?_⟩
      refine ⟨.ref b, rfl, by show 2 ≤ sizeLine; decide, fun l2 nl2 => ?_⟩
      have z2 := Ex.new (o := .lst [V.int 3, V.int 6]) nl2
      refine ⟨.ref b, rfl, b, 2, _, rfl, hb3.ex z2, by omega, by decide, g600, fun j' j0' j1' H4 e4 hb4 => ?_⟩
      obtain ⟨mo, am2, mo1, mo2⟩ := pick2' (p := fun m => 1 ≤ m ∧ m ≤ 6) j0' j1' (x := 3) (y := 6) ⟨by decide, by decide⟩ ⟨by decide, by decide⟩
      refine ⟨l2, _, j', .int mo, rfl, rfl, SqL.of (e4.at upd_same), am2, _, rfl, b, mo, 2, wd, 150, _, rfl, hb4, mo1, by omega, by omega, by decide, by decide, by omega, Int.le_trans wd2 (by decide +kernel), by decide, fun q' H6 g e6 hb6 hg' dr cc => ?_⟩
      have e26 := ((e2.nx.trans z1.nx).trans e3).trans ((z2.nx.trans e4).trans e6)
      have d3 := dr.dep
      have f3 := dr.few
      have lim : Lim g := ⟨dr.ok, by omega, by omega⟩
      have sm12 : ∀ s ∈ g.scs, s.1 < 12 ∧ s.2 < 12 := fun s hs => ⟨Int.lt_of_lt_of_le (dr.lt s hs).1 wd2, Int.lt_of_lt_of_le (dr.lt s hs).2 wd2⟩
      refine ⟨.ref q', rfl, q', g, rfl, hg', lim, fun x H7 nx e7 P7 => ?_⟩
      refine ⟨.ref q', rfl, q', g, 10 ^ 30, rfl, hg'.nx e7.nx (fun _ => id), by omega, dr.ok, by omega, fun u H9 e8 hu nu => ⟨_, _, rfl, ?_⟩⟩
      have e68 := e7.trans e8
      have P8 := P7.mono e8
      have hb8 := hb6.ex e68
      have hg8 := hg'.nx (M := Any) e68.nx (fun _ => id)
      have e28 := (e1.trans e26).trans e68.nx
      clear z1 z2 e3 e4 e6 e26 hg' hb6
      have lr := prd_len lim.ok
      refine ⟨by show 2 ≤ sizeLine; decide, fun l4 nl4 => ⟨_, rfl, rfl, .inr ⟨_, rfl, ?_⟩⟩⟩
      have z4 := Ex.new (o := .lst [V.int 2, V.int 5]) nl4
      obtain ⟨mm, am, mm1, mm2⟩ : ∃ m : Int, atI [V.int 2, V.int 5] (if decide (V.int (0 + (k : Int)) = V.int 0) = true then 1 else 0) = some (.int m) ∧ 1 ≤ m ∧ m ≤ 5 := by
        split
        · exact ⟨5, rfl, by decide, by decide⟩
        · exact ⟨2, rfl, by decide, by decide⟩
      refine ⟨l4, _, _, .int mm, rfl, rfl, SqL.of upd_same, am, mm, rfl, by omega, by omega, for_range (lo := 0) (n := mm.toNat) (fun i σ H10 => ∃ y7 y8 y9 y10 y11 y12 y13, σ = [some (.ref a), some (.int (0 + (k : Int))), some (.ref b), some (.int wd), some (.ref q'), some (.ref x), some (.ref u), y7, y8, y9, y10, y11, y12, y13, none, none, none] ∧ Nx H9 H10 ∧ Pd H10 b (2 + 2 ^ 40 + 17 * i)) ⟨_, _, _, _, _, _, _, rfl, z4.nx, (hb8.ex z4).mono (by omega)⟩ (fun i σ H10 hi w => ?_) (fun σ H10 w => ?_)⟩
      · obtain ⟨y7, y8, y9, y10, y11, y12, y13, rfl, e10, hb10⟩ := w
        refine ⟨.ref b, rfl, b, 3, _, rfl, hb10, by omega, by decide, g600', fun j j0 j1 H11 e11 hb11 => ⟨_, _, rfl, rfl, _, rfl, by omega, by omega, fun D hD => ?_⟩⟩
        refine lc_range (lo := 0) (n := (1 + j).toNat) (fun i2 H12 => Nx H11 H12 ∧ Pd H12 b (2 + 2 ^ 40 + 17 * i + 1 + i2) ∧ ∃ M : List Nat, H12 D = some (.lst ((intN M).map V.int)) ∧ M.length = i2 ∧ ∀ m ∈ M, m ≤ 13) ⟨(Ex.new hD).nx, (hb11.ex (Ex.new hD)).mono (by omega), [], upd_same, rfl, fun m hm => (List.not_mem_nil hm).elim⟩ (fun i2 H12 hi2 w => ?_) (fun H12 w => ?_)
        · obtain ⟨e12, hb12, M, hM, lM, bM⟩ := w
          refine ⟨rfl, .ref b, rfl, .int wd, rfl, _, _, rfl, rfl, b, _, _, rfl, hb12, by omega, by omega, by omega, fun s s0 s1 H13 e13 hb13 => ⟨_, e13.at hM, small20 (by rw [List.length_map]; unfold intN; rw [List.length_map]; omega), (e12.trans e13).mut hD, (Pd.lset (e13.at hM) hb13).mono (by omega), M ++ [s.toNat], ?_, by rw [List.length_append, lM]; rfl, fun m hm => (List.mem_append.mp hm).elim (bM m) fun hm => by rw [List.mem_singleton.mp hm]; omega⟩⟩
          rw [upd_same]
          unfold intN
          rw [List.map_append, List.map_append]
          show _ = some (HO.lst (_ ++ [V.int ((s.toNat : Nat) : Int)]))
          rw [Int.toNat_of_nonneg s0]
        obtain ⟨e12, hb12, M, hM, lM, bM⟩ := w
        have lI : (intN M).length = M.length := List.length_map ..
        have e912 := (e10.trans e11).trans e12
        show tSeq _ _ _ [some (.ref a), some (.int (0 + (k : Int))), some (.ref b), some (.int wd), some (.ref q'), some (.ref x), some (.ref u), some (.int (0 + (i : Int))), some (.ref D), y9, y10, y11, y12, y13, none, none, none] H12
        refine ⟨.ref D, rfl, D, _, rfl, .inl (SqL.of hM), fun kp nkp => ?_⟩
        have ek := Ex.new (o := .lst ((intN M).map V.int)) nkp
        refine ⟨.ref u, rfl, .ref D, rfl, u, D, g.rd, M, rfl, ek _ _ (e912.at hu), by omega, ek _ _ hM, by omega, fun du H14 ndu e14 hdu => ⟨.ref kp, .ref du, rfl, ?_⟩⟩
        have hkp := e14 _ _ (upd_same (H := H12) (a := kp) (o := .lst ((intN M).map V.int)))
        have e1214 := ek.trans e14
        show tSeq _ _ _ [some (.ref a), some (.int (0 + (k : Int))), some (.ref b), some (.int wd), some (.ref q'), some (.ref x), some (.ref u), some (.int (0 + (i : Int))), some (.ref D), some (.ref kp), some (.ref du), y11, y12, y13, none, none, none] H14
        have e914 := e912.trans e1214.nx
        have nnM : ∀ n ∈ intN M, 0 ≤ n := fun n hn => by
          obtain ⟨m, _, rfl⟩ := List.mem_map.mp hn
          exact Int.natCast_nonneg m
        refine ⟨.ref x, rfl, .ref D, rfl, x, g, D, intN M, rfl, P8.nx e914, lim, e1214 _ _ hM, by omega, by omega, nnM, fun to H15 nto e15 hto => ?_⟩
        show tSeq _ _ _ [some (.ref a), some (.int (0 + (k : Int))), some (.ref b), some (.int wd), some (.ref q'), some (.ref x), some (.ref u), some (.int (0 + (i : Int))), some (.ref D), some (.ref kp), some (.ref du), some (.ref to), y12, y13, none, none, none] H15
        have big : (1000 : Int) < 10 ^ 500 := by decide +kernel
        have lS : (stk g.rd (intN M)).length ≤ 3000 := by
          unfold stk
          rw [List.length_map, List.length_range]
          omega
        obtain ⟨h1, h2, h3, h4⟩ := show_ints (ns := stk g.rd (intN M)) (fun n hn => by have := stk_bd g.rd n hn; omega) lS
        refine ⟨_, rfl, to, pdI (stk g.rd (intN M)), rfl, dp_ints hto, h1, h2, h3, h4, _, rfl, du, pdI (stk g.rd (intN M)), rfl, dp_ints (e15 _ _ hdu), h1, h2, h3, h4, rfl, _, rfl, ne_refl rfl ?_⟩
        have neI : ∀ ms : List Int, (!PyData.eqv (pdI ms) (pdI ms)) = false := fun ms => by
          rw [eqv_I, decide_eq_true rfl]
          rfl
        refine ⟨_, rfl, _, rfl, pdI (intN M), pdI (intN M), dp_ints ((e1214.trans e15) _ _ hM), dp_ints (e15 _ _ hkp), shaped_I _, shaped_I _, _, rfl, ?_⟩
        rw [neI]
        refine iteF ?_
        have e16 : Ex H14 (upd H15 to (.lst ((stk g.rd (intN M)).map V.int ++ [V.non]))) := e15.mut nto
        refine ⟨_, rfl, .inl ⟨rfl, _, .inl (.inl hto)⟩, to, _, .non, rfl, rfl, hto, small20 (by rw [List.length_map]; omega), ?_⟩
        have hb16 := (hb12.ex e1214).ex e16
        have e916 := e914.trans e16.nx
        refine ⟨.ref b, rfl, 10, 28, rfl, rfl, ⟨by decide, by decide, by decide⟩, b, _, _, rfl, hb16, by omega, by decide +kernel, by decide +kernel, fun wI w0 w1 H17 e17 hb17 => ⟨_, _, rfl, rfl, ?_⟩⟩
        obtain ⟨wn, hw⟩ : ∃ wn : Nat, 1 + wI = (wn : Int) := ⟨(1 + wI).toNat, by omega⟩
        have w28 : (wn : Int) ≤ 10 ^ 28 := by
          have : wI < 10 ^ 28 := w1
          omega
        show tSeq _ _ _ [some (.ref a), some (.int (0 + (k : Int))), some (.ref b), some (.int wd), some (.ref q'), some (.ref x), some (.ref u), some (.int (0 + (i : Int))), some (.ref D), some (.ref kp), some (.ref du), some (.ref to), some (.int (1 + wI)), y13, none, none, none] H17
        rw [hw]
        have e917 := e916.trans e17
        have hD17 := e17.at ((e1214.trans e16) _ _ hM)
        have hdu17 := e17.at (e16 _ _ hdu)
        have lt64 : ∀ s ∈ g.scs, s.1 < 2 ^ 64 ∧ s.2 < 2 ^ 64 := fun s hs => by
          have := sm12 s hs
          omega
        have limS := lim_sp (w := (wn : Int)) (by omega) w28 lim sm12
        refine ⟨.ref q', rfl, .int (wn : Int), rfl, q', g, (wn : Int), 10 ^ 30, rfl, hg8.nx e917 (fun _ => id), by have := lim.dep; omega, lim.ok, Int.le_refl _, by have := lim.toks; omega, by omega, lt64, fun sp H18 nsp e18 hsp => ⟨sp, g.sp wn, rfl, hsp.nx (Nx.refl _) (fun _ _ => trivial), limS, fun x2 H19 nx2 e19 P19 => ?_⟩⟩
        have e1719 := e18.trans e19
        refine ⟨.ref D, rfl, D, rfl, ⟨_, SqL.of (e1719 _ _ hD17)⟩, fun D2 hD2 => lc_list (xs := (intN M).map V.int) (fun i3 H20 => Ex H19 H20 ∧ H20 D2 = some (.lst ((((intN M).take i3).map fun n => (wn : Int) * n).map V.int))) ⟨Ex.new hD2, upd_same⟩ (fun i3 H20 _ w => SqL.of (w.1 _ _ (e1719 _ _ hD17))) (fun i3 v H20 hx w => ?_) (fun H20 w => ?_)⟩
        · obtain ⟨e20, hL⟩ := w
          rw [List.getElem?_map] at hx
          obtain ⟨n, gn, rfl⟩ := Option.map_eq_some_iff.mp hx
          have nb : 0 ≤ n ∧ n ≤ 13 := by
            obtain ⟨m, hm, rfl⟩ := List.mem_map.mp (List.mem_of_getElem? gn)
            have := bM m hm
            omega
          refine ⟨rfl, _, rfl, _, rfl, _, n, rfl, rfl, .inr ⟨by omega, by omega⟩, _, hL, small20 (by rw [List.length_map, List.length_map, List.length_take]; omega), e20.mut hD2, ?_⟩
          rw [upd_same, List.take_succ, gn, List.map_append, List.map_append]
          rfl
        obtain ⟨e20, hL⟩ := w
        rw [List.length_map, List.take_length] at hL
        refine ⟨x2, g.sp wn, D2, (intN M).map fun n => (wn : Int) * n, rfl, P19.mono e20, limS, hL, by rw [List.length_map]; omega, by rw [List.length_map]; omega, fun n hn => ?_, fun fr H21 nfr e21 hfr => ?_⟩
        · obtain ⟨m, hm, rfl⟩ := List.mem_map.mp hn
          exact Int.mul_nonneg (by omega) (nnM m hm)
        rw [stk_sp (by omega) g M] at hfr
        have e1721 := (e1719.trans e20).trans e21
        have hdu21 := e1721 _ _ hdu17
        refine ⟨.ref fr, rfl, .ref du, rfl, du, rfl, ⟨_, SqL.of hdu21⟩, fun D3 hD3 => lc_list (xs := (stk g.rd (intN M)).map V.int) (fun i3 H22 => Ex H21 H22 ∧ H22 D3 = some (.lst ((((stk g.rd (intN M)).take i3).map fun n => (wn : Int) * n).map V.int))) ⟨Ex.new hD3, upd_same⟩ (fun i3 H22 _ w => SqL.of (w.1 _ _ hdu21)) (fun i3 v H22 hx w => ?_) (fun H22 w => ?_)⟩
        · obtain ⟨e22, hL⟩ := w
          rw [List.getElem?_map] at hx
          obtain ⟨n, gn, rfl⟩ := Option.map_eq_some_iff.mp hx
          have nb := stk_bd g.rd n (List.mem_of_getElem? gn)
          refine ⟨rfl, _, rfl, _, rfl, _, n, rfl, rfl, .inr ⟨by omega, by omega⟩, _, hL, small20 (by rw [List.length_map, List.length_map, List.length_take]; omega), e22.mut hD3, ?_⟩
          rw [upd_same, List.take_succ, gn, List.map_append, List.map_append]
          rfl
        obtain ⟨e22, hL3⟩ := w
        rw [List.length_map, List.take_length] at hL3
        refine ⟨pdI _, pdI _, dp_ints (e22 _ _ hfr), dp_ints hL3, shaped_I _, shaped_I _, _, rfl, ?_⟩
        rw [neI]
        refine iteF ?_
        have e1722 := e1721.trans e22
        refine ⟨.ref x, rfl, .ref D, rfl, x, g, D, intN M, rfl, P8.nx (e917.trans e1722.nx), lim, e1722 _ _ hD17, by omega, by omega, nnM, fun t3 H23 nt3 e23 ht3 => ⟨.ref du, rfl, pdI _, pdI _, dp_ints ht3, dp_ints (e23 _ _ (e1722 _ _ hdu17)), shaped_I _, shaped_I _, _, rfl, ?_⟩⟩
        rw [neI]
        refine iteF ?_
        exact ⟨_, _, _, _, _, _, _, rfl, e917.trans (e1722.trans e23).nx, (hb17.ex (e1722.trans e23)).mono (by omega)⟩
      · obtain ⟨y7, y8, y9, y10, y11, y12, y13, rfl, e10, hb10⟩ := w
        have P10 := P8.nx e10
        obtain ⟨dx, tx, hx20, _⟩ := id P10
        refine ⟨.ref x, rfl, .ref q', rfl, q', g, rfl, hg8.nx e10 (fun _ => id), lim, fun y Ha ny ea Py => ?_⟩
        have Pxa := P10.mono ea
        obtain ⟨dy, ty, hy, _⟩ := id Py
        have dg : g.dep ≤ 30 := by omega
        refine ⟨x, dx, _, .ref C_pg, rfl, ea _ _ hx20, .ins hy, nfC, x, g, .ref y, rfl, Pxa, dg, .inl ⟨y, g, rfl, Py, dg, fun Hb eb => ⟨_, rfl, ?_⟩⟩⟩
        rw [decide_eq_true rfl]
        refine ⟨_, rfl, iteF ?_⟩
        exact ⟨_, _, _, _, _, _, _, _, _, _, _, _, _, rfl, (e28.trans e10).trans (ea.trans eb).nx⟩
    · obtain ⟨y1, y2, y3, y4, y5, y6, y7, y8, y9, y10, y11, y12, y13, rfl, e1⟩ := z
      refine fun v dv nv ndv nev => ⟨v, dv, g37, congrArg (fun t => [V.ref v, V.str t]) txt37, upd_same, lim37, fun H2 fr2 P2 => ⟨rfl, ?_⟩⟩
      refine ⟨by show 2 ≤ sizeLine; decide, fun sz nsz => ?_⟩
      have es := Ex.new (o := .lst [V.int 3, V.int 1]) nsz
      refine ⟨v, g37, sz, [3, 1], rfl, P2.mono es, lim37, upd_same, by decide, by decide, by decide, fun r H3 nr e3 hr3 => ?_⟩
      rw [v37a] at hr3
      refine fun v1 dv1 nv1 ndv1 ne1 => ⟨v1, dv1, .nil, congrArg (fun t => [V.ref v1, V.str t]) txt_none, upd_same, lim_nil, fun H5 fr5 P5 => ⟨rfl, ?_⟩⟩
      refine ⟨by show 2 ≤ sizeLine; decide, fun sz2 nsz2 => ?_⟩
      have es2 := Ex.new (o := .lst [V.int 0, V.int 5]) nsz2
      refine ⟨v1, .nil, sz2, [0, 5], rfl, P5.mono es2, lim_nil, upd_same, by decide, by decide, by decide, fun r2 H6 nr2 e6 hr6 => ?_⟩
      rw [v37b] at hr6
      have hr5 : H5 r = some (.lst (([27, 9] : List Int).map V.int)) := by
        have a1 : r ≠ v1 := fun e => by rw [e, nv1] at hr3; cases hr3
        have a2 : r ≠ dv1 := fun e => by rw [e, ndv1] at hr3; cases hr3
        refine fr5 r _ a1 ?_
        rw [upd_ne a1, upd_ne a2]
        exact hr3
      refine ⟨by show 2 ≤ sizeLine; decide, fun L1 n1 => ⟨by show 2 ≤ sizeLine; decide, fun L2 n2 => ⟨by show 2 ≤ sizeLine; decide, fun L3 n3 => ⟨by show 2 ≤ sizeLine; decide, fun L4 n4 => ?_⟩⟩⟩⟩
      have z1 := Ex.new (o := .lst [V.ref r, V.ref r2]) n1
      have z2 := Ex.new (o := .lst [V.int 27, V.int 9]) n2
      have z3 := Ex.new (o := .lst [V.int 0, V.int 0]) n3
      have z4 := Ex.new (o := .lst [V.ref L2, V.ref L3]) n4
      have zz := ((z1.trans z2).trans z3).trans z4
      refine ⟨pdLL [[27, 9], [0, 0]], pdLL [[27, 9], [0, 0]], .lst (SqL.of (((z2.trans z3).trans z4) _ _ upd_same)) (.cons (dp_ints ((es2.trans (e6.trans zz)) _ _ hr5)) (.cons (dp_ints (zz _ _ hr6)) .nil)), .lst (SqL.of upd_same) (.cons (dp_ints (ns := [27, 9]) ((z3.trans z4) _ _ upd_same)) (.cons (dp_ints (ns := [0, 0]) (z4 _ _ upd_same)) .nil)), shaped_LL _, shaped_LL _, ?_⟩
      rw [eqv_LL, decide_eq_true rfl]
      exact q _
end
end Kb
namespace Kb
open PySem PySem.Spec PyProof.Rows L2 StX TL
theorem all_mk {P : Program} {w : World} {K : FrK} {h : Heap} {mg : Str → Option Value} {fa : Addr} (X : K.In h) (G : h.Ns mainGlobals mg) (hfa : mg "law" = some (.ref fa)) (c : obsM fsAll msAll K = valM msAll)
    : ∃ fd : FuncData, (∀ (s : Shared) (v : Value), BindsTo s fd ⟨[v], []⟩ [("script", v)]) ∧ ∀ base : Heap, K.In base → base.Ns mainGlobals mg → FnG P w K mg base 22 fa fd ["script"] (spLaw K) := by
  have a_read_digits : PySem.W.nsIn K mainGlobals "read_digits" = some (some (.ref (gA "read_digits" K))) := eqV2_ok (obs_fact c 0 0 (r := fs_0) rfl rfl)
  have a_read_number : PySem.W.nsIn K mainGlobals "read_number" = some (some (.ref (gA "read_number" K))) := eqV2_ok (obs_fact c 0 1 (r := fs_0) rfl rfl)
  have a_read_scan : PySem.W.nsIn K mainGlobals "read_scan" = some (some (.ref (gA "read_scan" K))) := eqV2_ok (obs_fact c 0 2 (r := fs_0) rfl rfl)
  have a_read_times : PySem.W.nsIn K mainGlobals "read_times" = some (some (.ref (gA "read_times" K))) := eqV2_ok (obs_fact c 0 3 (r := fs_0) rfl rfl)
  have a_read_text : PySem.W.nsIn K mainGlobals "read_text" = some (some (.ref (gA "read_text" K))) := eqV2_ok (obs_fact c 0 4 (r := fs_0) rfl rfl)
  have a__law_kettle : PySem.W.nsIn K mainGlobals "_law_kettle" = some (some (.ref (gA "_law_kettle" K))) := eqV2_ok (obs_fact c 0 5 (r := fs_0) rfl rfl)
  have a__law_scoop : PySem.W.nsIn K mainGlobals "_law_scoop" = some (some (.ref (gA "_law_scoop" K))) := eqV2_ok (obs_fact c 0 6 (r := fs_0) rfl rfl)
  have a__law_scans : PySem.W.nsIn K mainGlobals "_law_scans" = some (some (.ref (gA "_law_scans" K))) := eqV2_ok (obs_fact c 0 7 (r := fs_0) rfl rfl)
  have a__law_nodes : PySem.W.nsIn K mainGlobals "_law_nodes" = some (some (.ref (gA "_law_nodes" K))) := eqV2_ok (obs_fact c 0 8 (r := fs_0) rfl rfl)
  have a__law_length : PySem.W.nsIn K mainGlobals "_law_length" = some (some (.ref (gA "_law_length" K))) := eqV2_ok (obs_fact c 0 9 (r := fs_0) rfl rfl)
  have a__law_small : PySem.W.nsIn K mainGlobals "_law_small" = some (some (.ref (gA "_law_small" K))) := eqV2_ok (obs_fact c 0 10 (r := fs_0) rfl rfl)
  have a__law_words : PySem.W.nsIn K mainGlobals "_law_words" = some (some (.ref (gA "_law_words" K))) := eqV2_ok (obs_fact c 0 11 (r := fs_0) rfl rfl)
  have a__law_made : PySem.W.nsIn K mainGlobals "_law_made" = some (some (.ref (gA "_law_made" K))) := eqV2_ok (obs_fact c 0 12 (r := fs_0) rfl rfl)
  have a__law_reads : PySem.W.nsIn K mainGlobals "_law_reads" = some (some (.ref (gA "_law_reads" K))) := eqV2_ok (obs_fact c 0 13 (r := fs_0) rfl rfl)
  have a__law_spread : PySem.W.nsIn K mainGlobals "_law_spread" = some (some (.ref (gA "_law_spread" K))) := eqV2_ok (obs_fact c 0 14 (r := fs_0) rfl rfl)
  have a__law_hits : PySem.W.nsIn K mainGlobals "_law_hits" = some (some (.ref (gA "_law_hits" K))) := eqV2_ok (obs_fact c 0 15 (r := fs_0) rfl rfl)
  have a_check_program : PySem.W.nsIn K mainGlobals "check_program" = some (some (.ref (gA "check_program" K))) := eqV2_ok (obs_fact c 0 16 (r := fs_0) rfl rfl)
  have a_is_integer : PySem.W.nsIn K mainGlobals "is_integer" = some (some (.ref (gA "is_integer" K))) := eqV2_ok (obs_fact c 0 17 (r := fs_0) rfl rfl)
  have a_is_from_zero : PySem.W.nsIn K mainGlobals "is_from_zero" = some (some (.ref (gA "is_from_zero" K))) := eqV2_ok (obs_fact c 0 18 (r := fs_0) rfl rfl)
  have a_check_sizes : PySem.W.nsIn K mainGlobals "check_sizes" = some (some (.ref (gA "check_sizes" K))) := eqV2_ok (obs_fact c 0 19 (r := fs_0) rfl rfl)
  have a_is_repeat : PySem.W.nsIn K mainGlobals "is_repeat" = some (some (.ref (gA "is_repeat" K))) := eqV2_ok (obs_fact c 0 20 (r := fs_0) rfl rfl)
  have a_placed_scans : PySem.W.nsIn K mainGlobals "placed_scans" = some (some (.ref (gA "placed_scans" K))) := eqV2_ok (obs_fact c 0 21 (r := fs_0) rfl rfl)
  have a_start_of : PySem.W.nsIn K mainGlobals "start_of" = some (some (.ref (gA "start_of" K))) := eqV2_ok (obs_fact c 0 22 (r := fs_0) rfl rfl)
  have a_shared_intervals : PySem.W.nsIn K mainGlobals "shared_intervals" = some (some (.ref (gA "shared_intervals" K))) := eqV2_ok (obs_fact c 0 23 (r := fs_0) rfl rfl)
  have a_straight_rows : PySem.W.nsIn K mainGlobals "straight_rows" = some (some (.ref (gA "straight_rows" K))) := eqV2_ok (obs_fact c 0 24 (r := fs_0) rfl rfl)
  have a_straight_pieces : PySem.W.nsIn K mainGlobals "straight_pieces" = some (some (.ref (gA "straight_pieces" K))) := eqV2_ok (obs_fact c 0 25 (r := fs_0) rfl rfl)
  have a_first_reaching : PySem.W.nsIn K mainGlobals "first_reaching" = some (some (.ref (gA "first_reaching" K))) := eqV2_ok (obs_fact c 0 26 (r := fs_0) rfl rfl)
  have a_scan_outside : PySem.W.nsIn K mainGlobals "scan_outside" = some (some (.ref (gA "scan_outside" K))) := eqV2_ok (obs_fact c 0 27 (r := fs_0) rfl rfl)
  have a_others_of : PySem.W.nsIn K mainGlobals "others_of" = some (some (.ref (gA "others_of" K))) := eqV2_ok (obs_fact c 0 28 (r := fs_0) rfl rfl)
  have a_joined : PySem.W.nsIn K mainGlobals "joined" = some (some (.ref (gA "joined" K))) := eqV2_ok (obs_fact c 0 29 (r := fs_0) rfl rfl)
  have a_put_ahead : PySem.W.nsIn K mainGlobals "put_ahead" = some (some (.ref (gA "put_ahead" K))) := eqV2_ok (obs_fact c 1 0 (r := fs_1) rfl rfl)
  have a_three_behind : PySem.W.nsIn K mainGlobals "three_behind" = some (some (.ref (gA "three_behind" K))) := eqV2_ok (obs_fact c 1 1 (r := fs_1) rfl rfl)
  have a_multiplied : PySem.W.nsIn K mainGlobals "multiplied" = some (some (.ref (gA "multiplied" K))) := eqV2_ok (obs_fact c 1 2 (r := fs_1) rfl rfl)
  have a_three_times : PySem.W.nsIn K mainGlobals "three_times" = some (some (.ref (gA "three_times" K))) := eqV2_ok (obs_fact c 1 3 (r := fs_1) rfl rfl)
  have a_three_of : PySem.W.nsIn K mainGlobals "three_of" = some (some (.ref (gA "three_of" K))) := eqV2_ok (obs_fact c 1 4 (r := fs_1) rfl rfl)
  have a_is_piece : PySem.W.nsIn K mainGlobals "is_piece" = some (some (.ref (gA "is_piece" K))) := eqV2_ok (obs_fact c 1 5 (r := fs_1) rfl rfl)
  have a_are_pieces : PySem.W.nsIn K mainGlobals "are_pieces" = some (some (.ref (gA "are_pieces" K))) := eqV2_ok (obs_fact c 1 6 (r := fs_1) rfl rfl)
  have a_check_distances : PySem.W.nsIn K mainGlobals "check_distances" = some (some (.ref (gA "check_distances" K))) := eqV2_ok (obs_fact c 1 7 (r := fs_1) rfl rfl)
  have a_flattened : PySem.W.nsIn K mainGlobals "flattened" = some (some (.ref (gA "flattened" K))) := eqV2_ok (obs_fact c 1 8 (r := fs_1) rfl rfl)
  have a_scan_length : PySem.W.nsIn K mainGlobals "scan_length" = some (some (.ref (gA "scan_length" K))) := eqV2_ok (obs_fact c 1 9 (r := fs_1) rfl rfl)
  have a_count_all : PySem.W.nsIn K mainGlobals "count_all" = some (some (.ref (gA "count_all" K))) := eqV2_ok (obs_fact c 1 10 (r := fs_1) rfl rfl)
  have a_summary_from : PySem.W.nsIn K mainGlobals "summary_from" = some (some (.ref (gA "summary_from" K))) := eqV2_ok (obs_fact c 1 11 (r := fs_1) rfl rfl)
  have a_summary_of : PySem.W.nsIn K mainGlobals "summary_of" = some (some (.ref (gA "summary_of" K))) := eqV2_ok (obs_fact c 1 12 (r := fs_1) rfl rfl)
  have a_profile_of : PySem.W.nsIn K mainGlobals "profile_of" = some (some (.ref (gA "profile_of" K))) := eqV2_ok (obs_fact c 1 13 (r := fs_1) rfl rfl)
  have a_check_size : PySem.W.nsIn K mainGlobals "check_size" = some (some (.ref (gA "check_size" K))) := eqV2_ok (obs_fact c 1 14 (r := fs_1) rfl rfl)
  have a_count_beyond : PySem.W.nsIn K mainGlobals "count_beyond" = some (some (.ref (gA "count_beyond" K))) := eqV2_ok (obs_fact c 1 15 (r := fs_1) rfl rfl)
  have a_stacked_hits : PySem.W.nsIn K mainGlobals "stacked_hits" = some (some (.ref (gA "stacked_hits" K))) := eqV2_ok (obs_fact c 1 16 (r := fs_1) rfl rfl)
  have a_law : PySem.W.nsIn K mainGlobals "law" = some (some (.ref (gA "law" K))) := eqV2_ok (obs_fact c 1 17 (r := fs_1) rfl rfl)
  have aC_pg : PySem.W.nsIn K mainGlobals "Program" = some (some (.ref (gA "Program" K))) := eqV2_ok (obs_fact c 1 18 (r := fs_1) rfl rfl)
  have pg_pg : PySem.W.plainGet K (gA "Program" K) Str.empty = true := obs_fact c 1 19 (r := fs_1) rfl rfl
  have hd_pg : PySem.W.hasDictIn K (gA "Program" K) = true := obs_fact c 1 20 (r := fs_1) rfl rfl
  have po_pg : PySem.W.plainOver K (gA "Program" K) = true := obs_fact c 1 21 (r := fs_1) rfl rfl
  have sa_pg : PySem.W.findIn K (.ref (gA "Program" K)) "__setattr__" = some (some (.builtin "object.__setattr__")) := eqV2_ok (obs_fact c 1 22 (r := fs_1) rfl rfl)
  have mk_pg : PySem.W.makesIn K (gA "Program" K) = true := obs_fact c 1 23 (r := fs_1) rfl rfl
  have kc_pg : PySem.W.keepIn K (.ref (gA "Program" K)) = true := obs_fact c 1 24 (r := fs_1) rfl rfl
  have na0_pg : PySem.W.findIn K (.ref (gA "Program" K)) "parts" = some none := eqV2_ok (obs_fact c 1 25 (r := fs_1) rfl rfl)
  have xha_pg : PySem.W.findIn K (.ref (gA "Program" K)) "__class__" = some (some (.builtin "object.__class__")) := eqV2_ok (obs_fact c 1 26 (r := fs_1) rfl rfl)
  have xhn : PySem.W.specialIn K (.builtin "object.__class__") "__get__" = some (some (.builtin "getset_descriptor.__get__")) := eqV2_ok (obs_fact c 1 27 (r := fs_1) rfl rfl)
  have xtk : PySem.W.takesIn K (.builtin "object.__class__") = some true := isSome2_ok (obs_fact c 1 28 (r := fs_1) rfl rfl)
  have xhm_pg : PySem.W.mroIn K (gA "Program" K) (.type "object") = some true := isSome2_ok (obs_fact c 1 29 (r := fs_1) rfl rfl)
  have xme_pg : PySem.W.kitOne K (.ref (gA "Program" K)) (.ref (gA "Program" K)) = some true := isSome2_ok (obs_fact c 2 0 (r := fs_2) rfl rfl)
  have xnf_pg : PySem.W.notFirst K (gA "Program" K) (.ref (gA "Program" K)) = true := obs_fact c 2 1 (r := fs_2) rfl rfl
  have aC_pf : PySem.W.nsIn K mainGlobals "Profile" = some (some (.ref (gA "Profile" K))) := eqV2_ok (obs_fact c 2 2 (r := fs_2) rfl rfl)
  have pg_pf : PySem.W.plainGet K (gA "Profile" K) Str.empty = true := obs_fact c 2 3 (r := fs_2) rfl rfl
  have hd_pf : PySem.W.hasDictIn K (gA "Profile" K) = true := obs_fact c 2 4 (r := fs_2) rfl rfl
  have po_pf : PySem.W.plainOver K (gA "Profile" K) = true := obs_fact c 2 5 (r := fs_2) rfl rfl
  have sa_pf : PySem.W.findIn K (.ref (gA "Profile" K)) "__setattr__" = some (some (.builtin "object.__setattr__")) := eqV2_ok (obs_fact c 2 6 (r := fs_2) rfl rfl)
  have mk_pf : PySem.W.makesIn K (gA "Profile" K) = true := obs_fact c 2 7 (r := fs_2) rfl rfl
  have kc_pf : PySem.W.keepIn K (.ref (gA "Profile" K)) = true := obs_fact c 2 8 (r := fs_2) rfl rfl
  have na0_pf : PySem.W.findIn K (.ref (gA "Profile" K)) "cold" = some none := eqV2_ok (obs_fact c 2 9 (r := fs_2) rfl rfl)
  have na1_pf : PySem.W.findIn K (.ref (gA "Profile" K)) "_pieces" = some none := eqV2_ok (obs_fact c 2 10 (r := fs_2) rfl rfl)
  have xha_pf : PySem.W.findIn K (.ref (gA "Profile" K)) "__class__" = some (some (.builtin "object.__class__")) := eqV2_ok (obs_fact c 2 11 (r := fs_2) rfl rfl)
  have xhm_pf : PySem.W.mroIn K (gA "Profile" K) (.type "object") = some true := isSome2_ok (obs_fact c 2 12 (r := fs_2) rfl rfl)
  have xme_pf : PySem.W.kitOne K (.ref (gA "Profile" K)) (.ref (gA "Profile" K)) = some true := isSome2_ok (obs_fact c 2 13 (r := fs_2) rfl rfl)
  have xnf_pf : PySem.W.notFirst K (gA "Profile" K) (.ref (gA "Profile" K)) = true := obs_fact c 2 14 (r := fs_2) rfl rfl
  have aC_sm : PySem.W.nsIn K mainGlobals "Summary" = some (some (.ref (gA "Summary" K))) := eqV2_ok (obs_fact c 2 15 (r := fs_2) rfl rfl)
  have pg_sm : PySem.W.plainGet K (gA "Summary" K) Str.empty = true := obs_fact c 2 16 (r := fs_2) rfl rfl
  have hd_sm : PySem.W.hasDictIn K (gA "Summary" K) = true := obs_fact c 2 17 (r := fs_2) rfl rfl
  have po_sm : PySem.W.plainOver K (gA "Summary" K) = true := obs_fact c 2 18 (r := fs_2) rfl rfl
  have sa_sm : PySem.W.findIn K (.ref (gA "Summary" K)) "__setattr__" = some (some (.builtin "object.__setattr__")) := eqV2_ok (obs_fact c 2 19 (r := fs_2) rfl rfl)
  have mk_sm : PySem.W.makesIn K (gA "Summary" K) = true := obs_fact c 2 20 (r := fs_2) rfl rfl
  have kc_sm : PySem.W.keepIn K (.ref (gA "Summary" K)) = true := obs_fact c 2 21 (r := fs_2) rfl rfl
  have na0_sm : PySem.W.findIn K (.ref (gA "Summary" K)) "_firsts" = some none := eqV2_ok (obs_fact c 2 22 (r := fs_2) rfl rfl)
  have na1_sm : PySem.W.findIn K (.ref (gA "Summary" K)) "_lasts" = some none := eqV2_ok (obs_fact c 2 23 (r := fs_2) rfl rfl)
  have na2_sm : PySem.W.findIn K (.ref (gA "Summary" K)) "profile" = some none := eqV2_ok (obs_fact c 2 24 (r := fs_2) rfl rfl)
  have xha_sm : PySem.W.findIn K (.ref (gA "Summary" K)) "__class__" = some (some (.builtin "object.__class__")) := eqV2_ok (obs_fact c 2 25 (r := fs_2) rfl rfl)
  have xhm_sm : PySem.W.mroIn K (gA "Summary" K) (.type "object") = some true := isSome2_ok (obs_fact c 2 26 (r := fs_2) rfl rfl)
  have xme_sm : PySem.W.kitOne K (.ref (gA "Summary" K)) (.ref (gA "Summary" K)) = some true := isSome2_ok (obs_fact c 2 27 (r := fs_2) rfl rfl)
  have xnf_sm : PySem.W.notFirst K (gA "Summary" K) (.ref (gA "Summary" K)) = true := obs_fact c 2 28 (r := fs_2) rfl rfl
  have a_m_pg___init__ : PySem.W.findIn K (.ref (gA "Program" K)) "__init__" = some (some (.ref (mA "Program" "__init__" K))) := eqV2_ok (obs_fact c 2 29 (r := fs_2) rfl rfl)
  have i_m_pg___init__ : PySem.W.isFn K (.ref (mA "Program" "__init__" K)) = true := obs_fact c 3 0 (r := fs_3) rfl rfl
  have a_m_pg___eq__ : PySem.W.findIn K (.ref (gA "Program" K)) "__eq__" = some (some (.ref (mA "Program" "__eq__" K))) := eqV2_ok (obs_fact c 3 1 (r := fs_3) rfl rfl)
  have i_m_pg___eq__ : PySem.W.isFn K (.ref (mA "Program" "__eq__" K)) = true := obs_fact c 3 2 (r := fs_3) rfl rfl
  have a_m_pf___init__ : PySem.W.findIn K (.ref (gA "Profile" K)) "__init__" = some (some (.ref (mA "Profile" "__init__" K))) := eqV2_ok (obs_fact c 3 3 (r := fs_3) rfl rfl)
  have i_m_pf___init__ : PySem.W.isFn K (.ref (mA "Profile" "__init__" K)) = true := obs_fact c 3 4 (r := fs_3) rfl rfl
  have a_m_sm___init__ : PySem.W.findIn K (.ref (gA "Summary" K)) "__init__" = some (some (.ref (mA "Summary" "__init__" K))) := eqV2_ok (obs_fact c 3 5 (r := fs_3) rfl rfl)
  have i_m_sm___init__ : PySem.W.isFn K (.ref (mA "Summary" "__init__" K)) = true := obs_fact c 3 6 (r := fs_3) rfl rfl
  have a_m_pf___call__ : PySem.W.findIn K (.ref (gA "Profile" K)) "__call__" = some (some (.ref (mA "Profile" "__call__" K))) := eqV2_ok (obs_fact c 3 7 (r := fs_3) rfl rfl)
  have i_m_pf___call__ : PySem.W.isFn K (.ref (mA "Profile" "__call__" K)) = true := obs_fact c 3 8 (r := fs_3) rfl rfl
  have fi_m_pf___call__ : PySem.W.fnIn K (mA "Profile" "__call__" K) = true := obs_fact c 3 9 (r := fs_3) rfl rfl
  have z_len : PySem.W.nsIn K mainGlobals "len" = some none := eqV2_ok (obs_fact c 3 10 (r := fs_3) rfl rfl)
  have z_abs : PySem.W.nsIn K mainGlobals "abs" = some none := eqV2_ok (obs_fact c 3 11 (r := fs_3) rfl rfl)
  have z_max : PySem.W.nsIn K mainGlobals "max" = some none := eqV2_ok (obs_fact c 3 12 (r := fs_3) rfl rfl)
  have z_min : PySem.W.nsIn K mainGlobals "min" = some none := eqV2_ok (obs_fact c 3 13 (r := fs_3) rfl rfl)
  have z_sum : PySem.W.nsIn K mainGlobals "sum" = some none := eqV2_ok (obs_fact c 3 14 (r := fs_3) rfl rfl)
  have z_all : PySem.W.nsIn K mainGlobals "all" = some none := eqV2_ok (obs_fact c 3 15 (r := fs_3) rfl rfl)
  have z_repr : PySem.W.nsIn K mainGlobals "repr" = some none := eqV2_ok (obs_fact c 3 16 (r := fs_3) rfl rfl)
  have z_sorted : PySem.W.nsIn K mainGlobals "sorted" = some none := eqV2_ok (obs_fact c 3 17 (r := fs_3) rfl rfl)
  have z_isinstance : PySem.W.nsIn K mainGlobals "isinstance" = some none := eqV2_ok (obs_fact c 3 18 (r := fs_3) rfl rfl)
  have z_int : PySem.W.nsIn K mainGlobals "int" = some none := eqV2_ok (obs_fact c 3 19 (r := fs_3) rfl rfl)
  have z_bool : PySem.W.nsIn K mainGlobals "bool" = some none := eqV2_ok (obs_fact c 3 20 (r := fs_3) rfl rfl)
  have z_list : PySem.W.nsIn K mainGlobals "list" = some none := eqV2_ok (obs_fact c 3 21 (r := fs_3) rfl rfl)
  have z_tuple : PySem.W.nsIn K mainGlobals "tuple" = some none := eqV2_ok (obs_fact c 3 22 (r := fs_3) rfl rfl)
  have z_set : PySem.W.nsIn K mainGlobals "set" = some none := eqV2_ok (obs_fact c 3 23 (r := fs_3) rfl rfl)
  have z_range : PySem.W.nsIn K mainGlobals "range" = some none := eqV2_ok (obs_fact c 3 24 (r := fs_3) rfl rfl)
  have z_zip : PySem.W.nsIn K mainGlobals "zip" = some none := eqV2_ok (obs_fact c 3 25 (r := fs_3) rfl rfl)
  have z_str : PySem.W.nsIn K mainGlobals "str" = some none := eqV2_ok (obs_fact c 3 26 (r := fs_3) rfl rfl)
  have z_enumerate : PySem.W.nsIn K mainGlobals "enumerate" = some none := eqV2_ok (obs_fact c 3 27 (r := fs_3) rfl rfl)
  have z_reversed : PySem.W.nsIn K mainGlobals "reversed" = some none := eqV2_ok (obs_fact c 3 28 (r := fs_3) rfl rfl)
  have e := hfa.symm.trans (PySem.W.mg_of X G a_law)
  cases e
  obtain ⟨fd_Fread_digits, Fread_digits⟩ : ∃ fd, Fun K "read_digits" "read_digits" sread_digits (gA "read_digits" K) fd := obs_fun c 0 (m := ⟨gA "read_digits", "read_digits", "read_digits", hdS 53⟩) rfl
  obtain ⟨fd_Fread_number, Fread_number⟩ : ∃ fd, Fun K "read_number" "read_number" sread_number (gA "read_number" K) fd := obs_fun c 1 (m := ⟨gA "read_number", "read_number", "read_number", hdS 54⟩) rfl
  obtain ⟨fd_Fread_scan, Fread_scan⟩ : ∃ fd, Fun K "read_scan" "read_scan" sread_scan (gA "read_scan" K) fd := obs_fun c 2 (m := ⟨gA "read_scan", "read_scan", "read_scan", hdS 55⟩) rfl
  obtain ⟨fd_Fread_times, Fread_times⟩ : ∃ fd, Fun K "read_times" "read_times" sread_times (gA "read_times" K) fd := obs_fun c 3 (m := ⟨gA "read_times", "read_times", "read_times", hdS 56⟩) rfl
  obtain ⟨fd_Fread_text, Fread_text⟩ : ∃ fd, Fun K "read_text" "read_text" sread_text (gA "read_text" K) fd := obs_fun c 4 (m := ⟨gA "read_text", "read_text", "read_text", hdS 57⟩) rfl
  obtain ⟨fd_F_law_kettle, F_law_kettle⟩ : ∃ fd, Fun K "_law_kettle" "_law_kettle" s_law_kettle (gA "_law_kettle" K) fd := obs_fun c 5 (m := ⟨gA "_law_kettle", "_law_kettle", "_law_kettle", hdS 82⟩) rfl
  obtain ⟨fd_F_law_scoop, F_law_scoop⟩ : ∃ fd, Fun K "_law_scoop" "_law_scoop" s_law_scoop (gA "_law_scoop" K) fd := obs_fun c 6 (m := ⟨gA "_law_scoop", "_law_scoop", "_law_scoop", hdS 83⟩) rfl
  obtain ⟨fd_F_law_scans, F_law_scans⟩ : ∃ fd, Fun K "_law_scans" "_law_scans" s_law_scans (gA "_law_scans" K) fd := obs_fun c 7 (m := ⟨gA "_law_scans", "_law_scans", "_law_scans", hdS 84⟩) rfl
  obtain ⟨fd_F_law_nodes, F_law_nodes⟩ : ∃ fd, Fun K "_law_nodes" "_law_nodes" s_law_nodes (gA "_law_nodes" K) fd := obs_fun c 8 (m := ⟨gA "_law_nodes", "_law_nodes", "_law_nodes", hdS 85⟩) rfl
  obtain ⟨fd_F_law_length, F_law_length⟩ : ∃ fd, Fun K "_law_length" "_law_length" s_law_length (gA "_law_length" K) fd := obs_fun c 9 (m := ⟨gA "_law_length", "_law_length", "_law_length", hdS 86⟩) rfl
  obtain ⟨fd_F_law_small, F_law_small⟩ : ∃ fd, Fun K "_law_small" "_law_small" s_law_small (gA "_law_small" K) fd := obs_fun c 10 (m := ⟨gA "_law_small", "_law_small", "_law_small", hdS 87⟩) rfl
  obtain ⟨fd_F_law_words, F_law_words⟩ : ∃ fd, Fun K "_law_words" "_law_words" s_law_words (gA "_law_words" K) fd := obs_fun c 11 (m := ⟨gA "_law_words", "_law_words", "_law_words", hdS 88⟩) rfl
  obtain ⟨fd_F_law_made, F_law_made⟩ : ∃ fd, Fun K "_law_made" "_law_made" s_law_made (gA "_law_made" K) fd := obs_fun c 12 (m := ⟨gA "_law_made", "_law_made", "_law_made", hdS 89⟩) rfl
  obtain ⟨fd_F_law_reads, F_law_reads⟩ : ∃ fd, Fun K "_law_reads" "_law_reads" s_law_reads (gA "_law_reads" K) fd := obs_fun c 13 (m := ⟨gA "_law_reads", "_law_reads", "_law_reads", hdS 90⟩) rfl
  obtain ⟨fd_F_law_spread, F_law_spread⟩ : ∃ fd, Fun K "_law_spread" "_law_spread" s_law_spread (gA "_law_spread" K) fd := obs_fun c 14 (m := ⟨gA "_law_spread", "_law_spread", "_law_spread", hdS 91⟩) rfl
  obtain ⟨fd_F_law_hits, F_law_hits⟩ : ∃ fd, Fun K "_law_hits" "_law_hits" s_law_hits (gA "_law_hits" K) fd := obs_fun c 15 (m := ⟨gA "_law_hits", "_law_hits", "_law_hits", hdS 92⟩) rfl
  obtain ⟨fd_Fcheck_program, Fcheck_program⟩ : ∃ fd, Fun K "check_program" "check_program" scheck_program (gA "check_program" K) fd := obs_fun c 16 (m := ⟨gA "check_program", "check_program", "check_program", hdS 63⟩) rfl
  obtain ⟨fd_Fis_integer, Fis_integer⟩ : ∃ fd, Fun K "is_integer" "is_integer" sis_integer (gA "is_integer" K) fd := obs_fun c 17 (m := ⟨gA "is_integer", "is_integer", "is_integer", hdS 38⟩) rfl
  obtain ⟨fd_Fis_from_zero, Fis_from_zero⟩ : ∃ fd, Fun K "is_from_zero" "is_from_zero" sis_from_zero (gA "is_from_zero" K) fd := obs_fun c 18 (m := ⟨gA "is_from_zero", "is_from_zero", "is_from_zero", hdS 39⟩) rfl
  obtain ⟨fd_Fcheck_sizes, Fcheck_sizes⟩ : ∃ fd, Fun K "check_sizes" "check_sizes" scheck_sizes (gA "check_sizes" K) fd := obs_fun c 19 (m := ⟨gA "check_sizes", "check_sizes", "check_sizes", hdS 43⟩) rfl
  obtain ⟨fd_Fis_repeat, Fis_repeat⟩ : ∃ fd, Fun K "is_repeat" "is_repeat" sis_repeat (gA "is_repeat" K) fd := obs_fun c 20 (m := ⟨gA "is_repeat", "is_repeat", "is_repeat", hdS 10⟩) rfl
  obtain ⟨fd_Fplaced_scans, Fplaced_scans⟩ : ∃ fd, Fun K "placed_scans" "placed_scans" splaced_scans (gA "placed_scans" K) fd := obs_fun c 21 (m := ⟨gA "placed_scans", "placed_scans", "placed_scans", hdS 21⟩) rfl
  obtain ⟨fd_Fstart_of, Fstart_of⟩ : ∃ fd, Fun K "start_of" "start_of" sstart_of (gA "start_of" K) fd := obs_fun c 22 (m := ⟨gA "start_of", "start_of", "start_of", hdS 22⟩) rfl
  obtain ⟨fd_Fshared_intervals, Fshared_intervals⟩ : ∃ fd, Fun K "shared_intervals" "shared_intervals" sshared_intervals (gA "shared_intervals" K) fd := obs_fun c 23 (m := ⟨gA "shared_intervals", "shared_intervals", "shared_intervals", hdS 23⟩) rfl
  obtain ⟨fd_Fstraight_rows, Fstraight_rows⟩ : ∃ fd, Fun K "straight_rows" "straight_rows" sstraight_rows (gA "straight_rows" K) fd := obs_fun c 24 (m := ⟨gA "straight_rows", "straight_rows", "straight_rows", hdS 24⟩) rfl
  obtain ⟨fd_Fstraight_pieces, Fstraight_pieces⟩ : ∃ fd, Fun K "straight_pieces" "straight_pieces" sstraight_pieces (gA "straight_pieces" K) fd := obs_fun c 25 (m := ⟨gA "straight_pieces", "straight_pieces", "straight_pieces", hdS 25⟩) rfl
  obtain ⟨fd_Ffirst_reaching, Ffirst_reaching⟩ : ∃ fd, Fun K "first_reaching" "first_reaching" sfirst_reaching (gA "first_reaching" K) fd := obs_fun c 26 (m := ⟨gA "first_reaching", "first_reaching", "first_reaching", hdS 3⟩) rfl
  obtain ⟨fd_Fscan_outside, Fscan_outside⟩ : ∃ fd, Fun K "scan_outside" "scan_outside" sscan_outside (gA "scan_outside" K) fd := obs_fun c 27 (m := ⟨gA "scan_outside", "scan_outside", "scan_outside", hdS 4⟩) rfl
  obtain ⟨fd_Fothers_of, Fothers_of⟩ : ∃ fd, Fun K "others_of" "others_of" sothers_of (gA "others_of" K) fd := obs_fun c 28 (m := ⟨gA "others_of", "others_of", "others_of", hdS 5⟩) rfl
  obtain ⟨fd_Fjoined, Fjoined⟩ : ∃ fd, Fun K "joined" "joined" sjoined (gA "joined" K) fd := obs_fun c 29 (m := ⟨gA "joined", "joined", "joined", hdS 8⟩) rfl
  obtain ⟨fd_Fput_ahead, Fput_ahead⟩ : ∃ fd, Fun K "put_ahead" "put_ahead" sput_ahead (gA "put_ahead" K) fd := obs_fun c 30 (m := ⟨gA "put_ahead", "put_ahead", "put_ahead", hdS 7⟩) rfl
  obtain ⟨fd_Fthree_behind, Fthree_behind⟩ : ∃ fd, Fun K "three_behind" "three_behind" sthree_behind (gA "three_behind" K) fd := obs_fun c 31 (m := ⟨gA "three_behind", "three_behind", "three_behind", hdS 69⟩) rfl
  obtain ⟨fd_Fmultiplied, Fmultiplied⟩ : ∃ fd, Fun K "multiplied" "multiplied" smultiplied (gA "multiplied" K) fd := obs_fun c 32 (m := ⟨gA "multiplied", "multiplied", "multiplied", hdS 17⟩) rfl
  obtain ⟨fd_Fthree_times, Fthree_times⟩ : ∃ fd, Fun K "three_times" "three_times" sthree_times (gA "three_times" K) fd := obs_fun c 33 (m := ⟨gA "three_times", "three_times", "three_times", hdS 70⟩) rfl
  obtain ⟨fd_Fthree_of, Fthree_of⟩ : ∃ fd, Fun K "three_of" "three_of" sthree_of (gA "three_of" K) fd := obs_fun c 34 (m := ⟨gA "three_of", "three_of", "three_of", hdS 71⟩) rfl
  obtain ⟨fd_Fis_piece, Fis_piece⟩ : ∃ fd, Fun K "is_piece" "is_piece" sis_piece (gA "is_piece" K) fd := obs_fun c 35 (m := ⟨gA "is_piece", "is_piece", "is_piece", hdS 40⟩) rfl
  obtain ⟨fd_Fare_pieces, Fare_pieces⟩ : ∃ fd, Fun K "are_pieces" "are_pieces" sare_pieces (gA "are_pieces" K) fd := obs_fun c 36 (m := ⟨gA "are_pieces", "are_pieces", "are_pieces", hdS 41⟩) rfl
  obtain ⟨fd_Fcheck_distances, Fcheck_distances⟩ : ∃ fd, Fun K "check_distances" "check_distances" scheck_distances (gA "check_distances" K) fd := obs_fun c 37 (m := ⟨gA "check_distances", "check_distances", "check_distances", hdS 46⟩) rfl
  obtain ⟨fd_Fflattened, Fflattened⟩ : ∃ fd, Fun K "flattened" "flattened" sflattened (gA "flattened" K) fd := obs_fun c 38 (m := ⟨gA "flattened", "flattened", "flattened", hdS 16⟩) rfl
  obtain ⟨fd_Fscan_length, Fscan_length⟩ : ∃ fd, Fun K "scan_length" "scan_length" sscan_length (gA "scan_length" K) fd := obs_fun c 39 (m := ⟨gA "scan_length", "scan_length", "scan_length", hdS 2⟩) rfl
  obtain ⟨fd_Fcount_all, Fcount_all⟩ : ∃ fd, Fun K "count_all" "count_all" scount_all (gA "count_all" K) fd := obs_fun c 40 (m := ⟨gA "count_all", "count_all", "count_all", hdS 6⟩) rfl
  obtain ⟨fd_Fsummary_from, Fsummary_from⟩ : ∃ fd, Fun K "summary_from" "summary_from" ssummary_from (gA "summary_from" K) fd := obs_fun c 41 (m := ⟨gA "summary_from", "summary_from", "summary_from", hdS 78⟩) rfl
  obtain ⟨fd_Fsummary_of, Fsummary_of⟩ : ∃ fd, Fun K "summary_of" "summary_of" ssummary_of (gA "summary_of" K) fd := obs_fun c 42 (m := ⟨gA "summary_of", "summary_of", "summary_of", hdS 74⟩) rfl
  obtain ⟨fd_Fprofile_of, Fprofile_of⟩ : ∃ fd, Fun K "profile_of" "profile_of" sprofile_of (gA "profile_of" K) fd := obs_fun c 43 (m := ⟨gA "profile_of", "profile_of", "profile_of", hdS 75⟩) rfl
  obtain ⟨fd_Fcheck_size, Fcheck_size⟩ : ∃ fd, Fun K "check_size" "check_size" scheck_size (gA "check_size" K) fd := obs_fun c 44 (m := ⟨gA "check_size", "check_size", "check_size", hdS 42⟩) rfl
  obtain ⟨fd_Fcount_beyond, Fcount_beyond⟩ : ∃ fd, Fun K "count_beyond" "count_beyond" scount_beyond (gA "count_beyond" K) fd := obs_fun c 45 (m := ⟨gA "count_beyond", "count_beyond", "count_beyond", hdS 18⟩) rfl
  obtain ⟨fd_Fstacked_hits, Fstacked_hits⟩ : ∃ fd, Fun K "stacked_hits" "stacked_hits" sstacked_hits (gA "stacked_hits" K) fd := obs_fun c 46 (m := ⟨gA "stacked_hits", "stacked_hits", "stacked_hits", hdS 80⟩) rfl
  obtain ⟨fd_Flaw, Flaw⟩ : ∃ fd, Fun K "law" "law" slaw (gA "law" K) fd := obs_fun c 47 (m := ⟨gA "law", "law", "law", hdS 93⟩) rfl
  obtain ⟨fd_Fm_pg___init__, Fm_pg___init__⟩ : ∃ fd, Fun K "__init__" "Program.__init__" sProgram___init__ (mA "Program" "__init__" K) fd := obs_fun c 48 (m := ⟨mA "Program" "__init__", "__init__", "Program.__init__", inClass (hdS 62) 0⟩) rfl
  obtain ⟨fd_Fm_pg___eq__, Fm_pg___eq__⟩ : ∃ fd, Fun K "__eq__" "Program.__eq__" sProgram___eq__ (mA "Program" "__eq__" K) fd := obs_fun c 49 (m := ⟨mA "Program" "__eq__", "__eq__", "Program.__eq__", inClass (hdS 62) 7⟩) rfl
  obtain ⟨fd_Fm_pf___init__, Fm_pf___init__⟩ : ∃ fd, Fun K "__init__" "Profile.__init__" sProfile___init__ (mA "Profile" "__init__" K) fd := obs_fun c 50 (m := ⟨mA "Profile" "__init__", "__init__", "Profile.__init__", inClass (hdS 66) 0⟩) rfl
  obtain ⟨fd_Fm_sm___init__, Fm_sm___init__⟩ : ∃ fd, Fun K "__init__" "Summary.__init__" sSummary___init__ (mA "Summary" "__init__" K) fd := obs_fun c 51 (m := ⟨mA "Summary" "__init__", "__init__", "Summary.__init__", inClass (hdS 73) 0⟩) rfl
  obtain ⟨fd_Fm_pf___call__, Fm_pf___call__⟩ : ∃ fd, Fun K "__call__" "Profile.__call__" sProfile___call__ (mA "Profile" "__call__" K) fd := obs_fun c 52 (m := ⟨mA "Profile" "__call__", "__call__", "Profile.__call__", inClass (hdS 66) 4⟩) rfl
  have b_m_pg___init__ := Fm_pg___init__.binds (ps := ["self", "text"]) fun _ _ _ _ _ _ us hl => match us, hl with | [_, _], _ => rfl
  have b_m_pg___eq__ := Fm_pg___eq__.binds (ps := ["self", "other"]) fun _ _ _ _ _ _ us hl => match us, hl with | [_, _], _ => rfl
  have b_m_pf___init__ := Fm_pf___init__.binds (ps := ["self", "cold", "pieces"]) fun _ _ _ _ _ _ us hl => match us, hl with | [_, _, _], _ => rfl
  have b_m_sm___init__ := Fm_sm___init__.binds (ps := ["self", "firsts", "lasts", "profile"]) fun _ _ _ _ _ _ us hl => match us, hl with | [_, _, _, _], _ => rfl
  have b_m_pf___call__ := Fm_pf___call__.binds (ps := ["self", "size"]) fun _ _ _ _ _ _ us hl => match us, hl with | [_, _], _ => rfl
  have B : Bt2 mg := { len := PySem.W.mg_none_of X G z_len, abs := PySem.W.mg_none_of X G z_abs, max := PySem.W.mg_none_of X G z_max, min := PySem.W.mg_none_of X G z_min, sum := PySem.W.mg_none_of X G z_sum, all := PySem.W.mg_none_of X G z_all, repr := PySem.W.mg_none_of X G z_repr, sorted := PySem.W.mg_none_of X G z_sorted, isinstance := PySem.W.mg_none_of X G z_isinstance, int := PySem.W.mg_none_of X G z_int, bool := PySem.W.mg_none_of X G z_bool, list := PySem.W.mg_none_of X G z_list, tuple := PySem.W.mg_none_of X G z_tuple, set := PySem.W.mg_none_of X G z_set, range := PySem.W.mg_none_of X G z_range, zip := PySem.W.mg_none_of X G z_zip, str := PySem.W.mg_none_of X G z_str, enumerate := PySem.W.mg_none_of X G z_enumerate, reversed := PySem.W.mg_none_of X G z_reversed }
  have T_pg : Tpg K (gA "Program" K) := ⟨⟨pg_pg, hd_pg, po_pg, sa_pg⟩, na0_pg⟩
  have O_pg : Pof K (gA "Program" K) := ⟨T_pg.cl, xha_pg, xhn, xtk, xhm_pg, xme_pg⟩
  have hP_pg := PySem.W.mg_of X G aC_pg
  have T_pf : Ptx K (gA "Profile" K) := ⟨⟨pg_pf, hd_pf, po_pf, sa_pf⟩, na0_pf, na1_pf⟩
  have O_pf : Pof K (gA "Profile" K) := ⟨T_pf.cl, xha_pf, xhn, xtk, xhm_pf, xme_pf⟩
  have hP_pf := PySem.W.mg_of X G aC_pf
  have T_sm : Smx K (gA "Summary" K) := ⟨⟨pg_sm, hd_sm, po_sm, sa_sm⟩, na0_sm, na1_sm, na2_sm⟩
  have O_sm : Pof K (gA "Summary" K) := ⟨T_sm.cl, xha_sm, xhn, xtk, xhm_sm, xme_sm⟩
  have hP_sm := PySem.W.mg_of X G aC_sm
  have hMOST_SCANS : ∃ u, mg "MOST_SCANS" = some u ∧ RelV (.int (40)) u := by
    have z := intB_ok X G (obs_fact c 3 29 (r := fs_3) rfl rfl)
    first | exact z | (rw [show (40 : Int) = 40 from by decide +kernel]; exact z)
  have hMOST_BRACKETS : ∃ u, mg "MOST_BRACKETS" = some u ∧ RelV (.int (5)) u := by
    have z := intB_ok X G (obs_fact c 4 0 (r := fs_4) rfl rfl)
    first | exact z | (rw [show (5 : Int) = 5 from by decide +kernel]; exact z)
  have hMOST_DIGITS : ∃ u, mg "MOST_DIGITS" = some u ∧ RelV (.int (31)) u := by
    have z := intB_ok X G (obs_fact c 4 1 (r := fs_4) rfl rfl)
    first | exact z | (rw [show (31 : Int) = 31 from by decide +kernel]; exact z)
  have hGREATEST : ∃ u, mg "GREATEST" = some u ∧ RelV (.int (10 ^ 30)) u := by
    have z := intB_ok X G (obs_fact c 4 2 (r := fs_4) rfl rfl)
    first | exact z | (rw [show (10 ^ 30 : Int) = 1000000000000000000000000000000 from by decide +kernel]; exact z)
  have hMOST_SIZES : ∃ u, mg "MOST_SIZES" = some u ∧ RelV (.int (3)) u := by
    have z := intB_ok X G (obs_fact c 4 3 (r := fs_4) rfl rfl)
    first | exact z | (rw [show (3 : Int) = 3 from by decide +kernel]; exact z)
  obtain ⟨_, _, _, _, _, _, _, _, _, elaw, _, _⟩ := id Flaw.ex
  refine ⟨fd_Flaw, fun s v => by rw [elaw]; exact .of_eq rfl, fun base _ _ => ?_⟩
  have mread_digits {k : Nat} {sp : Sp} (ok : FnOk P w K mg base CX0 k (gA "read_digits" K) _ ["word", "most"] sp) : Df P w K mg base "read_digits" k ["word", "most"] sp := ⟨_, _, PySem.W.mg_of X G a_read_digits, Fread_digits.kp, Fread_digits.binds fun _ _ _ _ _ _ us hl => match us, hl with | [_, _], _ => rfl, ok⟩
  have mread_number {k : Nat} {sp : Sp} (ok : FnOk P w K mg base CX0 k (gA "read_number" K) _ ["word"] sp) : Df P w K mg base "read_number" k ["word"] sp := ⟨_, _, PySem.W.mg_of X G a_read_number, Fread_number.kp, Fread_number.binds fun _ _ _ _ _ _ us hl => match us, hl with | [_], _ => rfl, ok⟩
  have mread_scan {k : Nat} {sp : Sp} (ok : FnOk P w K mg base CX0 k (gA "read_scan" K) _ ["word"] sp) : Df P w K mg base "read_scan" k ["word"] sp := ⟨_, _, PySem.W.mg_of X G a_read_scan, Fread_scan.kp, Fread_scan.binds fun _ _ _ _ _ _ us hl => match us, hl with | [_], _ => rfl, ok⟩
  have mread_times {k : Nat} {sp : Sp} (ok : FnOk P w K mg base CX0 k (gA "read_times" K) _ ["word"] sp) : Df P w K mg base "read_times" k ["word"] sp := ⟨_, _, PySem.W.mg_of X G a_read_times, Fread_times.kp, Fread_times.binds fun _ _ _ _ _ _ us hl => match us, hl with | [_], _ => rfl, ok⟩
  have mread_text {k : Nat} {sp : Sp} (ok : FnOk P w K mg base CX0 k (gA "read_text" K) _ ["text"] sp) : Df P w K mg base "read_text" k ["text"] sp := ⟨_, _, PySem.W.mg_of X G a_read_text, Fread_text.kp, Fread_text.binds fun _ _ _ _ _ _ us hl => match us, hl with | [_], _ => rfl, ok⟩
  have m_law_kettle {k : Nat} {sp : Sp} (ok : FnOk P w K mg base CX0 k (gA "_law_kettle" K) _ ["script", "k"] sp) : Df P w K mg base "_law_kettle" k ["script", "k"] sp := ⟨_, _, PySem.W.mg_of X G a__law_kettle, F_law_kettle.kp, F_law_kettle.binds fun _ _ _ _ _ _ us hl => match us, hl with | [_, _], _ => rfl, ok⟩
  have m_law_scoop {k : Nat} {sp : Sp} (ok : FnOk P w K mg base CX0 k (gA "_law_scoop" K) _ ["kettle", "many"] sp) : Df P w K mg base "_law_scoop" k ["kettle", "many"] sp := ⟨_, _, PySem.W.mg_of X G a__law_scoop, F_law_scoop.kp, F_law_scoop.binds fun _ _ _ _ _ _ us hl => match us, hl with | [_, _], _ => rfl, ok⟩
  have m_law_scans {k : Nat} {sp : Sp} (ok : FnOk P w K mg base CX0 k (gA "_law_scans" K) _ ["nodes"] sp) : Df P w K mg base "_law_scans" k ["nodes"] sp := ⟨_, _, PySem.W.mg_of X G a__law_scans, F_law_scans.kp, F_law_scans.binds fun _ _ _ _ _ _ us hl => match us, hl with | [_], _ => rfl, ok⟩
  have m_law_nodes {k : Nat} {sp : Sp} (ok : FnOk P w K mg base CX0 k (gA "_law_nodes" K) _ ["kettle", "most", "deep", "wide", "high"] sp) : Df P w K mg base "_law_nodes" k ["kettle", "most", "deep", "wide", "high"] sp := ⟨_, _, PySem.W.mg_of X G a__law_nodes, F_law_nodes.kp, F_law_nodes.binds fun _ _ _ _ _ _ us hl => match us, hl with | [_, _, _, _, _], _ => rfl, ok⟩
  have m_law_length {k : Nat} {sp : Sp} (ok : FnOk P w K mg base CX0 k (gA "_law_length" K) _ ["nodes"] sp) : Df P w K mg base "_law_length" k ["nodes"] sp := ⟨_, _, PySem.W.mg_of X G a__law_length, F_law_length.kp, F_law_length.binds fun _ _ _ _ _ _ us hl => match us, hl with | [_], _ => rfl, ok⟩
  have m_law_small {k : Nat} {sp : Sp} (ok : FnOk P w K mg base CX0 k (gA "_law_small" K) _ ["kettle", "most", "deep", "wide", "limit"] sp) : Df P w K mg base "_law_small" k ["kettle", "most", "deep", "wide", "limit"] sp := ⟨_, _, PySem.W.mg_of X G a__law_small, F_law_small.kp, F_law_small.binds fun _ _ _ _ _ _ us hl => match us, hl with | [_, _, _, _, _], _ => rfl, ok⟩
  have m_law_words {k : Nat} {sp : Sp} (ok : FnOk P w K mg base CX0 k (gA "_law_words" K) _ ["nodes"] sp) : Df P w K mg base "_law_words" k ["nodes"] sp := ⟨_, _, PySem.W.mg_of X G a__law_words, F_law_words.kp, F_law_words.binds fun _ _ _ _ _ _ us hl => match us, hl with | [_], _ => rfl, ok⟩
  have m_law_made {k : Nat} {sp : Sp} (ok : FnOk P w K mg base CX0 k (gA "_law_made" K) _ ["nodes"] sp) : Df P w K mg base "_law_made" k ["nodes"] sp := ⟨_, _, PySem.W.mg_of X G a__law_made, F_law_made.kp, F_law_made.binds fun _ _ _ _ _ _ us hl => match us, hl with | [_], _ => rfl, ok⟩
  have m_law_reads {k : Nat} {sp : Sp} (ok : FnOk P w K mg base CX0 k (gA "_law_reads" K) _ ["nodes"] sp) : Df P w K mg base "_law_reads" k ["nodes"] sp := ⟨_, _, PySem.W.mg_of X G a__law_reads, F_law_reads.kp, F_law_reads.binds fun _ _ _ _ _ _ us hl => match us, hl with | [_], _ => rfl, ok⟩
  have m_law_spread {k : Nat} {sp : Sp} (ok : FnOk P w K mg base CX0 k (gA "_law_spread" K) _ ["nodes", "width"] sp) : Df P w K mg base "_law_spread" k ["nodes", "width"] sp := ⟨_, _, PySem.W.mg_of X G a__law_spread, F_law_spread.kp, F_law_spread.binds fun _ _ _ _ _ _ us hl => match us, hl with | [_, _], _ => rfl, ok⟩
  have m_law_hits {k : Nat} {sp : Sp} (ok : FnOk P w K mg base CX0 k (gA "_law_hits" K) _ ["reads", "sizes_here"] sp) : Df P w K mg base "_law_hits" k ["reads", "sizes_here"] sp := ⟨_, _, PySem.W.mg_of X G a__law_hits, F_law_hits.kp, F_law_hits.binds fun _ _ _ _ _ _ us hl => match us, hl with | [_, _], _ => rfl, ok⟩
  have mcheck_program {k : Nat} {sp : Sp} (ok : FnOk P w K mg base CX0 k (gA "check_program" K) _ ["program"] sp) : Df P w K mg base "check_program" k ["program"] sp := ⟨_, _, PySem.W.mg_of X G a_check_program, Fcheck_program.kp, Fcheck_program.binds fun _ _ _ _ _ _ us hl => match us, hl with | [_], _ => rfl, ok⟩
  have mis_integer {k : Nat} {sp : Sp} (ok : FnOk P w K mg base CX0 k (gA "is_integer" K) _ ["value"] sp) : Df P w K mg base "is_integer" k ["value"] sp := ⟨_, _, PySem.W.mg_of X G a_is_integer, Fis_integer.kp, Fis_integer.binds fun _ _ _ _ _ _ us hl => match us, hl with | [_], _ => rfl, ok⟩
  have mis_from_zero {k : Nat} {sp : Sp} (ok : FnOk P w K mg base CX0 k (gA "is_from_zero" K) _ ["value"] sp) : Df P w K mg base "is_from_zero" k ["value"] sp := ⟨_, _, PySem.W.mg_of X G a_is_from_zero, Fis_from_zero.kp, Fis_from_zero.binds fun _ _ _ _ _ _ us hl => match us, hl with | [_], _ => rfl, ok⟩
  have mcheck_sizes {k : Nat} {sp : Sp} (ok : FnOk P w K mg base CX0 k (gA "check_sizes" K) _ ["sizes"] sp) : Df P w K mg base "check_sizes" k ["sizes"] sp := ⟨_, _, PySem.W.mg_of X G a_check_sizes, Fcheck_sizes.kp, Fcheck_sizes.binds fun _ _ _ _ _ _ us hl => match us, hl with | [_], _ => rfl, ok⟩
  have mis_repeat {k : Nat} {sp : Sp} (ok : FnOk P w K mg base CX0 k (gA "is_repeat" K) _ ["part"] sp) : Df P w K mg base "is_repeat" k ["part"] sp := ⟨_, _, PySem.W.mg_of X G a_is_repeat, Fis_repeat.kp, Fis_repeat.binds fun _ _ _ _ _ _ us hl => match us, hl with | [_], _ => rfl, ok⟩
  have mplaced_scans {k : Nat} {sp : Sp} (ok : FnOk P w K mg base CX0 k (gA "placed_scans" K) _ ["scans"] sp) : Df P w K mg base "placed_scans" k ["scans"] sp := ⟨_, _, PySem.W.mg_of X G a_placed_scans, Fplaced_scans.kp, Fplaced_scans.binds fun _ _ _ _ _ _ us hl => match us, hl with | [_], _ => rfl, ok⟩
  have mstart_of {k : Nat} {sp : Sp} (ok : FnOk P w K mg base CX0 k (gA "start_of" K) _ ["row", "low", "high"] sp) : Df P w K mg base "start_of" k ["row", "low", "high"] sp := ⟨_, _, PySem.W.mg_of X G a_start_of, Fstart_of.kp, Fstart_of.binds fun _ _ _ _ _ _ us hl => match us, hl with | [_, _, _], _ => rfl, ok⟩
  have mshared_intervals {k : Nat} {sp : Sp} (ok : FnOk P w K mg base CX0 k (gA "shared_intervals" K) _ ["lasts", "firsts"] sp) : Df P w K mg base "shared_intervals" k ["lasts", "firsts"] sp := ⟨_, _, PySem.W.mg_of X G a_shared_intervals, Fshared_intervals.kp, Fshared_intervals.binds fun _ _ _ _ _ _ us hl => match us, hl with | [_, _], _ => rfl, ok⟩
  have mstraight_rows {k : Nat} {sp : Sp} (ok : FnOk P w K mg base CX0 k (gA "straight_rows" K) _ ["lasts", "firsts"] sp) : Df P w K mg base "straight_rows" k ["lasts", "firsts"] sp := ⟨_, _, PySem.W.mg_of X G a_straight_rows, Fstraight_rows.kp, Fstraight_rows.binds fun _ _ _ _ _ _ us hl => match us, hl with | [_, _], _ => rfl, ok⟩
  have mstraight_pieces {k : Nat} {sp : Sp} (ok : FnOk P w K mg base CX0 k (gA "straight_pieces" K) _ ["lasts", "firsts"] sp) : Df P w K mg base "straight_pieces" k ["lasts", "firsts"] sp := ⟨_, _, PySem.W.mg_of X G a_straight_pieces, Fstraight_pieces.kp, Fstraight_pieces.binds fun _ _ _ _ _ _ us hl => match us, hl with | [_, _], _ => rfl, ok⟩
  have mfirst_reaching {k : Nat} {sp : Sp} (ok : FnOk P w K mg base CX0 k (gA "first_reaching" K) _ ["spans", "address"] sp) : Df P w K mg base "first_reaching" k ["spans", "address"] sp := ⟨_, _, PySem.W.mg_of X G a_first_reaching, Ffirst_reaching.kp, Ffirst_reaching.binds fun _ _ _ _ _ _ us hl => match us, hl with | [_, _], _ => rfl, ok⟩
  have mscan_outside {k : Nat} {sp : Sp} (ok : FnOk P w K mg base CX0 k (gA "scan_outside" K) _ ["scan", "spans"] sp) : Df P w K mg base "scan_outside" k ["scan", "spans"] sp := ⟨_, _, PySem.W.mg_of X G a_scan_outside, Fscan_outside.kp, Fscan_outside.binds fun _ _ _ _ _ _ us hl => match us, hl with | [_, _], _ => rfl, ok⟩
  have mothers_of {k : Nat} {sp : Sp} (ok : FnOk P w K mg base CX0 k (gA "others_of" K) _ ["scans", "taken"] sp) : Df P w K mg base "others_of" k ["scans", "taken"] sp := ⟨_, _, PySem.W.mg_of X G a_others_of, Fothers_of.kp, Fothers_of.binds fun _ _ _ _ _ _ us hl => match us, hl with | [_, _], _ => rfl, ok⟩
  have mjoined {k : Nat} {sp : Sp} (ok : FnOk P w K mg base CX0 k (gA "joined" K) _ ["scans"] sp) : Df P w K mg base "joined" k ["scans"] sp := ⟨_, _, PySem.W.mg_of X G a_joined, Fjoined.kp, Fjoined.binds fun _ _ _ _ _ _ us hl => match us, hl with | [_], _ => rfl, ok⟩
  have mput_ahead {k : Nat} {sp : Sp} (ok : FnOk P w K mg base CX0 k (gA "put_ahead" K) _ ["scans", "others"] sp) : Df P w K mg base "put_ahead" k ["scans", "others"] sp := ⟨_, _, PySem.W.mg_of X G a_put_ahead, Fput_ahead.kp, Fput_ahead.binds fun _ _ _ _ _ _ us hl => match us, hl with | [_, _], _ => rfl, ok⟩
  have mthree_behind {k : Nat} {sp : Sp} (ok : FnOk P w K mg base CX0 k (gA "three_behind" K) _ ["one", "two"] sp) : Df P w K mg base "three_behind" k ["one", "two"] sp := ⟨_, _, PySem.W.mg_of X G a_three_behind, Fthree_behind.kp, Fthree_behind.binds fun _ _ _ _ _ _ us hl => match us, hl with | [_, _], _ => rfl, ok⟩
  have mmultiplied {k : Nat} {sp : Sp} (ok : FnOk P w K mg base CX0 k (gA "multiplied" K) _ ["pieces", "times"] sp) : Df P w K mg base "multiplied" k ["pieces", "times"] sp := ⟨_, _, PySem.W.mg_of X G a_multiplied, Fmultiplied.kp, Fmultiplied.binds fun _ _ _ _ _ _ us hl => match us, hl with | [_, _], _ => rfl, ok⟩
  have mthree_times {k : Nat} {sp : Sp} (ok : FnOk P w K mg base CX0 k (gA "three_times" K) _ ["three", "times"] sp) : Df P w K mg base "three_times" k ["three", "times"] sp := ⟨_, _, PySem.W.mg_of X G a_three_times, Fthree_times.kp, Fthree_times.binds fun _ _ _ _ _ _ us hl => match us, hl with | [_, _], _ => rfl, ok⟩
  have mthree_of {k : Nat} {sp : Sp} (ok : FnOk P w K mg base CX0 k (gA "three_of" K) _ ["parts"] sp) : Df P w K mg base "three_of" k ["parts"] sp := ⟨_, _, PySem.W.mg_of X G a_three_of, Fthree_of.kp, Fthree_of.binds fun _ _ _ _ _ _ us hl => match us, hl with | [_], _ => rfl, ok⟩
  have mis_piece {k : Nat} {sp : Sp} (ok : FnOk P w K mg base CX0 k (gA "is_piece" K) _ ["value"] sp) : Df P w K mg base "is_piece" k ["value"] sp := ⟨_, _, PySem.W.mg_of X G a_is_piece, Fis_piece.kp, Fis_piece.binds fun _ _ _ _ _ _ us hl => match us, hl with | [_], _ => rfl, ok⟩
  have mare_pieces {k : Nat} {sp : Sp} (ok : FnOk P w K mg base CX0 k (gA "are_pieces" K) _ ["value"] sp) : Df P w K mg base "are_pieces" k ["value"] sp := ⟨_, _, PySem.W.mg_of X G a_are_pieces, Fare_pieces.kp, Fare_pieces.binds fun _ _ _ _ _ _ us hl => match us, hl with | [_], _ => rfl, ok⟩
  have mcheck_distances {k : Nat} {sp : Sp} (ok : FnOk P w K mg base CX0 k (gA "check_distances" K) _ ["cold", "pieces"] sp) : Df P w K mg base "check_distances" k ["cold", "pieces"] sp := ⟨_, _, PySem.W.mg_of X G a_check_distances, Fcheck_distances.kp, Fcheck_distances.binds fun _ _ _ _ _ _ us hl => match us, hl with | [_, _], _ => rfl, ok⟩
  have mflattened {k : Nat} {sp : Sp} (ok : FnOk P w K mg base CX0 k (gA "flattened" K) _ ["pieces"] sp) : Df P w K mg base "flattened" k ["pieces"] sp := ⟨_, _, PySem.W.mg_of X G a_flattened, Fflattened.kp, Fflattened.binds fun _ _ _ _ _ _ us hl => match us, hl with | [_], _ => rfl, ok⟩
  have mscan_length {k : Nat} {sp : Sp} (ok : FnOk P w K mg base CX0 k (gA "scan_length" K) _ ["scan"] sp) : Df P w K mg base "scan_length" k ["scan"] sp := ⟨_, _, PySem.W.mg_of X G a_scan_length, Fscan_length.kp, Fscan_length.binds fun _ _ _ _ _ _ us hl => match us, hl with | [_], _ => rfl, ok⟩
  have mcount_all {k : Nat} {sp : Sp} (ok : FnOk P w K mg base CX0 k (gA "count_all" K) _ ["scans"] sp) : Df P w K mg base "count_all" k ["scans"] sp := ⟨_, _, PySem.W.mg_of X G a_count_all, Fcount_all.kp, Fcount_all.binds fun _ _ _ _ _ _ us hl => match us, hl with | [_], _ => rfl, ok⟩
  have msummary_from {k : Nat} {sp : Sp} (ok : FnOk P w K mg base CX0 k (gA "summary_from" K) _ ["three"] sp) : Df P w K mg base "summary_from" k ["three"] sp := ⟨_, _, PySem.W.mg_of X G a_summary_from, Fsummary_from.kp, Fsummary_from.binds fun _ _ _ _ _ _ us hl => match us, hl with | [_], _ => rfl, ok⟩
  have msummary_of {k : Nat} {sp : Sp} (ok : FnOk P w K mg base CX0 k (gA "summary_of" K) _ ["program"] sp) : Df P w K mg base "summary_of" k ["program"] sp := ⟨_, _, PySem.W.mg_of X G a_summary_of, Fsummary_of.kp, Fsummary_of.binds fun _ _ _ _ _ _ us hl => match us, hl with | [_], _ => rfl, ok⟩
  have mprofile_of {k : Nat} {sp : Sp} (ok : FnOk P w K mg base CX0 k (gA "profile_of" K) _ ["program"] sp) : Df P w K mg base "profile_of" k ["program"] sp := ⟨_, _, PySem.W.mg_of X G a_profile_of, Fprofile_of.kp, Fprofile_of.binds fun _ _ _ _ _ _ us hl => match us, hl with | [_], _ => rfl, ok⟩
  have mcheck_size {k : Nat} {sp : Sp} (ok : FnOk P w K mg base CX0 k (gA "check_size" K) _ ["size"] sp) : Df P w K mg base "check_size" k ["size"] sp := ⟨_, _, PySem.W.mg_of X G a_check_size, Fcheck_size.kp, Fcheck_size.binds fun _ _ _ _ _ _ us hl => match us, hl with | [_], _ => rfl, ok⟩
  have mcount_beyond {k : Nat} {sp : Sp} (ok : FnOk P w K mg base CX0 k (gA "count_beyond" K) _ ["pieces", "size"] sp) : Df P w K mg base "count_beyond" k ["pieces", "size"] sp := ⟨_, _, PySem.W.mg_of X G a_count_beyond, Fcount_beyond.kp, Fcount_beyond.binds fun _ _ _ _ _ _ us hl => match us, hl with | [_, _], _ => rfl, ok⟩
  have mstacked_hits {k : Nat} {sp : Sp} (ok : FnOk P w K mg base CX0 k (gA "stacked_hits" K) _ ["program", "sizes"] sp) : Df P w K mg base "stacked_hits" k ["program", "sizes"] sp := ⟨_, _, PySem.W.mg_of X G a_stacked_hits, Fstacked_hits.kp, Fstacked_hits.binds fun _ _ _ _ _ _ us hl => match us, hl with | [_, _], _ => rfl, ok⟩
  have mk_pg_init {k : Nat} {sp : Sp} (ok : FnOk P w K mg base CX0 k (mA "Program" "__init__" K) _ ["self", "text"] sp) : DMk P w K mg base "Program" (gA "Program" K) k ["self", "text"] sp := ⟨_, _, ⟨mk_pg, a_m_pg___init__, i_m_pg___init__, kc_pg⟩, PySem.W.mg_of X G aC_pg, b_m_pg___init__, ok⟩
  have mk_pg_eq {k : Nat} {sp : Sp} (ok : FnOk P w K mg base CX0 k (mA "Program" "__eq__" K) _ ["self", "other"] sp) : DMt P w K mg base (gA "Program" K) "__eq__" k ["self", "other"] sp := ⟨_, _, T_pg.cl, ⟨a_m_pg___eq__, i_m_pg___eq__, Fm_pg___eq__.kp⟩, b_m_pg___eq__, ok⟩
  have mk_pf_init {k : Nat} {sp : Sp} (ok : FnOk P w K mg base CX0 k (mA "Profile" "__init__" K) _ ["self", "cold", "pieces"] sp) : DMk P w K mg base "Profile" (gA "Profile" K) k ["self", "cold", "pieces"] sp := ⟨_, _, ⟨mk_pf, a_m_pf___init__, i_m_pf___init__, kc_pf⟩, PySem.W.mg_of X G aC_pf, b_m_pf___init__, ok⟩
  have mk_sm_init {k : Nat} {sp : Sp} (ok : FnOk P w K mg base CX0 k (mA "Summary" "__init__" K) _ ["self", "firsts", "lasts", "profile"] sp) : DMk P w K mg base "Summary" (gA "Summary" K) k ["self", "firsts", "lasts", "profile"] sp := ⟨_, _, ⟨mk_sm, a_m_sm___init__, i_m_sm___init__, kc_sm⟩, PySem.W.mg_of X G aC_sm, b_m_sm___init__, ok⟩
  have mk_pf_call {k : Nat} {sp : Sp} (ok : FnOk P w K mg base CX0 k (mA "Profile" "__call__" K) _ ["self", "size"] sp) : DCl P w K mg base (gA "Profile" K) k ["self", "size"] sp := ⟨_, _, ⟨a_m_pf___call__, i_m_pf___call__, fi_m_pf___call__⟩, b_m_pf___call__, ok⟩
  have R_read_digits := mread_digits (ok_rdD B Fread_digits)
  have R_read_number := mread_number (ok_rdN B hMOST_DIGITS hGREATEST R_read_digits Fread_number)
  have R_read_scan := mread_scan (ok_rdS B R_read_number Fread_scan)
  have R_read_times := mread_times (ok_rdT B R_read_number Fread_times)
  have R_read_text := mread_text (ok_read B hMOST_SCANS hMOST_BRACKETS R_read_scan R_read_times Fread_text)
  have R_Program___init__ := mk_pg_init (ok_initPg T_pg R_read_text Fm_pg___init__)
  have R_Program___eq__ := mk_pg_eq (ok_eqPg B T_pg O_pg hP_pg Fm_pg___eq__)
  have R__law_kettle := m_law_kettle (ok_kettle B.toBt F_law_kettle)
  have R__law_scoop := m_law_scoop (ok_scoop B.toBt F_law_scoop)
  have R__law_scans := fun d => m_law_scans (ok_nscans F_law_scans m_law_scans d)
  have R__law_nodes := fun d => m_law_nodes (ok_nodes B R__law_scoop (R__law_scans 11) F_law_nodes m_law_nodes d)
  have R__law_length := fun d => m_law_length (ok_nlen B.toBt F_law_length m_law_length d)
  have R__law_small := m_law_small (ok_small B (R__law_nodes 4) (R__law_length 11) F_law_small)
  have R__law_words := fun d => m_law_words (ok_nwords B F_law_words m_law_words d)
  have R__law_made := m_law_made (ok_made B R_Program___init__ (R__law_words 11) F_law_made)
  have R__law_reads := fun d => m_law_reads (ok_nreads B F_law_reads m_law_reads d)
  have R__law_spread := fun d => m_law_spread (ok_nspread F_law_spread m_law_spread d)
  have R__law_hits := m_law_hits (ok_lhits B F_law_hits)
  have R_check_program := mcheck_program (ok_check_program B.toBt O_pg hP_pg Fcheck_program)
  have R_is_integer := mis_integer (ok_is_integer B.toBt Fis_integer)
  have R_is_from_zero := mis_from_zero (ok_is_from_zero R_is_integer Fis_from_zero)
  have R_check_sizes := mcheck_sizes (ok_ckSizes B.toBt hMOST_SIZES R_is_from_zero Fcheck_sizes)
  have R_is_repeat := mis_repeat (ok_is_repeat B Fis_repeat)
  have R_placed_scans := mplaced_scans (ok_placed B.toBt Fplaced_scans)
  have R_start_of := mstart_of (ok_startOf Fstart_of)
  have R_shared_intervals := mshared_intervals (ok_shared B.toBt (PySem.W.mg_none_of X G z_sorted) R_placed_scans R_start_of Fshared_intervals)
  have R_straight_rows := mstraight_rows (ok_rows B.toBt R_shared_intervals Fstraight_rows)
  have R_straight_pieces := mstraight_pieces (ok_straightPieces B.toBt R_straight_rows Fstraight_pieces)
  have R_first_reaching := mfirst_reaching (ok_first_reaching B.toBt Ffirst_reaching)
  have R_scan_outside := mscan_outside (ok_scan_outside B.toBt (PySem.W.mg_none_of X G z_reversed) R_first_reaching Fscan_outside)
  have R_others_of := mothers_of (ok_others_of B.toBt R_scan_outside Fothers_of)
  have R_joined := mjoined (ok_joined B.toBt Fjoined)
  have R_put_ahead := mput_ahead (ok_put_ahead R_others_of R_joined Fput_ahead)
  have R_three_behind := mthree_behind (ok_behind B.toBt R_straight_pieces R_put_ahead Fthree_behind)
  have R_multiplied := mmultiplied (ok_mulT Fmultiplied)
  have R_three_times := mthree_times (ok_times3 B.toBt R_straight_pieces R_multiplied Fthree_times)
  have R_three_of := fun d => mthree_of (ok_three B R_is_repeat R_three_behind R_three_times Fthree_of mthree_of d)
  have R_is_piece := mis_piece (ok_is_piece B.toBt R_is_integer Fis_piece)
  have R_are_pieces := mare_pieces (ok_are_pieces B.toBt R_is_piece Fare_pieces)
  have R_check_distances := mcheck_distances (ok_check_distances R_is_from_zero R_are_pieces Fcheck_distances)
  have R_flattened := mflattened (ok_flattened B.toBt Fflattened)
  have R_Profile___init__ := mk_pf_init (ok_initF T_pf R_check_distances R_flattened Fm_pf___init__)
  have R_Summary___init__ := mk_sm_init (ok_initSm B.toBt T_sm T_pf Fm_sm___init__)
  have R_scan_length := mscan_length (ok_scan_length B.toBt Fscan_length)
  have R_count_all := mcount_all (ok_count_all B.toBt R_scan_length Fcount_all)
  have R_summary_from := msummary_from (ok_sumFrom T_sm T_pf R_Profile___init__ R_Summary___init__ R_count_all R_flattened Fsummary_from)
  have R_summary_of := msummary_of (ok_sumOf T_pg R_check_program (R_three_of 12) R_summary_from Fsummary_of)
  have R_profile_of := mprofile_of (ok_profOfX T_sm R_summary_of Fprofile_of)
  have R_check_size := mcheck_size (ok_check_size R_is_from_zero Fcheck_size)
  have R_count_beyond := mcount_beyond (ok_count_beyond B.toBt Fcount_beyond)
  have R_Profile___call__ := mk_pf_call (ok_callP T_pf R_check_size R_count_beyond Fm_pf___call__)
  have R_stacked_hits := mstacked_hits (ok_stack R_check_program R_check_sizes R_profile_of R_Profile___call__ Fstacked_hits)
  exact ok_law37 B xnf_pg R_Program___init__ R_Program___eq__ R__law_kettle R__law_scoop R__law_small R__law_made (R__law_reads 11) (R__law_spread 11) R__law_hits R_stacked_hits Flaw
end Kb
open PySem PySem.W PySem.Calls PyProof.Rows
set_option maxHeartbeats 0 in
theorem PySem.Challenge.cw_scanmisses_k37_one_stack_of_caches_holds : PySem.Challenge.rw_scanmisses_k37_one_stack_of_caches.Holds := by
  w_on; o_law
  refine HandSHeadRun.head_any (r := OpenLaw.row PySem.Challenge.rw_scanmisses_k37_one_stack_of_caches) (q := view (OpenLaw.row PySem.Challenge.rw_scanmisses_k37_one_stack_of_caches).prog [93]) (H := Kb.hkAll) (ob := Kb.obT 1200 Kb.fsAll Kb.msAll) (M := 30000) (loose := Kb.lsAll) (d := HandSHeadRun.topDef (OpenLaw.row PySem.Challenge.rw_scanmisses_k37_one_stack_of_caches).prog 93) (kwd := []) Kb.obT_eq (by kernel_rfl) (fun s => by kernel_rfl) Kb.run_all (by kernel_rfl) (by kernel_rfl) (by kernel_rfl) (by rfl) (by first | assumption | decide +kernel) (by decide +kernel) ⟨rfl, rfl, rfl, rfl, rfl, by decide +kernel⟩ ?hw ?hc
  case hw => w_witness2
  case hc =>
    refine Kb.walk_gE (l := PySem.Challenge.rw_scanmisses_k37_one_stack_of_caches) (n := 63) (k := 22) (x := "script") rfl (by decide) (by kernel_rfl) ⟨rfl, by decide, by decide⟩ ?F
    intro w mg fa h Y G hm
    obtain ⟨K, KX, c⟩ := Y
    have hmg : mg ("law" : PySem.Str) = some (.ref fa) := by
      have e : (HandSHeadRun.topDef (OpenLaw.row PySem.Challenge.rw_scanmisses_k37_one_stack_of_caches).prog 93).name = ("law" : PySem.Str) := by kernel_rfl
      rw [← e]
      exact hm
    obtain ⟨fd, hb, hF⟩ := Kb.all_mk (P := (PySem.Challenge.rw_scanmisses_k37_one_stack_of_caches).prog) (w := w) KX G hmg c
    exact ⟨K, fd, Kb.spLaw K, KX, fun H a ns hl _ hS => ⟨a, ns, rfl, hS, hl, fun _ => rfl⟩, hb, hF⟩
