import PyProof.Rows.All
import Wide.All
import OpenK.AllK
import Wide.FinOn
import PyProof.EqAt
import PyProof.EqKinds
import PyProof.TupleCall
import HandS.ForMost
import HandS.Conv
import HandS.Style
import HandS.Wide
import HandS.Strs
import HandS.SetFor
import HandS.SortRule
import HandS.SortInts
import HandS.IsInst
import HandS.RaiseMore
import HandS.EndBits
import HandS.Property
import HandS.Star
import HandS.Walk
import HandS.Dict
import HandS.Iter
import HandS.Rev
import PyProof.InstNe
import KE.KOpsOwn
import PySem.Challenge.RW_scanmisses_k14_least_sizes
set_option Elab.async false
set_option linter.all false
set_option maxRecDepth 100000
set_option maxHeartbeats 4000000
namespace Kb
open PySem PySem.Spec PyProof.Rows L2

/-! ### heaps that grow -/
def Ex (H H' : Hp) : Prop := ∀ a o, H a = some o → H' a = some o
theorem Ex.refl (H : Hp) : Ex H H := fun _ _ h => h
theorem Ex.trans {H H1 H2 : Hp} (a : Ex H H1) (b : Ex H1 H2) : Ex H H2 := fun x o h => b x o (a x o h)
theorem Ex.new {H : Hp} {p : Addr} {o : HO} (h : H p = none) : Ex H (upd H p o) := fun a u e => by
  rw [upd_ne (ne_of_none e h)]
  exact e
theorem Ex.mut {H H' : Hp} {p : Addr} {o : HO} (e : Ex H H') (h : H p = none) : Ex H (upd H' p o) := fun a u ha => by
  rw [upd_ne (ne_of_none ha h)]
  exact e a u ha
theorem Ex.add {H H' : Hp} {p : Addr} {o : HO} (e : Ex H H') (h : H' p = none) : Ex H (upd H' p o) := e.trans (Ex.new h)
theorem Ex.back {H H' : Hp} {p : Addr} (e : Ex H H') (h : H' p = none) : H p = none := by
  cases h1 : H p with
  | none => rfl
  | some o =>
    rw [e p o h1] at h
    cases h

/-! ### a def that is there -/
structure Df (P : Program) (w : World) (K : PySem.W.Frag) (mg : Str → Option Value) (base : Heap) (x : Str) (k : Nat) (ps : List Str) (sp : Sp) : Prop where
  ex : ∃ f fd, mg x = some (.ref f) ∧ PySem.W.keepIn K (.ref f) = true ∧ Binds K fd ps [] ∧ FnOk P w K mg base CX0 k f fd ps sp
theorem pe_df {X : Cx} {x : Str} {k k' : Nat} {ps : List Str} {sp : Sp} {p pos : Pos} {e : Expr} {es : List Expr} {t : TA} (D : Df X.prog X.w X.K X.mg X.base x k ps sp) (hr : Room k' X.A) (ha : PA X (e :: es) t) (hk : k ≤ k' := by decide) (hg : Gl X x := by rfl)
    (hdb : (x == ("__debug__" : Str)) = false := by decide) (he : starEach (e :: es) X.env = (false, eval e X.env) :: starEach es X.env := by rfl) (hpl : (backTo pos (starEach es X.env)).any (·.1) = false := by rfl) :
    PE X (.Call (.Name x p) (e :: es) [] pos) (tCall sp [] E0 t) := by
  obtain ⟨f, fd, h1, h2, h3, h4⟩ := D.ex
  exact pe_call h4 (hr.mono hk) hg h1 h2 h3 .nil pass0 ha hdb he hpl
/-- what a def hands back: this value, and the heap has grown -/
def RetV (v : V) (H : Hp) (Q : VK) : Prop := ∀ H', Ex H H' → Q v H'
theorem RetV.go {v : V} {H H' : Hp} {Q : VK} (k : RetV v H Q) (e : Ex H H') : Q v H' := k H' e

/-! ### pairs, lists of pairs -/
abbrev Sc := Int × Int
def IsSc (H : Hp) (v : V) (s : Sc) : Prop := ∃ t, v = .ref t ∧ H t = some (.tup [.int s.1, .int s.2])
theorem IsSc.mono {H H' : Hp} {v : V} {s : Sc} (e : Ex H H') (h : IsSc H v s) : IsSc H' v s := by
  obtain ⟨t, h1, h2⟩ := h
  exact ⟨t, h1, e _ _ h2⟩
theorem Pa.mono {H H' : Hp} (e : Ex H H') : ∀ {vs : List V} {ss : List Sc}, Paired (IsSc H) vs ss → Paired (IsSc H') vs ss
  | _, _, .nil => .nil
  | _, _, .cons h t => .cons (h.mono e) (Pa.mono e t)
theorem Pa.len {H : Hp} : ∀ {vs : List V} {ss : List Sc}, Paired (IsSc H) vs ss → vs.length = ss.length
  | _, _, .nil => rfl
  | _, _, .cons h t => congrArg (· + 1) (Pa.len t)
theorem Pa.get {H : Hp} : ∀ {vs : List V} {ss : List Sc} {i : Nat} {v : V}, Paired (IsSc H) vs ss → vs[i]? = some v → ∃ s, ss[i]? = some s ∧ IsSc H v s
  | _, _, i, v, .nil, e => by simp at e
  | _, _, 0, v, .cons h t, e => by
    cases e
    exact ⟨_, rfl, h⟩
  | _, _, i + 1, v, .cons h t, e => Pa.get (i := i) t e
theorem Pa.get2 {H : Hp} : ∀ {vs : List V} {ss : List Sc} {i : Nat} {s : Sc}, Paired (IsSc H) vs ss → ss[i]? = some s → ∃ v, vs[i]? = some v ∧ IsSc H v s
  | _, _, i, s, .nil, e => by simp at e
  | _, _, 0, s, .cons h t, e => by
    cases e
    exact ⟨_, rfl, h⟩
  | _, _, i + 1, s, .cons h t, e => Pa.get2 (i := i) t e
theorem Pa.app {H : Hp} : ∀ {vs us : List V} {ss ts : List Sc}, Paired (IsSc H) vs ss → Paired (IsSc H) us ts → Paired (IsSc H) (vs ++ us) (ss ++ ts)
  | _, _, _, _, .nil, b => b
  | _, _, _, _, .cons h t, b => .cons h (Pa.app t b)
theorem Pa.rev {H : Hp} : ∀ {vs : List V} {ss : List Sc}, Paired (IsSc H) vs ss → Paired (IsSc H) vs.reverse ss.reverse
  | _, _, .nil => .nil
  | _, _, .cons h t => by
    rw [List.reverse_cons, List.reverse_cons]
    exact Pa.app (Pa.rev t) (.cons h .nil)
theorem Pa.erase {H : Hp} : ∀ {vs : List V} {ss : List Sc} (i : Nat), Paired (IsSc H) vs ss → Paired (IsSc H) (vs.eraseIdx i) (ss.eraseIdx i)
  | _, _, _, .nil => .nil
  | _, _, 0, .cons h t => t
  | _, _, i + 1, .cons h t => .cons h (Pa.erase i t)
def Scs (H : Hp) (a : Addr) (ss : List Sc) : Prop := ∃ vs, H a = some (.lst vs) ∧ Paired (IsSc H) vs ss
theorem Scs.mono {H H' : Hp} {a : Addr} {ss : List Sc} (e : Ex H H') (h : Scs H a ss) : Scs H' a ss := by
  obtain ⟨vs, h1, h2⟩ := h
  exact ⟨vs, e _ _ h1, Pa.mono e h2⟩

/-! ### a bag: a list of three ints that is not looked into from outside -/
def bagP (b : Addr) (h : Heap) : Prop := ∃ (x c t : Int) (its : List Value) (n : Nat), Vals [V.int x, V.int c, V.int t] its ∧ h.get? b = some { cls := .type "list", data := .seq its.toArray n }
def bagO (b : Addr) : HO := .ext (bagP b)
theorem bag_ok {P : Program} {w : World} {H H1 : Hp} {h : Heap} {b : Addr} {x c t : Int} (e : ObjOk P w H h b (.lst [.int x, .int c, .int t])) : ObjOk P w H1 h b (bagO b) := by
  obtain ⟨_, its, n, r, g⟩ := e
  exact ⟨⟨x, c, t, its, n, r, g⟩, ⟨_, g⟩, fun h1 h2 p k => by
    obtain ⟨x, c, t, its, n, r, g⟩ := p
    exact ⟨x, c, t, its, n, r, k _ g⟩⟩
theorem bag_open {P : Program} {w : World} {H : Hp} {h : Heap} {b : Addr} (ok : HOk P w H h) (e : H b = some (bagO b)) : ∃ x c t : Int, HOk P w (upd H b (.lst [.int x, .int c, .int t])) h := by
  obtain ⟨⟨x, c, t, its, n, r, g⟩, _, _⟩ : ObjOk P w H h b (.ext (bagP b)) := ok b _ e
  refine ⟨x, c, t, fun a o q => ?_⟩
  by_cases hb : a = b
  · subst hb
    rw [upd_same] at q
    cases q
    exact ⟨by show 3 ≤ sizeLine; decide, its, n, r, g⟩
  · rw [upd_ne hb] at q
    refine (ok a o q).stay (fun _ _ _ z => z) (fun d z => ?_) fun d xs z => ?_
    · rw [upd_ne]
      · exact z
      · intro y
        rw [y, e] at z
        cases (show HO.ext (bagP b) = .own a from Option.some.inj z)
    · rw [upd_ne]
      · exact z
      · intro y
        rw [y, e] at z
        cases (show HO.ext (bagP b) = .tup xs from Option.some.inj z)
theorem bag_close {P : Program} {w : World} {H : Hp} {h : Heap} {b : Addr} {x c t : Int} (ok : HOk P w H h) (e : H b = some (.lst [.int x, .int c, .int t])) : HOk P w (upd H b (bagO b)) h := fun a o q => by
  by_cases hb : a = b
  · subst hb
    rw [upd_same] at q
    cases q
    exact bag_ok (ok a _ e)
  · rw [upd_ne hb] at q
    refine (ok a o q).stay (fun _ _ _ z => z) (fun d z => ?_) fun d xs z => ?_
    · rw [upd_ne]
      · exact z
      · intro y
        rw [y, e] at z
        cases z
    · rw [upd_ne]
      · exact z
      · intro y
        rw [y, e] at z
        cases z
/-- a promise about a list of three ints, said of a bag -/
theorem bag_fn {P : Program} {w : World} {K : PySem.W.Frag} {mg : Str → Option Value} {base : Heap} {k : Nat} {f : Addr} {fd : FuncData} {ps : List Str} {sp sp' : Sp} (F : FnOk P w K mg base CX0 k f fd ps sp)
    (h : ∀ vs H Q E, sp' vs H Q E → vs.length = ps.length ∧ ∃ b, H b = some (bagO b) ∧ ∀ x c t : Int, sp vs (upd H b (.lst [.int x, .int c, .int t])) (fun v H2 => ∃ x c t : Int, H2 b = some (.lst [.int x, .int c, .int t]) ∧ Q v (upd H2 b (bagO b))) E) :
    FnOk P w K mg base CX0 k f fd ps sp' := by
  refine ⟨fun vs H Q E q => (h _ _ _ _ q).1, fun A outer s H args us vs Q E hr he hb hv hs => ?_⟩
  obtain ⟨_, b, eb, q⟩ := h _ _ _ _ hs
  obtain ⟨x, c, t, ok⟩ := bag_open he.hok eb
  have ne : ∀ {d : Addr}, H d = none → d ≠ b := fun {d} n z => by
    rw [z, eb] at n
    cases n
  have e2 : Env0 P w K mg base A outer s (upd H b (.lst [.int x, .int c, .int t])) :=
    ⟨he.frames, he.mod, fun d o z => ⟨(he.bs d o z).1, by rw [upd_ne (ne (he.bs d o z).2)]; exact (he.bs d o z).2⟩, he.bsz, he.funs, fun d z => by rw [upd_ne (ne (he.frf d z))]; exact he.frf d z, ok, he.bare⟩
  refine codeAny_mono (F.run A outer s _ args us vs _ E hr e2 hb hv (q x c t)) fun r s' hq => ?_
  cases r with
  | error e => exact hq
  | ok fl =>
    cases fl with
    | next => exact hq
    | brk => exact hq
    | cont => exact hq
    | ret u =>
      obtain ⟨v, H2, os, bare, un, hok, r, x', c', t', e3, q3⟩ := hq
      have ne2 : ∀ {d : Addr}, H2 d = none → d ≠ b := fun {d} n z => by
        rw [z, e3] at n
        cases n
      have nb : ∀ {d : Addr} {o : HO}, H d = some o → o ≠ bagO b → d ≠ b := fun {d o} z y e => by
        rw [e, eb] at z
        exact y (Option.some.inj z).symm
      refine ⟨v, _, os, bare, ?_, bag_close hok e3, r, q3⟩
      exact {
        keep := fun d o g n hf hx => un.keep d o g (by rw [upd_ne (ne n)]; exact n) hf hx
        slot := fun d o g n hf hx => un.slot d o g (by rw [upd_ne (ne n)]; exact n) hf hx
        free := fun d o g n hx => by
          have y := un.free d o g (by rw [upd_ne (ne n)]; exact n) hx
          rw [upd_ne (ne2 y)]
          exact y
        there := fun d o g hx => un.there d o g hx
        tups := fun d xs z => by
          have y : d ≠ b := nb z (by intro q; cases (show HO.tup xs = HO.ext (bagP b) from q))
          rw [upd_ne y]
          exact un.tups d xs (by rw [upd_ne y]; exact z)
        frzs := fun d o u z => by
          have y : d ≠ b := nb z (by intro q; cases (show HO.frz o u = HO.ext (bagP b) from q))
          rw [upd_ne y]
          exact un.frzs d o u (by rw [upd_ne y]; exact z)
        tbls := fun d xs z => by
          have y : d ≠ b := nb z (by intro q; cases (show HO.tbl xs = HO.ext (bagP b) from q))
          rw [upd_ne y]
          exact un.tbls d xs (by rw [upd_ne y]; exact z) }
end Kb

namespace Kb
open PySem PySem.Spec PyProof.Rows L2

/-! ### a bag that is made -/
theorem bag_new {P : Program} {w : World} {K : PySem.W.Frag} {mg : Str → Option Value} {base : Heap} {k : Nat} {f : Addr} {fd : FuncData} {ps : List Str} {sp sp' : Sp} (F : FnOk P w K mg base CX0 k f fd ps sp)
    (h : ∀ vs H Q E, sp' vs H Q E → vs.length = ps.length ∧ sp vs H (fun v H2 => ∃ (b : Addr) (x c t : Int), v = .ref b ∧ H b = none ∧ H2 b = some (.lst [.int x, .int c, .int t]) ∧ Q v (upd H2 b (bagO b))) E) :
    FnOk P w K mg base CX0 k f fd ps sp' := by
  refine ⟨fun vs H Q E q => (h _ _ _ _ q).1, fun A outer s H args us vs Q E hr he hb hv hs => ?_⟩
  refine codeAny_mono (F.run A outer s _ args us vs _ E hr he hb hv (h _ _ _ _ hs).2) fun r s' hq => ?_
  cases r with
  | error e => exact hq
  | ok fl =>
    cases fl with
    | next => exact hq
    | brk => exact hq
    | cont => exact hq
    | ret u =>
      obtain ⟨v, H2, os, bare, un, hok, r, b, x', c', t', ev, e0, e3, q3⟩ := hq
      have ne2 : ∀ {d : Addr}, H2 d = none → d ≠ b := fun {d} n z => by
        rw [z, e3] at n
        cases n
      refine ⟨v, _, os, bare, ?_, bag_close hok e3, r, q3⟩
      exact {
        keep := un.keep
        slot := un.slot
        free := fun d o g n hx => by
          have y := un.free d o g n hx
          rw [upd_ne (ne2 y)]
          exact y
        there := un.there
        tups := fun d xs z => by
          rw [upd_ne (ne_of_none z e0)]
          exact un.tups d xs z
        frzs := fun d o u z => by
          rw [upd_ne (ne_of_none z e0)]
          exact un.frzs d o u z
        tbls := fun d xs z => by
          rw [upd_ne (ne_of_none z e0)]
          exact un.tbls d xs z }

/-! ### set(xs), xs a list of ints -/
section
variable {P : Program} {w : World} {A : Around} {E : Value → Shared → Prop} {s : Shared}
abbrev bare0 (w : World) : Obj := { cls := .type "set", dict := none, data := .set #[] 0 (.fresh 0 0 (!w.params.followText "set-order")) }
abbrev with0 (w : World) (s : Shared) : Shared := { s with heap := s.heap.push (bare0 w) }
set_option maxHeartbeats 6400000 in
theorem set_of_list {l : Addr} {its : Array Value} (ns : List Int) {Q : Value → Shared → Prop} (ah : A.handled = none) (hl : s.heap.IsList l its) (ia : IntsAre its.toList ns) (room : ns.length + 1 < scanBound)
    (h : ∀ (g : Heap) (tk c : Nat), SetR w g s.heap.objs.size (fun j => decide (j ∈ ns)) c → c ≤ ns.length → (∀ b o, s.heap.get? b = some o → g.get? b = some o) → Q (.ref s.heap.objs.size) { s with heap := g, toks := tk }) :
    wpAny (model P w) A (call (.type "set") [.ref l]) Q E s := by
  have sz : its.size = ns.length := by
    have q := IntsAre.length ia
    rwa [Array.length_toList] at q
  obtain ⟨c0, tl0, mro0⟩ := F.called_set.mro
  have m1 := F.called_set.made
  have m2 := F.called_set.sub
  refine wpAny_call (codeAny_of_tree (show wpAny _ _ (callAny (.type "set") _) _ _ _ from wpAny_pure ⟨Code.quiet_builtin _ (by decide +kernel), codeAny_builtin F.entry_type_call ?_⟩))
  rw [Around.under_plain (weight_type_call_type "set" [.ref l] []) rfl]
  have m3 := F.called_set.notType
  have m4 := F.called_set.canCreate
  have m5 := F.typeCall_set_1 (.ref l)
  repeat (any_goals (first | assumption | wp_step))
  refine codeAny_mono (code_set_led1 (.ref l) (E := E) (Q₁ := fun ob s1 => ob = .ref s.heap.objs.size ∧ s1 = with0 w s) ⟨rfl, rfl⟩) fun r s1 hr => ?_
  cases r with
  | error e => exact hr
  | ok fl =>
    cases fl with
    | ret obj =>
      obtain ⟨rfl, rfl⟩ := hr
      have gS : (s.heap.push (bare0 w)).get? s.heap.objs.size = some (bare0 w) := Heap.get?_push_size _ rfl
      have tS : Shared.TypeIs (with0 w s) (.ref s.heap.objs.size) "set" := ⟨_, gS, rfl⟩
      have n1 := F.called_set.init.lookup
      have n2 := F.called_set.init.bind (.ref s.heap.objs.size)
      repeat (any_goals (first | assumption | wp_step))
      refine codeAny_mono (codeAny_call_builtin (R := wants (fun r s2 => r = .none ∧ ∃ g tk c, s2 = { s with heap := g, toks := tk } ∧ SetR w g s.heap.objs.size (fun j => decide (j ∈ ns)) c ∧ c ≤ ns.length ∧
          ∀ b o, s.heap.get? b = some o → g.get? b = some o) E) F.called_set.init.plain F.entry_set_init (check_set_init_1 tS ?_)) fun r2 s2 hr2 => ?_
      · obtain ⟨ol, gl, hcl, nl, hdl⟩ := hl
        obtain ⟨ocls, odict, odata, oslots⟩ := ol
        simp only at hcl hdl
        subst hcl
        subst hdl
        have gl2 : (s.heap.push (bare0 w)).get? l = some { cls := .type "list", dict := odict, data := .seq its nl, slots := oslots } := Heap.get?_push_of_some _ gl
        have k1 := F.sub_list_set
        have k2 := F.sub_list_frozenset
        have k3 : (Value.type "list" == Value.type "dict") = false := by decide
        have il : (s.heap.push (bare0 w)).IsList l its := ⟨_, gl2, rfl, nl, rfl⟩
        unfold Builtin.«set.__init__» noKeywords Builtin.Frozenset.updateFrom
        generalize eP : pyIter = PI
        wp_walk
        subst eP
        refine wpAny_pyIter_list il (wpAny_bind (wpAny_runValue ?_))
        have lS : l < s.heap.objs.size := Heap.lt_size gl
        have ah3 : A.in1.in1.in1.handled = none := by simp [ah]
        have zS : (s.heap.push (bare0 w)).objs.size = s.heap.objs.size + 1 := Heap.size_push ..
        have neI : l ≠ (s.heap.push (bare0 w)).objs.size := by
          rw [zS]
          exact Nat.ne_of_lt (Nat.lt_succ_of_lt lS)
        have fS : s.heap.objs.size ∉ [(s.heap.push (bare0 w)).objs.size, l] := by
          rw [zS]
          simp only [List.mem_cons, List.mem_singleton, List.not_mem_nil, or_false, not_or]
          exact ⟨Nat.ne_of_lt (Nat.lt_succ_self _), Nat.ne_of_gt lS⟩
        have vals : ∀ (i : Nat) (v : Value), its[i]? = some v → ∃ k t, ns[i]? = some k ∧ v = .int k t := fun i v hv => by
          have li : i < ns.length := by
            rw [← sz]
            exact (Array.getElem?_eq_some_iff.mp hv).1
          obtain ⟨t, e⟩ := PyProof.Rows.IntsAre.int_at ia i v (by rw [Array.getElem?_toList]; exact hv)
          refine ⟨ns[i], t, List.getElem?_eq_getElem li, e.trans ?_⟩
          rw [List.getD_eq_getElem?_getD, List.getElem?_eq_getElem li] <;> rfl
        refine set_update_ints ((Walks.list ah3 _ l neI its).toS) s.heap.objs.size fS ns sz room vals (its.size - 0) 0 _ (by omega) (Nat.zero_le _) ⟨⟨_, Heap.get?_push_size _ rfl, rfl, rfl⟩, il.push _⟩
          ⟨0, Nat.le_refl 0, setR_new_at (Heap.get?_push_of_some _ gS)⟩ fun s3 c3 hm hc3 hS3 => ?_
        obtain ⟨g, g2, d3, tk3, os3⟩ := s3
        obtain rfl : g2 = s.gens := hm.gens
        obtain rfl : d3 = s.drawn := hm.drawn
        obtain rfl : os3 = s.os := hm.os
        rw [sz] at hc3
        show wpAny _ _ _ _ _ _
        refine wpAny_pure ?_
        show wpAny _ _ (ret Value.none) _ _ _
        refine wpAny_pure ⟨rfl, g, tk3, c3, rfl, hS3, hc3, fun b o e => ?_⟩
        have lb : b < s.heap.objs.size := Heap.lt_size e
        refine hm.heap b o ?_ (Heap.get?_push_of_some _ (Heap.get?_push_of_some _ e))
        simp only [List.mem_cons, List.mem_singleton, List.not_mem_nil, or_false, not_or]
        refine ⟨Nat.ne_of_lt lb, ?_⟩
        rw [zS]
        exact Nat.ne_of_lt (Nat.lt_succ_of_lt lb)
      · cases r2 with
        | error e => exact hr2
        | ok fl2 =>
          cases fl2 with
          | ret r =>
            obtain ⟨rfl, g, tk, c, rfl, z1, z2, z3⟩ := hr2
            repeat (any_goals (first | assumption | wp_step))
            exact h _ _ _ z1 z2 z3
          | _ => exact hr2.elim
    | _ => exact hr.elim
end
section
variable {X : Cx}
theorem cr_set (hc : X.calm = true) : CallR X (.type "set") (fun xs H Q => ∃ (l : Addr) (ns : List Int), xs = [.ref l] ∧ SqL X.K H l (ns.map V.int) ∧ ns.length ≤ 60 ∧
    ∀ (a : Addr) (c : Nat), H a = none → c ≤ ns.length → Q (.ref a) (upd H a (SetO X.w a (fun j => decide (j ∈ ns)) c))) := by
  intro pins s σ H xs us Q I r h
  obtain ⟨l, ns, rfl, hq, hl, q⟩ := h
  rw [Vals.ref1 r]
  obtain ⟨its, rv, pt, hz⟩ := I.list hq
  refine set_of_list (its := its.toArray) ns (I.ok.hd hc) pt.isList (ints_of_vals rv) (by unfold scanBound; omega) fun g tk c R hc k => ?_
  have n : H s.heap.objs.size = none := I.hok.fresh (Nat.le_refl _)
  exact ⟨.ref _, _, I.laid (t' := tk) k (Nat.le_refl _) (setO_new R), rfl, q _ c n hc⟩
theorem cr_repr : CallR X (.builtin "repr") (fun xs H Q => (∃ i, xs = [.int i] ∧ i.natAbs.log2 < 1920 ∧ Q (.str (toString i)) H) ∨ (xs = [.non] ∧ Q (.str "None") H)) := by
  intro pins s σ H xs us Q I r h
  rcases h with ⟨i, rfl, hz, q⟩ | ⟨rfl, q⟩
  · obtain ⟨u, rfl, t, rfl⟩ := vals1 r
    exact PySem.P.repr_of_int hz ⟨.str _, H, I.tok _, ⟨_, rfl⟩, q⟩
  · obtain ⟨u, rfl, ru⟩ := vals1 r
    obtain rfl : u = Value.none := ru
    exact PySem.P.repr_of_none ⟨.str _, H, I.tok _, ⟨_, rfl⟩, q⟩
end
end Kb

namespace Kb
open PySem PySem.Spec PyProof.Rows L2
theorem bo_len : bootBuiltins "len" = some (.builtin "len") := by decide +kernel
theorem bo_abs : bootBuiltins "abs" = some (.builtin "abs") := by decide +kernel
theorem bo_max : bootBuiltins "max" = some (.builtin "max") := by decide +kernel
theorem bo_min : bootBuiltins "min" = some (.builtin "min") := by decide +kernel
theorem bo_sum : bootBuiltins "sum" = some (.builtin "sum") := by decide +kernel
theorem bo_all : bootBuiltins "all" = some (.builtin "all") := by decide +kernel
theorem bo_repr : bootBuiltins "repr" = some (.builtin "repr") := by decide +kernel
theorem bo_sorted : bootBuiltins "sorted" = some (.builtin "sorted") := by decide +kernel
theorem bo_isinstance : bootBuiltins "isinstance" = some (.builtin "isinstance") := by decide +kernel
theorem bo_int : bootBuiltins "int" = some (.type "int") := by decide +kernel
theorem bo_bool : bootBuiltins "bool" = some (.type "bool") := by decide +kernel
theorem bo_list : bootBuiltins "list" = some (.type "list") := by decide +kernel
theorem bo_tuple : bootBuiltins "tuple" = some (.type "tuple") := by decide +kernel
theorem bo_set : bootBuiltins "set" = some (.type "set") := by decide +kernel
theorem bo_str : bootBuiltins "str" = some (.type "str") := by decide +kernel
/-- names that are still the built-in ones -/
structure Bt (mg : Str → Option Value) : Prop where
  len : mg "len" = none
  abs : mg "abs" = none
  max : mg "max" = none
  min : mg "min" = none
  sum : mg "sum" = none
  all : mg "all" = none
  repr : mg "repr" = none
  sorted : mg "sorted" = none
  isinstance : mg "isinstance" = none
  int : mg "int" = none
  bool : mg "bool" = none
  list : mg "list" = none
  tuple : mg "tuple" = none
  set : mg "set" = none
  range : mg "range" = none
  zip : mg "zip" = none

/-! ### xs[::k], k reckoned, 1 or -1 -/
theorem pick_one (its : Array Value) : slicePick its none none (some 1) = its := by
  unfold slicePick
  have b : sliceBounds none none (some 1) its.size = (0, (its.size : Int), 1) := by first | rfl | simp [sliceBounds]
  rw [b]
  have e : sliceRange 0 (its.size : Int) 1 = List.range its.size := by
    unfold sliceRange
    by_cases h : (its.size : Int) > 0
    · have e1 : ((its.size : Int) - 0 + 1 - 1) / 1 = (its.size : Int) := by
        rw [Int.ediv_one]
        omega
      simp only [show ((1 : Int) > 0) from by decide, if_true, show (0 : Int) < (its.size : Int) from h, e1, Int.toNat_natCast]
      refine (List.map_congr_left fun k hk => ?_).trans (List.map_id _)
      show ((0 : Int) + 1 * (k : Int)).toNat = id k
      simp
    · have z : its.size = 0 := by omega
      rw [z]
      simp
  show ((sliceRange 0 (its.size : Int) 1).filterMap (its[·]?)).toArray = its
  rw [e, PySem.W.krv_all, Array.toArray_toList]
def tStep (K : PySem.W.Frag) (te ts : TE) : TE := fun σ H Q => te σ H fun x H1 => tPart ts σ H1 fun o H2 => ∃ a xs k, x = .ref a ∧ o = some k ∧ SqL K H2 a xs ∧
  ((k = 1 ∧ ∀ p, H2 p = none → Q (.ref p) (upd H2 p (.lst xs))) ∨ (k = -1 ∧ ∀ p, H2 p = none → Q (.ref p) (upd H2 p (.lst xs.reverse))))
theorem pe_slstep {X : Cx} {e st : Expr} {te ts : TE} {p3 pos : Pos} (he : PE X e te) (hst : PE X st ts) : PE X (.Subscript e (.Slice none none (some st) p3) pos) (tStep X.K te ts) := by
  refine ⟨fun pins s σ H Q I h => ?_⟩
  refine Subscript_ (thn (he.run pins s σ H _ I h) fun v s1 ⟨x, H1, I1, r1, q1⟩ => ?_)
  refine wpAny_Slice (thn (po_none.run pins s1 σ H1 (fun o H2 => o = none ∧ H2 = H1) I1 ⟨rfl, rfl⟩) fun vl s2 ⟨l, H2, I2, pl, el, e2⟩ => ?_)
  subst el e2
  refine thn (po_none.run pins s2 σ H2 (fun o H3 => o = none ∧ H3 = H2) I2 ⟨rfl, rfl⟩) fun vu s3 ⟨u, H3, I3, pu, eu, e3⟩ => ?_
  subst eu e3
  refine thn ((po_some hst).run pins s3 σ H3 _ I3 q1) fun vs s4 ⟨o, H4, I4, ps, a, xs, k, ex, eo, hx, q⟩ => ?_
  subst ex eo
  cases r1
  have I5 : Inv X pins σ H4 { s4 with heap := s4.heap.push { cls := .type "slice", data := .fields #[vl, vu, vs] } } := I4.kept (t' := s4.toks) fun b ob q => Heap.get?_push_of_some _ q
  obtain ⟨its, r, ht, hz⟩ := I5.list hx
  have hlen := r.length
  show wpAny (model X.prog X.w) X.A (subscriptTail e (.Slice none none (some st) p3) (.ref a) (.ref s4.heap.objs.size)) (EP X pins σ Q) X.xe { s4 with heap := s4.heap.push { cls := .type "slice", data := .fields #[vl, vu, vs] } }
  refine tail_any (ops := [.ref a, .ref s4.heap.objs.size]) ht.isList.typeIs (PySem.slot_list_getitem.lookup) ?_ rfl
  have bz : its.toArray.size ≤ sizeLine := by
    rw [List.size_toArray]
    omega
  rcases q with ⟨ek, q⟩ | ⟨ek, q⟩
  · subst ek
    refine wpAny_getItem_list_slice ht.isList (Heap.IsSliceOf.new _ vl vu vs) pl pu ps (by decide) ?_ bz
    rw [pick_one]
    exact ⟨.ref _, _, I5.laid (t' := s4.toks) (o := .lst xs) (fun b ob q => Heap.get?_push_of_some _ q) (Nat.le_refl _) ⟨hz, _, 0, r, Heap.get?_push_size _ rfl⟩, rfl, q _ (I5.hok.fresh (Nat.le_refl _))⟩
  · subst ek
    refine wpAny_getItem_list_slice ht.isList (Heap.IsSliceOf.new _ vl vu vs) pl pu ps (by decide) ?_ bz
    rw [PySem.W.krv_pick]
    exact ⟨.ref _, _, I5.laid (t' := s4.toks) (o := .lst xs.reverse) (fun b ob q => Heap.get?_push_of_some _ q) (Nat.le_refl _) ⟨by rw [List.length_reverse]; exact hz, _, 0, r.reverse, Heap.get?_push_size _ rfl⟩, rfl, q _ (I5.hok.fresh (Nat.le_refl _))⟩

/-! ### list(range(i, j, c)) -/
def tLstRg3 (ta : TA) : TE := fun σ H Q => ta σ H fun vs H1 => ∃ (i j c : Int) (n : Nat), vs = [.int i, .int j, .int c] ∧ RgC i j c n ∧ n ≤ 2 ^ 20 ∧ ∀ q, H1 q = none → Q (.ref q) (upd H1 q (.lst ((List.range n).map fun (m : Nat) => V.int (i + (m : Int) * c))))
theorem pe_listRg3 {X : Cx} {a b c : Expr} {ta : TA} {p p2 pos pos2 : Pos} (hc : X.calm = true) (hg : Gl X "list") (hm : X.mg "list" = none) (hm2 : X.mg "range" = none) (ha : PA X [a, b, c] ta) (hg2 : Gl X "range" := by rfl)
    (hs : starEach [a, b, c] X.env = (false, eval a X.env) :: starEach [b, c] X.env := by rfl) (hpl : (backTo pos2 (starEach [b, c] X.env)).any (·.1) = false := by rfl)
    (na : starEach [.Call (.Name "range" p2) [a, b, c] [] pos2] X.env = (false, eval (.Call (.Name "range" p2) [a, b, c] [] pos2) X.env) :: starEach [] X.env := by rfl) :
    PE X (.Call (.Name "list" p) [.Call (.Name "range" p2) [a, b, c] [] pos2] [] pos) (tLstRg3 ta) := by
  refine ⟨fun pins s σ H Q I h => ?_⟩
  refine Call_ (ld_blt I hg hm boot_list (PyProof.Rows.callWith_type1 (args_cons ?_ na) na))
  refine Call_ (ld_blt I hg2 hm2 boot_range (PyProof.Rows.callWith_type1 (thn (ha.run pos2 pins s σ H _ I h) fun us s1 ⟨vs, H1, I1, r1, q1⟩ => ?_) hs hpl))
  obtain ⟨i, j, k, n, e, ⟨c0, c1, c2, c3⟩, hn, q⟩ := q1
  subst e
  cases r1 with
  | cons r rr =>
    cases rr with
    | cons r' rr =>
      cases rr with
      | cons r'' rr =>
        cases rr
        obtain ⟨t, rfl⟩ := r
        obtain ⟨t', rfl⟩ := r'
        obtain ⟨t'', rfl⟩ := r''
        refine call_range_3 c0 ?_ (.inl (PyProof.noPylong_small c1))
        refine args_nil ?_
        have I2 : Inv X pins σ H1 { s1 with heap := s1.heap.push { cls := .type "range", data := .fields #[.int i t, .int j t', .int k t''] } } := I1.kept (t' := s1.toks) fun b o e => Heap.get?_push_of_some _ e
        refine call_list_range (n := n) (I2.ok.hd hc) (IsRange.new _ _ _ _ _ _ _) c2 c3 (Nat.le_trans hn (by decide)) fun h' tk acc c' hk e' hi => ?_
        have el : acc.toList.length = n := by
          rw [Array.length_toList]
          exact hi.1
        have hv : Vals ((List.range n).map fun (m : Nat) => V.int (i + (m : Int) * k)) acc.toList := by
          rw [← el]
          refine vals_of_get acc.toList _ fun m u hm => ?_
          obtain ⟨tt, rfl⟩ := hi.2 m u (by rw [← hm, Array.getElem?_toList])
          exact ⟨tt, rfl⟩
        refine ⟨.ref _, upd H1 _ (.lst _), I2.laid hk (Nat.le_refl _) (show ObjOk X.prog X.w _ _ _ (.lst ((List.range n).map fun (m : Nat) => V.int (i + (m : Int) * k))) from ⟨?_, acc.toList, c', hv, ?_⟩), rfl, q _ (I2.hok.fresh (Nat.le_refl _))⟩
        · rw [List.length_map, List.length_range, sizeLine_eq]
          omega
        · rw [Array.toArray_toList]
          exact e'
end Kb

namespace Kb
open PySem PySem.Spec PyProof.Rows L2
section
variable {K : PySem.W.Frag} {a b : Addr} {xs ys : List V} {n : Nat} {g : TG}
theorem for_zip {tb : TS} {D : Ends} {σ : L2.St} {H : Hp} (hn : n = min xs.length ys.length) (Pv : Nat → L2.St → Hp → Prop) (h0 : Pv 0 σ H) (hl : ∀ i σ H, i ≤ n → Pv i σ H → SqL K H a xs ∧ SqL K H b ys)
    (hs : ∀ i x y T σ H, i < n → xs[i]? = some x → ys[i]? = some y → H T = none → Pv i σ H → g (.ref T) σ (upd H T (.tup [x, y])) fun σ2 H2 => tb { D with nx := Pv (i + 1), ct := Pv (i + 1), bk := D.nx } σ2 H2) (hd : ∀ σ H, Pv n σ H → D.nx σ H) :
    ∃ W : Nat → Nat → L2.St → Hp → Prop, (∃ m, W 0 m σ H) ∧ ∀ i m σ H, W i m σ H →
      ((Itz K a b).stop i H ∧ D.nx σ H) ∨ ((Itz K a b).go i H ∧ ∃ N : L2.St → Hp → Prop, (∀ σ' H', N σ' H' → ∃ m', m' < m ∧ W (i + 1) m' σ' H') ∧ ∀ x H', (Itz K a b).yld i H x H' → g x σ H' fun σ2 H2 => tb { D with nx := N, ct := N, bk := D.nx } σ2 H2) := by
  refine ⟨fun i m σ H => m = n - i ∧ i ≤ n ∧ Pv i σ H, ⟨n, by simp, Nat.zero_le _, h0⟩, ?_⟩
  rintro i m σ H ⟨rfl, hi, p⟩
  obtain ⟨q1, q2⟩ := hl i σ H hi p
  by_cases hlt : i < n
  · have l1 : i < xs.length := by omega
    have l2 : i < ys.length := by omega
    have g1 : xs[i]? = some xs[i] := List.getElem?_eq_getElem l1
    have g2 : ys[i]? = some ys[i] := List.getElem?_eq_getElem l2
    refine .inr ⟨⟨_, _, _, _, q1, q2, g1, g2⟩, Pv (i + 1), fun σ' H' p' => ⟨n - (i + 1), by omega, rfl, hlt, p'⟩, fun v H' y => ?_⟩
    obtain ⟨T, x1, x2, rfl, nT, rfl, f1, f2⟩ := y
    exact hs i x1 x2 T σ H hlt (f1 xs q1) (f2 ys q2) nT p
  · have e : i = n := by omega
    subst e
    exact .inl ⟨⟨xs, ys, q1, q2, by omega⟩, hd σ H p⟩
theorem lc_zip {tt : TT} {te : TE} {vs : List Nat} {σ : L2.St} {H1 : Hp} {D : Addr} {Qd : Hp → Prop} (hn : n = min xs.length ys.length) (Pv : Nat → Hp → Prop) (h0 : Pv 0 (upd H1 D (.lst []))) (hl : ∀ i H, i ≤ n → Pv i H → SqL K H a xs ∧ SqL K H b ys)
    (hs : ∀ i x y T H, i < n → xs[i]? = some x → ys[i]? = some y → H T = none → Pv i H → g (.ref T) (wipe σ vs) (upd H T (.tup [x, y])) fun σ2 H2 => wipe σ2 vs = wipe σ vs ∧ tt σ2 H2 fun b H3 =>
      if b = true then te σ2 H3 fun y H4 => ∃ acc, H4 D = some (.lst acc) ∧ acc.length < sizeLine ∧ Pv (i + 1) (upd H4 D (.lst (acc ++ [y]))) else Pv (i + 1) H3) (hd : ∀ H, Pv n H → Qd H) :
    ∃ W : Nat → Nat → Hp → Prop, (∃ m, W 0 m (upd H1 D (.lst []))) ∧ ∀ i m H, W i m H →
      ((Itz K a b).stop i H ∧ Qd H) ∨ ((Itz K a b).go i H ∧ ∃ Nx : Hp → Prop, (∀ H', Nx H' → ∃ m', m' < m ∧ W (i + 1) m' H') ∧ ∀ x H', (Itz K a b).yld i H x H' → g x (wipe σ vs) H' fun σ2 H2 => wipe σ2 vs = wipe σ vs ∧ tt σ2 H2 fun b H3 =>
        if b = true then te σ2 H3 fun y H4 => ∃ acc, H4 D = some (.lst acc) ∧ acc.length < sizeLine ∧ Nx (upd H4 D (.lst (acc ++ [y]))) else Nx H3) := by
  refine ⟨fun i m H => m = n - i ∧ i ≤ n ∧ Pv i H, ⟨n, by simp, Nat.zero_le _, h0⟩, ?_⟩
  rintro i m H ⟨rfl, hi, p⟩
  obtain ⟨q1, q2⟩ := hl i H hi p
  by_cases hlt : i < n
  · have l1 : i < xs.length := by omega
    have l2 : i < ys.length := by omega
    have g1 : xs[i]? = some xs[i] := List.getElem?_eq_getElem l1
    have g2 : ys[i]? = some ys[i] := List.getElem?_eq_getElem l2
    refine .inr ⟨⟨_, _, _, _, q1, q2, g1, g2⟩, Pv (i + 1), fun H' p' => ⟨n - (i + 1), by omega, rfl, hlt, p'⟩, fun v H' y => ?_⟩
    obtain ⟨T, x1, x2, rfl, nT, rfl, f1, f2⟩ := y
    exact hs i x1 x2 T H hlt (f1 xs q1) (f2 ys q2) nT p
  · have e : i = n := by omega
    subst e
    exact .inl ⟨⟨xs, ys, q1, q2, by omega⟩, hd H p⟩
end
/-! ### a list in the making, and what else stands -/
theorem IsSc.lset {H : Hp} {D : Addr} {us us' : List V} {v : V} {s : Sc} (hD : H D = some (.lst us)) (h : IsSc H v s) : IsSc (upd H D (.lst us')) v s := by
  obtain ⟨t, e, ht⟩ := h
  refine ⟨t, e, ?_⟩
  rw [upd_ne (ne_of ht hD (by intro z; cases z))]
  exact ht
theorem Pa.lset {H : Hp} {D : Addr} {us us' : List V} (hD : H D = some (.lst us)) : ∀ {vs : List V} {ss : List Sc}, Paired (IsSc H) vs ss → Paired (IsSc (upd H D (.lst us'))) vs ss
  | _, _, .nil => .nil
  | _, _, .cons h t => .cons (h.lset hD) (Pa.lset hD t)
theorem Pa.snoc {H : Hp} {vs : List V} {ss : List Sc} {v : V} {s : Sc} (h : Paired (IsSc H) vs ss) (k : IsSc H v s) : Paired (IsSc H) (vs ++ [v]) (ss ++ [s]) := Pa.app h (.cons k .nil)
/-- the pair that a value stands for -/
def kOf (H : Hp) : V → Int × Int
  | .ref t => match H t with
    | some (.tup [.int x, .int y]) => (x, y)
    | _ => (0, 0)
  | _ => (0, 0)
theorem kOf_eq {H : Hp} {v : V} {s : Sc} (h : IsSc H v s) : kOf H v = s := by
  obtain ⟨t, rfl, e⟩ := h
  show (match H t with
    | some (.tup [.int x, .int y]) => (x, y)
    | _ => (0, 0)) = s
  rw [e]
theorem Pa.kOf {H : Hp} : ∀ {vs : List V} {ss : List Sc}, Paired (IsSc H) vs ss → vs.map (Kb.kOf H) = ss
  | _, _, .nil => rfl
  | _, _, .cons h t => by rw [List.map_cons, kOf_eq h, Pa.kOf t]
theorem Pa.of_map {H : Hp} : ∀ {vs : List V}, (∀ v ∈ vs, ∃ s, IsSc H v s) → Paired (IsSc H) vs (vs.map (Kb.kOf H))
  | [], _ => .nil
  | v :: r, h => by
    obtain ⟨s, hs⟩ := h v List.mem_cons_self
    have e := kOf_eq hs
    refine .cons ?_ (Pa.of_map fun u hu => h u (List.mem_cons_of_mem _ hu))
    rw [e]
    exact hs
theorem Pa.mem {H : Hp} : ∀ {vs : List V} {ss : List Sc}, Paired (IsSc H) vs ss → ∀ v ∈ vs, ∃ s, s ∈ ss ∧ IsSc H v s
  | _, _, .nil, v, hv => by cases hv
  | _, _, .cons h t, v, hv => by
    rcases List.mem_cons.mp hv with e | e
    · subst e
      exact ⟨_, List.mem_cons_self, h⟩
    · obtain ⟨s, m, q⟩ := Pa.mem t v e
      exact ⟨s, List.mem_cons_of_mem _ m, q⟩
/-- sorted pairs: what a call of sorted hands back, by pairs -/
theorem Pa.sorted {H : Hp} {us vs : List V} {ss : List Sc} (h : Paired (IsSc H) vs ss) (s1 : SrtO.Srtd (ltP (Kb.kOf H)) us) (s2 : SrtO.Stb (ltP (Kb.kOf H)) us vs) :
    ∃ ts : List Sc, Paired (IsSc H) us ts ∧ ts.Perm ss ∧ ts.Pairwise fun p q => p.1 ≤ q.1 := by
  refine ⟨us.map (Kb.kOf H), Pa.of_map fun v hv => ?_, ?_, ?_⟩
  · obtain ⟨s, _, q⟩ := Pa.mem h v (s2.perm.mem_iff.mp hv)
    exact ⟨s, q⟩
  · rw [← Pa.kOf h]
    exact s2.perm.map _
  · refine List.pairwise_map.mpr (s1.imp fun {x y} q => ?_)
    have z := SrtO.lexB_no.mp q
    omega
end Kb
namespace Kb
open PySem PySem.Spec PyProof.Rows L2
structure Br (mg : Str → Option Value) : Prop where
  reversed : mg "reversed" = none
theorem lc_rev {K : PySem.W.Frag} {a : Addr} {xs : List V} {g : TG} {tt : TT} {te : TE} {vs : List Nat} {σ : L2.St} {H1 : Hp} {D : Addr} {Qd : Hp → Prop} (Pv : Nat → Hp → Prop) (h0 : Pv 0 (upd H1 D (.lst []))) (hl : ∀ i H, i ≤ xs.length → Pv i H → SqL K H a xs)
    (hs : ∀ i x H, xs.reverse[i]? = some x → Pv i H → g x (wipe σ vs) H fun σ2 H2 => wipe σ2 vs = wipe σ vs ∧ tt σ2 H2 fun b H3 =>
      if b = true then te σ2 H3 fun y H4 => ∃ acc, H4 D = some (.lst acc) ∧ acc.length < sizeLine ∧ Pv (i + 1) (upd H4 D (.lst (acc ++ [y]))) else Pv (i + 1) H3) (hd : ∀ H, Pv xs.length H → Qd H) :
    ∃ W : Nat → Nat → Hp → Prop, (∃ m, W 0 m (upd H1 D (.lst []))) ∧ ∀ i m H, W i m H →
      ((Itv K a xs.length).stop i H ∧ Qd H) ∨ ((Itv K a xs.length).go i H ∧ ∃ Nx : Hp → Prop, (∀ H', Nx H' → ∃ m', m' < m ∧ W (i + 1) m' H') ∧ ∀ x H', (Itv K a xs.length).yld i H x H' → g x (wipe σ vs) H' fun σ2 H2 => wipe σ2 vs = wipe σ vs ∧ tt σ2 H2 fun b H3 =>
        if b = true then te σ2 H3 fun y H4 => ∃ acc, H4 D = some (.lst acc) ∧ acc.length < sizeLine ∧ Nx (upd H4 D (.lst (acc ++ [y]))) else Nx H3) := by
  refine ⟨fun i m H => m = xs.length - i ∧ i ≤ xs.length ∧ Pv i H, ⟨xs.length, by simp, Nat.zero_le _, h0⟩, ?_⟩
  rintro i m H ⟨rfl, hi, p⟩
  have q := hl i H hi p
  by_cases hlt : i < xs.length
  · have ix : xs.length - 1 - i < xs.length := by omega
    refine .inr ⟨⟨hlt, xs, xs[xs.length - 1 - i], q, List.getElem?_eq_getElem ix⟩, Pv (i + 1), fun H' p' => ⟨xs.length - (i + 1), by omega, rfl, hlt, p'⟩, fun x H' y => ?_⟩
    obtain ⟨e, y⟩ := y
    subst e
    refine hs i x _ ?_ p
    rw [List.getElem?_reverse hlt]
    exact y xs q
  · have e : i = xs.length := by omega
    subst e
    exact .inl ⟨Nat.le_refl _, hd H p⟩
end Kb

namespace Kb
open PySem PySem.Spec PyProof.Rows L2
/-! ### defs that print lists: they are called where no list is being printed -/
structure FnG (P : Program) (w : World) (K : PySem.W.Frag) (mg : Str → Option Value) (base : Heap) (k : Nat) (f : Addr) (fd : FuncData) (ps : List Str) (sp : Sp) : Prop where
  len : ∀ vs H Q E, sp vs H Q E → vs.length = ps.length
  run : ∀ (A : Around) (outer : List Env) (s : Shared) (H : Hp) (args : Args) (us : List Value) (vs : List V) (Q : VK) (E : XK), Room k A → A.guards = some [] → Env0 P w K mg base A outer s H → BindsTo s fd args (ps.zip us) → Vals vs us → sp vs H Q E →
    codeAny (model P w) A (.call (.ref f) args) (CR CX0 outer P w H s Q E) s
section
variable {P : Program} {w : World} {K : PySem.W.Frag} {mg : Str → Option Value} {base : Heap}
theorem okG {x qual : Str} {st : Stmt} {f : Addr} {fd : FuncData} {N ps : List Str} {k : Nat} {sp : Sp} (F : Fun K x qual st f fd) (S : FnScope N ps (defScope st)) (len : ∀ vs H Q E, sp vs H Q E → vs.length = ps.length)
    (hbody : ∀ (cdv : Value) (A : Around) (outer : List Env) (s : Shared) (H : Hp) (vs : List V) (Q : VK) (E : XK), Room k (A.deeper (envOfC qual (defScope st) s.heap.objs.size f cdv)) → A.guards = some [] → sp vs H Q E →
      ∃ t, PSs (cxOf CX0 P w K mg base N qual (defScope st) f cdv A outer s H E).nox (defBody st) t ∧ t { nx := fun _ H' => Q .non H', rt := Q } (start N vs) H) : FnG P w K mg base (k + 1) f fd ps sp := by
  obtain ⟨oc, od, kV, doc, pm, an, cdv, ct, osl, rfl, lk, code⟩ := F.ex
  refine ⟨len, fun A outer s H args us vs Q E room g e0 bnd r hs => ?_⟩
  have kin : K.In s.heap := e0.mod.kin.keeps fun b o z => (e0.bs b o z).1
  have nl : s.heap.NoLimit := e0.mod.nolimit.keeps fun b o z => (e0.bs b o z).1
  have hl := len _ _ _ _ hs
  have lc : ∀ y ∈ ps.zip us, (defScope st).names.lookup y.1 = some .local ∨ ((defScope st).names.lookup y.1 = some .cell ∧ ((cellsFrom (s.heap.objs.size + 1) (defScope st).names []).lookup y.1).isSome = true) := by
    rintro ⟨n, v⟩ hy
    exact (S.par n (List.of_mem_zip hy).1).imp id fun z => ⟨z, PySem.W.cellsFrom_some _ _ _ (.inl z)⟩
  refine codeAny_call_function room.depth (kin _ _ lk) rfl S.co S.gen rfl (PySem.W.codeRec_of kin code) (bnd _ _ _ _ (wpAny_newFunctionEnv_cells S.kind lc fun env ev s1 ic => ?_))
  subst ev
  refine ⟨nl.keeps ic.toInCall.keep, codeAny_func ?_⟩
  obtain ⟨t, ht, hq⟩ := hbody cdv A outer s H vs Q E (room.deeper _) g hs
  have I := inv_start (CX := CX0) (P := P) (E := E) S room.hd e0 hl r ic
  refine wpAny_mono (ht.nox.run [] s1 _ H _ I hq) (fun fl s2 z => ?_) fun _ _ z => z
  cases fl with
  | next =>
    obtain ⟨σ', H', J, y⟩ := z
    exact ⟨.non, H', J.os, J.bare, J.base, J.hok, rfl, y⟩
  | ret u =>
    obtain ⟨v, σ', H', J, rv, y⟩ := z
    exact ⟨v, H', J.os, J.bare, J.base, J.hok, rv, y⟩
  | brk =>
    obtain ⟨_, _, _, y⟩ := z
    exact y.elim
  | cont =>
    obtain ⟨_, _, _, y⟩ := z
    exact y.elim
structure DfG (P : Program) (w : World) (K : PySem.W.Frag) (mg : Str → Option Value) (base : Heap) (x : Str) (k : Nat) (ps : List Str) (sp : Sp) : Prop where
  ex : ∃ f fd, mg x = some (.ref f) ∧ PySem.W.keepIn K (.ref f) = true ∧ Binds K fd ps [] ∧ FnG P w K mg base k f fd ps sp
theorem FnG.lift {k k' : Nat} {f : Addr} {fd : FuncData} {ps : List Str} {sp : Sp} (F : FnG P w K mg base k f fd ps sp) (h : k ≤ k') : FnG P w K mg base k' f fd ps sp :=
  ⟨F.len, fun A outer s H args us vs Q E hr => F.run A outer s H args us vs Q E (hr.mono h)⟩
end
theorem pe_dg {X : Cx} {x : Str} {k k' : Nat} {ps : List Str} {sp : Sp} {p pos : Pos} {e : Expr} {es : List Expr} {t : TA} (D : DfG X.prog X.w X.K X.mg X.base x k ps sp) (hr : Room k' X.A) (g : X.A.guards = some []) (ha : PA X (e :: es) t) (hk : k ≤ k' := by decide) (hg : Gl X x := by rfl)
    (hdb : (x == ("__debug__" : Str)) = false := by decide) (he : starEach (e :: es) X.env = (false, eval e X.env) :: starEach es X.env := by rfl) (hpl : (backTo pos (starEach es X.env)).any (·.1) = false := by rfl) :
    PE X (.Call (.Name x p) (e :: es) [] pos) (tCall sp [] E0 t) := by
  obtain ⟨f, fd, hm, hkp, hb, F⟩ := D.ex
  refine ⟨fun pins s σ H Q I h => wpAny_Call_Name_kw (ld_glob I hg hm ?_ hdb)⟩
  refine PySem.W.callWith_K (h₀ := X.base) I.ok.mod.kin hkp (thn (ha.run pos pins s σ H _ I h) fun us s1 ⟨vs, H1, I1, r, q⟩ => ⟨I1.kIn, ?_⟩) he hpl
  have q' : sp vs H1 Q E0 := by
    rw [← List.append_nil vs]
    exact q
  have hl : (us ++ []).length = ps.length := by
    rw [List.append_nil, ← r.length]
    exact F.len _ _ _ _ q'
  have bd := hb s1 us I1.kIn hl
  rw [List.append_nil] at bd
  refine wpAny_call (codeAny_mono (F.run X.A X.stack s1 H1 ⟨us, []⟩ us vs Q E0 (hr.mono hk) g I1.env0 bd r q') fun y s2 z => ?_)
  cases y with
  | error er => exact z.elim
  | ok fl =>
    cases fl with
    | ret u => exact I1.after z
    | next => exact z.elim
    | brk => exact z.elim
    | cont => exact z.elim
/-! ### repr of data of any depth -/
theorem cr_reprD {X : Cx} (g : X.A.guards = some []) (hu : X.A.units + 64 < cLine) : CallR X (.builtin "repr") (fun xs H Q => ∃ (a : Addr) (d : PyData), xs = [.ref a] ∧ Dp X.K H (.ref a) d ∧ d.showable = true ∧ d.hasDict = false ∧ d.depth ≤ 60 ∧ d.shown.length ≤ sizeLine ∧ Q (.str d.shown) H) := by
  intro pins s σ H xs us Q I r h
  obtain ⟨a, d, rfl, hd, h1, h2, h3, h4, q⟩ := h
  rw [Vals.ref1 r]
  obtain ⟨as, hr⟩ := Dp.reads I d _ _ hd rfl
  exact PySem.repr_of_reads' hr h1 (fun z => by rw [h2] at z; cases z) g (by omega) (fun _ _ z => z) (fun h' u tk k => ⟨.str d.shown, H, I.kept (t' := tk) k, ⟨u, rfl⟩, q⟩) h4
/-! ### the law's own call -/
section
variable {P : Program} {w : World} {K : PySem.W.Frag} {mg mb : Str → Option Value}
theorem law_run {k : Nat} {fa a : Addr} {fd : FuncData} {x : Str} {sp : Sp} {s1 : Shared} {vs : List Value} {ns : List Int} (kin : K.In s1.heap) (hns : s1.heap.Ns mainGlobals mg) (hb : s1.heap.Ns builtinsNs mb) (hbb : ∀ x : Str, x ≠ "__name__" → mb x = bootBuiltins x)
    (hlim : s1.heap.NoLimit) (hg : s1.gens = #[]) (ha : s1.heap.get? a = some { cls := .type "list", data := .seq vs.toArray }) (hia : IntsAre vs ns) (hl : ns.length ≤ sizeLine) (room : Room k callerA)
    (F : ∀ base : Heap, K.In base → base.Ns mainGlobals mg → FnG P w K mg base k fa fd [x] sp) (bnd : ∀ (s : Shared) (u : Value), BindsTo s fd ⟨[u], []⟩ [(x, u)])
    (hsp : ∀ H : Hp, Only H → SqL K H a (ns.map V.int) → sp [.ref a] H (fun v _ => v = .bl true) E0) :
    codeAny (model P w) callerA (.call (.ref fa) ⟨[.ref a], []⟩) (fun r s' => r = .ok (.ret (.bool true)) ∧ OldK s1.heap s'.heap ∧ s'.os = s1.os ∧ AllBare s'.gens) s1 := by
  have go : ∀ H : Hp, Only H → SqL K H a (ns.map V.int) → HOk P w H s1.heap → (∀ b, b ≠ a → H b = none) → (H a = none ∨ K.lookup a = none) →
      codeAny (model P w) callerA (.call (.ref fa) ⟨[.ref a], []⟩) (fun r s' => r = .ok (.ret (.bool true)) ∧ OldK s1.heap s'.heap ∧ s'.os = s1.os ∧ AllBare s'.gens) s1 := by
    intro H only hS ok off aK
    have dct : ∀ {b : Addr} {o : Obj} {es : Array DictEntry} {ep : Nat}, s1.heap.get? b = some o → o.data = .dict es ep → H b = none := by
      intro b o es ep e d
      refine off b fun z => ?_
      subst z
      rw [ha] at e
      cases e
      cases (show Data.seq vs.toArray _ = Data.dict es ep from d)
    have nsOf : ∀ {b : Addr} {m : Str → Option Value}, s1.heap.Ns b m → (hidT s1.heap H).Ns b m := by
      rintro b m ⟨o, es, ep, e, d, r⟩
      exact ⟨o, es, ep, hidT_get e (dct e d), d, r⟩
    have kin2 : K.In (hidT s1.heap H) := by
      intro b o e
      refine hidT_get (kin b o e) ?_
      by_cases z : b = a
      · subst z
        rcases aK with y | y
        · exact y
        · rw [y] at e
          cases e
      · exact off b z
    have lim2 : (hidT s1.heap H).NoLimit := by
      obtain ⟨mc, y1, y2⟩ := hlim
      exact ⟨mc, nsOf y1, y2⟩
    have env : Env0 P w K mg (hidT s1.heap H) callerA [] s1 H :=
      { frames := rfl, mod := ⟨kin2, nsOf hns, ⟨mb, nsOf hb, hbb⟩, lim2⟩, bs := fun b o e => of_hidT e, bsz := Nat.le_of_eq (hidT_size _ _), funs := trivial, frf := fun b z => (by cases (show b ∈ ([] : List Addr) from z)), hok := ok, bare := .of_eq hg }
    refine codeAny_mono ((F _ kin2 (nsOf hns)).run callerA [] s1 H ⟨[.ref a], []⟩ [.ref a] [.ref a] _ _ room rfl env (bnd s1 (.ref a)) (.cons rfl .nil) (hsp H only hS)) fun r s2 z => ?_
    cases r with
    | error e => exact z.elim
    | ok fl =>
      cases fl with
      | next => exact z.elim
      | brk => exact z.elim
      | cont => exact z.elim
      | ret u =>
        obtain ⟨v, H2, os, bare, un, ok2, rv, y⟩ := z
        have y' : v = .bl true := y
        subst y'
        obtain rfl : u = Value.bool true := rv
        refine ⟨rfl, OldK.of_keep fun b o e => ?_, os, bare⟩
        rcases only b with n | ⟨ob, xs, n⟩
        · exact un.keep b o e n (fun q => by cases (show b ∈ ([] : List Addr) from q)) (by simp)
        · obtain ⟨g1, _⟩ := ok b _ n
          obtain ⟨g2, _⟩ := ok2 b _ (un.frzs b ob _ n)
          exact g2.trans (g1.symm.trans e)
  have rv : Vals (ns.map V.int) vs := vals_ints hia
  cases hk : K.lookup a with
  | some o =>
    have e := kin a o hk
    rw [ha] at e
    cases e
    refine go (fun _ => none) (fun _ => .inl rfl) (.inr ⟨_, vs.toArray, _, hk, rfl, rfl, rfl, ?_, by simpa using rv⟩) (fun b u z => by cases (show (none : Option HO) = some u from z)) (fun _ _ => rfl) (.inl rfl)
    rw [List.size_toArray, hia.length]
    exact hl
  | none =>
    have at_a : (fun b => if b = a then some (HO.frz { cls := .type "list", data := .seq vs.toArray } (.lst (ns.map V.int))) else none : Hp) a = some (.frz { cls := .type "list", data := .seq vs.toArray } (.lst (ns.map V.int))) := if_pos rfl
    refine go (fun b => if b = a then some (.frz { cls := .type "list", data := .seq vs.toArray } (.lst (ns.map V.int))) else none) (fun b => ?_) (.inl (.inr ⟨_, at_a⟩)) (fun b u z => ?_) (fun b z => if_neg z) (.inr hk)
    · by_cases z : b = a
      · exact .inr ⟨_, _, if_pos z⟩
      · exact .inl (if_neg z)
    · by_cases y : b = a
      · subst y
        cases at_a.symm.trans z
        exact ⟨ha, by rw [List.length_map]; exact hl, vs, _, rv, ha⟩
      · cases (if_neg y).symm.trans z
theorem walk_g {l : PySem.W.OpenLaw} {n k : Nat} {q : Program} {loose : List Str} {XP : (Str → Option Value) → Heap → Prop} {YP : World → Heap → Prop} {d : DefRec} {K : Params → PySem.W.Frag} {sp : World → Sp} {x : Str} (hn : l.most = some n) (hn2 : n ≤ sizeLine) (hdf : d.params.defaults = []) (room : Room k callerA)
    (hY : ∀ (w : World) (h : Heap), YP w h → (K w.params).In h)
    (F : ∀ (w : World) (mg : Str → Option Value) (fa : Addr) (h : Heap), (K w.params).In h → h.Ns mainGlobals mg → mg d.name = some (.ref fa) →
      ∃ fd : FuncData, (∀ (s : Shared) (u : Value), BindsTo s fd ⟨[u], []⟩ [(x, u)]) ∧ ∀ base : Heap, (K w.params).In base → base.Ns mainGlobals mg → FnG l.prog w (K w.params) mg base k fa fd [x] (sp w))
    (hsp : ∀ (w : World) (H : Hp) (a : Addr) (ns : List Int), ns.length ≤ n → Only H → SqL (K w.params) H a (ns.map V.int) → sp w [.ref a] H (fun v _ => v = .bl true) E0) :
    PySem.W.WalkO q loose XP YP l.row.toRowW d [] (fun f vs => PySem.call f vs) := by
  refine Att.attach_call hn hdf fun w s0 s1 mg mb fa o pm cd doc a vs ns G Y ho hd code hmg obj hia hlen gens => ?_
  have kin := hY w _ Y
  obtain ⟨fd, bnd, hF⟩ := F w mg fa _ kin G.T.g hmg
  exact law_run kin G.T.g G.T.b G.T.builtins G.T.nolimit gens obj hia (Nat.le_trans hlen hn2) room hF bnd fun H only hS => hsp w H a ns hlen only hS
end
end Kb

namespace Kb
/-! ### pieces of profiles, without a program -/
abbrev Pc := Int × Int × Int
def wt (G : Int → Int) : List Pc → Int
  | [] => 0
  | p :: r => p.2.2 * (G p.1 - G (p.2.1 + 1)) + wt G r
def ind (x y : Int) : Int := if y = x then 1 else 0
def chg (ps : List Pc) (x : Int) : Int := wt (ind x) ps
def sumG (c G : Int → Int) : List Int → Int
  | [] => 0
  | k :: r => c k * G k + sumG c G r
theorem wt_app (G : Int → Int) : ∀ a b : List Pc, wt G (a ++ b) = wt G a + wt G b
  | [], b => by simp [wt]
  | p :: r, b => by
    show _ + wt G (r ++ b) = _ + wt G r + wt G b
    rw [wt_app G r b]
    omega
theorem sumG_perm {c G : Int → Int} {a b : List Int} (h : a.Perm b) : sumG c G a = sumG c G b := by
  induction h with
  | nil => rfl
  | cons x _ ih =>
    show _ + _ = _ + _
    rw [ih]
  | swap x y l =>
    show c y * G y + (c x * G x + sumG c G l) = c x * G x + (c y * G y + sumG c G l)
    omega
  | trans _ _ h1 h2 => exact h1.trans h2
theorem sumG_filter {c G : Int → Int} : ∀ ks : List Int, sumG c G (ks.filter fun k => decide (c k ≠ 0)) = sumG c G ks
  | [] => rfl
  | k :: r => by
    rw [List.filter_cons]
    by_cases h : c k = 0
    · rw [if_neg (by simp [h]), sumG_filter r]
      show _ = c k * G k + _
      rw [h]
      omega
    · rw [if_pos (by simp [h])]
      show c k * G k + _ = c k * G k + _
      rw [sumG_filter r]
theorem sumG_add {c d G : Int → Int} : ∀ ks : List Int, sumG (fun x => c x + d x) G ks = sumG c G ks + sumG d G ks
  | [] => rfl
  | k :: r => by
    show (c k + d k) * G k + sumG _ G r = (c k * G k + _) + (d k * G k + _)
    rw [sumG_add r, Int.add_mul]
    omega
theorem sumG_sub {c d G : Int → Int} : ∀ ks : List Int, sumG (fun x => c x - d x) G ks = sumG c G ks - sumG d G ks
  | [] => rfl
  | k :: r => by
    show (c k - d k) * G k + sumG _ G r = (c k * G k + _) - (d k * G k + _)
    rw [sumG_sub r, Int.sub_mul]
    omega
theorem sumG_ind {t l : Int} {G : Int → Int} : ∀ {ks : List Int}, ks.Nodup → sumG (fun x => t * ind x l) G ks = if l ∈ ks then t * G l else 0
  | [], _ => by simp [sumG]
  | k :: r, nd => by
    have n := List.nodup_cons.mp nd
    show t * ind k l * G k + sumG _ G r = _
    rw [sumG_ind n.2]
    by_cases h : l = k
    · subst h
      rw [if_neg n.1, if_pos (List.mem_cons_self ..)]
      unfold ind
      rw [if_pos rfl]
      simp
    · have : ind k l = 0 := if_neg h
      rw [this]
      by_cases m : l ∈ r
      · rw [if_pos m, if_pos (List.mem_cons_of_mem _ m)]
        simp
      · rw [if_neg m, if_neg (by simp [h, m])]
        simp
theorem sumG_wt {G : Int → Int} {ks : List Int} (nd : ks.Nodup) : ∀ {ps : List Pc}, (∀ p ∈ ps, p.1 ∈ ks ∧ p.2.1 + 1 ∈ ks) → sumG (chg ps) G ks = wt G ps
  | [], _ => by
    have z : ∀ ks : List Int, sumG (chg []) G ks = 0 := fun ks => by
      induction ks with
      | nil => rfl
      | cons k r ih =>
        show 0 * G k + _ = 0
        rw [ih]
        omega
    exact z ks
  | p :: r, h => by
    have hp := h p (List.mem_cons_self ..)
    have e : chg (p :: r) = fun x => (fun x => (fun x => p.2.2 * ind x p.1) x - (fun x => p.2.2 * ind x (p.2.1 + 1)) x) x + chg r x := by
      funext x
      show p.2.2 * (ind x p.1 - ind x (p.2.1 + 1)) + wt (ind x) r = _
      rw [Int.mul_sub]
      rfl
    rw [e, sumG_add, sumG_sub, sumG_ind nd, sumG_ind nd, if_pos hp.1, if_pos hp.2, sumG_wt nd fun q hq => h q (List.mem_cons_of_mem _ hq)]
    show _ = p.2.2 * (G p.1 - G (p.2.1 + 1)) + _
    rw [Int.mul_sub]
/-! ### the rows between the turns -/
def rowsG (c : Int → Int) : List Int → Int → List Pc
  | [], _ => []
  | [_], _ => []
  | s :: f :: r, now => if now + c s ≠ 0 then (s, f - 1, now + c s) :: rowsG c (f :: r) (now + c s) else rowsG c (f :: r) (now + c s)
def lastD (s : Int) : List Int → Int
  | [] => s
  | f :: r => lastD f r
theorem rowsG_wt {c G : Int → Int} : ∀ (r : List Int) (s now : Int), wt G (rowsG c (s :: r) now) = sumG c G (s :: r) + now * G s - (now + sumG c (fun _ => 1) (s :: r)) * G (lastD s r)
  | [], s, now => by
    show 0 = c s * G s + 0 + now * G s - (now + (c s * 1 + 0)) * G s
    rw [Int.mul_one, Int.add_zero, Int.add_zero, Int.add_mul]
    omega
  | f :: r, s, now => by
    have ih := rowsG_wt (c := c) (G := G) r f (now + c s)
    have e1 : wt G (rowsG c (s :: f :: r) now) = (now + c s) * (G s - G f) + wt G (rowsG c (f :: r) (now + c s)) := by
      show wt G (if now + c s ≠ 0 then _ else _) = _
      by_cases h : now + c s = 0
      · rw [if_neg (by simp [h]), h]
        omega
      · rw [if_pos h]
        show (now + c s) * (G s - G (f - 1 + 1)) + _ = _
        rw [Int.sub_add_cancel]
    rw [e1, ih]
    show _ = c s * G s + sumG c G (f :: r) + now * G s - (now + (c s * 1 + sumG c (fun _ => 1) (f :: r))) * G (lastD f r)
    rw [Int.mul_one, ← Int.add_assoc now (c s), Int.mul_sub, Int.add_mul now (c s) (G s)]
    omega
/-- as few pieces as possible, ascending -/
def Can : List Pc → Prop
  | [] => True
  | p :: r => p.1 ≤ p.2.1 ∧ p.2.2 ≠ 0 ∧ (∀ q ∈ r.head?, p.2.1 < q.1 ∧ (p.2.1 + 1 = q.1 → p.2.2 ≠ q.2.2)) ∧ Can r
theorem rowsG_can {c : Int → Int} : ∀ (r : List Int) (s now : Int), (s :: r).Pairwise (· < ·) → (∀ x ∈ s :: r, c x ≠ 0) → Can (rowsG c (s :: r) now) ∧ ∀ q ∈ (rowsG c (s :: r) now).head?, s ≤ q.1 ∧ (s = q.1 → now ≠ q.2.2)
  | [], s, now, _, _ => ⟨trivial, fun q h => by cases h⟩
  | f :: r, s, now, o, h => by
    have o2 := List.pairwise_cons.mp o
    have lt : s < f := o2.1 f (List.mem_cons_self ..)
    have hs := h s (List.mem_cons_self ..)
    obtain ⟨ih1, ih2⟩ := rowsG_can r f (now + c s) o2.2 fun x hx => h x (List.mem_cons_of_mem _ hx)
    show Can (if now + c s ≠ 0 then _ else _) ∧ ∀ q ∈ (if now + c s ≠ 0 then _ else _ : List Pc).head?, _
    by_cases z : now + c s = 0
    · rw [if_neg (by simp [z])]
      refine ⟨ih1, fun q hq => ?_⟩
      have := ih2 q hq
      exact ⟨by omega, fun e => by omega⟩
    · rw [if_pos z]
      refine ⟨⟨by show s ≤ f - 1; omega, z, fun q hq => ?_, ih1⟩, fun q hq => ?_⟩
      · have := ih2 q hq
        exact ⟨by show f - 1 < q.1; omega, fun e => this.2 (by have e' : f - 1 + 1 = q.1 := e; omega)⟩
      · cases hq
        exact ⟨Int.le_refl _, fun _ e => hs (by have e' : now = now + c s := e; omega)⟩
theorem rowsG_len {c : Int → Int} : ∀ (r : List Int) (s now : Int), (rowsG c (s :: r) now).length ≤ r.length
  | [], s, now => Nat.le_refl _
  | f :: r, s, now => by
    have ih := rowsG_len (c := c) r f (now + c s)
    show (if now + c s ≠ 0 then _ else _ : List Pc).length ≤ _
    split
    · exact Nat.succ_le_succ ih
    · exact Nat.le_succ_of_le ih
/-- THE fact about flattened: rows with the same weights, as few as possible -/
theorem flat_ok {ps : List Pc} {ks ts : List Int} (nd : ks.Nodup) (hk : ∀ p ∈ ps, p.1 ∈ ks ∧ p.2.1 + 1 ∈ ks) (hp : ts.Perm (ks.filter fun k => decide (chg ps k ≠ 0))) (o : ts.Pairwise (· ≤ ·)) :
    Can (rowsG (chg ps) ts 0) ∧ (∀ G, wt G (rowsG (chg ps) ts 0) = wt G ps) ∧ (rowsG (chg ps) ts 0).length ≤ ks.length := by
  have tot : ∀ G, sumG (chg ps) G ts = wt G ps := fun G => by rw [sumG_perm hp, sumG_filter, sumG_wt nd hk]
  have nt : ts.Nodup := hp.nodup_iff.mpr (nd.sublist List.filter_sublist)
  have o2 : ts.Pairwise (· < ·) := by
    have := o.and nt
    exact this.imp fun ⟨a, b⟩ => by omega
  have hz : ∀ x ∈ ts, chg ps x ≠ 0 := fun x hx => by
    have := (List.mem_filter.mp (hp.mem_iff.mp hx)).2
    simpa using this
  have hl : ts.length ≤ ks.length := by
    rw [hp.length_eq]
    exact List.length_filter_le _ _
  cases ts with
  | nil =>
    refine ⟨trivial, fun G => ?_, Nat.zero_le _⟩
    rw [← tot G]
    rfl
  | cons s r =>
    refine ⟨(rowsG_can r s 0 o2 hz).1, fun G => ?_, Nat.le_trans (rowsG_len r s 0) (by have : (s :: r).length = r.length + 1 := rfl; omega)⟩
    rw [rowsG_wt, tot, tot]
    have one : wt (fun _ => 1) ps = 0 := by
      clear tot hz hk hp
      induction ps with
      | nil => rfl
      | cons p r ih =>
        show p.2.2 * (1 - 1) + wt _ r = 0
        rw [ih]
        simp
    rw [one]
    simp
/-! ### what weights tell -/
def at1 (p : Pc) (d : Int) : Int := if p.1 ≤ d ∧ d ≤ p.2.1 then p.2.2 else 0
def atP (ps : List Pc) (d : Int) : Int := (ps.map fun p => at1 p d).sum
def be1 (p : Pc) (s : Int) : Int := p.2.2 * max 0 (p.2.1 - max (p.1 - 1) s)
def bey (ps : List Pc) (s : Int) : Int := (ps.map fun p => be1 p s).sum
theorem atP_cons (p : Pc) (r : List Pc) (d : Int) : atP (p :: r) d = at1 p d + atP r d := by simp [atP]
theorem bey_cons (p : Pc) (r : List Pc) (d : Int) : bey (p :: r) d = be1 p d + bey r d := by simp [bey]
theorem bey_app (a b : List Pc) (d : Int) : bey (a ++ b) d = bey a d + bey b d := by simp [bey]
theorem bey_rev (a : List Pc) (d : Int) : bey a.reverse d = bey a d := by
  induction a with
  | nil => rfl
  | cons p r ih =>
    rw [List.reverse_cons, bey_app, ih, bey_cons, bey_cons]
    show _ + (_ + 0) = _
    omega
theorem atP_wt (d : Int) : ∀ {ps : List Pc}, (∀ p ∈ ps, p.1 ≤ p.2.1) → atP ps d = wt (fun y => if y ≤ d then 1 else 0) ps
  | [], _ => rfl
  | p :: r, h => by
    have hp := h p (List.mem_cons_self ..)
    rw [atP_cons, atP_wt d fun q hq => h q (List.mem_cons_of_mem _ hq)]
    show _ = p.2.2 * (_ - _) + _
    congr 1
    show _ = p.2.2 * ((if p.1 ≤ d then 1 else 0) - (if p.2.1 + 1 ≤ d then 1 else 0))
    unfold at1
    by_cases a : p.1 ≤ d
    · by_cases b : d ≤ p.2.1
      · rw [if_pos ⟨a, b⟩, if_pos a, if_neg (by omega)]
        omega
      · rw [if_neg (fun z => b z.2), if_pos a, if_pos (by omega)]
        omega
    · rw [if_neg (fun z => a z.1), if_neg a, if_neg (by omega)]
      omega
theorem bey_wt (s : Int) : ∀ {ps : List Pc}, (∀ p ∈ ps, p.1 ≤ p.2.1) → bey ps s = wt (fun y => -(max 0 (y - 1 - s))) ps
  | [], _ => rfl
  | p :: r, h => by
    have hp := h p (List.mem_cons_self ..)
    rw [bey_cons, bey_wt s fun q hq => h q (List.mem_cons_of_mem _ hq)]
    show _ = p.2.2 * (_ - _) + _
    congr 1
    unfold be1
    congr 1
    show _ = -(max 0 (p.1 - 1 - s)) - -(max 0 (p.2.1 + 1 - 1 - s))
    omega
theorem Can.le : ∀ {rs : List Pc}, Can rs → ∀ p ∈ rs, p.1 ≤ p.2.1
  | p :: r, h, q, hq => by
    rcases List.mem_cons.mp hq with rfl | hq
    · exact h.1
    · exact Can.le h.2.2.2 q hq
theorem Can.above : ∀ {p : Pc} {r : List Pc}, Can (p :: r) → ∀ q ∈ r, p.2.1 < q.1
  | p, q :: r, h, x, hx => by
    have h1 := (h.2.2.1 q rfl).1
    rcases List.mem_cons.mp hx with rfl | hx
    · exact h1
    · have := Can.above h.2.2.2 x hx
      have := h.2.2.2.1
      omega
theorem atP_zero {ps : List Pc} {d : Int} (h : ∀ p ∈ ps, d < p.1 ∨ p.2.1 < d) : atP ps d = 0 := by
  induction ps with
  | nil => rfl
  | cons p r ih =>
    rw [atP_cons, ih fun q hq => h q (List.mem_cons_of_mem _ hq)]
    unfold at1
    rw [if_neg]
    · rfl
    · have := h p (List.mem_cons_self ..)
      omega
/-- in the fewest pieces each distance is told by one -/
theorem Can.at : ∀ {rs : List Pc}, Can rs → ∀ p ∈ rs, ∀ d, p.1 ≤ d → d ≤ p.2.1 → atP rs d = p.2.2
  | p :: r, h, q, hq, d, h1, h2 => by
    rw [atP_cons]
    rcases List.mem_cons.mp hq with rfl | hq
    · rw [atP_zero fun x hx => by have := Can.above h x hx; omega]
      unfold at1
      rw [if_pos ⟨h1, h2⟩]
      omega
    · rw [Can.at h.2.2.2 q hq d h1 h2]
      unfold at1
      rw [if_neg]
      · omega
      · have := Can.above h q hq
        omega
def Pok (p : Pc) : Prop := 1 ≤ p.1 ∧ p.1 ≤ p.2.1 ∧ 1 ≤ p.2.2
def tsum (ps : List Pc) : Int := (ps.map fun p => p.2.2).sum
theorem atP_le : ∀ {ps : List Pc}, (∀ p ∈ ps, Pok p) → ∀ d, 0 ≤ atP ps d ∧ atP ps d ≤ tsum ps
  | [], _, d => ⟨Int.le_refl _, Int.le_refl _⟩
  | p :: r, h, d => by
    have hp := h p (List.mem_cons_self ..)
    have ih := atP_le (fun q hq => h q (List.mem_cons_of_mem _ hq)) d
    have e : tsum (p :: r) = p.2.2 + tsum r := by simp [tsum]
    rw [atP_cons, e]
    unfold at1
    have := hp.2.2
    split <;> omega
theorem atP_pos {ps : List Pc} {d : Int} (h : atP ps d ≠ 0) : ∃ p ∈ ps, p.1 ≤ d ∧ d ≤ p.2.1 := by
  induction ps with
  | nil => exact absurd rfl h
  | cons p r ih =>
    by_cases c : p.1 ≤ d ∧ d ≤ p.2.1
    · exact ⟨p, List.mem_cons_self .., c⟩
    · rw [atP_cons] at h
      unfold at1 at h
      rw [if_neg c, Int.zero_add] at h
      obtain ⟨q, hq, e⟩ := ih h
      exact ⟨q, List.mem_cons_of_mem _ hq, e⟩
/-- pieces rs that tell the same as valid pieces ps -/
structure Tells (ps rs : List Pc) : Prop where
  can : Can rs
  wt : ∀ G, wt G rs = wt G ps
theorem Tells.at {ps rs : List Pc} (T : Tells ps rs) (h : ∀ p ∈ ps, Pok p) (d : Int) : atP rs d = atP ps d := by
  rw [atP_wt d T.can.le, atP_wt d fun p hp => (h p hp).2.1, T.wt]
theorem Tells.bey {ps rs : List Pc} (T : Tells ps rs) (h : ∀ p ∈ ps, Pok p) (s : Int) : bey rs s = bey ps s := by
  rw [bey_wt s T.can.le, bey_wt s fun p hp => (h p hp).2.1, T.wt]
theorem Tells.row {ps rs : List Pc} (T : Tells ps rs) (h : ∀ p ∈ ps, Pok p) {p : Pc} (hp : p ∈ rs) : 1 ≤ p.1 ∧ p.1 ≤ p.2.1 ∧ 1 ≤ p.2.2 ∧ p.2.2 ≤ tsum ps ∧ ∃ q ∈ ps, p.2.1 ≤ q.2.1 := by
  have le := T.can.le p hp
  have a1 := T.can.at p hp p.1 (Int.le_refl _) le
  have a2 := T.can.at p hp p.2.1 le (Int.le_refl _)
  rw [T.at h] at a1 a2
  have b := atP_le h p.1
  have nz : p.2.2 ≠ 0 := by
    have f : ∀ {rs : List Pc}, Can rs → ∀ p ∈ rs, p.2.2 ≠ 0 := by
      intro rs
      induction rs with
      | nil => intro _ p hp; cases hp
      | cons q r ih =>
        intro c p hp
        rcases List.mem_cons.mp hp with rfl | hp
        · exact c.2.1
        · exact ih c.2.2.2 p hp
    exact f T.can p hp
  obtain ⟨q, hq, q1, q2⟩ := atP_pos (ps := ps) (d := p.1) (by rw [a1]; exact nz)
  obtain ⟨q', hq', _, q2'⟩ := atP_pos (ps := ps) (d := p.2.1) (by rw [a2]; exact nz)
  have := h q hq
  exact ⟨by have := this.1; omega, le, by omega, by omega, q', hq', q2'⟩
/-! ### the least size -/
def lcov : List Pc → Int → Int
  | [], _ => 0
  | p :: r, left => if (p.2.1 - p.1 + 1) * p.2.2 > left then p.2.1 - left / p.2.2 else lcov r (left - (p.2.1 - p.1 + 1) * p.2.2)
theorem bey_top {ps : List Pc} {s : Int} (h : ∀ p ∈ ps, p.2.1 ≤ s) : bey ps s = 0 := by
  induction ps with
  | nil => rfl
  | cons p r ih =>
    have := h p (List.mem_cons_self ..)
    rw [bey_cons, ih fun q hq => h q (List.mem_cons_of_mem _ hq)]
    unfold be1
    rw [show max 0 (p.2.1 - max (p.1 - 1) s) = 0 by omega]
    omega
theorem bey_nn {ps : List Pc} (h : ∀ p ∈ ps, Pok p) (s : Int) : 0 ≤ bey ps s := by
  induction ps with
  | nil => exact Int.le_refl _
  | cons p r ih =>
    have hp := h p (List.mem_cons_self ..)
    rw [bey_cons]
    have := ih fun q hq => h q (List.mem_cons_of_mem _ hq)
    have : 0 ≤ be1 p s := Int.mul_nonneg (by have := hp.2.2; omega) (by omega)
    omega
theorem be1_anti {p : Pc} (hp : 1 ≤ p.2.2) {s t : Int} (h : s ≤ t) : be1 p t ≤ be1 p s := Int.mul_le_mul_of_nonneg_left (by omega) (by omega)
theorem bey_anti {ps : List Pc} (h : ∀ p ∈ ps, Pok p) {s t : Int} (le : s ≤ t) : bey ps t ≤ bey ps s := by
  induction ps with
  | nil => exact Int.le_refl _
  | cons p r ih =>
    have hp := h p (List.mem_cons_self ..)
    rw [bey_cons, bey_cons]
    have := ih fun q hq => h q (List.mem_cons_of_mem _ hq)
    have := be1_anti hp.2.2 le
    omega
/-- highest first -/
def Desc (q : List Pc) : Prop := q.Pairwise fun a b => b.2.1 < a.1
theorem lcov_ok : ∀ {q : List Pc} {left : Int}, Desc q → (∀ p ∈ q, Pok p) → 0 ≤ left →
    0 ≤ lcov q left ∧ bey q (lcov q left) ≤ left ∧ (0 < lcov q left → left < bey q (lcov q left - 1)) ∧ ∀ m, 0 ≤ m → (∀ p ∈ q, p.2.1 ≤ m) → lcov q left ≤ m
  | [], left, _, _, h0 => ⟨Int.le_refl _, h0, fun z => absurd z (Int.lt_irrefl _), fun m h _ => h⟩
  | p :: r, left, d, ok, h0 => by
    have hp := ok p (List.mem_cons_self ..)
    obtain ⟨p1, p2, p3⟩ := hp
    have dd := List.pairwise_cons.mp d
    have ok' : ∀ q ∈ r, Pok q := fun q hq => ok q (List.mem_cons_of_mem _ hq)
    unfold lcov
    by_cases c : (p.2.1 - p.1 + 1) * p.2.2 > left
    · rw [if_pos c]
      have k0 : 0 ≤ left / p.2.2 := Int.ediv_nonneg h0 (by omega)
      have k1 : left / p.2.2 * p.2.2 ≤ left := Int.ediv_mul_le _ (by omega)
      have k2 : left < (left / p.2.2 + 1) * p.2.2 := Int.lt_ediv_add_one_mul_self _ (by omega)
      generalize left / p.2.2 = k at k0 k1 k2 ⊢
      have k3 : k < p.2.1 - p.1 + 1 := by
        have : k * p.2.2 < (p.2.1 - p.1 + 1) * p.2.2 := by omega
        exact Int.lt_of_mul_lt_mul_right this (by omega)
      have z1 : bey r (p.2.1 - k) = 0 := bey_top fun q hq => by have := dd.1 q hq; omega
      refine ⟨by omega, ?_, fun _ => ?_, fun m hm hx => ?_⟩
      · rw [bey_cons, z1]
        unfold be1
        rw [show max 0 (p.2.1 - max (p.1 - 1) (p.2.1 - k)) = k by omega, Int.mul_comm]
        omega
      · rw [bey_cons]
        have := bey_nn ok' (p.2.1 - k - 1)
        have e : be1 p (p.2.1 - k - 1) = (k + 1) * p.2.2 := by
          unfold be1
          rw [show max 0 (p.2.1 - max (p.1 - 1) (p.2.1 - k - 1)) = k + 1 by omega, Int.mul_comm]
        rw [e]
        omega
      · have := hx p (List.mem_cons_self ..)
        omega
    · rw [if_neg c]
      obtain ⟨i1, i2, i3, i4⟩ := lcov_ok (left := left - (p.2.1 - p.1 + 1) * p.2.2) dd.2 ok' (by omega)
      generalize hR : lcov r (left - (p.2.1 - p.1 + 1) * p.2.2) = R at i1 i2 i3 i4 ⊢
      have lR : R ≤ p.1 - 1 := i4 _ (by omega) fun q hq => by have := dd.1 q hq; omega
      have e : ∀ s, s ≤ p.1 - 1 → be1 p s = (p.2.1 - p.1 + 1) * p.2.2 := fun s hs => by
        unfold be1
        rw [show max 0 (p.2.1 - max (p.1 - 1) s) = p.2.1 - p.1 + 1 by omega, Int.mul_comm]
      refine ⟨i1, ?_, fun hz => ?_, fun m hm hx => i4 m hm fun q hq => hx q (List.mem_cons_of_mem _ hq)⟩
      · rw [bey_cons, e R lR]
        omega
      · rw [bey_cons, e (R - 1) (by omega)]
        have := i3 hz
        omega
theorem Can.desc : ∀ {rs : List Pc}, Can rs → Desc rs.reverse
  | [], _ => List.Pairwise.nil
  | p :: r, h => by
    show List.Pairwise _ (p :: r).reverse
    rw [List.reverse_cons, List.pairwise_append]
    refine ⟨Can.desc h.2.2.2, List.pairwise_singleton .., fun a ha b hb => ?_⟩
    rw [List.mem_singleton.mp hb]
    exact Can.above h a (List.mem_reverse.mp ha)
/-- the least size is told by its two sides -/
theorem least_unique {ps : List Pc} (ok : ∀ p ∈ ps, Pok p) {m a b : Int} (a0 : 0 ≤ a) (a1 : bey ps a ≤ m) (a2 : 0 < a → m < bey ps (a - 1)) (b0 : 0 ≤ b) (b1 : bey ps b ≤ m) (b2 : 0 < b → m < bey ps (b - 1)) : a = b := by
  rcases Int.lt_trichotomy a b with h | h | h
  · have := b2 (by omega)
    have := bey_anti ok (show a ≤ b - 1 by omega)
    omega
  · exact h
  · have := a2 (by omega)
    have := bey_anti ok (show b ≤ a - 1 by omega)
    omega
/-- two lists of the fewest pieces that tell the same are one -/
theorem Can.unique : ∀ {rs qs : List Pc}, Can rs → Can qs → (∀ d, atP rs d = atP qs d) → rs = qs := by
  have nil : ∀ {qs : List Pc}, Can qs → (∀ d, atP [] d = atP qs d) → qs = [] := by
    intro qs c h
    cases qs with
    | nil => rfl
    | cons q r =>
      have a := c.at q (List.mem_cons_self ..) q.1 (Int.le_refl _) c.1
      rw [← h] at a
      exact absurd a.symm c.2.1
  have lowest : ∀ {p q : Pc} {r s : List Pc}, Can (p :: r) → Can (q :: s) → (∀ d, atP (p :: r) d = atP (q :: s) d) → p.1 ≤ q.1 := by
    intro p q r s c1 c2 h
    by_cases z : p.1 ≤ q.1
    · exact z
    · have a := c2.at q (List.mem_cons_self ..) q.1 (Int.le_refl _) c2.1
      rw [← h, atP_zero fun x hx => by
        rcases List.mem_cons.mp hx with rfl | hx
        · omega
        · have := Can.above c1 x hx
          have := c1.1
          omega] at a
      exact absurd a.symm c2.2.1
  have ends : ∀ {p q : Pc} {r s : List Pc}, Can (p :: r) → Can (q :: s) → (∀ d, atP (p :: r) d = atP (q :: s) d) → p.1 = q.1 → p.2.2 = q.2.2 → p.2.1 ≤ q.2.1 := by
    intro p q r s c1 c2 h e1 e2
    by_cases z : p.2.1 ≤ q.2.1
    · exact z
    · have a := c1.at p (List.mem_cons_self ..) (q.2.1 + 1) (by have := c2.1; omega) (by omega)
      rw [h, atP_cons] at a
      unfold at1 at a
      rw [if_neg (by omega), Int.zero_add] at a
      obtain ⟨x, hx, x1, x2⟩ := atP_pos (by rw [a]; exact c1.2.1)
      have := Can.above c2 x hx
      have ex : x.1 = q.2.1 + 1 := by omega
      have ax := c2.2.2.2.at x hx (q.2.1 + 1) x1 x2
      rw [a] at ax
      cases s with
      | nil => cases hx
      | cons y s =>
        have hy := c2.2.2.1 y rfl
        rcases List.mem_cons.mp hx with rfl | hx
        · exact absurd (by rw [← ax, e2]) (hy.2 ex.symm)
        · have := Can.above c2.2.2.2 x hx
          have := c2.2.2.2.1
          omega
  intro rs
  induction rs with
  | nil => intro qs c1 c2 h; exact (nil c2 h).symm
  | cons p r ih =>
    intro qs c1 c2 h
    cases qs with
    | nil => exact absurd (nil c1 fun d => (h d).symm) (by simp)
    | cons q s =>
      have e1 : p.1 = q.1 := Int.le_antisymm (lowest c1 c2 h) (lowest c2 c1 fun d => (h d).symm)
      have e2 : p.2.2 = q.2.2 := by
        have a := c1.at p (List.mem_cons_self ..) p.1 (Int.le_refl _) c1.1
        have b := c2.at q (List.mem_cons_self ..) p.1 (by omega) (by have := c2.1; omega)
        rw [h] at a
        rw [← a, ← b]
      have e3 : p.2.1 = q.2.1 := Int.le_antisymm (ends c1 c2 h e1 e2) (ends c2 c1 (fun d => (h d).symm) e1.symm e2.symm)
      have ep : p = q := by
        obtain ⟨x, y, z⟩ := p
        obtain ⟨x', y', z'⟩ := q
        simp only at e1 e2 e3
        rw [e1, e2, e3]
      subst ep
      rw [ih c1.2.2.2 c2.2.2.2 fun d => by have := h d; rw [atP_cons, atP_cons] at this; omega]
end Kb

namespace Kb
open PySem PySem.Spec PyProof.Rows L2
/-! ### heaps that grow, while ponds are drawn from -/
def Plain : HO → Prop
  | .ext _ => False
  | _ => True
def Nx (H H' : Hp) : Prop := ∀ a o, H a = some o → ∃ o', H' a = some o' ∧ (Plain o → o' = o)
theorem Ex.nx {H H' : Hp} (e : Ex H H') : Nx H H' := fun a o h => ⟨o, e a o h, fun _ => rfl⟩
theorem Nx.refl (H : Hp) : Nx H H := (Ex.refl H).nx
theorem Nx.trans {H H1 H2 : Hp} (a : Nx H H1) (b : Nx H1 H2) : Nx H H2 := fun x o h => by
  obtain ⟨o1, h1, p1⟩ := a x o h
  obtain ⟨o2, h2, p2⟩ := b x o1 h1
  refine ⟨o2, h2, fun p => ?_⟩
  have e1 := p1 p
  subst e1
  exact p2 p
theorem Nx.at {H H' : Hp} {a : Addr} {o : HO} (e : Nx H H') (h : H a = some o) (p : Plain o := by trivial) : H' a = some o := by
  obtain ⟨o1, h1, p1⟩ := e a o h
  rw [h1, p1 p]
theorem Nx.back {H H' : Hp} {p : Addr} (e : Nx H H') (h : H' p = none) : H p = none := by
  cases h1 : H p with
  | none => rfl
  | some o =>
    obtain ⟨o1, h2, _⟩ := e p o h1
    rw [h] at h2
    cases h2
theorem Nx.add {H H' : Hp} {p : Addr} {o : HO} (e : Nx H H') (h : H' p = none) : Nx H (upd H' p o) := e.trans (Ex.new h).nx
theorem Nx.mut {H H' : Hp} {p : Addr} {o : HO} (e : Nx H H') (h : H p = none) : Nx H (upd H' p o) := fun a u ha => by
  rw [upd_ne (ne_of_none ha h)]
  exact e a u ha
/-! ### a pond: a list of three ints; its last one counts how often it was drawn from -/
structure Pn (n : Nat) (c t : Int) : Prop where
  c0 : 0 ≤ c
  c1 : c ≤ 10 ^ 45
  t0 : 0 ≤ t
  t1 : t ≤ (n : Int)
theorem Pn.mono {n m : Nat} {c t : Int} (h : Pn n c t) (le : n ≤ m) : Pn m c t := ⟨h.c0, h.c1, h.t0, by have := h.t1; omega⟩
def pondP (n : Nat) (b : Addr) (h : Heap) : Prop := ∃ (x c t : Int) (its : List Value) (k : Nat), Pn n c t ∧ Vals [V.int x, V.int c, V.int t] its ∧ h.get? b = some { cls := .type "list", data := .seq its.toArray k }
def pondO (n : Nat) (b : Addr) : HO := .ext (pondP n b)
theorem pond_ok {P : Program} {w : World} {H H1 : Hp} {h : Heap} {b : Addr} {n : Nat} {x c t : Int} (k : Pn n c t) (e : ObjOk P w H h b (.lst [.int x, .int c, .int t])) : ObjOk P w H1 h b (pondO n b) := by
  obtain ⟨_, its, m, r, g⟩ := e
  exact ⟨⟨x, c, t, its, m, k, r, g⟩, ⟨_, g⟩, fun h1 h2 p k => by
    obtain ⟨x, c, t, its, m, y, r, g⟩ := p
    exact ⟨x, c, t, its, m, y, r, k _ g⟩⟩
theorem pond_open {P : Program} {w : World} {H : Hp} {h : Heap} {b : Addr} {n : Nat} (ok : HOk P w H h) (e : H b = some (pondO n b)) : ∃ x c t : Int, Pn n c t ∧ HOk P w (upd H b (.lst [.int x, .int c, .int t])) h := by
  obtain ⟨⟨x, c, t, its, m, k, r, g⟩, _, _⟩ : ObjOk P w H h b (.ext (pondP n b)) := ok b _ e
  refine ⟨x, c, t, k, fun a o q => ?_⟩
  by_cases hb : a = b
  · subst hb
    rw [upd_same] at q
    cases q
    exact ⟨by show 3 ≤ sizeLine; decide, its, m, r, g⟩
  · rw [upd_ne hb] at q
    refine (ok a o q).stay (fun _ _ _ z => z) (fun d z => ?_) fun d xs z => ?_
    · rw [upd_ne]
      · exact z
      · intro y
        rw [y, e] at z
        cases (show HO.ext (pondP n b) = .own a from Option.some.inj z)
    · rw [upd_ne]
      · exact z
      · intro y
        rw [y, e] at z
        cases (show HO.ext (pondP n b) = .tup xs from Option.some.inj z)
theorem pond_close {P : Program} {w : World} {H : Hp} {h : Heap} {b : Addr} {n : Nat} {x c t : Int} (k : Pn n c t) (ok : HOk P w H h) (e : H b = some (.lst [.int x, .int c, .int t])) : HOk P w (upd H b (pondO n b)) h := fun a o q => by
  by_cases hb : a = b
  · subst hb
    rw [upd_same] at q
    cases q
    exact pond_ok k (ok a _ e)
  · rw [upd_ne hb] at q
    refine (ok a o q).stay (fun _ _ _ z => z) (fun d z => ?_) fun d xs z => ?_
    · rw [upd_ne]
      · exact z
      · intro y
        rw [y, e] at z
        cases z
    · rw [upd_ne]
      · exact z
      · intro y
        rw [y, e] at z
        cases z
/-- a promise about a list of three ints, said of a pond -/
theorem pond_fn {P : Program} {w : World} {K : PySem.W.Frag} {mg : Str → Option Value} {base : Heap} {k : Nat} {f : Addr} {fd : FuncData} {ps : List Str} {sp sp' : Sp} (F : FnOk P w K mg base CX0 k f fd ps sp)
    (h : ∀ vs H Q E, sp' vs H Q E → vs.length = ps.length ∧ ∃ b n m, H b = some (pondO n b) ∧ ∀ x c t : Int, Pn n c t → sp vs (upd H b (.lst [.int x, .int c, .int t])) (fun v H2 => ∃ x c t : Int, Pn m c t ∧ H2 b = some (.lst [.int x, .int c, .int t]) ∧ Q v (upd H2 b (pondO m b))) E) :
    FnOk P w K mg base CX0 k f fd ps sp' := by
  refine ⟨fun vs H Q E q => (h _ _ _ _ q).1, fun A outer s H args us vs Q E hr he hb hv hs => ?_⟩
  obtain ⟨_, b, n, m, eb, q⟩ := h _ _ _ _ hs
  obtain ⟨x, c, t, pk, ok⟩ := pond_open he.hok eb
  have ne : ∀ {d : Addr}, H d = none → d ≠ b := fun {d} n z => by
    rw [z, eb] at n
    cases n
  have e2 : Env0 P w K mg base A outer s (upd H b (.lst [.int x, .int c, .int t])) :=
    ⟨he.frames, he.mod, fun d o z => ⟨(he.bs d o z).1, by rw [upd_ne (ne (he.bs d o z).2)]; exact (he.bs d o z).2⟩, he.bsz, he.funs, fun d z => by rw [upd_ne (ne (he.frf d z))]; exact he.frf d z, ok, he.bare⟩
  refine codeAny_mono (F.run A outer s _ args us vs _ E hr e2 hb hv (q x c t pk)) fun r s' hq => ?_
  cases r with
  | error e => exact hq
  | ok fl =>
    cases fl with
    | next => exact hq
    | brk => exact hq
    | cont => exact hq
    | ret u =>
      obtain ⟨v, H2, os, bare, un, hok, r, x', c', t', k', e3, q3⟩ := hq
      have ne2 : ∀ {d : Addr}, H2 d = none → d ≠ b := fun {d} n z => by
        rw [z, e3] at n
        cases n
      have nb : ∀ {d : Addr} {o : HO}, H d = some o → o ≠ pondO n b → d ≠ b := fun {d o} z y e => by
        rw [e, eb] at z
        exact y (Option.some.inj z).symm
      refine ⟨v, _, os, bare, ?_, pond_close k' hok e3, r, q3⟩
      exact {
        keep := fun d o g n hf hx => un.keep d o g (by rw [upd_ne (ne n)]; exact n) hf hx
        slot := fun d o g n hf hx => un.slot d o g (by rw [upd_ne (ne n)]; exact n) hf hx
        free := fun d o g n hx => by
          have y := un.free d o g (by rw [upd_ne (ne n)]; exact n) hx
          rw [upd_ne (ne2 y)]
          exact y
        there := fun d o g hx => un.there d o g hx
        tups := fun d xs z => by
          have y : d ≠ b := nb z (by intro q; cases (show HO.tup xs = HO.ext (pondP n b) from q))
          rw [upd_ne y]
          exact un.tups d xs (by rw [upd_ne y]; exact z)
        frzs := fun d o u z => by
          have y : d ≠ b := nb z (by intro q; cases (show HO.frz o u = HO.ext (pondP n b) from q))
          rw [upd_ne y]
          exact un.frzs d o u (by rw [upd_ne y]; exact z)
        tbls := fun d xs z => by
          have y : d ≠ b := nb z (by intro q; cases (show HO.tbl xs = HO.ext (pondP n b) from q))
          rw [upd_ne y]
          exact un.tbls d xs (by rw [upd_ne y]; exact z) }

theorem pond_new {P : Program} {w : World} {K : PySem.W.Frag} {mg : Str → Option Value} {base : Heap} {k : Nat} {f : Addr} {fd : FuncData} {ps : List Str} {sp sp' : Sp} (F : FnOk P w K mg base CX0 k f fd ps sp)
    (h : ∀ vs H Q E, sp' vs H Q E → vs.length = ps.length ∧ sp vs H (fun v H2 => ∃ (b : Addr) (m : Nat) (x c t : Int), Pn m c t ∧ v = .ref b ∧ H b = none ∧ H2 b = some (.lst [.int x, .int c, .int t]) ∧ Q v (upd H2 b (pondO m b))) E) :
    FnOk P w K mg base CX0 k f fd ps sp' := by
  refine ⟨fun vs H Q E q => (h _ _ _ _ q).1, fun A outer s H args us vs Q E hr he hb hv hs => ?_⟩
  refine codeAny_mono (F.run A outer s _ args us vs _ E hr he hb hv (h _ _ _ _ hs).2) fun r s' hq => ?_
  cases r with
  | error e => exact hq
  | ok fl =>
    cases fl with
    | next => exact hq
    | brk => exact hq
    | cont => exact hq
    | ret u =>
      obtain ⟨v, H2, os, bare, un, hok, r, b, m, x', c', t', k', ev, e0, e3, q3⟩ := hq
      have ne2 : ∀ {d : Addr}, H2 d = none → d ≠ b := fun {d} n z => by
        rw [z, e3] at n
        cases n
      refine ⟨v, _, os, bare, ?_, pond_close k' hok e3, r, q3⟩
      exact {
        keep := un.keep
        slot := un.slot
        free := fun d o g n hx => by
          have y := un.free d o g n hx
          rw [upd_ne (ne2 y)]
          exact y
        there := un.there
        tups := fun d xs z => by
          rw [upd_ne (ne_of_none z e0)]
          exact un.tups d xs z
        frzs := fun d o u z => by
          rw [upd_ne (ne_of_none z e0)]
          exact un.frzs d o u z
        tbls := fun d xs z => by
          rw [upd_ne (ne_of_none z e0)]
          exact un.tbls d xs z }
/-! ### powers of great ints -/
def CPowW (i j : Int) : Prop := 0 ≤ j ∧ (Builtin.Int.intBits i : Int) * j ≤ 2 ^ 27
theorem op_powW {X : Cx} : OpR X (binaryOp .Pow) (rI CPowW fun i j => .int (i ^ j.toNat)) := opI fun _ _ _ _ _ _ _ hc q => pow_int hc.1 hc.2 q
theorem bits_le {i : Int} {n : Nat} (h : i.natAbs < 2 ^ n) (h0 : 0 < n) : Builtin.Int.intBits i ≤ n := by
  have := PySem.Flt.log2_lt_of h0 h
  unfold Builtin.Int.intBits
  split <;> omega
/-! ### lists of things at addresses -/
section
variable {α : Type} {R : V → α → Prop}
theorem Pr.len : ∀ {vs : List V} {ss : List α}, Paired R vs ss → vs.length = ss.length
  | _, _, .nil => rfl
  | _, _, .cons h t => congrArg (· + 1) (Pr.len t)
theorem Pr.get : ∀ {vs : List V} {ss : List α} {i : Nat} {v : V}, Paired R vs ss → vs[i]? = some v → ∃ s, ss[i]? = some s ∧ R v s
  | _, _, i, v, .nil, e => by simp at e
  | _, _, 0, v, .cons h t, e => by
    cases e
    exact ⟨_, rfl, h⟩
  | _, _, i + 1, v, .cons h t, e => Pr.get (i := i) t e
theorem Pr.get2 : ∀ {vs : List V} {ss : List α} {i : Nat} {s : α}, Paired R vs ss → ss[i]? = some s → ∃ v, vs[i]? = some v ∧ R v s
  | _, _, i, s, .nil, e => by simp at e
  | _, _, 0, s, .cons h t, e => by
    cases e
    exact ⟨_, rfl, h⟩
  | _, _, i + 1, s, .cons h t, e => Pr.get2 (i := i) t e
theorem Pr.mem : ∀ {vs : List V} {ss : List α}, Paired R vs ss → ∀ v ∈ vs, ∃ s ∈ ss, R v s
  | _, _, .cons h t, v, hv => by
    rcases List.mem_cons.mp hv with rfl | hv
    · exact ⟨_, List.mem_cons_self .., h⟩
    · obtain ⟨s, hs, r⟩ := Pr.mem t v hv
      exact ⟨s, List.mem_cons_of_mem _ hs, r⟩
theorem Pr.imp {S : V → α → Prop} (f : ∀ v s, R v s → S v s) : ∀ {vs : List V} {ss : List α}, Paired R vs ss → Paired S vs ss
  | _, _, .nil => .nil
  | _, _, .cons h t => .cons (f _ _ h) (Pr.imp f t)
theorem Pr.app : ∀ {vs us : List V} {ss ts : List α}, Paired R vs ss → Paired R us ts → Paired R (vs ++ us) (ss ++ ts)
  | _, _, _, _, .nil, b => b
  | _, _, _, _, .cons h t, b => .cons h (Pr.app t b)
theorem Pr.rev : ∀ {vs : List V} {ss : List α}, Paired R vs ss → Paired R vs.reverse ss.reverse
  | _, _, .nil => .nil
  | _, _, .cons h t => by
    rw [List.reverse_cons, List.reverse_cons]
    exact Pr.app (Pr.rev t) (.cons h .nil)
theorem Pr.snoc {vs : List V} {ss : List α} {v : V} {s : α} (h : Paired R vs ss) (k : R v s) : Paired R (vs ++ [v]) (ss ++ [s]) := Pr.app h (.cons k .nil)
theorem Pr.drop : ∀ {vs : List V} {ss : List α} (n : Nat), Paired R vs ss → Paired R (vs.drop n) (ss.drop n)
  | _, _, 0, h => h
  | _, _, _ + 1, .nil => .nil
  | _, _, n + 1, .cons _ t => Pr.drop n t
theorem Pr.take : ∀ {vs : List V} {ss : List α} (n : Nat), Paired R vs ss → Paired R (vs.take n) (ss.take n)
  | _, _, 0, _ => .nil
  | _, _, _ + 1, .nil => .nil
  | _, _, n + 1, .cons h t => .cons h (Pr.take n t)
end
/-! ### pieces as tuples -/
def IsPc (H : Hp) (v : V) (p : Pc) : Prop := ∃ t, v = .ref t ∧ H t = some (.tup [.int p.1, .int p.2.1, .int p.2.2])
theorem IsPc.nx {H H' : Hp} {v : V} {p : Pc} (e : Nx H H') (h : IsPc H v p) : IsPc H' v p := by
  obtain ⟨t, h1, h2⟩ := h
  exact ⟨t, h1, e.at h2⟩
theorem IsPc.lset {H : Hp} {D : Addr} {us us' : List V} {v : V} {p : Pc} (hD : H D = some (.lst us)) (h : IsPc H v p) : IsPc (upd H D (.lst us')) v p := by
  obtain ⟨t, e, ht⟩ := h
  exact ⟨t, e, by rw [upd_ne (ne_of ht hD (by intro z; cases z))]; exact ht⟩
abbrev PaP (H : Hp) (vs : List V) (ps : List Pc) : Prop := Paired (IsPc H) vs ps
theorem PaP.nx {H H' : Hp} (e : Nx H H') {vs : List V} {ps : List Pc} (h : PaP H vs ps) : PaP H' vs ps := Pr.imp (fun _ _ r => r.nx e) h
theorem PaP.mono {H H' : Hp} (e : Ex H H') {vs : List V} {ps : List Pc} (h : PaP H vs ps) : PaP H' vs ps := h.nx e.nx
theorem PaP.lset {H : Hp} {D : Addr} {us us' : List V} (hD : H D = some (.lst us)) {vs : List V} {ps : List Pc} (h : PaP H vs ps) : PaP (upd H D (.lst us')) vs ps := Pr.imp (fun _ _ r => r.lset hD) h
def Pcs (H : Hp) (a : Addr) (ps : List Pc) : Prop := ∃ vs, H a = some (.lst vs) ∧ PaP H vs ps
theorem Pcs.nx {H H' : Hp} {a : Addr} {ps : List Pc} (e : Nx H H') (h : Pcs H a ps) : Pcs H' a ps := by
  obtain ⟨vs, h1, h2⟩ := h
  exact ⟨vs, e.at h1, h2.nx e⟩
theorem Pcs.mono {H H' : Hp} {a : Addr} {ps : List Pc} (e : Ex H H') (h : Pcs H a ps) : Pcs H' a ps := h.nx e.nx
/-- what a def hands back that draws from ponds: this value, and the heap has grown -/
def Pd (H : Hp) (b : Addr) (n : Nat) : Prop := ∃ m, m ≤ n ∧ H b = some (pondO m b)
theorem Pd.ex {H H' : Hp} {b : Addr} {n : Nat} (e : Ex H H') (h : Pd H b n) : Pd H' b n := by
  obtain ⟨m, l, h⟩ := h
  exact ⟨m, l, e _ _ h⟩
theorem Pd.mono {H : Hp} {b : Addr} {n n' : Nat} (h : Pd H b n) (l : n ≤ n') : Pd H b n' := by
  obtain ⟨m, l', h⟩ := h
  exact ⟨m, Nat.le_trans l' l, h⟩
theorem Pd.lset {H : Hp} {D b : Addr} {n : Nat} {us us' : List V} (hD : H D = some (.lst us)) (h : Pd H b n) : Pd (upd H D (.lst us')) b n := by
  obtain ⟨m, l, h⟩ := h
  exact ⟨m, l, by rw [upd_ne (ne_of h hD (by intro z; cases (show HO.ext _ = HO.lst us from z)))]; exact h⟩
def RetN (v : V) (b : Addr) (n : Nat) (H : Hp) (Q : VK) : Prop := ∀ H', Nx H H' → Pd H' b n → Q v H'
end Kb

namespace Kb
open PySem PySem.Spec PyProof.Rows L2 StX
/-! ### own classes: made, read, called -/
structure DMk (P : Program) (w : World) (K : PySem.W.Frag) (mg : Str → Option Value) (base : Heap) (x : Str) (C : Addr) (k : Nat) (ps : List Str) (sp : Sp) : Prop where
  ex : ∃ f fd, Mk K C f ∧ mg x = some (.ref C) ∧ Binds K fd ps [] ∧ FnOk P w K mg base CX0 k f fd ps sp
structure DMt (P : Program) (w : World) (K : PySem.W.Frag) (mg : Str → Option Value) (base : Heap) (C : Addr) (m : Str) (k : Nat) (ps : List Str) (sp : Sp) : Prop where
  ex : ∃ f fd, Cls K C ∧ Meth K C m f ∧ Binds K fd ps [] ∧ FnOk P w K mg base CX0 k f fd ps sp
structure DPr (P : Program) (w : World) (K : PySem.W.Frag) (mg : Str → Option Value) (base : Heap) (C : Addr) (m : Str) (k : Nat) (sp : Sp) : Prop where
  ex : ∃ p f fd, Cls K C ∧ PropOf K C m p f ∧ Binds K fd ["self"] [] ∧ FnOk P w K mg base CX0 k f fd ["self"] sp
structure DCl (P : Program) (w : World) (K : PySem.W.Frag) (mg : Str → Option Value) (base : Heap) (C : Addr) (k : Nat) (ps : List Str) (sp : Sp) : Prop where
  ex : ∃ f fd, CallO K C f ∧ Binds K fd ps [] ∧ FnOk P w K mg base CX0 k f fd ps sp
section
variable {X : Cx} {C : Addr} {k k' : Nat} {ps : List Str} {sp : Sp} {pos apos p : Pos} {o e : Expr} {es : List Expr} {t : TA} {te : TE}
theorem pe_mk {x : Str} (D : DMk X.prog X.w X.K X.mg X.base x C k ps sp) (hr : Room k' X.A) (ha : PA X (e :: es) t) (hk : k + 1 ≤ k' := by decide) (hg : Gl X x := by rfl) (hdb : (x == ("__debug__" : Str)) = false := by decide)
    (he : starEach (e :: es) X.env = (false, eval e X.env) :: starEach es X.env := by rfl) (hpl : (backTo pos (starEach es X.env)).any (·.1) = false := by rfl) : PE X (.Call (.Name x p) (e :: es) [] pos) (tMake C sp [] E0 t) := by
  obtain ⟨f, fd, h1, h2, h3, h4⟩ := D.ex
  exact pe_make h1 h4 (hr.mono hk) hg h2 h3 .nil pass0 ha hdb he hpl
theorem pe_mt {m : Str} {pl : Sem Bool} (D : DMt X.prog X.w X.K X.mg X.base C m k ps sp) (hr : Room k' X.A) (ho : PE X o te) (ha : PA X (e :: es) t) (hk : k ≤ k' := by decide)
    (hst : starEach (e :: es) X.env = (false, eval e X.env) :: starEach es X.env := by rfl) (hpl : (backTo pos (starEach es X.env)).any (·.1) = false := by rfl)
    (ht : eval (.Call (.Attribute o m apos) (e :: es) [] pos) X.env = (do
      let ov ← eval o X.env
      standAt apos.atName
      let (f, first) ← holding [ov] (getMethod ov m pl)
      callWith pos f first (backTo pos (starEach (e :: es) X.env)) (backToKw pos (keywordEach [] X.env))) := by rfl) :
    PE X (.Call (.Attribute o m apos) (e :: es) [] pos) (tMeth C m sp [] E0 te t) := by
  obtain ⟨f, fd, h1, h2, h3, h4⟩ := D.ex
  exact pe_meth (pl := pl) ho h1 h2 h4 (hr.mono hk) h3 .nil pass0 ha hst hpl ht
theorem pe_pr {m : Str} (D : DPr X.prog X.w X.K X.mg X.base C m k sp) (hr : Room k' X.A) (ho : PE X o te) (hk : k + 1 ≤ k' := by decide) (hab : attributeBase o m X.env (eval o X.env) = eval o X.env := by rfl) :
    PE X (.Attribute o m pos) (tProp C sp [] E0 te) := by
  obtain ⟨p, f, fd, h1, h2, h3, h4⟩ := D.ex
  exact pe_prop ho h1 h2 h4 (hr.mono hk) h3 .nil pass0 hab
theorem pe_cl (D : DCl X.prog X.w X.K X.mg X.base C k ps sp) (hr : Room k' X.A) (ho : PE X o te) (ha : PA X (e :: es) t) (hk : k ≤ k' := by decide)
    (ht : eval (.Call o (e :: es) [] pos) X.env = (do callWith pos (← eval o X.env) [] (backTo pos (starEach (e :: es) X.env)) (backToKw pos (keywordEach [] X.env))) := by rfl)
    (he : starEach (e :: es) X.env = (false, eval e X.env) :: starEach es X.env := by rfl) (hpl : (backTo pos (starEach es X.env)).any (·.1) = false := by rfl) :
    PE X (.Call o (e :: es) [] pos) (tCallO X C (fun vs H Q E => sp (vs ++ []) H Q E) E0 te t) := by
  obtain ⟨f, fd, h1, h3, h4⟩ := D.ex
  exact pe_callO ho h1 ((h4.raw h3 .nil).mono hk) hr pass0 ha ht he hpl
end
/-! ### the object of a profile -/
theorem is_cp : ¬ (("cold" : Str) = "_pieces") := by decide +kernel
def pf (c : Int) (l : Addr) : List (Str × V) := [("cold", .int c), ("_pieces", .ref l)]
theorem pf_put (c : Int) (l : Addr) : putF "_pieces" (.ref l) (putF "cold" (.int c) []) = pf c l := by
  show (if ("cold" : Str) = "_pieces" then [(("cold" : Str), V.ref l)] else (("cold" : Str), V.int c) :: putF "_pieces" (.ref l) []) = _
  rw [if_neg is_cp]
  rfl
theorem pf_cold (c : Int) (l : Addr) : (pf c l).lookup ("cold" : Str) = some (.int c) := by
  rw [← pf_put, lookup_putF, if_neg is_cp, lookup_putF, if_pos rfl]
theorem pf_pieces (c : Int) (l : Addr) : (pf c l).lookup ("_pieces" : Str) = some (.ref l) := by
  rw [← pf_put, lookup_putF, if_pos rfl]
theorem pf_no (c : Int) (l : Addr) {m : Str} (h1 : ¬ m = "cold") (h2 : ¬ m = "_pieces") : (pf c l).lookup m = none := by
  rw [← pf_put, lookup_putF, if_neg h2, lookup_putF, if_neg h1]
  rfl
/-- at x stands a profile with so many cold accesses and just these pieces -/
def PfAt (C : Addr) (H : Hp) (x : Addr) (c : Int) (rs : List Pc) : Prop := ∃ dx l, H x = some (.ins C dx (pf c l)) ∧ Pcs H l rs
theorem PfAt.nx {C : Addr} {H H' : Hp} {x : Addr} {c : Int} {rs : List Pc} (e : Nx H H') (h : PfAt C H x c rs) : PfAt C H' x c rs := by
  obtain ⟨dx, l, h1, h2⟩ := h
  exact ⟨dx, l, e.at h1, h2.nx e⟩
theorem PfAt.mono {C : Addr} {H H' : Hp} {x : Addr} {c : Int} {rs : List Pc} (e : Ex H H') (h : PfAt C H x c rs) : PfAt C H' x c rs := h.nx e.nx
/-- pieces of which no number is too great to be multiplied -/
def Bd (rs : List Pc) : Prop := ∀ p ∈ rs, Pok p ∧ p.2.1 ≤ 10 ^ 300 ∧ p.2.2 ≤ 10 ^ 300
/-- valid pieces, ascending, of numbers that are not too great -/
structure Val (ps : List Pc) : Prop where
  bd : ∀ p ∈ ps, Pok p ∧ p.2.1 ≤ 10 ^ 200 ∧ p.2.2 ≤ 10 ^ 200
  asc : ps.Pairwise fun a b => a.2.1 < b.1
  few : ps.length ≤ 1000
theorem Val.pok {ps : List Pc} (V : Val ps) : ∀ p ∈ ps, Pok p := fun p hp => (V.bd p hp).1
theorem Val.tsum_le {ps : List Pc} (V : Val ps) : tsum ps ≤ 1000 * 10 ^ 200 := by
  have go : ∀ ps : List Pc, (∀ p ∈ ps, p.2.2 ≤ 10 ^ 200) → tsum ps ≤ (ps.length : Int) * 10 ^ 200 := by
    intro ps
    induction ps with
    | nil => intro _; exact Int.le_refl _
    | cons p r ih =>
      intro h
      have e : tsum (p :: r) = p.2.2 + tsum r := by simp [tsum]
      have := ih fun q hq => h q (List.mem_cons_of_mem _ hq)
      have := h p (List.mem_cons_self ..)
      rw [e, List.length_cons, Int.natCast_add, Int.add_mul]
      omega
  have := go ps fun p hp => (V.bd p hp).2.2
  have := Int.mul_le_mul_of_nonneg_right (show (ps.length : Int) ≤ 1000 from by have := V.few; omega) (show (0 : Int) ≤ 10 ^ 200 by decide)
  omega
theorem Val.tells {ps rs : List Pc} (V : Val ps) (T : Tells ps rs) : Bd rs := fun p hp => by
  obtain ⟨a, b, c, d, q, hq, e⟩ := T.row V.pok hp
  have := V.tsum_le
  have := (V.bd q hq).2.1
  have g : (1000 : Int) * 10 ^ 200 ≤ 10 ^ 300 := by decide +kernel
  have g2 : (10 : Int) ^ 200 ≤ 10 ^ 300 := by decide +kernel
  exact ⟨⟨a, b, c⟩, by omega, by omega⟩
end Kb

namespace Kb
/-! ### corners -/
def cstep (acc : List Int) (p : Pc) : List Int := (if 1 < p.1 ∧ (acc = [] ∨ ∃ z, acc.getLast? = some z ∧ z < p.1 - 1) then acc ++ [p.1 - 1] else acc) ++ [p.2.1]
def corn (rs : List Pc) : List Int := rs.foldl cstep []
theorem corn_go : ∀ (rs : List Pc) (acc : List Int) (b : Int), acc.Pairwise (· < ·) → (acc = [] ∧ b = 0 ∨ acc.getLast? = some b) → (∀ z ∈ acc, z ≤ b) → 0 ≤ b → rs.Pairwise (fun a b => a.2.1 < b.1) → (∀ p ∈ rs, b < p.1 ∧ p.1 ≤ p.2.1) →
    (rs.foldl cstep acc).Pairwise (· < ·) ∧ ∀ z, z ∈ rs.foldl cstep acc ↔ z ∈ acc ∨ ∃ p ∈ rs, z = p.2.1 ∨ (1 < p.1 ∧ z = p.1 - 1)
  | [], acc, b, o, _, _, _, _, _ => ⟨o, fun z => ⟨.inl, fun h => h.elim id fun ⟨_, h, _⟩ => absurd h (by simp)⟩⟩
  | p :: r, acc, b, o, hl, le, b0, asc, hp => by
    have hp1 := hp p (List.mem_cons_self ..)
    have as2 := List.pairwise_cons.mp asc
    have c : (1 < p.1 ∧ (acc = [] ∨ ∃ z, acc.getLast? = some z ∧ z < p.1 - 1)) ↔ b < p.1 - 1 := by
      rcases hl with ⟨rfl, rfl⟩ | hl
      · constructor
        · intro h
          omega
        · intro h
          exact ⟨by omega, .inl rfl⟩
      · constructor
        · rintro ⟨_, rfl | ⟨z, e, h⟩⟩
          · cases hl
          · rw [hl] at e
            cases e
            exact h
        · intro h
          exact ⟨by omega, .inr ⟨b, hl, h⟩⟩
    have key : ∀ acc' : List Int, acc' = cstep acc p → acc'.Pairwise (· < ·) ∧ acc'.getLast? = some p.2.1 ∧ (∀ z, z ∈ acc' ↔ z ∈ acc ∨ z = p.2.1 ∨ (1 < p.1 ∧ z = p.1 - 1)) := by
      intro acc' e
      subst e
      unfold cstep
      by_cases h : b < p.1 - 1
      · rw [if_pos (c.mpr h)]
        refine ⟨?_, by simp, fun z => ?_⟩
        · rw [List.append_assoc, List.pairwise_append]
          refine ⟨o, List.pairwise_cons.mpr ⟨fun z hz => ?_, List.pairwise_singleton ..⟩, fun z hz y hy => ?_⟩
          · rw [List.mem_singleton.mp hz]
            omega
          · have := le z hz
            rcases List.mem_cons.mp hy with rfl | hy
            · omega
            · rw [List.mem_singleton.mp hy]
              omega
        · rw [List.append_assoc, List.mem_append]
          constructor
          · rintro (h1 | h1)
            · exact .inl h1
            · rcases List.mem_cons.mp h1 with rfl | h1
              · exact .inr (.inr ⟨by omega, rfl⟩)
              · exact .inr (.inl (List.mem_singleton.mp h1))
          · rintro (h1 | rfl | ⟨_, rfl⟩)
            · exact .inl h1
            · exact .inr (by simp)
            · exact .inr (by simp)
      · rw [if_neg fun z => h (c.mp z)]
        refine ⟨?_, by simp, fun z => ?_⟩
        · rw [List.pairwise_append]
          refine ⟨o, List.pairwise_singleton .., fun z hz y hy => ?_⟩
          have := le z hz
          rw [List.mem_singleton.mp hy]
          omega
        · rw [List.mem_append]
          constructor
          · rintro (h1 | h1)
            · exact .inl h1
            · exact .inr (.inl (List.mem_singleton.mp h1))
          · rintro (h1 | rfl | ⟨h2, rfl⟩)
            · exact .inl h1
            · exact .inr (by simp)
            · refine .inl ?_
              have e : b = p.1 - 1 := by omega
              rcases hl with ⟨rfl, rfl⟩ | hl
              · omega
              · rw [← e]
                exact List.mem_of_getLast? hl
    obtain ⟨k1, k2, k3⟩ := key _ rfl
    have ih := corn_go r (cstep acc p) p.2.1 k1 (.inr k2) (fun z hz => by
      rcases (k3 z).mp hz with h | h | h
      · have := le z h
        omega
      · omega
      · omega) (by omega) as2.2 fun q hq => ⟨as2.1 q hq, (hp q (List.mem_cons_of_mem _ hq)).2⟩
    refine ⟨ih.1, fun z => ?_⟩
    show z ∈ r.foldl cstep (cstep acc p) ↔ _
    rw [ih.2, k3]
    constructor
    · rintro ((h | h) | ⟨q, hq, h⟩)
      · exact .inl h
      · exact .inr ⟨p, List.mem_cons_self .., h⟩
      · exact .inr ⟨q, List.mem_cons_of_mem _ hq, h⟩
    · rintro (h | ⟨q, hq, h⟩)
      · exact .inl (.inl h)
      · rcases List.mem_cons.mp hq with rfl | hq
        · exact .inl (.inr h)
        · exact .inr ⟨q, hq, h⟩
theorem Can.asc : ∀ {rs : List Pc}, Can rs → rs.Pairwise fun a b => a.2.1 < b.1
  | [], _ => List.Pairwise.nil
  | p :: r, h => List.pairwise_cons.mpr ⟨fun q hq => Can.above h q hq, Can.asc h.2.2.2⟩
/-- where an end is not, nothing changes -/
theorem atP_same {ps : List Pc} {d : Int} (h : ∀ p ∈ ps, d ≠ p.2.1 ∧ d ≠ p.1 - 1) : atP ps d = atP ps (d + 1) := by
  induction ps with
  | nil => rfl
  | cons p r ih =>
    rw [atP_cons, atP_cons, ih fun q hq => h q (List.mem_cons_of_mem _ hq)]
    have := h p (List.mem_cons_self ..)
    congr 1
    unfold at1
    by_cases c : p.1 ≤ d ∧ d ≤ p.2.1
    · rw [if_pos c, if_pos (by omega)]
    · rw [if_neg c, if_neg (by omega)]
theorem Can.change : ∀ {rs : List Pc}, Can rs → ∀ p ∈ rs, atP rs p.2.1 ≠ atP rs (p.2.1 + 1) ∧ atP rs (p.1 - 1) ≠ atP rs p.1 := by
  intro rs c p hp
  have le := c.le p hp
  rw [c.at p hp p.2.1 le (Int.le_refl _), c.at p hp p.1 (Int.le_refl _) le]
  have two : ∀ {rs : List Pc}, Can rs → ∀ p ∈ rs, p.2.2 ≠ 0 := by
    intro rs
    induction rs with
    | nil => intro _ p hp; cases hp
    | cons q r ih =>
      intro c p hp
      rcases List.mem_cons.mp hp with rfl | hp
      · exact c.2.1
      · exact ih c.2.2.2 p hp
  have nb : ∀ {rs : List Pc}, Can rs → ∀ p ∈ rs, ∀ q ∈ rs, p.2.1 + 1 = q.1 → p.2.2 ≠ q.2.2 := by
    intro rs
    induction rs with
    | nil => intro _ p hp; cases hp
    | cons x r ih =>
      intro c p hp q hq e
      rcases List.mem_cons.mp hp with rfl | hp
      · rcases List.mem_cons.mp hq with rfl | hq
        · have := c.1
          omega
        · cases r with
          | nil => cases hq
          | cons y s =>
            rcases List.mem_cons.mp hq with rfl | hq'
            · exact (c.2.2.1 _ rfl).2 e
            · have := Can.above c.2.2.2 q hq'
              have := c.2.2.2.1
              have := (c.2.2.1 y rfl).1
              omega
      · rcases List.mem_cons.mp hq with rfl | hq
        · rename_i hp'
          have := Can.above c p hp'
          have := c.1
          have := c.2.2.2.le p hp'
          omega
        · exact ih c.2.2.2 p (by assumption) q hq e
  constructor
  · intro e
    obtain ⟨q, hq, q1, q2⟩ := atP_pos (ps := rs) (d := p.2.1 + 1) (by rw [← e]; exact two c p hp)
    have a := c.at q hq _ q1 q2
    by_cases z : q.1 = p.2.1 + 1
    · exact nb c p hp q hq z.symm (by rw [e, a])
    · have b := c.at q hq p.2.1 (by omega) (by omega)
      rw [c.at p hp p.2.1 le (Int.le_refl _)] at b
      have : ∀ {rs : List Pc}, Can rs → ∀ p ∈ rs, ∀ q ∈ rs, q.1 ≤ p.2.1 → p.2.1 < q.2.1 → False := by
        intro rs
        induction rs with
        | nil => intro _ p hp; cases hp
        | cons x r ih =>
          intro c p hp q hq h1 h2
          rcases List.mem_cons.mp hp with rfl | hp
          · rcases List.mem_cons.mp hq with rfl | hq
            · omega
            · have := Can.above c q hq
              omega
          · rcases List.mem_cons.mp hq with rfl | hq
            · rename_i hp'
              have := Can.above c p hp'
              have := c.2.2.2.le p hp'
              omega
            · exact ih c.2.2.2 p (by assumption) q hq h1 h2
      exact this c p hp q hq (by omega) (by omega)
  · intro e
    obtain ⟨q, hq, q1, q2⟩ := atP_pos (ps := rs) (d := p.1 - 1) (by rw [e]; exact two c p hp)
    have a := c.at q hq _ q1 q2
    by_cases z : q.2.1 = p.1 - 1
    · exact nb c q hq p hp (by omega) (by rw [← e, a])
    · have : ∀ {rs : List Pc}, Can rs → ∀ p ∈ rs, ∀ q ∈ rs, q.1 < p.1 → p.1 ≤ q.2.1 → False := by
        intro rs
        induction rs with
        | nil => intro _ p hp; cases hp
        | cons x r ih =>
          intro c p hp q hq h1 h2
          rcases List.mem_cons.mp hp with rfl | hp
          · rcases List.mem_cons.mp hq with rfl | hq
            · omega
            · have := Can.above c q hq
              have := c.1
              omega
          · rcases List.mem_cons.mp hq with rfl | hq
            · rename_i hp'
              have := Can.above c p hp'
              omega
            · exact ih c.2.2.2 p (by assumption) q hq h1 h2
      exact this c p hp q hq (by omega) (by omega)
theorem corn_ok {rs : List Pc} (c : Can rs) (h1 : ∀ p ∈ rs, 1 ≤ p.1) : (corn rs).Pairwise (· < ·) ∧ ∀ z, z ∈ corn rs ↔ 1 ≤ z ∧ atP rs z ≠ atP rs (z + 1) := by
  have g := corn_go rs [] 0 List.Pairwise.nil (.inl ⟨rfl, rfl⟩) (fun z hz => absurd hz (by simp)) (Int.le_refl _) c.asc fun p hp => ⟨by have := h1 p hp; omega, c.le p hp⟩
  refine ⟨g.1, fun z => ?_⟩
  rw [show corn rs = rs.foldl cstep [] from rfl, g.2]
  constructor
  · rintro (h | ⟨p, hp, rfl | ⟨h, rfl⟩⟩)
    · exact absurd h (by simp)
    · have := h1 p hp
      have := c.le p hp
      exact ⟨by omega, (c.change p hp).1⟩
    · refine ⟨by omega, ?_⟩
      rw [Int.sub_add_cancel]
      exact (c.change p hp).2
  · rintro ⟨h, ne⟩
    refine .inr ?_
    by_cases q : ∃ p ∈ rs, z = p.2.1 ∨ (1 < p.1 ∧ z = p.1 - 1)
    · exact q
    · refine absurd (atP_same fun p hp => ⟨fun e => q ⟨p, hp, .inl e⟩, fun e => q ⟨p, hp, .inr ⟨by omega, e⟩⟩⟩) ne
theorem sorted_ext : ∀ {a b : List Int}, a.Pairwise (· < ·) → b.Pairwise (· < ·) → (∀ z, z ∈ a ↔ z ∈ b) → a = b
  | [], [], _, _, _ => rfl
  | [], y :: s, _, _, h => absurd ((h y).mpr (List.mem_cons_self ..)) (by simp)
  | x :: r, [], _, _, h => absurd ((h x).mp (List.mem_cons_self ..)) (by simp)
  | x :: r, y :: s, ha, hb, h => by
    have a := List.pairwise_cons.mp ha
    have b := List.pairwise_cons.mp hb
    have e : x = y := by
      have h1 := (h x).mp (List.mem_cons_self ..)
      have h2 := (h y).mpr (List.mem_cons_self ..)
      rcases List.mem_cons.mp h1 with e | h1
      · exact e
      · rcases List.mem_cons.mp h2 with e | h2
        · exact e.symm
        · have := a.1 y h2
          have := b.1 x h1
          omega
    subst e
    rw [sorted_ext a.2 b.2 fun z => ?_]
    constructor
    · intro hz
      rcases List.mem_cons.mp ((h z).mp (List.mem_cons_of_mem _ hz)) with rfl | k
      · have := a.1 z hz
        omega
      · exact k
    · intro hz
      rcases List.mem_cons.mp ((h z).mpr (List.mem_cons_of_mem _ hz)) with rfl | k
      · have := b.1 z hz
        omega
      · exact k
/-- of the places where pieces begin or end, those where the number of times changes -/
theorem due_ok {ps : List Pc} (h1 : ∀ p ∈ ps, Pok p) {es : List Int} (o : es.Pairwise (· < ·)) (hm : ∀ z, z ∈ es ↔ ∃ p ∈ ps, z = p.2.1 ∨ (1 < p.1 ∧ z = p.1 - 1)) {rs : List Pc} (T : Tells ps rs) :
    (es.filter fun z => decide (atP ps z ≠ atP ps (z + 1))) = corn rs := by
  have r1 : ∀ p ∈ rs, 1 ≤ p.1 := fun p hp => (T.row h1 hp).1
  have c := corn_ok T.can r1
  refine sorted_ext (o.sublist List.filter_sublist) c.1 fun z => ?_
  rw [c.2, T.at h1, T.at h1, List.mem_filter, hm, decide_eq_true_eq]
  constructor
  · rintro ⟨⟨p, hp, rfl | ⟨h, rfl⟩⟩, ne⟩
    · have z1 := (h1 p hp).1
      have z2 := (h1 p hp).2.1
      exact ⟨by omega, ne⟩
    · exact ⟨by omega, ne⟩
  · rintro ⟨h, ne⟩
    refine ⟨?_, ne⟩
    by_cases q : ∃ p ∈ ps, z = p.2.1 ∨ (1 < p.1 ∧ z = p.1 - 1)
    · exact q
    · exact absurd (atP_same fun p hp => ⟨fun e => q ⟨p, hp, .inl e⟩, fun e => q ⟨p, hp, .inr ⟨by omega, e⟩⟩⟩) ne
/-! ### distances one by one -/
def reps (l : Int) (n t : Nat) : List Int := (List.range n).flatMap fun (m : Nat) => List.replicate t (l + (m : Int))
def evp (p : Pc) : List Int := reps p.1 (p.2.1 + 1 - p.1).toNat p.2.2.toNat
def ev (ps : List Pc) : List Int := ps.flatMap evp
theorem reps_succ (l : Int) (n t : Nat) : reps l (n + 1) t = reps l n t ++ List.replicate t (l + (n : Int)) := by
  unfold reps
  rw [List.range_succ, List.flatMap_append]
  simp
theorem reps_len (l : Int) (n t : Nat) : (reps l n t).length = n * t := by
  induction n with
  | zero => simp [reps]
  | succ n ih => rw [reps_succ, List.length_append, ih, List.length_replicate, Nat.succ_mul]
theorem reps_mem {l : Int} {n t : Nat} {z : Int} (h : z ∈ reps l n t) : l ≤ z ∧ z < l + (n : Int) := by
  obtain ⟨m, hm, hz⟩ := List.mem_flatMap.mp h
  have := List.mem_range.mp hm
  have := (List.mem_replicate.mp hz).2
  omega
theorem reps_count (l : Int) (n t : Nat) (d : Int) : (reps l n t).count d = if l ≤ d ∧ d < l + (n : Int) then t else 0 := by
  induction n with
  | zero => rw [if_neg (by omega)]; simp [reps]
  | succ n ih =>
    rw [reps_succ, List.count_append, ih, List.count_replicate]
    by_cases e : l + (n : Int) = d
    · rw [if_neg (by omega), if_pos (by simp [e]), if_pos (by omega)]
      omega
    · rw [if_neg (show ¬ ((l + (n : Int)) == d) = true by simp [e])]
      by_cases c : l ≤ d ∧ d < l + (n : Int)
      · rw [if_pos c, if_pos (by omega)]
        omega
      · rw [if_neg c, if_neg (by omega)]
theorem reps_over (l : Int) (n t : Nat) (s : Int) : (((reps l n t).filter fun z => decide (z > s)).length : Int) = (t : Int) * max 0 (l + (n : Int) - 1 - max (l - 1) s) := by
  induction n with
  | zero =>
    rw [show max (0 : Int) (l + ((0 : Nat) : Int) - 1 - max (l - 1) s) = 0 by omega]
    simp [reps]
  | succ n ih =>
    rw [reps_succ, List.filter_append, List.length_append, Int.natCast_add, ih]
    by_cases c : l + (n : Int) > s
    · have : ((List.replicate t (l + (n : Int))).filter fun z => decide (z > s)) = List.replicate t (l + (n : Int)) := by
        rw [List.filter_eq_self]
        intro z hz
        rw [(List.mem_replicate.mp hz).2]
        exact decide_eq_true c
      rw [this, List.length_replicate, show max (0 : Int) (l + ((n + 1 : Nat) : Int) - 1 - max (l - 1) s) = max 0 (l + (n : Int) - 1 - max (l - 1) s) + 1 by omega, Int.mul_add, Int.mul_one]
    · have : ((List.replicate t (l + (n : Int))).filter fun z => decide (z > s)) = [] := by
        rw [List.filter_eq_nil_iff]
        intro z hz
        rw [(List.mem_replicate.mp hz).2]
        simpa using c
      rw [this, show max (0 : Int) (l + ((n + 1 : Nat) : Int) - 1 - max (l - 1) s) = max 0 (l + (n : Int) - 1 - max (l - 1) s) by omega]
      simp
theorem ev_count : ∀ {ps : List Pc}, (∀ p ∈ ps, Pok p) → ∀ d, ((ev ps).count d : Int) = atP ps d
  | [], _, d => rfl
  | p :: r, h, d => by
    have hp := h p (List.mem_cons_self ..)
    obtain ⟨h1, h2, h3⟩ := hp
    have e : ev (p :: r) = evp p ++ ev r := by simp [ev]
    rw [e, List.count_append, Int.natCast_add, ev_count (fun q hq => h q (List.mem_cons_of_mem _ hq)) d, atP_cons]
    congr 1
    unfold evp
    rw [reps_count]
    unfold at1
    by_cases c : p.1 ≤ d ∧ d ≤ p.2.1
    · rw [if_pos c, if_pos (by omega)]
      omega
    · rw [if_neg c, if_neg (by omega)]
      rfl
theorem ev_over : ∀ {ps : List Pc}, (∀ p ∈ ps, Pok p) → ∀ s, (((ev ps).filter fun z => decide (z > s)).length : Int) = bey ps s
  | [], _, d => rfl
  | p :: r, h, s => by
    have hp := h p (List.mem_cons_self ..)
    obtain ⟨h1, h2, h3⟩ := hp
    have e : ev (p :: r) = evp p ++ ev r := by simp [ev]
    rw [e, List.filter_append, List.length_append, Int.natCast_add, ev_over (fun q hq => h q (List.mem_cons_of_mem _ hq)) s, bey_cons]
    congr 1
    unfold evp be1
    rw [reps_over, show ((p.2.2.toNat : Nat) : Int) = p.2.2 by omega, show p.1 + ((p.2.1 + 1 - p.1).toNat : Int) - 1 = p.2.1 by omega]
theorem ev_mem {ps : List Pc} {z : Int} (h : z ∈ ev ps) : ∃ p ∈ ps, p.1 ≤ z ∧ z ≤ p.2.1 := by
  obtain ⟨p, hp, hz⟩ := List.mem_flatMap.mp h
  have := reps_mem hz
  exact ⟨p, hp, by omega, by omega⟩
theorem ev_snoc {ps : List Pc} {i : Nat} {p : Pc} (e : ps[i]? = some p) : ev (ps.take (i + 1)) = ev (ps.take i) ++ evp p := by
  rw [List.take_add_one, e]
  show ev (ps.take i ++ [p]) = _
  unfold ev
  rw [List.flatMap_append]
  simp
theorem bey_snoc {ps : List Pc} {i : Nat} {p : Pc} (s : Int) (e : ps[i]? = some p) : bey (ps.take (i + 1)) s = bey (ps.take i) s + be1 p s := by
  rw [List.take_add_one, e, bey_app]
  show _ + bey [p] s = _
  rw [bey_cons]
  show _ + (_ + 0) = _
  omega
theorem one_less {ps : List Pc} (h : ∀ p ∈ ps, Pok p) {s : Int} : bey ps s - bey ps (s + 1) = atP ps (s + 1) := by
  induction ps with
  | nil => rfl
  | cons p r ih =>
    have hp := h p (List.mem_cons_self ..)
    obtain ⟨h1, h2, h3⟩ := hp
    have i := ih fun q hq => h q (List.mem_cons_of_mem _ hq)
    rw [bey_cons, bey_cons, atP_cons]
    have : be1 p s - be1 p (s + 1) = at1 p (s + 1) := by
      unfold be1 at1
      rw [← Int.mul_sub]
      by_cases c : p.1 ≤ s + 1 ∧ s + 1 ≤ p.2.1
      · rw [if_pos c, show max 0 (p.2.1 - max (p.1 - 1) s) - max 0 (p.2.1 - max (p.1 - 1) (s + 1)) = 1 by omega]
        omega
      · rw [if_neg c, show max 0 (p.2.1 - max (p.1 - 1) s) - max 0 (p.2.1 - max (p.1 - 1) (s + 1)) = 0 by omega]
        omega
    omega
theorem sum_filter_bey (ps : List Pc) (s : Int) (h : ∀ p ∈ ps, p.1 ≤ p.2.1) : (((ps.filter fun p => decide (p.2.1 > s)).map fun p => (p.2.1 - max (p.1 - 1) s) * p.2.2).sum) = bey ps s := by
  induction ps with
  | nil => rfl
  | cons p r ih =>
    have hp := h p (List.mem_cons_self ..)
    have i := ih fun q hq => h q (List.mem_cons_of_mem _ hq)
    rw [List.filter_cons, bey_cons, ← i]
    unfold be1
    by_cases c : p.2.1 > s
    · rw [if_pos (decide_eq_true c), List.map_cons, List.sum_cons, show max 0 (p.2.1 - max (p.1 - 1) s) = p.2.1 - max (p.1 - 1) s by omega, Int.mul_comm]
    · rw [if_neg (by simpa using c), show max 0 (p.2.1 - max (p.1 - 1) s) = 0 by omega]
      omega
theorem sum_filter_at (ps : List Pc) (d : Int) : (((ps.filter fun p => decide (p.1 ≤ d ∧ d ≤ p.2.1)).map fun p => p.2.2).sum) = atP ps d := by
  induction ps with
  | nil => rfl
  | cons p r ih =>
    rw [List.filter_cons, atP_cons, ← ih]
    unfold at1
    by_cases c : p.1 ≤ d ∧ d ≤ p.2.1
    · rw [if_pos (decide_eq_true c), if_pos c, List.map_cons, List.sum_cons]
    · rw [if_neg (by simpa using c), if_neg c]
      omega
end Kb

namespace Kb
open PySem PySem.Spec PyProof.Rows L2
/-! ### sets of many ints: set(xs), sorted(s) -/
section
variable {P : Program} {w : World} {A : Around} {E : Value → Shared → Prop} {s : Shared} {a : Addr}
theorem sorted_setW {S : Int → Bool} {n : Nat} {Q : Value → Shared → Prop} (R : SetR w s.heap a S n) (hh : A.handled = none) (hz0 : n ≤ sizeLine)
    (hQ : ∀ s' p (out : Array Value) (c : Nat) (ns : List Int), (∀ b o, s.heap.get? b = some o → s'.heap.get? b = some o) → s'.gens = s.gens → s'.os = s.os → s.heap.objs.size ≤ p →
      s'.heap.get? p = some (seqObj "list" out c) → IntsAre out.toList ns → ns.Pairwise (· < ·) → (∀ k, k ∈ ns ↔ S k = true) → ns.length = n → Q (.ref p) s') :
    wpAny (model P w) A (call (.builtin "sorted") [.ref a]) Q E s := by
  obtain ⟨o, es, ep, t, ho, hex, hd, g, nd, hm, hb, hf, hn, hr, hl⟩ := R
  refine Calls.call_function_entry kind_sorted plain_sorted entry_sorted (args_sorted1 _) ?_
  unfold Builtin.«sorted»
  refine wpAny_bind (m := checkCount "sorted" 1 1 _) (wpAny_pure ?_)
  refine wpAny_bind (collect_set (A := A.in1) hh ⟨o, ho, hex.1, hd⟩ hf hb hr hl fun s1 vs k1 hz g1 o1 pm => ?_)
  have hvl : vs.length = n := by rw [pm.length_eq, List.length_map, Array.length_toList]; exact hn
  have hI : IntsAre vs (vs.map Builtin.Re.reRawOf) := ints_of vs fun v hv => by
    obtain ⟨e, he, q⟩ := List.mem_map.mp (pm.mem_iff.mp hv)
    obtain ⟨k, tk, h1, _⟩ := g e he
    exact ⟨k, tk, by rw [← q]; exact h1⟩
  have pk : (vs.map Builtin.Re.reRawOf).Perm (es.toList.map keyOf) := by
    have q := pm.map Builtin.Re.reRawOf
    rw [List.map_map] at q
    exact q
  have hvz : vs.length ≤ sizeLine := by rw [hvl]; exact hz0
  refine wpAny_bind (wpAny_newList ?_ hvz)
  have hoL : (s1.heap.push (seqObj "list" vs.toArray 0)).get? s1.heap.objs.size = some (seqObj "list" vs.toArray 0) := Heap.get?_push_size _ rfl
  refine wpAny_bind (wpAny_holding (wpAny_call_entry slot_list_sort ⟨_, hoL, rfl⟩ entry_list_sort (SrtO.list_sort_ord SrtO.swo_int hoL hvz (fun h2 => SrtO.ints_sortable hI h2) fun out h1 h2 => ⟨_, rfl, ?_⟩) (args_list_sort _)))
  obtain ⟨a1, a2, a3⟩ := SrtO.ints_out hI h1 h2
  obtain ⟨c, hc⟩ := sortedHeap_at (vs := vs) (out := out.toArray) hoL
  have pn : (out.map SrtO.iv).Perm (es.toList.map keyOf) := a2.trans pk
  refine wpAny_pure ⟨_, rfl, hQ _ s1.heap.objs.size out.toArray c (out.map SrtO.iv) (fun b u e => ?_) g1 o1 hz hc a1 (lt_of_le_nodup _ a3 (pn.nodup_iff.mpr nd)) (fun k => by rw [pn.mem_iff, ← hm k]) ?_⟩
  · have q := k1 b u e
    have hlt := Heap.lt_size q
    show (sortedHeap (s1.heap.push (seqObj "list" vs.toArray 0)) s1.heap.objs.size vs out.toArray).get? b = some u
    rw [sortedHeap_old (Nat.ne_of_lt hlt) (by rw [size_push']; exact Nat.lt_succ_of_lt hlt)]
    exact Heap.get?_push_of_some _ q
  · rw [pn.length_eq, List.length_map, Array.length_toList]; exact hn
end
section
variable {X : Cx}
theorem cr_setW (hc : X.calm = true) : CallR X (.type "set") (fun xs H Q => ∃ (l : Addr) (ns : List Int), xs = [.ref l] ∧ SqL X.K H l (ns.map V.int) ∧ ns.length ≤ 4000 ∧
    ∀ (a : Addr) (c : Nat), H a = none → c ≤ ns.length → Q (.ref a) (upd H a (SetO X.w a (fun j => decide (j ∈ ns)) c))) := by
  intro pins s σ H xs us Q I r h
  obtain ⟨l, ns, rfl, hq, hl, q⟩ := h
  rw [Vals.ref1 r]
  obtain ⟨its, rv, pt, hz⟩ := I.list hq
  refine set_of_list (its := its.toArray) ns (I.ok.hd hc) pt.isList (ints_of_vals rv) (by unfold scanBound; omega) fun g tk c R hc k => ?_
  have n : H s.heap.objs.size = none := I.hok.fresh (Nat.le_refl _)
  exact ⟨.ref _, _, I.laid (t' := tk) k (Nat.le_refl _) (setO_new R), rfl, q _ c n hc⟩
def rSortedSetW (w : World) : List V → Hp → VK → Prop := fun vs H Q => ∃ (a : Addr) (S : Int → Bool) (n : Nat), vs = [V.ref a] ∧ H a = some (SetO w a S n) ∧ n ≤ 4000 ∧
  ∀ (ns : List Int) (p : Addr), ns.Pairwise (· < ·) → (∀ k : Int, k ∈ ns ↔ S k = true) → ns.length = n → H p = none → Q (.ref p) (upd H p (.lst (ns.map V.int)))
theorem cr_sortedSetW (hc : X.calm = true) : CallR X (.builtin "sorted") (rSortedSetW X.w) := by
  intro pins s σ H vs us Q I r h
  obtain ⟨a, S, n, rfl, ha, h64, q⟩ := h
  have R := setO_get I ha
  rw [Vals.ref1 r]
  refine sorted_setW R (I.ok.hd hc) (by rw [sizeLine_eq]; omega) fun s' p out c ns k g o hp hg hi hs hm hl => ?_
  have hlen : (ns.map V.int).length ≤ sizeLine := by rw [List.length_map, hl, sizeLine_eq]; omega
  have hn : H p = none := I.hok.fresh hp
  have J : Inv X pins σ (upd H p (.lst (ns.map V.int))) { s with heap := s'.heap, gens := s'.gens, drawn := s'.drawn, toks := s'.toks } :=
    I.call (ch := []) (Un.laid k hp hn) (I.hok.laid k hp ⟨hlen, out.toList, c, vals_of_ints hi, hg⟩) (by rw [g]; exact I.bare) (fun _ z => nomatch z)
  have e : s' = { s with heap := s'.heap, gens := s'.gens, drawn := s'.drawn, toks := s'.toks } := by
    cases s'
    cases s
    cases o
    rfl
  rw [e]
  exact ⟨.ref p, _, J, rfl, q ns p hs hm hl hn⟩
end
end Kb

namespace Kb
open PySem PySem.Spec PyProof.Rows L2
/-! ### the mathematics of scans -/
def lo (s : Sc) : Int := if s.2 < s.1 then s.2 else s.1
def hi (s : Sc) : Int := if s.2 > s.1 then s.2 else s.1
def Nn (s : Sc) : Prop := 0 ≤ s.1 ∧ 0 ≤ s.2
def Apart (s t : Sc) : Prop := hi s < lo t ∨ hi t < lo s
structure Good (ss : List Sc) : Prop where
  nn : ∀ s ∈ ss, Nn s
  dis : ss.Pairwise Apart
  few : ss.length ≤ 1000
def spn (s : Sc) : Sc := (lo s, hi s)
theorem spn_le (s : Sc) : (spn s).1 ≤ (spn s).2 := by
  show lo s ≤ hi s
  unfold lo hi
  split <;> split <;> omega
theorem Good.next {ss zs : List Sc} (G : Good ss) (p : zs.Perm (ss.map spn)) (o : zs.Pairwise fun a b => a.1 ≤ b.1) {i : Nat} {x y : Sc} (hx : zs[i]? = some x) (hy : zs[i + 1]? = some y) : x.2 < y.1 := by
  have d1 : (ss.map spn).Pairwise fun a b => a.2 < b.1 ∨ b.2 < a.1 := List.pairwise_map.mpr (G.dis.imp fun h => h)
  have d2 : zs.Pairwise fun a b => a.2 < b.1 ∨ b.2 < a.1 := (p.pairwise_iff (R := fun a b : Sc => a.2 < b.1 ∨ b.2 < a.1) (fun {a b} h => h.symm)).mpr d1
  obtain ⟨l1, rfl⟩ := List.getElem?_eq_some_iff.mp hx
  obtain ⟨l2, rfl⟩ := List.getElem?_eq_some_iff.mp hy
  have a := List.pairwise_iff_getElem.mp d2 i (i + 1) l1 l2 (Nat.lt_succ_self i)
  have b := List.pairwise_iff_getElem.mp o i (i + 1) l1 l2 (Nat.lt_succ_self i)
  have w : ∀ z ∈ zs, z.1 ≤ z.2 := fun z hz => by
    obtain ⟨s, _, rfl⟩ := List.mem_map.mp (p.mem_iff.mp hz)
    exact spn_le s
  have c := w _ (List.getElem_mem l2)
  have d := w _ (List.getElem_mem l1)
  omega
def slen (s : Sc) : Int := (if s.2 - s.1 < 0 then -(s.2 - s.1) else s.2 - s.1) + 1
/-! ### promises -/
def spIsInteger : Sp := fun vs H Q _ => ∃ i : Int, vs = [.int i] ∧ RetV (.bl true) H Q
def spFromZero : Sp := fun vs H Q _ => ∃ i : Int, vs = [.int i] ∧ 0 ≤ i ∧ RetV (.bl true) H Q
def spIsScan : Sp := fun vs H Q _ => ∃ (v : V) (s : Sc), vs = [v] ∧ IsSc H v s ∧ Nn s ∧ RetV (.bl true) H Q
def spIsList : Sp := fun vs H Q _ => ∃ (a : Addr) (ss : List Sc), vs = [.ref a] ∧ Scs H a ss ∧ Good ss ∧ RetV (.bl true) H Q
def spCheckList : Sp := fun vs H Q _ => ∃ (a : Addr) (ss : List Sc), vs = [.ref a] ∧ Scs H a ss ∧ Good ss ∧ RetV .non H Q
def spCheckAddress : Sp := fun vs H Q _ => ∃ i : Int, vs = [.int i] ∧ 0 ≤ i ∧ RetV .non H Q
def spCheckIndex : Sp := fun vs H Q _ => ∃ i n : Int, vs = [.int i, .int n] ∧ 0 ≤ i ∧ i < n ∧ RetV .non H Q
/-! ### the addresses of scans, one by one -/
def stp (s : Sc) : Int := if s.1 ≤ s.2 then 1 else -1
def rd (s : Sc) : List Int := (List.range (slen s).toNat).map fun (m : Nat) => s.1 + (m : Int) * stp s
def rdL : List Sc → List Int
  | [] => []
  | s :: r => rd s ++ rdL r
def psum : List Sc → Int
  | [] => 0
  | s :: r => slen s + psum r
def absI (z : Int) : Int := if z < 0 then -z else z
def plc : List Sc → Int → Int → V
  | [], _, _ => .non
  | s :: r, acc, a => if lo s ≤ a ∧ a ≤ hi s then .int (acc + absI (a - s.1)) else plc r (acc + slen s) a
theorem slen_pos (s : Sc) : 1 ≤ slen s := by
  unfold slen
  split <;> omega
theorem rd_len (s : Sc) : (rd s).length = (slen s).toNat := by
  unfold rd
  rw [List.length_map, List.length_range]
theorem rd_get {s : Sc} {i : Nat} (h : i < (slen s).toNat) : (rd s)[i]? = some (if s.1 ≤ s.2 then s.1 + i else s.1 - i) := by
  unfold rd stp
  rw [List.getElem?_map, List.getElem?_range h]
  show some (s.1 + (i : Int) * (if s.1 ≤ s.2 then 1 else -1)) = some _
  congr 1
  split <;> omega
theorem slen_eq (s : Sc) : slen s = hi s - lo s + 1 := by
  unfold slen hi lo
  split <;> split <;> split <;> omega
theorem mem_rd {s : Sc} {a : Int} : a ∈ rd s ↔ lo s ≤ a ∧ a ≤ hi s := by
  constructor
  · intro h
    obtain ⟨i, hi⟩ := List.mem_iff_getElem?.mp h
    have hl : i < (slen s).toNat := by
      rw [← rd_len]
      exact (List.getElem?_eq_some_iff.mp hi).1
    rw [rd_get hl] at hi
    have e := Option.some.inj hi
    have z := slen_eq s
    have p := slen_pos s
    unfold lo Kb.hi at *
    revert e z
    split <;> split <;> split <;> intro e z <;> omega
  · rintro ⟨h1, h2⟩
    have z := slen_eq s
    have p := slen_pos s
    have hl : (if s.1 ≤ s.2 then a - s.1 else s.1 - a).toNat < (slen s).toNat := by
      unfold lo Kb.hi at *
      revert z h1 h2
      split <;> split <;> split <;> intros <;> omega
    refine List.mem_iff_getElem?.mpr ⟨_, (rd_get hl).trans ?_⟩
    congr 1
    unfold lo Kb.hi at *
    revert h1 h2
    split <;> split <;> split <;> intros <;> omega
theorem rdL_app (a b : List Sc) : rdL (a ++ b) = rdL a ++ rdL b := by
  induction a with
  | nil => rfl
  | cons s r ih =>
    show rd s ++ rdL (r ++ b) = (rd s ++ rdL r) ++ rdL b
    rw [ih, List.append_assoc]
theorem psum_app (a b : List Sc) : psum (a ++ b) = psum a + psum b := by
  induction a with
  | nil =>
    show psum b = 0 + psum b
    omega
  | cons s r ih =>
    show slen s + psum (r ++ b) = slen s + psum r + psum b
    rw [ih]
    omega
theorem rdL_len (ss : List Sc) : ((rdL ss).length : Int) = psum ss := by
  induction ss with
  | nil => rfl
  | cons s r ih =>
    show (((rd s ++ rdL r).length : Nat) : Int) = slen s + psum r
    rw [List.length_append, rd_len]
    have := slen_pos s
    omega
theorem drop_at {ss : List Sc} {j : Nat} {s : Sc} (h : ss[j]? = some s) : ss.drop j = s :: ss.drop (j + 1) := by
  obtain ⟨l, rfl⟩ := List.getElem?_eq_some_iff.mp h
  exact List.drop_eq_getElem_cons l
theorem psum_snoc {ss : List Sc} {j : Nat} {s : Sc} (h : ss[j]? = some s) : psum (ss.take (j + 1)) = psum (ss.take j) + slen s := by
  rw [List.take_add_one, h, psum_app]
  show _ + (slen s + 0) = _
  omega
theorem mem_rdL {ss : List Sc} {a : Int} : a ∈ rdL ss ↔ ∃ s ∈ ss, lo s ≤ a ∧ a ≤ hi s := by
  induction ss with
  | nil =>
    constructor
    · intro h
      cases h
    · rintro ⟨s, h, _⟩
      cases h
  | cons s r ih =>
    show a ∈ rd s ++ rdL r ↔ _
    rw [List.mem_append, mem_rd, ih]
    constructor
    · rintro (h | ⟨t, ht, h⟩)
      · exact ⟨s, List.mem_cons_self, h⟩
      · exact ⟨t, List.mem_cons_of_mem _ ht, h⟩
    · rintro ⟨t, ht, h⟩
      rcases List.mem_cons.mp ht with e | e
      · subst e
        exact .inl h
      · exact .inr ⟨t, e, h⟩
theorem plc_at : ∀ {ss : List Sc} (acc : Int) {j : Nat} {a : Int}, ss.Pairwise Apart → (rdL ss)[j]? = some a → plc ss acc a = .int (acc + j)
  | [], acc, j, a, _, h => by simp [rdL] at h
  | s :: r, acc, j, a, d, h => by
    have h' : (rd s ++ rdL r)[j]? = some a := h
    have p := slen_pos s
    obtain ⟨d1, d2⟩ := List.pairwise_cons.mp d
    show (if lo s ≤ a ∧ a ≤ hi s then V.int (acc + absI (a - s.1)) else plc r (acc + slen s) a) = _
    by_cases hj : j < (rd s).length
    · rw [List.getElem?_append_left hj] at h'
      have m := mem_rd.mp (List.mem_of_getElem? h')
      rw [if_pos m]
      rw [rd_get (by rw [← rd_len]; exact hj)] at h'
      have e := Option.some.inj h'
      congr 2
      unfold absI
      revert e
      split <;> split <;> intro e <;> omega
    · rw [List.getElem?_append_right (by omega)] at h'
      have m := mem_rdL.mp (List.mem_of_getElem? h')
      obtain ⟨t, ht, m1, m2⟩ := m
      have ap := d1 t ht
      rw [if_neg (by unfold Apart at ap; omega), plc_at (acc + slen s) d2 h']
      congr 1
      rw [rd_len] at hj ⊢
      omega
theorem plc_no : ∀ {ss : List Sc} (acc : Int) {a : Int}, a ∉ rdL ss → plc ss acc a = .non
  | [], acc, a, _ => rfl
  | s :: r, acc, a, h => by
    have h' : a ∉ rd s ++ rdL r := h
    rw [List.mem_append, mem_rd] at h'
    show (if lo s ≤ a ∧ a ≤ hi s then V.int (acc + absI (a - s.1)) else plc r (acc + slen s) a) = _
    rw [if_neg (fun z => h' (.inl z)), plc_no _ fun z => h' (.inr z)]
/-! ### promises -/
def spScanLength : Sp := fun vs H Q _ => ∃ (v : V) (s : Sc), vs = [v] ∧ IsSc H v s ∧ RetV (.int (slen s)) H Q
def spAddressIn : Sp := fun vs H Q _ => ∃ (v : V) (s : Sc) (p : Int), vs = [v, .int p] ∧ IsSc H v s ∧ RetV (.int (if s.1 ≤ s.2 then s.1 + p else s.1 - p)) H Q
def spPlaceIn : Sp := fun vs H Q _ => ∃ (v : V) (s : Sc) (a : Int), vs = [v, .int a] ∧ IsSc H v s ∧ RetV (if lo s ≤ a ∧ a ≤ hi s then .int (absI (a - s.1)) else .non) H Q
def spCount : Sp := fun vs H Q _ => ∃ (a : Addr) (ss : List Sc), vs = [.ref a] ∧ Scs H a ss ∧ Good ss ∧ RetV (.int (psum ss)) H Q
def spPlaceOf : Sp := fun vs H Q _ => ∃ (a : Addr) (ss : List Sc) (x : Int), vs = [.ref a, .int x] ∧ Scs H a ss ∧ Good ss ∧ 0 ≤ x ∧ RetV (plc ss 0 x) H Q
def spNth : Sp := fun vs H Q _ => ∃ (a : Addr) (ss : List Sc) (k : Nat) (x : Int), vs = [.ref a, .int k] ∧ Scs H a ss ∧ Good ss ∧ (rdL ss)[k]? = some x ∧ RetV (.int x) H Q
/-! ### data of depth two -/
def pdS (s : Sc) : PyData := .tuple [.int s.1, .int s.2]
def pdL (ss : List Sc) : PyData := .list (ss.map pdS)
def pdI (ns : List Int) : PyData := .list (ns.map .int)
theorem shaped_L (ss : List Sc) : SeqAt.shaped (pdL ss) = true := by
  have h1 : PyData.canLayAll0 (ss.map pdS) = true := by
    induction ss with
    | nil => rfl
    | cons s r ih =>
      show (PyData.canLay0 (pdS s) && PyData.canLayAll0 (r.map pdS)) = true
      rw [ih]
      rfl
  have h2 : PyData.depthAll (ss.map pdS) ≤ 1 := by
    induction ss with
    | nil => exact Nat.zero_le _
    | cons s r ih =>
      show max (PyData.depth (pdS s)) (PyData.depthAll (r.map pdS)) ≤ 1
      have : PyData.depth (pdS s) = 1 := rfl
      have := ih (by
        have z : (PyData.canLay0 (pdS s) && PyData.canLayAll0 (r.map pdS)) = true := h1
        exact (Bool.and_eq_true_iff.mp z).2)
      omega
  show (PyData.canLayAll0 (ss.map pdS) && decide (PyData.depthAll (ss.map pdS) + 1 ≤ 64)) = true
  rw [h1, decide_eq_true (by omega)]
  rfl
theorem shaped_I (ns : List Int) : SeqAt.shaped (pdI ns) = true := by
  have h1 : PyData.canLayAll0 (ns.map PyData.int) = true := by
    induction ns with
    | nil => rfl
    | cons s r ih =>
      show (true && PyData.canLayAll0 (r.map PyData.int)) = true
      rw [ih]
      rfl
  have h2 : PyData.depthAll (ns.map PyData.int) = 0 := by
    clear h1
    induction ns with
    | nil => rfl
    | cons s r ih =>
      show max 0 (PyData.depthAll (r.map PyData.int)) = 0
      omega
  show (PyData.canLayAll0 (ns.map PyData.int) && decide (PyData.depthAll (ns.map PyData.int) + 1 ≤ 64)) = true
  rw [h1, h2]
  rfl
theorem eqv_S (s t : Sc) : PyData.eqv (pdS s) (pdS t) = decide (s = t) := by
  obtain ⟨a, b⟩ := s
  obtain ⟨c, d⟩ := t
  show ((a == c) && ((b == d) && true)) = _
  rw [Bool.eq_iff_iff]
  simp
theorem eqv_L : ∀ ss ts : List Sc, PyData.eqv (pdL ss) (pdL ts) = decide (ss = ts)
  | [], [] => rfl
  | [], _ :: _ => rfl
  | _ :: _, [] => rfl
  | s :: r, t :: q => by
    show (PyData.eqv (pdS s) (pdS t) && PyData.eqv (pdL r) (pdL q)) = _
    rw [eqv_S, eqv_L r q, Bool.eq_iff_iff]
    simp
theorem eqv_I : ∀ ns ms : List Int, PyData.eqv (pdI ns) (pdI ms) = decide (ns = ms)
  | [], [] => rfl
  | [], _ :: _ => rfl
  | _ :: _, [] => rfl
  | s :: r, t :: q => by
    show ((s == t) && PyData.eqv (pdI r) (pdI q)) = _
    rw [eqv_I r q, Bool.eq_iff_iff]
    simp
theorem Scs.dp {K : PySem.W.Frag} {H : Hp} {a : Addr} {ss : List Sc} (h : Scs H a ss) : Dp K H (.ref a) (pdL ss) := by
  obtain ⟨vs, ha, pa⟩ := h
  have all : ∀ {vs : List V} {ss : List Sc}, Paired (IsSc H) vs ss → DpAll K H vs (ss.map pdS) := by
    intro vs ss p
    induction p with
    | nil => exact .nil
    | cons h t ih =>
      obtain ⟨t0, rfl, ht⟩ := h
      exact .cons (.tup (SqT.of ht) (.cons (.int _) (.cons (.int _) .nil))) ih
  exact .lst (SqL.of ha) (all pa)
theorem dp_ints {K : PySem.W.Frag} {H : Hp} {a : Addr} {ns : List Int} (h : H a = some (.lst (ns.map V.int))) : Dp K H (.ref a) (pdI ns) := by
  have all : ∀ ns : List Int, DpAll K H (ns.map V.int) (ns.map PyData.int) := by
    intro ns
    induction ns with
    | nil => exact .nil
    | cons n r ih => exact .cons (.int n) ih
  exact .lst (SqL.of h) (all ns)
/-! ### promises -/
def RetL (xs : List V) (H : Hp) (Q : VK) : Prop := ∀ p H', H p = none → Ex H H' → H' p = some (.lst xs) → Q (.ref p) H'
def spBag : Sp := fun vs H Q _ => ∃ c : Int, vs = [.int c] ∧ ∀ b H', H b = none → Ex H H' → H' b = some (bagO b) → Q (.ref b) H'
def spBag0 : Sp := fun vs H Q _ => ∃ c : Int, vs = [.int c] ∧ ∀ b H' x y z, H b = none → Ex H H' → H' b = some (.lst [.int x, .int y, .int z]) → Q (.ref b) H'
def spPick : Sp := fun vs H Q _ => ∃ (b : Addr) (many : Int), vs = [.ref b, .int many] ∧ H b = some (bagO b) ∧ 1 ≤ many ∧ many ≤ 10 ^ 100 ∧ ∀ n H', 0 ≤ n → n < many → Ex H H' → Q (.int n) H'
def spPick0 : Sp := fun vs H Q _ => ∃ (b : Addr) (many x c t : Int), vs = [.ref b, .int many] ∧ H b = some (.lst [.int x, .int c, .int t]) ∧ 1 ≤ many ∧ many ≤ 10 ^ 100 ∧
  ∀ n H' x' t', 0 ≤ n → n < many → (∀ a o, a ≠ b → H a = some o → H' a = some o) → H' b = some (.lst [.int x', .int c, .int t']) → Q (.int n) H'
def spReads : Sp := fun vs H Q _ => ∃ (a : Addr) (ss : List Sc), vs = [.ref a] ∧ Scs H a ss ∧ (∀ s ∈ ss, Nn s ∧ s.1 ≤ 10000 ∧ s.2 ≤ 10000) ∧ ss.length ≤ 1000 ∧ RetL ((rdL ss).map V.int) H Q
def spMixed : Sp := fun vs H Q _ => ∃ (b a : Addr) (ss : List Sc), vs = [.ref b, .ref a] ∧ H b = some (bagO b) ∧ Scs H a ss ∧ ss.length ≤ 1000 ∧ ∀ p H' ts, H p = none → Ex H H' → Scs H' p ts → ts.Perm ss → Q (.ref p) H'
def spList : Sp := fun vs H Q _ => ∃ (b : Addr) (many wide : Int), vs = [.ref b, .int many, .int wide] ∧ H b = some (bagO b) ∧ 1 ≤ many ∧ many ≤ 50 ∧ 1 ≤ wide ∧ wide ≤ 10 ^ 100 ∧
  ∀ p H' ss, H p = none → Ex H H' → Scs H' p ss → Good ss → (∀ s ∈ ss, s.1 < wide ∧ s.2 < wide) → ss.length ≤ 60 → Q (.ref p) H'
theorem nox_w {CX : CXT} {P : Program} {w : World} {K : PySem.W.Frag} {mg : Str → Option Value} {base : Heap} {N : List Str} {q : Str} {sc : Scope} {f : Addr} {cd : Value} {A : Around} {outer : List Env} {s : Shared} {H : Hp} {E : XK} : (cxOf CX P w K mg base N q sc f cd A outer s H E).nox.w = w := rfl
theorem ixq {i : Int} {n : Nat} (h0 : 0 ≤ i) (h1 : i < n) : seqIndex? i n = some i.toNat := seqIndex_of h0 h1
theorem perm_pick {α : Type} {l f ss : List α} {i : Nat} {s : α} (h : (l ++ f).Perm ss) (e : l[i]? = some s) : (l.eraseIdx i ++ (f ++ [s])).Perm ss := by
  obtain ⟨hl, rfl⟩ := List.getElem?_eq_some_iff.mp e
  refine List.Perm.trans ?_ h
  have h1 : (l.eraseIdx i ++ (f ++ [l[i]])).Perm ([l[i]] ++ (l.eraseIdx i ++ f)) := by
    rw [← List.append_assoc]
    exact List.perm_append_comm
  refine h1.trans ?_
  rw [← List.append_assoc]
  refine List.Perm.append_right f ?_
  rw [List.eraseIdx_eq_take_drop_succ]
  have h2 : l = l.take i ++ (l[i] :: l.drop (i + 1)) := by
    rw [← List.drop_eq_getElem_cons hl, List.take_append_drop]
  refine List.Perm.trans ?_ (List.Perm.of_eq h2.symm)
  show (l[i] :: (l.take i ++ l.drop (i + 1))).Perm (l.take i ++ l[i] :: l.drop (i + 1))
  exact List.perm_middle.symm
theorem Good.perm {fs ts : List Sc} (n : ∀ s ∈ fs, 0 ≤ lo s) (d : fs.Pairwise fun s t => hi s < lo t) (few : fs.length ≤ 1000) (p : ts.Perm fs) : Good ts := by
  refine ⟨fun s hs => ?_, (p.pairwise_iff (R := Apart) (fun {a b} h => h.symm)).mpr (d.imp fun h => .inl h), by rw [p.length_eq]; exact few⟩
  have z := n s (p.mem_iff.mp hs)
  unfold lo at z
  unfold Nn
  revert z
  split <;> intro z <;> omega
theorem top_of {s : Sc} {w : Int} (h : hi s < w) : s.1 < w ∧ s.2 < w := by
  unfold hi at h
  revert h
  split <;> intro h <;> omega
theorem first_at {a : Int} : ∀ {l : List Int}, a ∈ l → ∃ j : Nat, l[j]? = some a ∧ ∀ m : Nat, m < j → l[m]? ≠ some a
  | [], h => by cases h
  | b :: r, h => by
    by_cases e : b = a
    · exact ⟨0, by rw [e]; rfl, fun m hm => absurd hm (Nat.not_lt_zero m)⟩
    · have h' : a ∈ r := by
        rcases List.mem_cons.mp h with z | z
        · exact absurd z.symm e
        · exact z
      obtain ⟨j, h1, h2⟩ := first_at h'
      refine ⟨j + 1, h1, fun m hm => ?_⟩
      cases m with
      | zero =>
        intro z
        exact e (Option.some.inj z)
      | succ m => exact h2 m (by omega)
theorem flat_ints (ns : List Int) : (ns.map V.int).all flatV = true := by
  induction ns with
  | nil => rfl
  | cons n r ih => exact ih
theorem inV_ints (ns : List Int) (a : Int) : inV (.int a) (ns.map V.int) = decide (a ∈ ns) := by
  induction ns with
  | nil => rfl
  | cons n r ih =>
    show ((n == a) || inV (.int a) (r.map V.int)) = _
    rw [ih, Bool.eq_iff_iff, Bool.or_eq_true, beq_iff_eq, decide_eq_true_eq, decide_eq_true_eq, List.mem_cons]
    exact ⟨fun h => h.imp Eq.symm id, fun h => h.imp Eq.symm id⟩
theorem iteSame {x : V} {A B : Prop} (h : B) : if (!decide (x = x)) = true then A else B := by
  rw [decide_eq_true rfl]
  exact iteF h
theorem Good.rev {ss : List Sc} (G : Good ss) : Good ss.reverse := by
  refine ⟨fun s hs => G.nn s (List.mem_reverse.mp hs), ?_, by rw [List.length_reverse]; exact G.few⟩
  exact ((List.reverse_perm ss).pairwise_iff (R := Apart) (fun {a b} h => h.symm)).mpr G.dis
def Small (ss : List Sc) : Prop := Good ss ∧ ∀ s ∈ ss, s.1 < 40 ∧ s.2 < 40
theorem Small.rev {ss : List Sc} (h : Small ss) : Small ss.reverse := ⟨h.1.rev, fun s hs => h.2 s (List.mem_reverse.mp hs)⟩
theorem Small.bd {ss : List Sc} (h : Small ss) : ∀ s ∈ ss, Nn s ∧ s.1 ≤ 10000 ∧ s.2 ≤ 10000 := fun s hs => ⟨h.1.nn s hs, by have := h.2 s hs; omega, by have := h.2 s hs; omega⟩
theorem Small.len {ss : List Sc} (h : Small ss) : (rdL ss).length ≤ 1000 * 40 := by
  have few := h.1.few
  have g : ∀ l : List Sc, (∀ s ∈ l, s ∈ ss) → (rdL l).length ≤ l.length * 40 := by
    intro l
    induction l with
    | nil => intro _; exact Nat.le_refl _
    | cons s r ih =>
      intro hm
      have z := h.2 s (hm s List.mem_cons_self)
      have y := h.1.nn s (hm s List.mem_cons_self)
      have i := ih fun t ht => hm t (List.mem_cons_of_mem _ ht)
      show (rd s ++ rdL r).length ≤ (r.length + 1) * 40
      rw [List.length_append, rd_len]
      have sl : slen s ≤ 40 := by
        obtain ⟨y1, y2⟩ := y
        unfold slen
        split <;> omega
      omega
  have := g ss fun _ h => h
  have := Nat.mul_le_mul_right 40 few
  omega
def spRight : Sp := fun vs H Q _ => ∃ (a : Addr) (ss : List Sc), vs = [.ref a] ∧ Scs H a ss ∧ Small ss ∧ RetV (.bl true) H Q
def spLaw (K : PySem.W.Frag) : Sp := fun vs H Q _ => ∃ (a : Addr) (ns : List Int), vs = [.ref a] ∧ SqL K H a (ns.map V.int) ∧ ns.length ≤ 63 ∧ ∀ H', Q (.bl true) H'
theorem Good.nil : Good [] := ⟨fun s hs => (by cases hs), List.Pairwise.nil, Nat.zero_le _⟩
theorem Good.one {z : Int} (h : 0 ≤ z) : Good [(z, z)] := ⟨fun s hs => by
  rw [List.mem_singleton.mp hs]
  exact ⟨h, h⟩, List.pairwise_singleton _ _, by show 1 ≤ 1000; decide⟩
theorem plc_one (z : Int) : plc [(z, z)] 0 z = .int 0 := by
  have e : (rdL [(z, z)])[0]? = some z := by
    show (rd (z, z) ++ [])[0]? = some z
    rw [List.append_nil]
    have l : slen (z, z) = 1 := by
      show (if z - z < 0 then -(z - z) else z - z) + 1 = 1
      split <;> omega
    rw [rd_get (by rw [l]; decide)]
    show some (if z ≤ z then z + ((0 : Nat) : Int) else z - ((0 : Nat) : Int)) = some z
    rw [if_pos (Int.le_refl z)]
    congr 1
    omega
  exact plc_at 0 (List.pairwise_singleton _ _) e
theorem pick2 {x y n : Int} {p : Int → Prop} (h0 : 0 ≤ n) (h1 : n < 2) (hx : p x) (hy : p y) : ∃ m, atI [V.int x, V.int y] n = some (.int m) ∧ p m := by
  have c : n = 0 ∨ n = 1 := by omega
  rcases c with rfl | rfl
  · exact ⟨x, rfl, hx⟩
  · exact ⟨y, rfl, hy⟩
end Kb

namespace Kb
open PySem PySem.Spec PyProof.Rows L2
/-! ### scans joined -/
def jstep (acc : List Sc) (s : Sc) : List Sc := match acc.getLast? with
  | some t => if absI (s.1 - t.2) = 1 then acc.dropLast ++ [(t.1, s.2)] else acc ++ [s]
  | none => [s]
def jn (ss : List Sc) : List Sc := ss.foldl jstep []
theorem jstep_nil (s : Sc) : jstep [] s = [s] := rfl
theorem jstep_snoc (pre : List Sc) (t s : Sc) : jstep (pre ++ [t]) s = if absI (s.1 - t.2) = 1 then pre ++ [(t.1, s.2)] else pre ++ [t] ++ [s] := by
  unfold jstep
  rw [List.getLast?_concat, List.dropLast_concat]
theorem jn_snoc (ss : List Sc) (s : Sc) : jn (ss ++ [s]) = jstep (jn ss) s := by
  unfold jn
  rw [List.foldl_append]
  rfl
def dup (ns : List Int) : List Sc := ns.map fun a => (a, a)
def al (x c : Int) (n : Nat) : List Int := (List.range n).map fun (m : Nat) => x + (m : Int) * c
theorem jstep_shape (acc : List Sc) (x : Int) : ∃ (pre : List Sc) (u : Int), ∀ z, jstep acc (x, z) = pre ++ [(u, z)] := by
  rcases List.eq_nil_or_concat acc with e | ⟨pre, t, e⟩
  · subst e
    exact ⟨[], x, fun z => rfl⟩
  · rw [List.concat_eq_append] at e
    subst e
    by_cases h : absI (x - t.2) = 1
    · exact ⟨pre, t.1, fun z => by rw [jstep_snoc, if_pos h]⟩
    · exact ⟨pre ++ [t], x, fun z => by rw [jstep_snoc, if_neg h]⟩
theorem fold_al (acc : List Sc) (x c : Int) (hc : c = 1 ∨ c = -1) : ∀ n : Nat, (dup (al x c (n + 1))).foldl jstep acc = jstep acc (x, x + (n : Int) * c)
  | 0 => by
    show jstep acc (x + ((0 : Nat) : Int) * c, x + ((0 : Nat) : Int) * c) = _
    have e : x + ((0 : Nat) : Int) * c = x := by simp
    rw [e]
  | n + 1 => by
    have e : al x c (n + 1 + 1) = al x c (n + 1) ++ [x + ((n + 1 : Nat) : Int) * c] := by
      unfold al
      rw [List.range_succ, List.map_append]
      rfl
    rw [e]
    unfold dup
    rw [List.map_append, List.foldl_append]
    have ih := fold_al acc x c hc n
    unfold dup at ih
    rw [ih]
    obtain ⟨pre, u, h⟩ := jstep_shape acc x
    rw [h, h]
    show jstep (pre ++ [(u, x + (n : Int) * c)]) (x + ((n + 1 : Nat) : Int) * c, x + ((n + 1 : Nat) : Int) * c) = _
    rw [jstep_snoc]
    have e2 : x + ((n + 1 : Nat) : Int) * c - (x + (n : Int) * c) = c := by
      rw [Int.natCast_add, Int.add_mul]
      show x + ((n : Int) * c + ((1 : Nat) : Int) * c) - (x + (n : Int) * c) = c
      rw [show ((1 : Nat) : Int) * c = c from Int.one_mul c]
      omega
    rw [if_pos]
    show absI (x + ((n + 1 : Nat) : Int) * c - (x + (n : Int) * c)) = 1
    rw [e2]
    rcases hc with rfl | rfl <;> rfl
theorem fold_rd (acc : List Sc) (s : Sc) : (dup (rd s)).foldl jstep acc = jstep acc s := by
  have p := slen_pos s
  obtain ⟨n, hn⟩ : ∃ n : Nat, (slen s).toNat = n + 1 := ⟨(slen s).toNat - 1, by omega⟩
  have e : rd s = al s.1 (stp s) (n + 1) := by
    unfold rd al
    rw [hn]
  have hc : stp s = 1 ∨ stp s = -1 := by
    unfold stp
    split
    · exact .inl rfl
    · exact .inr rfl
  rw [e, fold_al acc _ _ hc]
  congr 1
  have z := hn
  unfold slen at z
  unfold stp
  refine Prod.ext rfl ?_
  show s.1 + (n : Int) * (if s.1 ≤ s.2 then 1 else -1) = s.2
  revert z
  split <;> split <;> intro z <;> omega
theorem fold_rdL : ∀ (ss : List Sc) (acc : List Sc), (dup (rdL ss)).foldl jstep acc = ss.foldl jstep acc
  | [], acc => rfl
  | s :: r, acc => by
    show ((rd s ++ rdL r).map fun a => (a, a)).foldl jstep acc = (r.foldl jstep (jstep acc s))
    rw [List.map_append, List.foldl_append]
    have h1 := fold_rd acc s
    have h2 := fold_rdL r (jstep acc s)
    unfold dup at h1 h2
    rw [h1, h2]
theorem jn_rdL (ss : List Sc) : jn (dup (rdL ss)) = jn ss := fold_rdL ss []
def swp (s : Sc) : Sc := (s.2, s.1)
theorem rd_swp (s : Sc) : rd (swp s) = (rd s).reverse := by
  have l : slen (swp s) = slen s := by
    unfold slen swp
    show (if s.1 - s.2 < 0 then -(s.1 - s.2) else s.1 - s.2) + 1 = _
    split <;> split <;> omega
  refine List.ext_getElem? fun i => ?_
  by_cases h : i < (slen s).toNat
  · rw [rd_get (by rw [l]; exact h), List.getElem?_reverse (by rw [rd_len]; exact h), rd_len, rd_get (by omega)]
    congr 1
    have z2 : (((slen s).toNat : Nat) : Int) = (if s.2 - s.1 < 0 then -(s.2 - s.1) else s.2 - s.1) + 1 := by
      have := slen_pos s
      show _ = slen s
      omega
    generalize (slen s).toNat = n at h z2 ⊢
    show (if s.2 ≤ s.1 then s.2 + (i : Int) else s.2 - (i : Int)) = _
    revert z2
    split <;> split <;> split <;> intro z2 <;> omega
  · rw [List.getElem?_eq_none (by rw [rd_len, l]; omega), List.getElem?_eq_none (by rw [List.length_reverse, rd_len]; omega)]
theorem rdL_rev : ∀ ss : List Sc, rdL (ss.reverse.map swp) = (rdL ss).reverse
  | [] => rfl
  | s :: r => by
    rw [List.reverse_cons, List.map_append, rdL_app, rdL_rev r]
    show (rdL r).reverse ++ (rd (swp s) ++ []) = (rd s ++ rdL r).reverse
    rw [List.append_nil, rd_swp, List.reverse_append]
theorem jn_len : ∀ (ss : List Sc), (jn ss).length ≤ ss.length := by
  have key : ∀ (ss acc : List Sc), (ss.foldl jstep acc).length ≤ acc.length + ss.length := by
    intro ss
    induction ss with
    | nil => intro acc; exact Nat.le_refl _
    | cons s r ih =>
      intro acc
      have h := ih (jstep acc s)
      have h2 : (jstep acc s).length ≤ acc.length + 1 := by
        rcases List.eq_nil_or_concat acc with e | ⟨pre, t, e⟩
        · subst e
          exact Nat.le_refl _
        · rw [List.concat_eq_append] at e
          subst e
          rw [jstep_snoc]
          split
          · rw [List.length_append, List.length_append]
            show pre.length + 1 ≤ pre.length + 1 + 1
            omega
          · rw [List.length_append]
            exact Nat.le_refl _
      show (r.foldl jstep (jstep acc s)).length ≤ acc.length + (r.length + 1)
      omega
  intro ss
  have := key ss []
  simpa [jn] using this
/-- what a joined list's ends are -/
def Cd (B : Int) (ss : List Sc) : Prop := ∀ s ∈ ss, 0 ≤ s.1 ∧ s.1 < B ∧ 0 ≤ s.2 ∧ s.2 < B
theorem jn_cd {B : Int} {ss : List Sc} (h : Cd B ss) : Cd B (jn ss) := by
  have key : ∀ (ss acc : List Sc), Cd B ss → Cd B acc → Cd B (ss.foldl jstep acc) := by
    intro ss
    induction ss with
    | nil => intro acc _ ha; exact ha
    | cons s r ih =>
      intro acc hs ha
      refine ih _ (fun t ht => hs t (List.mem_cons_of_mem _ ht)) ?_
      have hs1 := hs s List.mem_cons_self
      rcases List.eq_nil_or_concat acc with e | ⟨pre, t, e⟩
      · subst e
        intro t ht
        rw [List.mem_singleton.mp ht]
        exact hs1
      · rw [List.concat_eq_append] at e
        subst e
        have ht1 := ha t (List.mem_append_right _ (List.mem_singleton.mpr rfl))
        rw [jstep_snoc]
        split
        · intro u hu
          rcases List.mem_append.mp hu with hu | hu
          · exact ha u (List.mem_append_left _ hu)
          · rw [List.mem_singleton.mp hu]
            exact ⟨ht1.1, ht1.2.1, hs1.2.2.1, hs1.2.2.2⟩
        · intro u hu
          rcases List.mem_append.mp hu with hu | hu
          · exact ha u hu
          · rw [List.mem_singleton.mp hu]
            exact hs1
  exact key ss [] h fun _ hu => by cases hu
/-! ### joined lists as they are printed -/
theorem short_int {z : Int} (h0 : 0 ≤ z) (h : z < 60) : (PyData.shown (.int z)).length ≤ 100 := by
  have e := PyProof.Rows.len_str_of_int z
  show (Str.ofString (toString z)).length ≤ 100
  omega
theorem show_L {ss : List Sc} {B : Nat} (hB : 100 ≤ B) (h : Cd 60 ss) : (pdL ss).showable = true ∧ (pdL ss).hasDict = false ∧ (pdL ss).leavesShort B = true ∧ (pdL ss).bulk ≤ 10 * ss.length + 10 := by
  have l2 : ∀ z : Int, 0 ≤ z → z < 60 → decide (z.natAbs.log2 < 1920) = true := fun z a b => decide_eq_true (Nat.lt_trans (PySem.Flt.log2_lt_of (k := 6) (by decide) (by omega)) (by decide))
  have key : ∀ l : List Sc, Cd 60 l → PyData.showableAll (l.map pdS) = true ∧ PyData.hasDictAll (l.map pdS) = false ∧ PyData.leavesShortAll B (l.map pdS) = true ∧ PyData.bulkAll (l.map pdS) ≤ 10 * l.length := by
    intro l
    induction l with
    | nil => intro _; exact ⟨rfl, rfl, rfl, Nat.zero_le _⟩
    | cons s r ih =>
      intro hl
      obtain ⟨i1, i2, i3, i4⟩ := ih fun t ht => hl t (List.mem_cons_of_mem _ ht)
      obtain ⟨a1, a2, a3, a4⟩ := hl s List.mem_cons_self
      refine ⟨?_, ?_, ?_, ?_⟩
      · show ((decide (s.1.natAbs.log2 < 1920) && (decide (s.2.natAbs.log2 < 1920) && true)) && PyData.showableAll (r.map pdS)) = true
        rw [l2 _ a1 a2, l2 _ a3 a4, i1]
        rfl
      · show ((false || (false || false)) || PyData.hasDictAll (r.map pdS)) = false
        rw [i2]
        rfl
      · show ((decide ((PyData.shown (.int s.1)).length ≤ B) && (decide ((PyData.shown (.int s.2)).length ≤ B) && true)) && PyData.leavesShortAll B (r.map pdS)) = true
        rw [decide_eq_true (Nat.le_trans (short_int a1 a2) hB), decide_eq_true (Nat.le_trans (short_int a3 a4) hB), i3]
        rfl
      · simp only [List.map_cons, PyData.bulkAll, pdS, PyData.bulk, List.length_cons]
        omega
  obtain ⟨i1, i2, i3, i4⟩ := key ss h
  refine ⟨i1, i2, i3, ?_⟩
  simp only [pdL, PyData.bulk]
  omega
/-! ### a joined list stays so -/
def Loose (l : List Sc) : Prop := ∀ (i : Nat) (a b : Sc), l[i]? = some a → l[i + 1]? = some b → absI (b.1 - a.2) ≠ 1
theorem snoc_at {α : Type} {pre : List α} {t b : α} {i : Nat} (h : (pre ++ [t])[i]? = some b) : (i < pre.length ∧ pre[i]? = some b) ∨ (i = pre.length ∧ b = t) := by
  by_cases z : i < pre.length
  · rw [List.getElem?_append_left z] at h
    exact .inl ⟨z, h⟩
  · rw [List.getElem?_append_right (by omega)] at h
    have y : i - pre.length = 0 := by
      have := (List.getElem?_eq_some_iff.mp h).1
      rw [List.length_singleton] at this
      omega
    rw [y] at h
    exact .inr ⟨by omega, (Option.some.inj h).symm⟩
theorem Loose.init {pre : List Sc} {t : Sc} (h : Loose (pre ++ [t])) : Loose pre := fun i a b ha hb => by
  have l1 := (List.getElem?_eq_some_iff.mp ha).1
  have l2 := (List.getElem?_eq_some_iff.mp hb).1
  exact h i a b (by rw [List.getElem?_append_left l1]; exact ha) (by rw [List.getElem?_append_left l2]; exact hb)
theorem loose_step {acc : List Sc} (h : Loose acc) (s : Sc) : Loose (jstep acc s) := by
  rcases List.eq_nil_or_concat acc with e | ⟨pre, t, e⟩
  · subst e
    intro i a b _ hb
    have := (List.getElem?_eq_some_iff.mp hb).1
    rw [jstep_nil, List.length_singleton] at this
    omega
  · rw [List.concat_eq_append] at e
    subst e
    rw [jstep_snoc]
    by_cases hc : absI (s.1 - t.2) = 1
    · rw [if_pos hc]
      intro i a b ha hb
      rcases snoc_at hb with ⟨z, hb'⟩ | ⟨z, rfl⟩
      · refine h i a b ?_ (by rw [List.getElem?_append_left z]; exact hb')
        rw [List.getElem?_append_left (by omega)] at ha ⊢
        exact ha
      · refine h i a t ?_ (by rw [z, List.getElem?_append_right (Nat.le_refl _), Nat.sub_self]; rfl)
        rw [List.getElem?_append_left (by omega)] at ha ⊢
        exact ha
    · rw [if_neg hc]
      intro i a b ha hb
      rcases snoc_at hb with ⟨z, hb'⟩ | ⟨z, rfl⟩
      · refine h i a b ?_ hb'
        rw [List.getElem?_append_left (by omega)] at ha
        exact ha
      · rw [List.getElem?_append_left (by omega)] at ha
        rw [List.length_append, List.length_singleton] at z
        have z2 : i = pre.length := by omega
        rw [z2, List.getElem?_append_right (Nat.le_refl _), Nat.sub_self] at ha
        cases (Option.some.inj (show some t = some a from ha))
        exact hc
theorem loose_jn (ss : List Sc) : Loose (jn ss) := by
  have key : ∀ (ss acc : List Sc), Loose acc → Loose (ss.foldl jstep acc) := by
    intro ss
    induction ss with
    | nil => intro acc h; exact h
    | cons s r ih => intro acc h; exact ih _ (loose_step h s)
  exact key ss [] fun i a b ha _ => by
    have z : (none : Option Sc) = some a := ha
    cases z
theorem jn_fix : ∀ (n : Nat) (l : List Sc), l.length = n → Loose l → jn l = l
  | 0, l, e, _ => by
    cases l with
    | nil => rfl
    | cons a r => cases e
  | n + 1, l, e, h => by
    rcases List.eq_nil_or_concat l with z | ⟨pre, s, z⟩
    · subst z
      rfl
    · rw [List.concat_eq_append] at z
      subst z
      rw [List.length_append, List.length_singleton] at e
      rw [jn_snoc, jn_fix n pre (by omega) h.init]
      rcases List.eq_nil_or_concat pre with y | ⟨q, t, y⟩
      · subst y
        rfl
      · rw [List.concat_eq_append] at y
        subst y
        rw [jstep_snoc, if_neg]
        refine h q.length t s ?_ ?_
        · rw [List.append_assoc, List.getElem?_append_right (Nat.le_refl _), Nat.sub_self]
          rfl
        · rw [List.getElem?_append_right (by rw [List.length_append]; exact Nat.le_refl _), List.length_append, List.length_singleton, Nat.sub_self]
          rfl
theorem jn_jn (ss : List Sc) : jn (jn ss) = jn ss := jn_fix _ _ rfl (loose_jn ss)
theorem lo_hi (s : Sc) : lo s ≤ hi s := spn_le s
theorem merge {t s : Sc} (a : Apart t s) (h : absI (s.1 - t.2) = 1) : (lo (t.1, s.2) = lo t ∧ hi (t.1, s.2) = hi s ∧ hi t + 1 = lo s) ∨ (lo (t.1, s.2) = lo s ∧ hi (t.1, s.2) = hi t ∧ hi s + 1 = lo t) := by
  obtain ⟨u, v⟩ := t
  obtain ⟨x, y⟩ := s
  unfold Apart lo hi absI at *
  revert a h
  show ((if v > u then v else u) < (if y < x then y else x) ∨ (if y > x then y else x) < (if v < u then v else u)) → (if x - v < 0 then -(x - v) else x - v) = 1 →
    ((if y < u then y else u) = (if v < u then v else u) ∧ (if y > u then y else u) = (if y > x then y else x) ∧ (if v > u then v else u) + 1 = (if y < x then y else x)) ∨
    ((if y < u then y else u) = (if y < x then y else x) ∧ (if y > u then y else u) = (if v > u then v else u) ∧ (if y > x then y else x) + 1 = (if v < u then v else u))
  split <;> split <;> split <;> split <;> split <;> split <;> split <;> intros <;> omega
theorem merge_apart {t s z : Sc} (a : Apart t s) (h : absI (s.1 - t.2) = 1) (h1 : Apart z t) (h2 : Apart z s) : Apart z (t.1, s.2) := by
  have m := merge a h
  have c := lo_hi z
  unfold Apart at h1 h2 ⊢
  omega
theorem Apart.symm {s t : Sc} (h : Apart s t) : Apart t s := Or.symm h
theorem apart_step {acc r : List Sc} {s : Sc} (h : (acc ++ s :: r).Pairwise Apart) : (jstep acc s ++ r).Pairwise Apart := by
  rcases List.eq_nil_or_concat acc with e | ⟨pre, t, e⟩
  · subst e
    exact h
  · rw [List.concat_eq_append] at e
    subst e
    rw [jstep_snoc]
    by_cases hc : absI (s.1 - t.2) = 1
    · rw [if_pos hc]
      rw [List.append_assoc] at h ⊢
      obtain ⟨p1, p2, p3⟩ := List.pairwise_append.mp h
      obtain ⟨q1, q2⟩ := List.pairwise_cons.mp (show (t :: (s :: r)).Pairwise Apart from p2)
      obtain ⟨q3, q4⟩ := List.pairwise_cons.mp q2
      have ats := q1 s List.mem_cons_self
      refine List.pairwise_append.mpr ⟨p1, List.pairwise_cons.mpr ⟨fun z hz => ?_, q4⟩, fun a ha b hb => ?_⟩
      · exact (merge_apart ats hc (q1 z (List.mem_cons_of_mem _ hz)).symm (q3 z hz).symm).symm
      · rcases List.mem_cons.mp (show b ∈ (t.1, s.2) :: r from hb) with e | e
        · rw [e]
          exact merge_apart ats hc (p3 a ha t (List.mem_append_left _ (List.mem_singleton.mpr rfl))) (p3 a ha s (List.mem_append_right _ List.mem_cons_self))
        · exact p3 a ha b (List.mem_append_right _ (List.mem_cons_of_mem _ e))
    · rw [if_neg hc, List.append_assoc]
      exact h
theorem apart_jn {ss : List Sc} (h : ss.Pairwise Apart) : (jn ss).Pairwise Apart := by
  have key : ∀ (r acc : List Sc), (acc ++ r).Pairwise Apart → (r.foldl jstep acc).Pairwise Apart := by
    intro r
    induction r with
    | nil =>
      intro acc h
      rw [List.append_nil] at h
      exact h
    | cons s r ih => intro acc h; exact ih _ (apart_step h)
  exact key ss [] h
theorem Good.jn {ss : List Sc} (G : Good ss) {B : Int} (c : Cd B ss) : Good (Kb.jn ss) :=
  ⟨fun s hs => ⟨(jn_cd c s hs).1, (jn_cd c s hs).2.2.1⟩, apart_jn G.dis, Nat.le_trans (jn_len ss) G.few⟩
end Kb

namespace Kb
open PySem PySem.Spec PyProof.Rows L2
theorem small20 {n : Nat} (h : n ≤ 2 ^ 20) : n < sizeLine := Nat.lt_of_le_of_lt h (by decide)
theorem Pa.concat {H : Hp} {pre : List V} {v : V} {l : List Sc} (h : Paired (IsSc H) (pre ++ [v]) l) : ∃ (pre' : List Sc) (t : Sc), l = pre' ++ [t] ∧ Paired (IsSc H) pre pre' ∧ IsSc H v t := by
  have r : Paired (IsSc H) (v :: pre.reverse) l.reverse := by
    have z := Pa.rev h
    rw [List.reverse_append] at z
    exact z
  generalize e : l.reverse = m at r
  cases r with
  | @cons _ t _ q h1 h2 =>
    have z := congrArg List.reverse e
    rw [List.reverse_reverse, List.reverse_cons] at z
    have y := Pa.rev h2
    rw [List.reverse_reverse] at y
    exact ⟨q.reverse, t, z, y, h1⟩
theorem ix_last {α : Type} (pre : List α) (v : α) : ixN (pre ++ [v]).length (-1) = some pre.length := by
  unfold ixN
  rw [List.length_append]
  show (if (0 : Int) ≤ -1 then _ else if -(((pre.length + 1 : Nat)) : Int) ≤ -1 then some ((-1 : Int) + ((pre.length + 1 : Nat) : Int)).toNat else none) = _
  rw [if_neg (by decide), if_pos (by omega)]
  congr 1
  omega
theorem set_last {α : Type} (pre : List α) (v u : α) : (pre ++ [v]).set pre.length u = pre ++ [u] := by
  rw [List.set_append_right (h := Nat.le_refl _), Nat.sub_self]
  rfl
theorem eq_nil_or_snoc {α : Type} (l : List α) : l = [] ∨ ∃ (pre : List α) (t : α), l = pre ++ [t] := by
  rcases List.eq_nil_or_concat l with e | ⟨pre, t, e⟩
  · exact .inl e
  · exact .inr ⟨pre, t, by rw [e, List.concat_eq_append]⟩
theorem absI_sub (a b : Int) : absI (a - b) = absI (b - a) := by
  unfold absI
  split <;> split <;> omega
theorem Pa.swap {H : Hp} {l : Addr} {us : List V} (hl : H l = some (.lst us)) {ss : List Sc} (p : Paired (IsSc H) us ss) : ∀ x ∈ us, x ≠ .ref l := fun x hx e => by
  obtain ⟨s, _, t, rfl, ht⟩ := Pa.mem p x hx
  cases e
  rw [hl] at ht
  cases ht
def spJoined : Sp := fun vs H Q _ => ∃ (a : Addr) (ss : List Sc), vs = [.ref a] ∧ Scs H a ss ∧ ss.length ≤ 2 ^ 20 ∧ ∀ p H', H p = none → Ex H H' → Scs H' p (jn ss) → Q (.ref p) H'
def spTidy : Sp := fun vs H Q _ => ∃ (a : Addr) (ss : List Sc), vs = [.ref a] ∧ Scs H a ss ∧ Good ss ∧ ∀ p H', H p = none → Ex H H' → Scs H' p (jn ss) → Q (.ref p) H'
def spTurned : Sp := fun vs H Q _ => ∃ (a : Addr) (ss : List Sc), vs = [.ref a] ∧ Scs H a ss ∧ Good ss ∧ ∀ p H', H p = none → Ex H H' → Scs H' p (jn (ss.reverse.map swp)) → Q (.ref p) H'
def spTidied : Sp := fun vs H Q _ => ∃ (a : Addr) (ns : List Int), vs = [.ref a] ∧ H a = some (.lst (ns.map V.int)) ∧ ns.length ≤ 2 ^ 20 ∧ ∀ p H', H p = none → Ex H H' → Scs H' p (jn (dup ns)) → Q (.ref p) H'
def JW (H : Hp) (a p : Addr) (ss : List Sc) (i : Nat) (σ : L2.St) (H1 : Hp) : Prop := ∃ y2 y3 us, σ = [some (.ref a), some (.ref p), y2, y3] ∧ Ex H H1 ∧ H1 p = some (.lst us) ∧ Paired (IsSc H1) us (jn (ss.take i))
theorem jw_snoc {H : Hp} {a p : Addr} {ss : List Sc} {i : Nat} {s : Sc} (gs : ss[i]? = some s) : jn (ss.take (i + 1)) = jstep (jn (ss.take i)) s := by
  rw [List.take_add_one, gs]
  exact jn_snoc _ _
theorem jw_app {H H1 : Hp} {a p q : Addr} {ss : List Sc} {i : Nat} {x y : Int} {us : List V} (np : H p = none) (gs : ss[i]? = some (x, y)) (e : Ex H H1) (hp : H1 p = some (.lst us)) (pu : Paired (IsSc H1) us (jn (ss.take i))) (nq : H1 q = none)
    (hj : jstep (jn (ss.take i)) (x, y) = jn (ss.take i) ++ [(x, y)]) {σ : L2.St} (es : ∃ y2 y3, σ = [some (.ref a), some (.ref p), y2, y3]) : JW H a p ss (i + 1) σ (upd (upd H1 q (.tup [.int x, .int y])) p (.lst (us ++ [.ref q]))) := by
  obtain ⟨y2, y3, rfl⟩ := es
  have n : p ≠ q := ne_of_none hp nq
  refine ⟨y2, y3, us ++ [.ref q], rfl, (e.add nq).mut np, upd_same, ?_⟩
  rw [jw_snoc (H := H) (a := a) (p := p) gs, hj]
  exact Pa.lset ((upd_ne n).trans hp) (Pa.snoc (Pa.mono (Ex.new nq) pu) ⟨q, rfl, upd_same⟩)
theorem jw_set {H H1 : Hp} {a p q : Addr} {ss : List Sc} {i : Nat} {x y : Int} {pre : List V} {v : V} {pre' : List Sc} {t : Sc} (np : H p = none) (gs : ss[i]? = some (x, y)) (e : Ex H H1) (hp : H1 p = some (.lst (pre ++ [v]))) (pu : Paired (IsSc H1) pre pre') (nq : H1 q = none)
    (ej : jn (ss.take i) = pre' ++ [t]) (hc : absI (x - t.2) = 1) {σ : L2.St} (es : ∃ y2 y3, σ = [some (.ref a), some (.ref p), y2, y3]) : JW H a p ss (i + 1) σ (upd (upd H1 q (.tup [.int t.1, .int y])) p (.lst ((pre ++ [v]).set pre.length (.ref q)))) := by
  obtain ⟨y2, y3, rfl⟩ := es
  have n : p ≠ q := ne_of_none hp nq
  refine ⟨y2, y3, _, rfl, (e.add nq).mut np, upd_same, ?_⟩
  rw [jw_snoc (H := H) (a := a) (p := p) gs, ej, jstep_snoc, if_pos hc, set_last]
  exact Pa.lset ((upd_ne n).trans hp) (Pa.snoc (Pa.mono (Ex.new nq) pu) ⟨q, rfl, upd_same⟩)
def Sm (ss : List Sc) : Prop := Small ss ∧ ss.length ≤ 60
theorem Sm.cd {ss : List Sc} (h : Sm ss) : Cd 60 ss := fun s hs => by
  have a := h.1.1.nn s hs
  have b := h.1.2 s hs
  exact ⟨a.1, by omega, a.2, by omega⟩
theorem cd_swp {B : Int} {ss : List Sc} (h : Cd B ss) : Cd B (ss.reverse.map swp) := fun s hs => by
  obtain ⟨t, ht, rfl⟩ := List.mem_map.mp hs
  have z := h t (List.mem_reverse.mp ht)
  exact ⟨z.2.2.1, z.2.2.2, z.1, z.2.1⟩
theorem Sm.sum {ss : List Sc} (h : Sm ss) : 0 ≤ psum ss ∧ psum ss ≤ 2400 := by
  have key : ∀ l : List Sc, (∀ s ∈ l, s ∈ ss) → 0 ≤ psum l ∧ psum l ≤ 40 * (l.length : Int) := by
    intro l
    induction l with
    | nil => intro _; exact ⟨Int.le_refl 0, Int.le_refl _⟩
    | cons s r ih =>
      intro hm
      have i := ih fun t ht => hm t (List.mem_cons_of_mem _ ht)
      have a := h.1.1.nn s (hm s List.mem_cons_self)
      have b := h.1.2 s (hm s List.mem_cons_self)
      have p := slen_pos s
      have sl : slen s ≤ 40 := by
        obtain ⟨a1, a2⟩ := a
        unfold slen
        split <;> omega
      show 0 ≤ slen s + psum r ∧ slen s + psum r ≤ 40 * ((r.length + 1 : Nat) : Int)
      omega
  have z := key ss fun _ h => h
  have := h.2
  omega
def pdT (j1 j2 : List Sc) (n : Int) : PyData := .list [pdL j1, pdL j2, .int n]
theorem show_T {j1 j2 : List Sc} {n : Int} (h1 : Cd 60 j1) (h2 : Cd 60 j2) (l1 : j1.length ≤ 60) (l2 : j2.length ≤ 60) (n0 : 0 ≤ n) (n1 : n ≤ 2400) :
    (pdT j1 j2 n).showable = true ∧ (pdT j1 j2 n).hasDict = false ∧ (pdT j1 j2 n).depth ≤ 60 ∧ (pdT j1 j2 n).shown.length ≤ sizeLine := by
  obtain ⟨a1, a2, a3, a4⟩ := show_L (B := 2500) (by decide) h1
  obtain ⟨b1, b2, b3, b4⟩ := show_L (B := 2500) (by decide) h2
  have s1 := PyData.hasDict_of_canLay _ (SeqAt.canLay_of_shaped (shaped_L j1))
  have d1 := SeqAt.depth_of_shaped (shaped_L j1)
  have e1 : ∀ l : List Sc, (pdL l).depth ≤ 2 := fun l => by
    have h2 : PyData.depthAll (l.map pdS) ≤ 1 := by
      induction l with
      | nil => exact Nat.zero_le _
      | cons s r ih =>
        show max (PyData.depth (pdS s)) (PyData.depthAll (r.map pdS)) ≤ 1
        have : PyData.depth (pdS s) = 1 := rfl
        omega
    show PyData.depthAll (l.map pdS) + 1 ≤ 2
    omega
  have x1 := e1 j1
  have x2 := e1 j2
  have li : (PyData.shown (.int n)).length ≤ 2500 := by
    have e := PyProof.Rows.len_str_of_int n
    show (Str.ofString (toString n)).length ≤ 2500
    omega
  refine ⟨?_, ?_, ?_, ?_⟩
  · show ((pdL j1).showable && ((pdL j2).showable && (decide (n.natAbs.log2 < 1920) && true))) = true
    rw [a1, b1, decide_eq_true (Nat.lt_trans (PySem.Flt.log2_lt_of (k := 12) (by decide) (by omega)) (by decide))]
    rfl
  · show ((pdL j1).hasDict || ((pdL j2).hasDict || (false || false))) = false
    rw [a2, b2]
    rfl
  · show max (pdL j1).depth (max (pdL j2).depth (max 0 0)) + 1 ≤ 60
    omega
  · have lv : (pdT j1 j2 n).leavesShort 2500 = true := by
      show ((pdL j1).leavesShort 2500 && ((pdL j2).leavesShort 2500 && (decide ((PyData.shown (.int n)).length ≤ 2500) && true))) = true
      rw [a3, b3, decide_eq_true li]
      rfl
    have bk : (pdT j1 j2 n).bulk ≤ 1300 := by
      simp only [pdT, PyData.bulk, PyData.bulkAll] at *
      omega
    have z := PyData.shown_le_bulk 2500 (by decide) _ lv
    have y := Nat.mul_le_mul_left (2500 + 2) bk
    rw [sizeLine_eq]
    omega
theorem show_S {ss : List Sc} (h : Cd 60 ss) (l : ss.length ≤ 60) : (pdL ss).showable = true ∧ (pdL ss).hasDict = false ∧ (pdL ss).depth ≤ 60 ∧ (pdL ss).shown.length ≤ sizeLine := by
  obtain ⟨a1, a2, a3, a4⟩ := show_L (B := 2500) (by decide) h
  refine ⟨a1, a2, ?_, ?_⟩
  · have h2 : PyData.depthAll (ss.map pdS) ≤ 1 := by
      clear a1 a2 a3 a4 h l
      induction ss with
      | nil => exact Nat.zero_le _
      | cons s r ih =>
        show max (PyData.depth (pdS s)) (PyData.depthAll (r.map pdS)) ≤ 1
        have : PyData.depth (pdS s) = 1 := rfl
        omega
    show PyData.depthAll (ss.map pdS) + 1 ≤ 60
    omega
  · have z := PyData.shown_le_bulk 2500 (by decide) _ a3
    have y := Nat.mul_le_mul_left (2500 + 2) a4
    rw [sizeLine_eq]
    omega
def spRight1 : Sp := fun vs H Q _ => ∃ (a : Addr) (ss : List Sc), vs = [.ref a] ∧ Scs H a ss ∧ Sm ss ∧ RetV (.bl true) H Q
end Kb

namespace Kb
open PySem PySem.Spec PyProof.Rows L2
/-! ### min, max of a pair -/
section
variable {prog : Program} {w : World} {A : Around} {E : Value → Shared → Prop} {s : Shared}
theorem tup_iter {l : Addr} {its : Array Value} {Q : Value → Shared → Prop} (hl : s.heap.IsTuple l its)
    (h : ∀ s2 : Shared, s2 = { s with heap := s.heap.push { cls := .type "tuple_iterator", data := .fields #[.ref l, .int 0 0] } } → (s2.heap.IsTupleIter s.heap.objs.size l 0 ∧ s2.heap.IsTuple l its) → (∀ b ∈ [s.heap.objs.size, l], b < s2.heap.objs.size) → l ≠ s.heap.objs.size → Q (.ref s.heap.objs.size) s2) :
    wpAny (model prog w) A (pyIter (.ref l)) Q E s := by
  have lt : l < s.heap.objs.size := by
    obtain ⟨_, e, _⟩ := hl
    exact Heap.lt_size e
  refine wpAny_pyIter_tuple hl (h _ rfl ⟨⟨_, Heap.get?_push_size _ rfl, rfl, rfl⟩, hl.push _⟩ (fun b hb => ?_) (Nat.ne_of_lt lt))
  show b < (s.heap.push _).objs.size
  rw [Heap.size_push]
  rcases List.mem_cons.mp hb with e | e
  · rw [e]
    exact Nat.lt_succ_self _
  · rw [List.mem_singleton.mp e]
    exact Nat.lt_succ_of_lt lt
end
def fn2 (x y : Int) : Nat → Int := fun i => if i = 0 then x else y
theorem pair_at {x y : Int} {t u : Tok} (i : Nat) (v : Value) (h : (#[Value.int x t, Value.int y u] : Array Value)[i]? = some v) : ∃ k, v = .int (fn2 x y i) k := by
  match i, h with
  | 0, h =>
    cases h
    exact ⟨t, rfl⟩
  | 1, h =>
    cases h
    exact ⟨u, rfl⟩
  | i + 2, h => simp at h
section
variable {X : Cx}
theorem cr_minT (hc : X.calm = true) : CallR X (.builtin "min") (fun vs H Q => ∃ (a : Addr) (x y : Int), vs = [.ref a] ∧ H a = some (.tup [.int x, .int y]) ∧ Q (.int (if y < x then y else x)) H) := by
  intro pins s σ H vs us Q I r h
  obtain ⟨a, x, y, rfl, ha, q⟩ := h
  rw [Vals.ref1 r]
  obtain ⟨its, rv, pt, _⟩ := I.tuple (SqT.of ha)
  obtain ⟨u1, u2, rfl, ⟨t, rfl⟩, ⟨u, rfl⟩⟩ := vals2 rv
  refine call_min_walk (tup_iter (its := #[Value.int x t, Value.int y u]) pt fun s2 e st hfp ne => ?_)
  subst e
  refine ⟨_, _, _, _, _, _, _, rfl, Walks.tuple (A := X.A.in1) (I.ok.hd hc) _ a ne _, st, hfp, Nat.succ_pos 1, CmpOf.ints_lt (fn2 x y) pair_at, fun v h' tk hP hk => ?_⟩
  obtain ⟨k, rfl⟩ := pair_at _ _ hP
  obtain ⟨b1, b2⟩ := argBest_lt (fn2 x y) 1
  have c0 := b2 0 (by decide)
  have c1 := b2 1 (by decide)
  have e : fn2 x y (argBest (fun i j => decide (fn2 x y i < fn2 x y j)) 1) = if y < x then y else x := by
    generalize argBest (fun i j => decide (fn2 x y i < fn2 x y j)) 1 = m at b1 c0 c1
    have d : m = 0 ∨ m = 1 := by omega
    rcases d with rfl | rfl
    · have z : x ≤ y := c1
      show x = _
      rw [if_neg (by omega)]
    · have z : y ≤ x := c0
      show y = _
      split <;> omega
  refine ⟨.int _, H, I.kept (t' := tk) fun b o eo => hk b o (fun hm => ?_) (Heap.get?_push_of_some _ eo), ⟨k, rfl⟩, ?_⟩
  · rcases List.mem_cons.mp hm with e1 | hm
    · exact absurd (e1 ▸ Heap.lt_size eo) (Nat.lt_irrefl _)
    · cases hm
  · show Q (.int (fn2 x y (argBest (fun i j => decide (fn2 x y i < fn2 x y j)) 1))) H
    rw [e]
    exact q
theorem cr_maxT (hc : X.calm = true) : CallR X (.builtin "max") (fun vs H Q => ∃ (a : Addr) (x y : Int), vs = [.ref a] ∧ H a = some (.tup [.int x, .int y]) ∧ Q (.int (if y > x then y else x)) H) := by
  intro pins s σ H vs us Q I r h
  obtain ⟨a, x, y, rfl, ha, q⟩ := h
  rw [Vals.ref1 r]
  obtain ⟨its, rv, pt, _⟩ := I.tuple (SqT.of ha)
  obtain ⟨u1, u2, rfl, ⟨t, rfl⟩, ⟨u, rfl⟩⟩ := vals2 rv
  refine call_max_walk (tup_iter (its := #[Value.int x t, Value.int y u]) pt fun s2 e st hfp ne => ?_)
  subst e
  refine ⟨_, _, _, _, _, _, _, rfl, Walks.tuple (A := X.A.in1) (I.ok.hd hc) _ a ne _, st, hfp, Nat.succ_pos 1, CmpOf.ints_gt (fn2 x y) pair_at, fun v h' tk hP hk => ?_⟩
  obtain ⟨k, rfl⟩ := pair_at _ _ hP
  obtain ⟨b1, b2⟩ := argBest_gt (fn2 x y) 1
  have c0 := b2 0 (by decide)
  have c1 := b2 1 (by decide)
  have e : fn2 x y (argBest (fun i j => decide (fn2 x y i > fn2 x y j)) 1) = if y > x then y else x := by
    generalize argBest (fun i j => decide (fn2 x y i > fn2 x y j)) 1 = m at b1 c0 c1
    have d : m = 0 ∨ m = 1 := by omega
    rcases d with rfl | rfl
    · have z : y ≤ x := c1
      show x = _
      rw [if_neg (by omega)]
    · have z : x ≤ y := c0
      show y = _
      split <;> omega
  refine ⟨.int _, H, I.kept (t' := tk) fun b o eo => hk b o (fun hm => ?_) (Heap.get?_push_of_some _ eo), ⟨k, rfl⟩, ?_⟩
  · rcases List.mem_cons.mp hm with e1 | hm
    · exact absurd (e1 ▸ Heap.lt_size eo) (Nat.lt_irrefl _)
    · cases hm
  · show Q (.int (fn2 x y (argBest (fun i j => decide (fn2 x y i > fn2 x y j)) 1))) H
    rw [e]
    exact q
end
/-! ### parts of scans -/
def seg (a b : Int) : List Int := (List.range (b + 1 - a).toNat).map fun (m : Nat) => a + (m : Int)
theorem seg_nil {a b : Int} (h : b < a) : seg a b = [] := by
  unfold seg
  rw [show (b + 1 - a).toNat = 0 by omega]
  rfl
theorem seg_cons {a b : Int} (h : a ≤ b) : seg a b = a :: seg (a + 1) b := by
  unfold seg
  obtain ⟨n, hn⟩ : ∃ n : Nat, (b + 1 - a).toNat = n + 1 := ⟨(b + 1 - a).toNat - 1, by omega⟩
  rw [hn, show (b + 1 - (a + 1)).toNat = n by omega, List.range_succ_eq_map, List.map_cons, List.map_map]
  congr 1
  · show a + ((0 : Nat) : Int) = a
    omega
  · refine List.map_congr_left fun m _ => ?_
    show a + ((m + 1 : Nat) : Int) = a + 1 + (m : Int)
    omega
theorem seg_cut (l h : Int) (hlh : l ≤ h) : ∀ (n : Nat) (a b : Int), (b + 1 - a).toNat = n → (seg a b).filter (fun z => !decide (l ≤ z ∧ z ≤ h)) = seg a (min b (l - 1)) ++ seg (max a (h + 1)) b
  | 0, a, b, e => by
    rw [seg_nil (by omega), seg_nil (by omega), seg_nil (by omega)]
    rfl
  | n + 1, a, b, e => by
    have hab : a ≤ b := by omega
    rw [seg_cons hab, List.filter_cons]
    have ih := seg_cut l h hlh n (a + 1) b (by omega)
    by_cases h1 : a < l
    · rw [if_pos (by simp; omega), ih, seg_cons (show a ≤ min b (l - 1) by omega)]
      rw [show max (a + 1) (h + 1) = max a (h + 1) by omega]
      rfl
    · by_cases h2 : a ≤ h
      · rw [if_neg (by simp; omega), ih, seg_nil (show min b (l - 1) < a + 1 by omega), seg_nil (show min b (l - 1) < a by omega), show max (a + 1) (h + 1) = max a (h + 1) by omega]
      · rw [if_pos (by simp; omega), ih, seg_nil (show min b (l - 1) < a + 1 by omega), seg_nil (show min b (l - 1) < a by omega), show max a (h + 1) = a by omega, show max (a + 1) (h + 1) = a + 1 by omega, seg_cons hab]
        rfl
theorem rd_up {s : Sc} (h : s.1 ≤ s.2) : rd s = seg s.1 s.2 := by
  unfold rd seg stp slen
  rw [if_pos h, if_neg (by omega), show (s.2 - s.1 + 1).toNat = (s.2 + 1 - s.1).toNat by omega]
  refine List.map_congr_left fun m _ => ?_
  omega
theorem rd_dn {s : Sc} (h : s.2 ≤ s.1) : rd s = (seg s.2 s.1).reverse := by
  have e : s = swp (swp s) := rfl
  rw [e, rd_swp, rd_up (s := swp s) h]
  rfl
def ends (s : Sc) (l h : Int) : List Sc := [(lo s, if l - 1 < hi s then l - 1 else hi s), (if h + 1 > lo s then h + 1 else lo s, hi s)]
def lft (s : Sc) (l h : Int) : List Sc := (ends s l h).filter fun p => decide (p.1 ≤ p.2)
def wo (s : Sc) (l h : Int) : List Sc := if s.1 ≤ s.2 then lft s l h else (lft s l h).reverse.map swp
theorem rdL_lft {s : Sc} {l h : Int} (hl : l ≤ h) : rdL (lft s l h) = (seg (lo s) (hi s)).filter (fun z => !decide (l ≤ z ∧ z ≤ h)) := by
  rw [seg_cut l h hl _ _ _ rfl]
  have one : ∀ a b : Int, rdL ([((a, b) : Sc)].filter fun p => decide (p.1 ≤ p.2)) = seg a b := fun a b => by
    by_cases z : a ≤ b
    · rw [List.filter_cons, if_pos (decide_eq_true z)]
      show rd (a, b) ++ [] = _
      rw [List.append_nil, rd_up z]
    · rw [List.filter_cons, if_neg (by simp; omega), seg_nil (by omega)]
      rfl
  have e1 : (if l - 1 < hi s then l - 1 else hi s) = min (hi s) (l - 1) := by split <;> omega
  have e2 : (if h + 1 > lo s then h + 1 else lo s) = max (lo s) (h + 1) := by split <;> omega
  unfold lft ends
  rw [e1, e2, show [(lo s, min (hi s) (l - 1)), (max (lo s) (h + 1), hi s)] = [((lo s, min (hi s) (l - 1)) : Sc)] ++ [(max (lo s) (h + 1), hi s)] from rfl, List.filter_append, rdL_app, one, one]
theorem rdL_wo {s : Sc} {l h : Int} (hl : l ≤ h) : rdL (wo s l h) = (rd s).filter (fun z => !decide (l ≤ z ∧ z ≤ h)) := by
  unfold wo
  by_cases hs : s.1 ≤ s.2
  · rw [if_pos hs, rdL_lft hl, rd_up hs]
    have a : lo s = s.1 := by unfold lo; split <;> omega
    have b : hi s = s.2 := by unfold hi; split <;> omega
    rw [a, b]
  · rw [if_neg hs, rdL_rev, rdL_lft hl, rd_dn (by omega), List.filter_reverse]
    have a : lo s = s.2 := by unfold lo; split <;> omega
    have b : hi s = s.1 := by unfold hi; split <;> omega
    rw [a, b]
def woL (ss : List Sc) (l h : Int) : List Sc := ss.flatMap fun s => wo s l h
theorem rdL_woL {l h : Int} (hl : l ≤ h) : ∀ ss : List Sc, rdL (woL ss l h) = (rdL ss).filter (fun z => !decide (l ≤ z ∧ z ≤ h))
  | [] => rfl
  | s :: r => by
    show rdL (wo s l h ++ woL r l h) = (rd s ++ rdL r).filter _
    rw [rdL_app, rdL_wo hl, rdL_woL hl r, List.filter_append]
def hd (s : Sc) (m : Int) : Sc := (s.1, if s.1 ≤ s.2 then s.1 + ((if slen s < m then slen s else m) - 1) else s.1 - ((if slen s < m then slen s else m) - 1))
theorem rd_hd {s : Sc} {m : Int} (h : 0 < m) : rd (hd s m) = (rd s).take m.toNat := by
  have p := slen_pos s
  have l : slen (hd s m) = if slen s < m then slen s else m := by
    unfold hd
    generalize hk : (if slen s < m then slen s else m) = k
    have k1 : 1 ≤ k := by rw [← hk]; split <;> omega
    show (if (if s.1 ≤ s.2 then s.1 + (k - 1) else s.1 - (k - 1)) - s.1 < 0 then -((if s.1 ≤ s.2 then s.1 + (k - 1) else s.1 - (k - 1)) - s.1) else (if s.1 ≤ s.2 then s.1 + (k - 1) else s.1 - (k - 1)) - s.1) + 1 = k
    split <;> split <;> omega
  refine List.ext_getElem? fun i => ?_
  by_cases hi : i < (slen (hd s m)).toNat
  · have i1 : i < (slen s).toNat := by
      rw [l] at hi
      revert hi
      split <;> intro hi <;> omega
    have i2 : i < m.toNat := by
      rw [l] at hi
      revert hi
      split <;> intro hi <;> omega
    rw [rd_get hi, List.getElem?_take_of_lt i2, rd_get i1]
    congr 1
    show (if s.1 ≤ (hd s m).2 then s.1 + (i : Int) else s.1 - (i : Int)) = _
    unfold hd
    generalize hk : (if slen s < m then slen s else m) = k at l
    have k1 : 1 ≤ k := by rw [← hk]; split <;> omega
    have hi2 : (i : Int) < k := by rw [l] at hi; omega
    show (if s.1 ≤ (if s.1 ≤ s.2 then s.1 + (k - 1) else s.1 - (k - 1)) then s.1 + (i : Int) else s.1 - (i : Int)) = _
    split <;> split <;> omega
  · rw [List.getElem?_eq_none (by rw [rd_len]; omega)]
    rw [List.getElem?_eq_none]
    rw [List.length_take, rd_len]
    rw [l] at hi
    revert hi
    split <;> intro hi <;> omega
def fpart : List Sc → Int → List Sc
  | [], _ => []
  | s :: r, m => (if 0 < m then [hd s m] else []) ++ fpart r (m - slen s)
theorem rdL_fpart : ∀ (ss : List Sc) (m : Int), rdL (fpart ss m) = (rdL ss).take m.toNat
  | [], m => by
    show [] = List.take _ []
    rw [List.take_nil]
  | s :: r, m => by
    have p := slen_pos s
    show rdL ((if 0 < m then [hd s m] else []) ++ fpart r (m - slen s)) = (rd s ++ rdL r).take m.toNat
    rw [rdL_app, rdL_fpart r, List.take_append, rd_len, show m.toNat - (slen s).toNat = (m - slen s).toNat by omega]
    congr 1
    by_cases h : 0 < m
    · rw [if_pos h]
      show rd (hd s m) ++ [] = _
      rw [List.append_nil, rd_hd h]
    · rw [if_neg h, show m.toNat = 0 by omega]
      rfl
end Kb

namespace Kb
open PySem PySem.Spec PyProof.Rows L2
/-! ### a comprehension of two loops -/
section
variable {K : PySem.W.Frag} {a b : Addr} {xs ys : List V} {g g1 : TG} {tt tt1 : TT} {wi1 : TI} {te : TE} {vs vs1 : List Nat} {σ σ2 : L2.St} {H1 H4 : Hp} {D : Addr} {Qd N : Hp → Prop}
def InOk (g1 : TG) (tt1 : TT) (te : TE) (vs1 : List Nat) (σ2 : L2.St) (D : Addr) (N : Hp → Prop) (J : It) (H4 : Hp) : Prop :=
  ∃ W1 : Nat → Nat → Hp → Prop, (∃ m, W1 0 m H4) ∧ ∀ j k H, W1 j k H →
    (J.stop j H ∧ N H) ∨ (J.go j H ∧ ∃ N1 : Hp → Prop, (∀ H', N1 H' → ∃ k', k' < k ∧ W1 (j + 1) k' H') ∧ ∀ x H', J.yld j H x H' →
      g1 x (wipe σ2 vs1) H' fun σ3 H5 => wipe σ3 vs1 = wipe σ2 vs1 ∧ tt1 σ3 H5 fun c H6 => if c = true then te σ3 H6 fun y H7 => ∃ acc, H7 D = some (.lst acc) ∧ acc.length < sizeLine ∧ N1 (upd H7 D (.lst (acc ++ [y]))) else N1 H6)
theorem in_list (Pw : Nat → Hp → Prop) (h0 : Pw 0 H4) (hl : ∀ j H, j ≤ ys.length → Pw j H → SqL K H b ys)
    (hs : ∀ j x H, ys[j]? = some x → Pw j H → g1 x (wipe σ2 vs1) H fun σ3 H5 => wipe σ3 vs1 = wipe σ2 vs1 ∧ tt1 σ3 H5 fun c H6 => if c = true then te σ3 H6 fun y H7 => ∃ acc, H7 D = some (.lst acc) ∧ acc.length < sizeLine ∧ Pw (j + 1) (upd H7 D (.lst (acc ++ [y]))) else Pw (j + 1) H6)
    (hd : ∀ H, Pw ys.length H → N H) : InOk g1 tt1 te vs1 σ2 D N (Itl K b) H4 := by
  refine ⟨fun j k H => k = ys.length - j ∧ j ≤ ys.length ∧ Pw j H, ⟨ys.length, by simp, Nat.zero_le _, h0⟩, ?_⟩
  rintro j k H ⟨rfl, hj, p⟩
  have q := hl j H hj p
  by_cases lt : j < ys.length
  · refine .inr ⟨⟨ys, ys[j], q, List.getElem?_eq_getElem lt⟩, Pw (j + 1), fun H' p' => ⟨ys.length - (j + 1), by omega, rfl, lt, p'⟩, fun x H' y => ?_⟩
    rw [y.1]
    exact hs j x _ (y.2 ys q) p
  · rw [show j = ys.length by omega] at p ⊢
    exact .inl ⟨⟨ys, q, Nat.le_refl _⟩, hd H p⟩
theorem two_list (Pv : Nat → Hp → Prop) (h0 : Pv 0 (upd H1 D (.lst []))) (hl : ∀ i H, i ≤ xs.length → Pv i H → SqL K H a xs)
    (hs : ∀ i x H, xs[i]? = some x → Pv i H → g x (wipe σ vs) H fun σ2 H2 => wipe σ2 vs = wipe σ vs ∧ tt σ2 H2 fun c H3 => if c = true then wi1 σ2 H3 (InOk g1 tt1 te vs1 σ2 D (Pv (i + 1))) else Pv (i + 1) H3)
    (hd : ∀ H, Pv xs.length H → Qd H) :
    ∃ W : Nat → Nat → Hp → Prop, (∃ m, W 0 m (upd H1 D (.lst []))) ∧ ∀ i m H, W i m H →
      ((Itl K a).stop i H ∧ Qd H) ∨ ((Itl K a).go i H ∧ ∃ N : Hp → Prop, (∀ H', N H' → ∃ m', m' < m ∧ W (i + 1) m' H') ∧ ∀ x H', (Itl K a).yld i H x H' →
        g x (wipe σ vs) H' fun σ2 H2 => wipe σ2 vs = wipe σ vs ∧ tt σ2 H2 fun c H3 => if c = true then wi1 σ2 H3 (InOk g1 tt1 te vs1 σ2 D N) else N H3) := by
  refine ⟨fun i m H => m = xs.length - i ∧ i ≤ xs.length ∧ Pv i H, ⟨xs.length, by simp, Nat.zero_le _, h0⟩, ?_⟩
  rintro i m H ⟨rfl, hi, p⟩
  have q := hl i H hi p
  by_cases lt : i < xs.length
  · refine .inr ⟨⟨xs, xs[i], q, List.getElem?_eq_getElem lt⟩, Pv (i + 1), fun H' p' => ⟨xs.length - (i + 1), by omega, rfl, lt, p'⟩, fun x H' y => ?_⟩
    rw [y.1]
    exact hs i x _ (y.2 xs q) p
  · rw [show i = xs.length by omega] at p ⊢
    exact .inl ⟨⟨xs, q, Nat.le_refl _⟩, hd H p⟩
end
/-! ### promises of the parts -/
def spCheckScan : Sp := fun vs H Q _ => ∃ (v : V) (s : Sc), vs = [v] ∧ IsSc H v s ∧ Nn s ∧ RetV .non H Q
def spCheckFrom : Sp := fun vs H Q _ => ∃ i l : Int, vs = [.int i, .int l] ∧ l ≤ i ∧ RetV .non H Q
def spOthers1 : Sp := fun vs H Q _ => ∃ (a t : Addr) (ss : List Sc) (s : Sc), vs = [.ref a, .ref t] ∧ Scs H a ss ∧ Scs H t [s] ∧ ss.length ≤ 1000 ∧ ∀ p H', H p = none → Ex H H' → Scs H' p (woL ss (lo s) (hi s)) → Q (.ref p) H'
def spAhead1 : Sp := fun vs H Q _ => ∃ (t a : Addr) (ss : List Sc) (s : Sc), vs = [.ref t, .ref a] ∧ Scs H a ss ∧ Scs H t [s] ∧ ss.length ≤ 1000 ∧ ∀ p H', H p = none → Ex H H' → Scs H' p (jn (s :: woL ss (lo s) (hi s))) → Q (.ref p) H'
def spCheckInterval : Sp := fun vs H Q _ => ∃ i j : Int, vs = [.int i, .int j] ∧ 0 ≤ i ∧ i ≤ j ∧ RetV .non H Q
def spScanHead : Sp := fun vs H Q _ => ∃ (v : V) (s : Sc) (m : Int), vs = [v, .int m] ∧ IsSc H v s ∧ ∀ p H', H p = none → Ex H H' → H' p = some (.tup [.int (hd s m).1, .int (hd s m).2]) → Q (.ref p) H'
def spScanWo : Sp := fun vs H Q _ => ∃ (v : V) (s : Sc) (l h : Int), vs = [v, .int l, .int h] ∧ IsSc H v s ∧ l ≤ h ∧ ∀ p H', H p = none → Ex H H' → Scs H' p (wo s l h) → Q (.ref p) H'
def spAllWo : Sp := fun vs H Q _ => ∃ (a : Addr) (ss : List Sc) (l h : Int), vs = [.ref a, .int l, .int h] ∧ Scs H a ss ∧ ss.length ≤ 1000 ∧ l ≤ h ∧ ∀ p H', H p = none → Ex H H' → Scs H' p (woL ss l h) → Q (.ref p) H'
def spFirst : Sp := fun vs H Q _ => ∃ (a : Addr) (ss : List Sc) (m : Int), vs = [.ref a, .int m] ∧ Scs H a ss ∧ Good ss ∧ 0 ≤ m ∧ ∀ p H', H p = none → Ex H H' → Scs H' p (jn (fpart ss m)) → Q (.ref p) H'
def spTop : Sp := fun vs H Q _ => ∃ (a : Addr) (ss : List Sc) (v : V) (s : Sc), vs = [.ref a, v] ∧ Scs H a ss ∧ Good ss ∧ IsSc H v s ∧ Nn s ∧ ∀ p H', H p = none → Ex H H' → Scs H' p (jn (s :: woL ss (lo s) (hi s))) → Q (.ref p) H'
def spWithout : Sp := fun vs H Q _ => ∃ (a : Addr) (ss : List Sc) (l h : Int), vs = [.ref a, .int l, .int h] ∧ Scs H a ss ∧ Good ss ∧ 0 ≤ l ∧ l ≤ h ∧ ∀ p H', H p = none → Ex H H' → Scs H' p (jn (woL ss l h)) → Q (.ref p) H'
theorem filter_snoc {ss : List Sc} {i : Nat} {s : Sc} (f : Sc → Bool) (h : ss[i]? = some s) : (ss.take (i + 1)).filter f = (ss.take i).filter f ++ if f s = true then [s] else [] := by
  rw [List.take_add_one, h, List.filter_append]
  congr 1
  show [s].filter f = _
  rw [List.filter_cons]
  rfl
theorem wo_len (s : Sc) (l h : Int) : (wo s l h).length ≤ 2 := by
  have z : (lft s l h).length ≤ 2 := List.length_filter_le _ _
  unfold wo
  split
  · exact z
  · rw [List.length_map, List.length_reverse]
    exact z
theorem woL_len : ∀ (ss : List Sc) (l h : Int), (woL ss l h).length ≤ 2 * ss.length
  | [], _, _ => Nat.zero_le _
  | s :: r, l, h => by
    have a := wo_len s l h
    have b := woL_len r l h
    show (wo s l h ++ woL r l h).length ≤ 2 * (r.length + 1)
    rw [List.length_append]
    omega
theorem woL_snoc {ss : List Sc} {i : Nat} {s : Sc} {l h : Int} (e : ss[i]? = some s) : woL (ss.take (i + 1)) l h = woL (ss.take i) l h ++ wo s l h := by
  unfold woL
  rw [List.take_add_one, e, List.flatMap_append]
  congr 1
  exact List.append_nil _
theorem fpart_len : ∀ (ss : List Sc) (m : Int), (fpart ss m).length ≤ ss.length
  | [], _ => Nat.le_refl _
  | s :: r, m => by
    have b := fpart_len r (m - slen s)
    show ((if 0 < m then [hd s m] else []) ++ fpart r (m - slen s)).length ≤ r.length + 1
    rw [List.length_append]
    split
    · rw [List.length_singleton]
      omega
    · rw [List.length_nil]
      omega
theorem fpart_app : ∀ (ss ts : List Sc) (m : Int), fpart (ss ++ ts) m = fpart ss m ++ fpart ts (m - psum ss)
  | [], ts, m => by
    show fpart ts m = fpart ts (m - 0)
    rw [Int.sub_zero]
  | s :: r, ts, m => by
    show (if 0 < m then [hd s m] else []) ++ fpart (r ++ ts) (m - slen s) = ((if 0 < m then [hd s m] else []) ++ fpart r (m - slen s)) ++ fpart ts (m - (slen s + psum r))
    rw [fpart_app r, List.append_assoc, show m - slen s - psum r = m - (slen s + psum r) by omega]
theorem fpart_snoc {ss : List Sc} {i : Nat} {s : Sc} {m : Int} (e : ss[i]? = some s) : fpart (ss.take (i + 1)) m = fpart (ss.take i) m ++ if 0 < m - psum (ss.take i) then [hd s (m - psum (ss.take i))] else [] := by
  rw [List.take_add_one, e, fpart_app]
  congr 1
  exact List.append_nil _
end Kb

namespace Kb
open PySem PySem.Spec PyProof.Rows L2
abbrev AscP (ps : List Pc) : Prop := ps.Pairwise fun a b => a.2.1 < b.1
def spIsPiece : Sp := fun vs H Q _ => ∃ (v : V) (p : Pc), vs = [v] ∧ IsPc H v p ∧ Pok p ∧ RetV (.bl true) H Q
def spArePieces : Sp := fun vs H Q _ => ∃ (a : Addr) (ps : List Pc), vs = [.ref a] ∧ Pcs H a ps ∧ (∀ p ∈ ps, Pok p) ∧ AscP ps ∧ ps.length ≤ 4000 ∧ RetV (.bl true) H Q
def spCheckSize : Sp := fun vs H Q _ => ∃ i : Int, vs = [.int i] ∧ 0 ≤ i ∧ RetV .non H Q
def spCheckDist : Sp := fun vs H Q _ => ∃ (c : Int) (a : Addr) (ps : List Pc), vs = [.int c, .ref a] ∧ 0 ≤ c ∧ Pcs H a ps ∧ (∀ p ∈ ps, Pok p) ∧ AscP ps ∧ ps.length ≤ 4000 ∧ RetV .non H Q
def spFlat : Sp := fun vs H Q _ => ∃ (a : Addr) (ps : List Pc), vs = [.ref a] ∧ Pcs H a ps ∧ ps.length ≤ 10000 ∧ ∀ p H' rs, H p = none → Ex H H' → Pcs H' p rs → Tells ps rs → rs.length ≤ 2 * ps.length → Q (.ref p) H'
def spBeyond : Sp := fun vs H Q _ => ∃ (a : Addr) (rs : List Pc) (s : Int), vs = [.ref a, .int s] ∧ Pcs H a rs ∧ Bd rs ∧ rs.length ≤ 20000 ∧ 0 ≤ s ∧ RetV (.int (bey rs s)) H Q
def spTimes : Sp := fun vs H Q _ => ∃ (a : Addr) (rs : List Pc) (d : Int), vs = [.ref a, .int d] ∧ Pcs H a rs ∧ rs.length ≤ 20000 ∧ RetV (.int (atP rs d)) H Q
/-- a new list of ints is handed back -/
def RetI (xs : List Int) (H : Hp) (Q : VK) : Prop := ∀ p H', H p = none → Ex H H' → H' p = some (.lst (xs.map V.int)) → Q (.ref p) H'
def spCorn : Sp := fun vs H Q _ => ∃ (a : Addr) (rs : List Pc), vs = [.ref a] ∧ Pcs H a rs ∧ rs.length ≤ 20000 ∧ RetI (corn rs) H Q
/-- a profile as the methods want it -/
structure Pf (C : Addr) (H : Hp) (x : Addr) (c : Int) (rs : List Pc) : Prop where
  at_ : PfAt C H x c rs
  bd : Bd rs
  can : Can rs
  few : rs.length ≤ 8000
theorem Pf.nx {C : Addr} {H H' : Hp} {x : Addr} {c : Int} {rs : List Pc} (e : Nx H H') (h : Pf C H x c rs) : Pf C H' x c rs := ⟨h.at_.nx e, h.bd, h.can, h.few⟩
theorem Pf.mono {C : Addr} {H H' : Hp} {x : Addr} {c : Int} {rs : List Pc} (e : Ex H H') (h : Pf C H x c rs) : Pf C H' x c rs := h.nx e.nx
def spInit (C : Addr) : Sp := fun vs H Q _ => ∃ (x dx : Addr) (c : Int) (a : Addr) (ps : List Pc), vs = [.ref x, .int c, .ref a] ∧ H x = some (.ins C dx []) ∧ 0 ≤ c ∧ Pcs H a ps ∧ Val ps ∧
  ∀ H' rs, (∀ b o, b ≠ x → H b = some o → H' b = some o) → Pf C H' x c rs → Tells ps rs → Q .non H'
def spCallP (C : Addr) : Sp := fun vs H Q _ => ∃ (x : Addr) (c : Int) (rs : List Pc) (s : Int), vs = [.ref x, .int s] ∧ Pf C H x c rs ∧ 0 ≤ s ∧ RetV (.int (c + bey rs s)) H Q
def spAt (C : Addr) : Sp := fun vs H Q _ => ∃ (x : Addr) (c : Int) (rs : List Pc) (d : Int), vs = [.ref x, .int d] ∧ Pf C H x c rs ∧ 1 ≤ d ∧ RetV (.int (atP rs d)) H Q
def spCornP (C : Addr) : Sp := fun vs H Q _ => ∃ (x : Addr) (c : Int) (rs : List Pc), vs = [.ref x] ∧ Pf C H x c rs ∧ RetI (corn rs) H Q
def spPond0 (K : PySem.W.Frag) : Sp := fun vs H Q _ => ∃ (a : Addr) (ns : List Int) (k : Int), vs = [.ref a, .int k] ∧ SqL K H a (ns.map V.int) ∧ 0 ≤ k ∧ k ≤ 100 ∧ ∀ b H' x c t, H b = none → Ex H H' → H' b = some (.lst [.int x, .int c, .int t]) → Pn 0 c t → Q (.ref b) H'
def spPond (K : PySem.W.Frag) : Sp := fun vs H Q _ => ∃ (a : Addr) (ns : List Int) (k : Int), vs = [.ref a, .int k] ∧ SqL K H a (ns.map V.int) ∧ 0 ≤ k ∧ k ≤ 100 ∧ ∀ b H', H b = none → Ex H H' → Pd H' b 0 → Q (.ref b) H'
def spDip0 : Sp := fun vs H Q _ => ∃ (b : Addr) (many x c t : Int) (n : Nat), vs = [.ref b, .int many] ∧ H b = some (.lst [.int x, .int c, .int t]) ∧ Pn n c t ∧ n ≤ 2 ^ 60 ∧ 1 ≤ many ∧ many ≤ 10 ^ 600 ∧
  ∀ r H' x' t', 0 ≤ r → r < many → (∀ a o, a ≠ b → H a = some o → H' a = some o) → H' b = some (.lst [.int x', .int c, .int t']) → Pn (n + 1) c t' → Q (.int r) H'
def spDip : Sp := fun vs H Q _ => ∃ (b : Addr) (many : Int) (n : Nat), vs = [.ref b, .int many] ∧ Pd H b n ∧ n ≤ 2 ^ 60 ∧ 1 ≤ many ∧ many ≤ 10 ^ 600 ∧ ∀ r, 0 ≤ r → r < many → RetN (.int r) b (n + 1) H Q
/-- pieces drawn with numbers up to wide -/
structure Drawn (wide : Int) (ps : List Pc) : Prop where
  ok : ∀ p ∈ ps, Pok p ∧ p.2.1 - p.1 < wide ∧ p.2.2 ≤ wide ∧ p.2.1 ≤ wide * (3 * ps.length)
  asc : AscP ps
def spGiven : Sp := fun vs H Q _ => ∃ (b : Addr) (wide : Int) (n : Nat), vs = [.ref b, .int wide] ∧ Pd H b n ∧ n ≤ 2 ^ 50 ∧ 3 ≤ wide ∧ wide ≤ 10 ^ 100 ∧
  ∀ p H' ps, H p = none → Nx H H' → Pd H' b (n + 100) → Pcs H' p ps → Drawn wide ps → ps.length ≤ 6 → Q (.ref p) H'
def spMany : Sp := fun vs H Q _ => ∃ (b : Addr) (many : Nat) (n : Nat), vs = [.ref b, .int (many : Int)] ∧ Pd H b n ∧ n ≤ 2 ^ 50 ∧ many ≤ 1000 ∧
  ∀ p H' ps, H p = none → Nx H H' → Pd H' b (n + 4 * many) → Pcs H' p ps → (∀ p ∈ ps, Pok p ∧ p.2.1 - p.1 < 3 ∧ p.2.2 ≤ 3 ∧ p.2.1 ≤ 5 * many) → AscP ps → ps.length = many → Q (.ref p) H'
theorem pick3 {p : Int → Prop} {n x y z : Int} (h0 : 0 ≤ n) (h3 : n < 3) (hx : p x) (hy : p y) (hz : p z) : ∃ m, atI [V.int x, V.int y, V.int z] n = some (.int m) ∧ p m := by
  rcases (show n = 0 ∨ n = 1 ∨ n = 2 by omega) with rfl | rfl | rfl
  · exact ⟨x, rfl, hx⟩
  · exact ⟨y, rfl, hy⟩
  · exact ⟨z, rfl, hz⟩
theorem pick2' {p : Int → Prop} {n x y : Int} (h0 : 0 ≤ n) (h2 : n < 2) (hx : p x) (hy : p y) : ∃ m, atI [V.int x, V.int y] n = some (.int m) ∧ p m := by
  rcases (show n = 0 ∨ n = 1 by omega) with rfl | rfl
  · exact ⟨x, rfl, hx⟩
  · exact ⟨y, rfl, hy⟩
end Kb

namespace Kb
open PySem PySem.Spec PyProof.Rows L2
/-! ### a dict of ints to ints -/
structure DI (kvs : List (Key × V)) (f : Int → Int) (ks : List Int) : Prop where
  keys : kvs.map (·.1) = ks.map Sum.inl
  nd : ks.Nodup
  val : ∀ n : Int, valV kvs (Sum.inl n) = if n ∈ ks then some (.int (f n)) else none
  zero : ∀ n, n ∉ ks → f n = 0
theorem DI.nil : DI [] (fun _ => 0) [] := ⟨rfl, List.nodup_nil, fun n => rfl, fun _ _ => rfl⟩
theorem DI.getD {kvs : List (Key × V)} {f : Int → Int} {ks : List Int} (h : DI kvs f ks) (n : Int) : (valV kvs (Sum.inl n)).getD (.int 0) = .int (f n) := by
  rw [h.val]
  by_cases c : n ∈ ks
  · rw [if_pos c]
    rfl
  · rw [if_neg c, h.zero n c]
    rfl
theorem DI.len {kvs : List (Key × V)} {f : Int → Int} {ks : List Int} (h : DI kvs f ks) : kvs.length = ks.length := by
  have := congrArg List.length h.keys
  rwa [List.length_map, List.length_map] at this
theorem DI.put {kvs : List (Key × V)} {f : Int → Int} {ks : List Int} (h : DI kvs f ks) (k v : Int) :
    ∃ ks', DI (putK kvs (Sum.inl k) (.int v)) (fun x => if x = k then v else f x) ks' ∧ k ∈ ks' ∧ (∀ x ∈ ks, x ∈ ks') ∧ ks'.length ≤ ks.length + 1 := by
  by_cases c : k ∈ ks
  · refine ⟨ks, ⟨?_, h.nd, fun n => ?_, fun n hn => ?_⟩, c, fun _ x => x, Nat.le_succ _⟩
    · unfold putK
      rw [valV_any, h.val, if_pos c, if_pos (show (some (V.int (f k))).isSome = true from rfl), List.map_map, ← h.keys]
      refine List.map_congr_left fun kv _ => ?_
      show (if kv.1 = Sum.inl k then (kv.1, V.int v) else kv).1 = kv.1
      split <;> rfl
    · rw [valV_put, h.val]
      by_cases e : n = k
      · subst e
        rw [if_pos rfl, if_pos c, if_pos rfl]
      · rw [if_neg (fun z => e (Sum.inl.inj z)), if_neg e]
    · show (if n = k then v else f n) = 0
      rw [if_neg (fun z : n = k => hn (by rw [z]; exact c)), h.zero n hn]
  · refine ⟨ks ++ [k], ⟨?_, ?_, fun n => ?_, fun n hn => ?_⟩, by simp, fun x hx => List.mem_append_left _ hx, by simp⟩
    · rw [putK_new _ (by rw [h.val, if_neg c]), List.map_append, List.map_append, h.keys]
      rfl
    · rw [List.nodup_append]
      refine ⟨h.nd, by simp, fun x hx y hy e => ?_⟩
      rw [List.mem_singleton.mp hy] at e
      exact c (e ▸ hx)
    · rw [valV_put, h.val]
      by_cases e : n = k
      · subst e
        rw [if_pos rfl, if_pos (by simp), if_pos rfl]
      · rw [if_neg (fun z => e (Sum.inl.inj z)), if_neg e]
        by_cases m : n ∈ ks
        · rw [if_pos m, if_pos (List.mem_append_left _ m)]
        · rw [if_neg m, if_neg (by simp [m, e])]
    · show (if n = k then v else f n) = 0
      rw [if_neg (fun z : n = k => hn (by simp [z])), h.zero n (fun z => hn (List.mem_append_left _ z))]
theorem DI.at {kvs : List (Key × V)} {f : Int → Int} {ks : List Int} (h : DI kvs f ks) {i : Nat} {k : Key} {v : V} (e : kvs[i]? = some (k, v)) : ∃ n, ks[i]? = some n ∧ k = Sum.inl n ∧ valV kvs (Sum.inl n) = some (.int (f n)) := by
  have z : (kvs.map (·.1))[i]? = some k := by rw [List.getElem?_map, e]; rfl
  rw [h.keys, List.getElem?_map] at z
  cases g : ks[i]? with
  | none => rw [g] at z; cases z
  | some n =>
    rw [g] at z
    cases z
    exact ⟨n, rfl, rfl, by rw [h.val, if_pos (List.mem_of_getElem? g)]⟩
theorem DI.congr {kvs : List (Key × V)} {f g : Int → Int} {ks : List Int} (h : DI kvs f ks) (e : ∀ x, g x = f x) : DI kvs g ks := by
  have : g = f := funext e
  rw [this]
  exact h
/-! ### the turns of flattened -/
theorem chg_snoc {ps : List Pc} {i : Nat} {p : Pc} (e : ps[i]? = some p) (x : Int) : chg (ps.take (i + 1)) x = chg (ps.take i) x + (if x = p.1 then p.2.2 else 0) - (if x = p.2.1 + 1 then p.2.2 else 0) := by
  rw [List.take_add_one, e]
  unfold chg
  rw [wt_app]
  show _ + (p.2.2 * (ind x p.1 - ind x (p.2.1 + 1)) + 0) = _
  unfold ind
  by_cases a : p.1 = x
  · by_cases b : p.2.1 + 1 = x
    · rw [if_pos a, if_pos b, if_pos a.symm, if_pos b.symm]
      omega
    · rw [if_pos a, if_neg b, if_pos a.symm, if_neg (fun z => b z.symm)]
      omega
  · by_cases b : p.2.1 + 1 = x
    · rw [if_neg a, if_pos b, if_neg (fun z => a z.symm), if_pos b.symm]
      omega
    · rw [if_neg a, if_neg b, if_neg (fun z => a z.symm), if_neg (fun z => b z.symm)]
      omega
theorem rowsG_step {c : Int → Int} {ts : List Int} {i : Nat} {s f now : Int} (e1 : ts[i]? = some s) (e2 : ts[i + 1]? = some f) :
    rowsG c (ts.drop i) now = (if now + c s ≠ 0 then [(s, f - 1, now + c s)] else []) ++ rowsG c (ts.drop (i + 1)) (now + c s) := by
  obtain ⟨l1, rfl⟩ := List.getElem?_eq_some_iff.mp e1
  obtain ⟨l2, rfl⟩ := List.getElem?_eq_some_iff.mp e2
  rw [List.drop_eq_getElem_cons l1, List.drop_eq_getElem_cons l2]
  show (if now + c ts[i] ≠ 0 then _ else _) = _
  split <;> rfl
theorem rowsG_end {c : Int → Int} {ts : List Int} {now : Int} (i : Nat) (h : ts.length - 1 ≤ i) : rowsG c (ts.drop i) now = [] := by
  have : (ts.drop i).length ≤ 1 := by rw [List.length_drop]; omega
  match ts.drop i, this with
  | [], _ => rfl
  | [_], _ => rfl
  | _ :: _ :: _, h => exact absurd h (by simp)
theorem cut_one (vs : List V) : cutV vs (some 1) none = vs.drop 1 := by
  unfold cutV
  rw [show HT.sIx vs.length 0 (some 1) = min 1 vs.length from HT.sIx_nat vs.length 0 1, HT.sIx_none]
  cases vs with
  | nil => rfl
  | cons z r =>
    rw [List.length_cons, show min 1 (r.length + 1) = 1 by omega]
    exact List.take_of_length_le (by rw [List.length_drop, List.length_cons]; exact Nat.le_refl _)
theorem max_if (a b : Int) : (if b > a then b else a) = max a b := by split <;> omega
/-- what has no attributes but its own -/
structure Ptx (K : PySem.W.Frag) (C : Addr) : Prop where
  cl : Cls K C
  nC : NoAttr K C "cold"
  nP : NoAttr K C "_pieces"
theorem filt_snoc {ps : List Pc} {i : Nat} {p : Pc} (f : Pc → Bool) (h : ps[i]? = some p) : (ps.take (i + 1)).filter f = (ps.take i).filter f ++ if f p = true then [p] else [] := by
  rw [List.take_add_one, h, List.filter_append]
  show _ ++ List.filter f [p] = _
  rw [List.filter_cons]
  rfl
theorem filt_le {ps : List Pc} {i : Nat} (f : Pc → Bool) : ((ps.take i).filter f).length ≤ i := by
  have z := List.length_filter_le f (ps.take i)
  rw [List.length_take] at z
  omega
theorem mk_ex0 {C : Addr} {H : Hp} {x dx : Addr} (nx : H x = none) (ndx : H dx = none) : Ex H (upd (upd H dx (.own x)) x (.ins C dx [])) := fun b o hb => by
  rw [upd_ne (ne_of_none hb nx), upd_ne (ne_of_none hb ndx)]
  exact hb
theorem mk_ex {C : Addr} {H H' : Hp} {x dx : Addr} (nx : H x = none) (ndx : H dx = none) (fr : ∀ b o, b ≠ x → (upd (upd H dx (.own x)) x (.ins C dx [])) b = some o → H' b = some o) : Ex H H' := fun b o hb => by
  refine fr b o (ne_of_none hb nx) ?_
  rw [upd_ne (ne_of_none hb nx), upd_ne (ne_of_none hb ndx)]
  exact hb
theorem show_ints {ns : List Int} (h : ∀ n ∈ ns, 0 ≤ n ∧ n < 10 ^ 500) (l : ns.length ≤ 3000) : (pdI ns).showable = true ∧ (pdI ns).hasDict = false ∧ (pdI ns).depth ≤ 60 ∧ (pdI ns).shown.length ≤ sizeLine := by
  have big : (10 : Nat) ^ 500 < 2 ^ 1700 := by decide +kernel
  have l2 : ∀ z : Int, 0 ≤ z → z < 10 ^ 500 → decide (z.natAbs.log2 < 1920) = true := fun z a b => decide_eq_true (Nat.lt_trans (PySem.Flt.log2_lt_of (k := 1700) (by decide) (Nat.lt_of_le_of_lt (show z.natAbs ≤ 10 ^ 500 by omega) big)) (by decide))
  have s2 : ∀ z : Int, 0 ≤ z → z < 10 ^ 500 → (PyData.shown (.int z)).length ≤ 510 := fun z a b => by
    have := PyProof.Rows.toString_length_le (k := 500) a (by decide) b
    exact Nat.le_trans this (by decide)
  have key : ∀ l : List Int, (∀ n ∈ l, 0 ≤ n ∧ n < 10 ^ 500) → PyData.showableAll (l.map PyData.int) = true ∧ PyData.hasDictAll (l.map PyData.int) = false ∧ PyData.leavesShortAll 510 (l.map PyData.int) = true ∧ PyData.bulkAll (l.map PyData.int) ≤ 10 * l.length ∧ PyData.depthAll (l.map PyData.int) = 0 := by
    intro l
    induction l with
    | nil => intro _; exact ⟨rfl, rfl, rfl, Nat.zero_le _, rfl⟩
    | cons s r ih =>
      intro hl
      obtain ⟨i1, i2, i3, i4, i5⟩ := ih fun t ht => hl t (List.mem_cons_of_mem _ ht)
      obtain ⟨a1, a2⟩ := hl s List.mem_cons_self
      refine ⟨?_, ?_, ?_, ?_, ?_⟩
      · show (decide (s.natAbs.log2 < 1920) && PyData.showableAll (r.map PyData.int)) = true
        rw [l2 _ a1 a2, i1]
        rfl
      · show (false || PyData.hasDictAll (r.map PyData.int)) = false
        rw [i2]
        rfl
      · show (decide ((PyData.shown (.int s)).length ≤ 510) && PyData.leavesShortAll 510 (r.map PyData.int)) = true
        rw [decide_eq_true (s2 _ a1 a2), i3]
        rfl
      · simp only [List.map_cons, PyData.bulkAll, PyData.bulk, List.length_cons]
        omega
      · show max 0 (PyData.depthAll (r.map PyData.int)) = 0
        omega
  obtain ⟨i1, i2, i3, i4, i5⟩ := key ns h
  refine ⟨i1, i2, ?_, ?_⟩
  · show PyData.depthAll (ns.map PyData.int) + 1 ≤ 60
    omega
  · have z := PyData.shown_le_bulk 510 (by decide) (pdI ns) i3
    have e : (pdI ns).bulk ≤ 10 * ns.length + 10 := by
      simp only [pdI, PyData.bulk]
      omega
    have y := Nat.mul_le_mul_left (510 + 2) e
    rw [sizeLine_eq]
    omega
theorem Val.bey_le {ps : List Pc} (V : Val ps) (s : Int) (h0 : 0 ≤ s) : 0 ≤ bey ps s ∧ bey ps s ≤ 1000 * (10 ^ 200 * 10 ^ 200) := by
  have go : ∀ ps : List Pc, (∀ p ∈ ps, Pok p ∧ p.2.1 ≤ 10 ^ 200 ∧ p.2.2 ≤ 10 ^ 200) → bey ps s ≤ (ps.length : Int) * (10 ^ 200 * 10 ^ 200) := by
    intro ps
    induction ps with
    | nil => intro _; show (0 : Int) ≤ ((0 : Nat) : Int) * _; simp
    | cons p r ih =>
      intro h
      obtain ⟨⟨h1, h2, h3⟩, h4, h5⟩ := h p (List.mem_cons_self ..)
      have i := ih fun q hq => h q (List.mem_cons_of_mem _ hq)
      have : be1 p s ≤ 10 ^ 200 * 10 ^ 200 := Int.mul_le_mul h5 (by omega) (by omega) (by decide +kernel)
      rw [bey_cons, List.length_cons, Int.natCast_add, Int.add_mul]
      omega
  have := go ps V.bd
  have := Int.mul_le_mul_of_nonneg_right (show (ps.length : Int) ≤ 1000 from by have := V.few; omega) (show (0 : Int) ≤ 10 ^ 200 * 10 ^ 200 by decide +kernel)
  exact ⟨bey_nn V.pok s, by omega⟩
theorem Val.bd' {ps : List Pc} (V : Val ps) : Bd ps := fun p hp => by
  obtain ⟨a, b, c⟩ := V.bd p hp
  have g2 : (10 : Int) ^ 200 ≤ 10 ^ 300 := by decide +kernel
  exact ⟨a, by omega, by omega⟩
theorem ne_refl {α : Type} [DecidableEq α] {a b : α} (h : a = b) {A B : Prop} (k : B) : if (!decide (a = b)) = true then A else B := by
  rw [decide_eq_true h]
  exact iteF k
theorem small_log {z : Int} (h0 : 0 ≤ z) (h : z ≤ 10 ^ 500) : z.natAbs.log2 < 1920 := by
  have big : (10 : Nat) ^ 500 < 2 ^ 1700 := by decide +kernel
  exact Nat.lt_trans (PySem.Flt.log2_lt_of (k := 1700) (by decide) (Nat.lt_of_le_of_lt (show z.natAbs ≤ 10 ^ 500 by omega) big)) (by decide)
end Kb

namespace Kb
open PySem PySem.Spec PyProof.Rows L2 StX
def topS (i : Nat) : Stmt := PySem.Challenge.pw_scanmisses_k14_least_sizes.main.body.getD i (.Pass ⟨0, 0, 0, 0⟩)
abbrev sis_integer : Stmt := topS 8
theorem scis_integer : FnScope ["value"] ["value"] (defScope sis_integer) := ⟨rfl, rfl, rfl, by decide +kernel, rfl, by decide +kernel, by decide +kernel⟩
abbrev sis_from_zero : Stmt := topS 9
theorem scis_from_zero : FnScope ["value"] ["value"] (defScope sis_from_zero) := ⟨rfl, rfl, rfl, by decide +kernel, rfl, by decide +kernel, by decide +kernel⟩
abbrev sis_piece : Stmt := topS 10
theorem scis_piece : FnScope ["value", "low", "high", "times", "number"] ["value"] (defScope sis_piece) := ⟨rfl, rfl, rfl, by decide +kernel, rfl, by decide +kernel, by decide +kernel⟩
abbrev sare_pieces : Stmt := topS 11
theorem scare_pieces : FnScope ["value", "one", "two", "piece"] ["value"] (defScope sare_pieces) := ⟨rfl, rfl, rfl, by decide +kernel, rfl, by decide +kernel, by decide +kernel⟩
abbrev scheck_from : Stmt := topS 13
theorem sccheck_from : FnScope ["number", "least"] ["number", "least"] (defScope scheck_from) := ⟨rfl, rfl, rfl, by decide +kernel, rfl, by decide +kernel, by decide +kernel⟩
abbrev scheck_distances : Stmt := topS 15
theorem sccheck_distances : FnScope ["cold", "pieces"] ["cold", "pieces"] (defScope scheck_distances) := ⟨rfl, rfl, rfl, by decide +kernel, rfl, by decide +kernel, by decide +kernel⟩
abbrev sflattened : Stmt := topS 17
theorem scflattened : FnScope ["pieces", "changes", "low", "high", "times", "turns", "rows", "now", "start", "following", "distance"] ["pieces"] (defScope sflattened) := ⟨rfl, rfl, rfl, by decide +kernel, rfl, by decide +kernel, by decide +kernel⟩
abbrev sleast_covering : Stmt := topS 21
theorem scleast_covering : FnScope ["pieces", "many", "left", "low", "high", "times", "whole"] ["pieces", "many"] (defScope sleast_covering) := ⟨rfl, rfl, rfl, by decide +kernel, rfl, by decide +kernel, by decide +kernel⟩
abbrev sProfile___init__ : Stmt := inClass (topS 23) 0
theorem scProfile___init__ : FnScope ["self", "cold", "pieces"] ["self", "cold", "pieces"] (defScope sProfile___init__) := ⟨rfl, rfl, rfl, by decide +kernel, rfl, by decide +kernel, by decide +kernel⟩
abbrev sProfile_least_size : Stmt := inClass (topS 23) 6
theorem scProfile_least_size : FnScope ["self", "misses"] ["self", "misses"] (defScope sProfile_least_size) := ⟨rfl, rfl, rfl, by decide +kernel, rfl, by decide +kernel, by decide +kernel⟩
abbrev s_law_pond : Stmt := topS 26
theorem sc_law_pond : FnScope ["script", "k", "cell"] ["script", "k"] (defScope s_law_pond) := ⟨rfl, rfl, rfl, by decide +kernel, rfl, by decide +kernel, by decide +kernel⟩
abbrev s_law_dip : Stmt := topS 27
theorem sc_law_dip : FnScope ["pond", "many", "drawn", "mixed"] ["pond", "many"] (defScope s_law_dip) := ⟨rfl, rfl, rfl, by decide +kernel, rfl, by decide +kernel, by decide +kernel⟩
abbrev s_law_given : Stmt := topS 28
theorem sc_law_given : FnScope ["pond", "wide", "found", "last", "turn", "low"] ["pond", "wide"] (defScope s_law_given) := ⟨rfl, rfl, rfl, by decide +kernel, rfl, by decide +kernel, by decide +kernel⟩
abbrev s_law_many : Stmt := topS 29
theorem sc_law_many : FnScope ["pond", "many", "found", "last", "often", "turn", "low"] ["pond", "many"] (defScope s_law_many) := ⟨rfl, rfl, rfl, by decide +kernel, rfl, by decide +kernel, by decide +kernel⟩
section
variable {P : Program} {w : World} {K : PySem.W.Frag} {mg : Str → Option Value} {base : Heap}
theorem ok_is_integer (B : Bt mg) {f : Addr} {fd : FuncData} (F : Fun K "is_integer" "is_integer" sis_integer f fd) : FnOk P w K mg base CX0 1 f fd ["value"] spIsInteger := by
  refine F.ok scis_integer (fun vs H Q E h => ?_) (fun cdv A outer s H vs Q E hr h => ?_)
  · obtain ⟨i, rfl, _⟩ := h
    rfl
  · obtain ⟨i, rfl, q⟩ := h
    refine ⟨_, (pss_one (ps_ret (pe_and (pe_callB call_isi (by rfl) B.isinstance bo_isinstance (pa_cons (pv 0) (pa_cons (pe_bltn (v := .ty "int") (by rfl) B.int bo_int rfl) pa_nil))) (pe_one (pe_not (pe_callB call_isi (by rfl) B.isinstance bo_isinstance (pa_cons (pv 0) (pa_cons (pe_bltn (v := .ty "bool") (by rfl) B.bool bo_bool rfl) pa_nil)))))))), ?_⟩
    exact ⟨.int i, rfl, .int i, .ty "int", _, _, true, rfl, .ty _, .base (.int i), kit_ty (by decide +kernel), true, rfl, iteT
      ⟨.int i, rfl, .int i, .ty "bool", _, _, false, rfl, .ty _, .base (.int i), kit_ty (by decide +kernel), false, rfl, q.go (Ex.refl _)⟩⟩
theorem ok_is_from_zero (Dis_integer : Df P w K mg base "is_integer" 1 ["value"] spIsInteger) {f : Addr} {fd : FuncData} (F : Fun K "is_from_zero" "is_from_zero" sis_from_zero f fd) : FnOk P w K mg base CX0 2 f fd ["value"] spFromZero := by
  refine F.ok scis_from_zero (fun vs H Q E h => ?_) (fun cdv A outer s H vs Q E hr h => ?_)
  · obtain ⟨i, rfl, _⟩ := h
    rfl
  · obtain ⟨i, rfl, h0, q⟩ := h
    refine ⟨_, (pss_one (ps_ret (pe_and (pe_df Dis_integer hr (pa_cons (pv 0) pa_nil)) (pe_one (pe_cmpR op_ge (pv 0) pe_int (nomark _)))))), ?_⟩
    refine ⟨.int i, rfl, i, rfl, fun H1 e1 => ⟨true, rfl, iteT ⟨.int i, rfl, i, 0, rfl, rfl, ?_⟩⟩⟩
    show Q (.bl (decide (0 ≤ i))) H1
    rw [decide_eq_true h0]
    exact q.go e1
theorem ok_is_piece (B : Bt mg) (Dis_integer : Df P w K mg base "is_integer" 1 ["value"] spIsInteger) {f : Addr} {fd : FuncData} (F : Fun K "is_piece" "is_piece" sis_piece f fd) : FnOk P w K mg base CX0 2 f fd ["value"] spIsPiece := by
  refine F.ok scis_piece (fun vs H Q E h => ?_) (fun cdv A outer s H vs Q E hr h => ?_)
  · obtain ⟨v, p, rfl, _⟩ := h
    rfl
  · obtain ⟨v, ⟨l, h, t⟩, rfl, ⟨a, rfl, ha⟩, ⟨h1, h2, h3⟩, q⟩ := h
    refine ⟨_, (pss_cons (ps_if (pw_or (pt_not (pt_val (pe_callB call_isi (by rfl) B.isinstance bo_isinstance (pa_cons (pv 0) (pa_cons (pe_bltn (v := .ty "tuple") (by rfl) B.tuple bo_tuple rfl) pa_nil))))) (pw_or (pt_cmpR op_ne (pe_callB call_len_seq (by rfl) B.len bo_len (pa_cons (pv 0) pa_nil)) pe_int (nomark _)) (pw_or1 (pt_not (pt_val (pe_callB (cr_all rfl) (by rfl) B.all bo_all (pa_cons (pe_lc (own := [("number", 4)]) (g := (gName 4)) (te := (tCall _ [] E0 (tCons (tVar 4) tNil))) rfl scis_piece.nd (pi_tup (pv 0)) (blkOk_by (N := ["value", "low", "high", "times", "number"]) (sc := defScope sis_piece) (by decide +kernel)) (by exact fun _ _ _ _ _ => (pg_name (i := 4) scis_piece.nd rfl (by first | exact Or.inl rfl | exact Or.inr rfl))) (by exact fun _ _ _ _ _ => pts_nil) (by exact fun _ _ _ _ _ => (pe_df Dis_integer hr (pa_cons (pv 4) pa_nil)))) pa_nil))))))).pt (pss_one (ps_ret pe_bl)) pss_nil)
      (pss_cons (ps_asg (pv 0) (pg_tup rfl (pgs_cons (pg_name (i := 1) scis_piece.nd rfl (by first | exact Or.inl rfl | exact Or.inr rfl)) (pgs_cons (pg_name (i := 2) scis_piece.nd rfl (by first | exact Or.inl rfl | exact Or.inr rfl)) (pgs_cons (pg_name (i := 3) scis_piece.nd rfl (by first | exact Or.inl rfl | exact Or.inr rfl)) pgs_nil)))))
      (pss_one (ps_ret (pe_and (pe_chain op_le op_le pe_int (pv 1) (pv 2)) (pe_one (pe_cmpR op_ge (pv 3) pe_int (nomark _)))))))), ?_⟩
    refine ⟨.ref a, rfl, .ref a, .ty "tuple", _, _, true, rfl, .ty _, .base (.tup ha), kit_ty (by decide +kernel), true, rfl, iteF ?_⟩
    refine ⟨.ref a, rfl, a, _, rfl, .inr (SqT.of ha), rfl, _, rfl, iteF ?_⟩
    refine ⟨.ref a, rfl, a, rfl, ⟨_, SqT.of ha⟩, fun D hD => ?_⟩
    refine lc_tup (xs := [V.int l, V.int h, V.int t]) (fun i H1 => Ex H H1 ∧ H1 D = some (.lst ((List.replicate i true).map V.bl))) ⟨Ex.new hD, upd_same⟩ (fun i H1 _ p => SqT.of (p.1 _ _ ha)) (fun i v H1 hx p => ?_) (fun H1 p => ?_)
    · obtain ⟨e1, hL⟩ := p
      have li : i < 3 := (List.getElem?_eq_some_iff.mp hx).1
      obtain ⟨z, rfl⟩ : ∃ z, v = V.int z := by
        match i, hx with
        | 0, e => cases e; exact ⟨_, rfl⟩
        | 1, e => cases e; exact ⟨_, rfl⟩
        | 2, e => cases e; exact ⟨_, rfl⟩
      refine ⟨rfl, .int z, rfl, z, rfl, fun H2 e2 => ⟨_, e2 _ _ hL, ?_, (e1.trans e2).mut hD, ?_⟩⟩
      · rw [List.length_map, List.length_replicate]
        exact small1000 (by omega)
      · rw [upd_same, List.replicate_succ', List.map_append]
        rfl
    · obtain ⟨e1, hL⟩ := p
      have hL' : H1 D = some (.lst ((List.replicate 3 true).map V.bl)) := hL
      refine ⟨D, _, rfl, SqL.of hL', ?_⟩
      refine ⟨true, rfl, iteF ?_⟩
      refine ⟨.ref a, rfl, a, _, rfl, SqT.of (e1 _ _ ha), rfl, _, _, rfl, _, _, rfl, _, _, rfl, rfl, ?_⟩
      refine ⟨.int l, rfl, 1, l, rfl, rfl, true, ?_, iteT ?_⟩
      · show V.bl (decide (1 ≤ l)) = _
        rw [decide_eq_true h1]
      · refine ⟨.int h, rfl, l, h, rfl, rfl, decide (l ≤ h), rfl, ?_⟩
        rw [decide_eq_true (show l ≤ h from h2)]
        refine iteT ⟨.int t, rfl, t, 1, rfl, rfl, ?_⟩
        have e : decide (t ≥ 1) = true := decide_eq_true h3
        show Q (.bl (decide (t ≥ 1))) H1
        rw [e]
        exact q.go e1
theorem ok_are_pieces (B : Bt mg) (Dis_piece : Df P w K mg base "is_piece" 2 ["value"] spIsPiece) {f : Addr} {fd : FuncData} (F : Fun K "are_pieces" "are_pieces" sare_pieces f fd) : FnOk P w K mg base CX0 3 f fd ["value"] spArePieces := by
  refine F.ok scare_pieces (fun vs H Q E h => ?_) (fun cdv A outer s H vs Q E hr h => ?_)
  · obtain ⟨a, ps, rfl, _⟩ := h
    rfl
  · obtain ⟨a, ps, rfl, ⟨vs, ha, pa⟩, ok, asc, few, q⟩ := h
    refine ⟨_, (pss_cons (ps_if (pw_or (pt_not (pt_val (pe_callB call_isi (by rfl) B.isinstance bo_isinstance (pa_cons (pv 0) (pa_cons (pe_bltn (v := .ty "list") (by rfl) B.list bo_list rfl) pa_nil))))) (pw_or1 (pt_not (pt_val (pe_callB (cr_all rfl) (by rfl) B.all bo_all (pa_cons (pe_lc (own := [("piece", 3)]) (g := (gName 3)) (te := (tCall _ [] E0 (tCons (tVar 3) tNil))) rfl scare_pieces.nd (pi_list (pv 0)) (blkOk_by (N := ["value", "one", "two", "piece"]) (sc := defScope sare_pieces) (by decide +kernel)) (by exact fun _ _ _ _ _ => (pg_name (i := 3) scare_pieces.nd rfl (by first | exact Or.inl rfl | exact Or.inr rfl))) (by exact fun _ _ _ _ _ => pts_nil) (by exact fun _ _ _ _ _ => (pe_df Dis_piece hr (pa_cons (pv 3) pa_nil)))) pa_nil)))))).pt (pss_one (ps_ret pe_bl)) pss_nil)
      (pss_one (ps_ret (pe_callB (cr_all rfl) (by rfl) B.all bo_all (pa_cons (pe_lc (own := [("one", 1), ("two", 2)]) (g := (gTup K 2 (gCons (gName 1) (gCons (gName 2) gNil)))) (te := (tOp _ (tOp (rIxT K) (tVar 1) _) (tOp (rIxT K) (tVar 2) _))) rfl scare_pieces.nd (pi_zip (by rfl) B.zip (pa_cons (pv 0) (pa_cons (pe_slice sl_list (pv 0) (po_some pe_int) po_none) pa_nil))) (blkOk_by (N := ["value", "one", "two", "piece"]) (sc := defScope sare_pieces) (by decide +kernel)) (by exact fun _ _ _ _ _ => (pg_tup rfl (pgs_cons (pg_name (i := 1) scare_pieces.nd rfl (by first | exact Or.inl rfl | exact Or.inr rfl)) (pgs_cons (pg_name (i := 2) scare_pieces.nd rfl (by first | exact Or.inl rfl | exact Or.inr rfl)) pgs_nil)))) (by exact fun _ _ _ _ _ => pts_nil) (by exact fun _ _ _ _ _ => (pe_cmpR op_lt (pe_ix ix_tup (pv 1) pe_int (fun _ _ => rfl)) (pe_ix ix_tup (pv 2) pe_int (fun _ _ => rfl)) (nomark _)))) pa_nil))))), ?_⟩
    have lv : vs.length = ps.length := Pr.len pa
    refine ⟨.ref a, rfl, .ref a, .ty "list", _, _, true, rfl, .ty _, .base (.lst ha), kit_ty (by decide +kernel), true, rfl, iteF ?_⟩
    refine ⟨.ref a, rfl, a, rfl, ⟨_, SqL.of ha⟩, fun D hD => lc_list (xs := vs) (fun i H1 => Ex H H1 ∧ H1 D = some (.lst ((List.replicate i true).map V.bl))) ⟨Ex.new hD, upd_same⟩ (fun i H1 _ p => SqL.of (p.1 _ _ ha)) (fun i v H1 hx p => ?_) (fun H1 p => ?_)⟩
    · obtain ⟨e1, hL⟩ := p
      have li : i < vs.length := (List.getElem?_eq_some_iff.mp hx).1
      obtain ⟨p1, m1, i1⟩ := Pr.mem pa v (List.mem_of_getElem? hx)
      refine ⟨rfl, v, rfl, v, p1, rfl, i1.nx e1.nx, ok _ m1, fun H2 e2 => ⟨_, e2 _ _ hL, ?_, (e1.trans e2).mut hD, ?_⟩⟩
      · rw [List.length_map, List.length_replicate]
        exact small20 (by omega)
      · rw [upd_same, List.replicate_succ', List.map_append]
        rfl
    obtain ⟨e1, hL⟩ := p
    have ha1 := e1 _ _ ha
    have pa1 : PaP H1 vs ps := pa.mono e1
    refine ⟨D, _, rfl, SqL.of hL, (List.replicate vs.length true).all id, rfl, ?_⟩
    rw [show (List.replicate vs.length true).all id = true by rw [List.all_replicate]; simp]
    refine iteF ?_
    refine ⟨.ref a, rfl, .ref a, rfl, 1, rfl, a, vs, rfl, SqL.of ha1, fun c nc => ?_⟩
    have hp : (upd H1 c (.lst (cutV vs (some 1) none))) a = some (.lst vs) := (Ex.new nc) _ _ ha1
    refine ⟨a, c, vs, _, rfl, SqL.of hp, SqL.of upd_same, fun D2 hD2 => ?_⟩
    have ec : cutV vs (some 1) none = vs.drop 1 := by
      unfold cutV
      rw [show HT.sIx vs.length 0 (some 1) = min 1 vs.length from HT.sIx_nat vs.length 0 1, HT.sIx_none]
      cases vs with
      | nil => rfl
      | cons z r =>
        rw [List.length_cons, show min 1 (r.length + 1) = 1 by omega]
        exact List.take_of_length_le (by rw [List.length_drop, List.length_cons]; exact Nat.le_refl _)
    rw [ec] at hp hD2 ⊢
    generalize hg : upd H1 c (.lst (vs.drop 1)) = H3 at hp hD2 ⊢
    have hc : H3 c = some (.lst (vs.drop 1)) := by rw [← hg]; exact upd_same
    have e3 : Ex H1 H3 := by
      rw [← hg]
      exact Ex.new nc
    have pa3 := pa1.mono e3
    refine lc_zip (n := vs.length - 1) (xs := vs) (ys := vs.drop 1) (by rw [List.length_drop]; omega) (fun i H4 => Ex H3 H4 ∧ H4 D2 = some (.lst ((List.replicate i true).map V.bl))) ⟨Ex.new hD2, upd_same⟩ (fun i H4 _ p4 => ⟨SqL.of (p4.1 _ _ hp), SqL.of (p4.1 _ _ hc)⟩) (fun i x y T H4 hi hx hy nT p4 => ?_) (fun H4 p4 => ?_)
    · obtain ⟨e5, hL⟩ := p4
      obtain ⟨⟨x1, x2, x3⟩, gx, tx, rfl, htx⟩ := Pr.get pa3 hx
      rw [List.getElem?_drop, Nat.add_comm 1 i] at hy
      obtain ⟨⟨y1, y2, y3⟩, gy, ty, rfl, hty⟩ := Pr.get pa3 hy
      have hlt : x2 < y1 := by
        obtain ⟨l1, g1⟩ := List.getElem?_eq_some_iff.mp gx
        obtain ⟨l2, g2⟩ := List.getElem?_eq_some_iff.mp gy
        have z := List.pairwise_iff_getElem.mp asc i (i + 1) l1 l2 (Nat.lt_succ_self i)
        rw [g1, g2] at z
        exact z
      have e6 : Ex H4 (upd H4 T (.tup [.ref tx, .ref ty])) := Ex.new nT
      refine ⟨T, _, rfl, SqT.of upd_same, rfl, _, _, rfl, _, _, rfl, rfl, rfl, ?_⟩
      refine ⟨.ref tx, rfl, tx, _, 1, _, rfl, rfl, SqT.of (e6 _ _ (e5 _ _ htx)), rfl, .ref ty, rfl, ty, _, 0, _, rfl, rfl, SqT.of (e6 _ _ (e5 _ _ hty)), rfl, x2, y1, rfl, rfl, _, e6 _ _ hL, ?_, ?_, ?_⟩
      · rw [List.length_map, List.length_replicate]
        exact small20 (by omega)
      · exact (e5.add nT).mut hD2
      · rw [upd_same]
        show some (HO.lst (List.map V.bl (List.replicate i true) ++ [V.bl (decide (x2 < y1))])) = _
        rw [decide_eq_true hlt, List.replicate_succ', List.map_append]
        rfl
    · obtain ⟨e5, hL⟩ := p4
      refine ⟨D2, _, rfl, SqL.of hL, ?_⟩
      rw [show (List.replicate (vs.length - 1) true).all id = true by rw [List.all_replicate]; simp]
      exact q.go ((e1.trans e3).trans e5)
theorem ok_check_from (Dis_integer : Df P w K mg base "is_integer" 1 ["value"] spIsInteger) {f : Addr} {fd : FuncData} (F : Fun K "check_from" "check_from" scheck_from f fd) : FnOk P w K mg base CX0 2 f fd ["number", "least"] spCheckFrom := by
  refine F.ok sccheck_from (fun vs H Q E h => ?_) (fun cdv A outer s H vs Q E hr h => ?_)
  · obtain ⟨i, j, rfl, _⟩ := h
    rfl
  · obtain ⟨i, j, rfl, h0, q⟩ := h
    refine ⟨_, (pss_one (ps_if (pw_or (pt_not (pt_val (pe_df Dis_integer hr (pa_cons (pv 0) pa_nil)))) (pw_or1 (pt_cmpR op_lt (pv 0) (pv 1) (nomark _)))).pt (pss_one ps_never) pss_nil)), ?_⟩
    refine ⟨.int i, rfl, i, rfl, fun H1 e1 => ⟨true, rfl, iteF ?_⟩⟩
    refine ⟨.int i, rfl, .int j, rfl, i, j, rfl, rfl, _, rfl, ?_⟩
    rw [decide_eq_false (show ¬ i < j by omega)]
    exact iteF (q.go e1)
theorem ok_check_distances (Dis_from_zero : Df P w K mg base "is_from_zero" 2 ["value"] spFromZero) (Dare_pieces : Df P w K mg base "are_pieces" 3 ["value"] spArePieces) {f : Addr} {fd : FuncData} (F : Fun K "check_distances" "check_distances" scheck_distances f fd) : FnOk P w K mg base CX0 4 f fd ["cold", "pieces"] spCheckDist := by
  refine F.ok sccheck_distances (fun vs H Q E h => ?_) (fun cdv A outer s H vs Q E hr h => ?_)
  · obtain ⟨c, a, ps, rfl, _⟩ := h
    rfl
  · obtain ⟨c, a, ps, rfl, h0, pa, ok, asc, few, q⟩ := h
    refine ⟨_, (pss_cons (ps_if (pt_not (pt_val (pe_df Dis_from_zero hr (pa_cons (pv 0) pa_nil)))) (pss_one ps_never) pss_nil)
      (pss_one (ps_if (pt_not (pt_val (pe_df Dare_pieces hr (pa_cons (pv 1) pa_nil)))) (pss_one ps_never) pss_nil))), ?_⟩
    refine ⟨.int c, rfl, c, rfl, h0, fun H1 e1 => ⟨true, rfl, iteF ?_⟩⟩
    exact ⟨.ref a, rfl, a, ps, rfl, pa.mono e1, ok, asc, few, fun H2 e2 => ⟨true, rfl, iteF (q.go (e1.trans e2))⟩⟩
theorem ok_pond0 (B : Bt mg) {f : Addr} {fd : FuncData} (F : Fun K "_law_pond" "_law_pond" s_law_pond f fd) : FnOk P w K mg base CX0 1 f fd ["script", "k"] (spPond0 K) := by
  refine F.ok sc_law_pond (fun vs H Q E h => ?_) (fun cdv A outer s H vs Q E hr h => ?_)
  · obtain ⟨a, ns, k, rfl, _⟩ := h
    rfl
  · obtain ⟨a, ns, k, rfl, hS, k0, k1, q⟩ := h
    refine ⟨_, (pss_cons (ps_set (i := 2) sc_law_pond.nd rfl (by first | exact Or.inl rfl | exact Or.inr rfl) pe_int)
      (pss_cons (ps_if (pt_cmpR op_lt (pv 1) (pe_callB call_len_seq (by rfl) B.len bo_len (pa_cons (pv 0) pa_nil)) (nomark _)) (pss_one (ps_set (i := 2) sc_law_pond.nd rfl (by first | exact Or.inl rfl | exact Or.inr rfl) (pe_ix ix_list (pv 0) (pv 1) (fun _ _ => rfl)))) pss_nil)
      (pss_one (ps_ret (pe_lst (pa_cons (pe_callB (call_max2 rfl) (by rfl) B.max bo_max (pa_cons pe_int (pa_cons (pe_op op_sub (pv 2) (pe_op op_pow pe_int pe_int)) pa_nil))) (pa_cons (pe_op op_add (pe_op op_add (pe_op op_mul (pe_op op_mod (pe_callTy call_int1 (by rfl) B.int bo_int (pa_cons (pv 2) pa_nil)) (pe_op op_add (pe_op op_pow pe_int pe_int) pe_int)) pe_int) (pe_op op_mul pe_int (pv 1))) pe_int) (pa_cons pe_int pa_nil)))))))), ?_⟩
    have fin : ∀ z : Int, Pn 0 (z % (10 ^ 38 + 133) * 61 + 179424673 * k + 19) 0 := fun z => by
      have a1 : 0 ≤ z % (10 ^ 38 + 133) := Int.emod_nonneg _ (by decide)
      have a2 : z % (10 ^ 38 + 133) < 10 ^ 38 + 133 := Int.emod_lt_of_pos _ (by decide)
      have a3 : ((10 : Int) ^ 38 + 133) * 61 + 179424673 * 100 + 19 ≤ 10 ^ 45 := by decide
      exact ⟨by omega, by omega, Int.le_refl _, Int.le_refl _⟩
    refine ⟨.int k, rfl, .ref a, rfl, a, _, rfl, .inl hS, k, _, rfl, rfl, _, rfl, ite2 (fun e => ?_) (fun e => ?_)⟩
    · have e' : k < ((ns.map V.int).length : Int) := of_decide_eq_true e
      obtain ⟨z, hz⟩ : ∃ z, ns[k.toNat]? = some z := ⟨_, List.getElem?_eq_getElem (by rw [List.length_map] at e'; omega)⟩
      have ai : atI (ns.map V.int) k = some (.int z) := by
        have g : atI (ns.map V.int) ((k.toNat : Nat) : Int) = some (.int z) := atI_nat (by
          rw [List.getElem?_map, hz]
          rfl)
        rwa [Int.toNat_of_nonneg k0] at g
      refine ⟨.ref a, rfl, .int k, rfl, a, _, k, _, rfl, rfl, hS, ai, ?_⟩
      refine ⟨.int z, rfl, 10, 18, rfl, rfl, ⟨by decide, by decide, by decide⟩, z, _, rfl, rfl, 0, _, rfl, ?_⟩
      refine ⟨.int z, rfl, .inl ⟨z, rfl, 10, 38, rfl, rfl, ⟨by decide, by decide, by decide⟩, _, 133, rfl, rfl, z, _, rfl, rfl, by show (0 : Int) < 10 ^ 38 + 133; decide, ?_⟩⟩
      refine ⟨_, 61, rfl, rfl, .inr ⟨by decide, by decide⟩, .int k, rfl, 179424673, k, rfl, rfl, .inl ⟨by decide, by decide⟩, _, _, rfl, rfl, _, 19, rfl, rfl, by show 3 ≤ sizeLine; decide, fun p np => ?_⟩
      exact q p _ _ _ _ np (Ex.new np) upd_same (fin z)
    · refine ⟨.int 0, rfl, 10, 18, rfl, rfl, ⟨by decide, by decide, by decide⟩, 0, _, rfl, rfl, 0, _, rfl, ?_⟩
      refine ⟨.int 0, rfl, .inl ⟨0, rfl, 10, 38, rfl, rfl, ⟨by decide, by decide, by decide⟩, _, 133, rfl, rfl, 0, _, rfl, rfl, by show (0 : Int) < 10 ^ 38 + 133; decide, ?_⟩⟩
      refine ⟨_, 61, rfl, rfl, .inr ⟨by decide, by decide⟩, .int k, rfl, 179424673, k, rfl, rfl, .inl ⟨by decide, by decide⟩, _, _, rfl, rfl, _, 19, rfl, rfl, by show 3 ≤ sizeLine; decide, fun p np => ?_⟩
      exact q p _ _ _ _ np (Ex.new np) upd_same (fin 0)
theorem ok_pond (B : Bt mg) {f : Addr} {fd : FuncData} (F : Fun K "_law_pond" "_law_pond" s_law_pond f fd) : FnOk P w K mg base CX0 1 f fd ["script", "k"] (spPond K) :=
  pond_new (ok_pond0 B F) fun vs H Q E h => by
    obtain ⟨a, ns, k, rfl, hS, k0, k1, q⟩ := h
    refine ⟨rfl, a, ns, k, rfl, hS, k0, k1, fun b H' x c t nb e hb pn => ⟨b, 0, x, c, t, pn, rfl, nb, hb, q b _ nb (fun o u ho => ?_) ⟨0, Nat.le_refl _, upd_same⟩⟩⟩
    rw [upd_ne (ne_of_none ho nb)]
    exact e o u ho
theorem ok_dip0 (B : Bt mg) {f : Addr} {fd : FuncData} (F : Fun K "_law_dip" "_law_dip" s_law_dip f fd) : FnOk P w K mg base CX0 1 f fd ["pond", "many"] spDip0 := by
  refine F.ok sc_law_dip (fun vs H Q E h => ?_) (fun cdv A outer s H vs Q E hr h => ?_)
  · obtain ⟨b, m, x, c, t, n, rfl, _⟩ := h
    rfl
  · obtain ⟨b, m, x, c, t, n, rfl, hb, pn, hn, h1, h2, q⟩ := h
    refine ⟨_, (pss_cons (ps_if (pt_cmpR op_gt (pe_ix ix_list (pv 0) pe_int (fun _ _ => rfl)) pe_int (nomark _)) (pss_cons (ps_set (i := 2) sc_law_dip.nd rfl (by first | exact Or.inl rfl | exact Or.inr rfl) (pe_op op_mod (pe_callTy call_int1 (by rfl) B.int bo_int (pa_cons (pe_ix ix_list (pv 0) pe_int (fun _ _ => rfl)) pa_nil)) (pv 1)))
      (pss_cons (ps_asg (pe_op op_fdivW (pe_ix ix_list (pv 0) pe_int (fun _ _ => rfl)) (pv 1)) (pg_sub (pv 0) pe_int set_list))
      (pss_one (ps_ret (pv 2))))) pss_nil)
      (pss_cons (ps_asg (pe_op op_add (pe_ix ix_list (pv 0) pe_int (fun _ _ => rfl)) pe_int) (pg_sub (pv 0) pe_int set_list))
      (pss_cons (ps_set (i := 3) sc_law_dip.nd rfl (by first | exact Or.inl rfl | exact Or.inr rfl) (pe_op op_mod (pe_callTy call_int1 (by rfl) B.int bo_int (pa_cons (pe_op op_powW (pe_op op_add (pe_ix ix_list (pv 0) pe_int (fun _ _ => rfl)) (pe_op op_mul pe_int (pe_ix ix_list (pv 0) pe_int (fun _ _ => rfl)))) pe_int) pa_nil)) (pe_op op_add (pe_op op_pow pe_int pe_int) pe_int)))
      (pss_cons (ps_set (i := 3) sc_law_dip.nd rfl (by first | exact Or.inl rfl | exact Or.inr rfl) (pe_op op_mod (pe_callTy call_int1 (by rfl) B.int bo_int (pa_cons (pe_op op_powW (pe_op op_add (pv 3) (pe_op op_mul pe_int (pe_ix ix_list (pv 0) pe_int (fun _ _ => rfl)))) pe_int) pa_nil)) (pe_op op_add (pe_op op_pow pe_int pe_int) pe_int)))
      (pss_one (ps_ret (pe_op op_mod (pe_callTy call_int1 (by rfl) B.int bo_int (pa_cons (pe_op op_fdiv (pv 3) pe_int) pa_nil)) (pv 1)))))))), ?_⟩
    have big : ∀ z : Int, 0 ≤ z → z ≤ 10 ^ 46 → ∀ y : Int, 0 ≤ y → y ≤ 10 ^ 46 → CPowW (z + y) 3 := fun z z0 z1 y y0 y1 => by
      have g : (10 : Nat) ^ 46 + 10 ^ 46 < 2 ^ 200 := by decide
      have : (z + y).natAbs < 2 ^ 200 := Nat.lt_of_le_of_lt (show (z + y).natAbs ≤ 10 ^ 46 + 10 ^ 46 by omega) g
      have b1 := bits_le this (by decide)
      refine ⟨by decide, ?_⟩
      omega
    refine ⟨.ref b, rfl, b, _, 0, _, rfl, rfl, SqL.of hb, rfl, x, 0, rfl, rfl, _, rfl, ite2 (fun e => ?_) (fun e => ?_)⟩
    · refine ⟨.ref b, rfl, b, _, 0, _, rfl, rfl, SqL.of hb, rfl, .inl ⟨x, rfl, .int m, rfl, x, m, rfl, rfl, by show 0 < m; omega, ?_⟩⟩
      refine ⟨.ref b, rfl, b, _, 0, _, rfl, rfl, SqL.of hb, rfl, .int m, rfl, x, m, rfl, rfl, ?_, .ref b, rfl, b, _, 0, 0, rfl, rfl, hb, rfl, ?_⟩
      · exact wide_div (b := 4000) (by omega) (Nat.lt_of_le_of_lt (show m.natAbs ≤ 10 ^ 600 by omega) (by decide +kernel)) (by decide) (by decide)
      · refine ⟨_, rfl, q _ _ (x / m) t (Int.emod_nonneg _ (by omega)) (Int.emod_lt_of_pos _ (by omega)) (fun a o n e => ?_) upd_same (pn.mono (by omega))⟩
        rw [upd_ne n]
        exact e
    · have t0 := pn.t0
      have t1 := pn.t1
      have c0 := pn.c0
      have c1 := pn.c1
      have t2 : (n : Int) ≤ 2 ^ 60 := by omega
      have g1 : (86028157 : Int) * (2 ^ 60 + 1) ≤ 10 ^ 46 := by decide
      have g2 : (10 : Int) ^ 45 ≤ 10 ^ 46 := by decide
      have g3 : (10 : Int) ^ 42 + 63 ≤ 10 ^ 46 := by decide
      refine ⟨.ref b, rfl, b, _, 2, _, rfl, rfl, SqL.of hb, rfl, t, 1, rfl, rfl, .ref b, rfl, b, _, 2, 2, rfl, rfl, hb, rfl, ?_⟩
      refine ⟨.ref b, rfl, b, _, 1, _, rfl, rfl, SqL.of upd_same, rfl, .ref b, rfl, b, _, 2, _, rfl, rfl, SqL.of upd_same, rfl, 86028157, t + 1, rfl, rfl, .inl ⟨by decide, by decide⟩, c, _, rfl, rfl, _, 3, rfl, rfl, big c c0 (by omega) _ (by omega) (by omega), ?_⟩
      refine .inl ⟨_, rfl, 10, 42, rfl, rfl, ⟨by decide, by decide, by decide⟩, _, 63, rfl, rfl, _, _, rfl, rfl, by show (0 : Int) < 10 ^ 42 + 63; decide, ?_⟩
      have m0 : 0 ≤ (c + 86028157 * (t + 1)) ^ (3 : Int).toNat % (10 ^ (42 : Int).toNat + 63) := Int.emod_nonneg _ (by decide)
      have m1 : (c + 86028157 * (t + 1)) ^ (3 : Int).toNat % (10 ^ (42 : Int).toNat + 63) < 10 ^ 42 + 63 := Int.emod_lt_of_pos _ (by decide)
      have bg : CPowW ((c + 86028157 * (t + 1)) ^ (3 : Int).toNat % (10 ^ (42 : Int).toNat + 63) + 67867979 * (t + 1)) 3 := by
        generalize (c + 86028157 * (t + 1)) ^ (3 : Int).toNat % (10 ^ (42 : Int).toNat + 63) = mx at m0 m1 ⊢
        exact big mx m0 (by omega) _ (by omega) (by omega)
      refine ⟨_, rfl, .ref b, rfl, b, _, 2, _, rfl, rfl, SqL.of upd_same, rfl, 67867979, t + 1, rfl, rfl, .inl ⟨by decide, by decide⟩, _, _, rfl, rfl, _, 3, rfl, rfl, bg, ?_⟩
      refine .inl ⟨_, rfl, 10, 44, rfl, rfl, ⟨by decide, by decide, by decide⟩, _, 57, rfl, rfl, _, _, rfl, rfl, by show (0 : Int) < 10 ^ 44 + 57; decide, ?_⟩
      refine ⟨_, rfl, _, 655373, rfl, rfl, ⟨by decide, by decide⟩, .inl ⟨_, rfl, .int m, rfl, _, m, rfl, rfl, by show 0 < m; omega, ?_⟩⟩
      refine q _ _ x (t + 1) (Int.emod_nonneg _ (by omega)) (Int.emod_lt_of_pos _ (by omega)) (fun a o n e => (upd_ne n).trans e) upd_same ⟨c0, c1, by omega, by omega⟩
theorem ok_dip (B : Bt mg) {f : Addr} {fd : FuncData} (F : Fun K "_law_dip" "_law_dip" s_law_dip f fd) : FnOk P w K mg base CX0 1 f fd ["pond", "many"] spDip :=
  pond_fn (ok_dip0 B F) fun vs H Q E h => by
    obtain ⟨b, m, n', rfl, ⟨n, ln, hb⟩, hn', h1, h2, q⟩ := h
    have hn : n ≤ 2 ^ 60 := Nat.le_trans ln hn'
    refine ⟨rfl, b, n, n + 1, hb, fun x c t pn => ⟨b, m, x, c, t, n, rfl, upd_same, pn, hn, h1, h2, fun r H' x' t' r0 r1 k e pn' => ⟨x', c, t', pn', e, q r r0 r1 _ (fun a o ha => ?_) ⟨n + 1, by omega, upd_same⟩⟩⟩⟩
    by_cases z : a = b
    · subst z
      rw [hb] at ha
      cases ha
      exact ⟨_, upd_same, fun p => p.elim⟩
    · refine ⟨o, ?_, fun _ => rfl⟩
      rw [upd_ne z]
      exact k a o z (by rw [upd_ne z]; exact ha)
theorem ok_given (B : Bt mg) (D_law_dip : Df P w K mg base "_law_dip" 1 ["pond", "many"] spDip) {f : Addr} {fd : FuncData} (F : Fun K "_law_given" "_law_given" s_law_given f fd) : FnOk P w K mg base CX0 2 f fd ["pond", "wide"] spGiven := by
  refine F.ok sc_law_given (fun vs H Q E h => ?_) (fun cdv A outer s H vs Q E hr h => ?_)
  · obtain ⟨b, wd, n, rfl, _⟩ := h
    rfl
  · obtain ⟨b, wd, n, rfl, hb, hn, w3, w1, q⟩ := h
    refine ⟨_, (pss_cons (ps_par (i := 2) (j := 3) rfl sc_law_given.nd rfl rfl (by decide) rfl rfl (pa_cons (pe_lst pa_nil) (pa_cons pe_int pa_nil)) (by rfl))
      (pss_cons (ps_for PassesOwn.never rfl (pi_range1 (by rfl) B.range (pa_cons (pe_df D_law_dip hr (pa_cons (pv 0) (pa_cons pe_int pa_nil))) pa_nil)) (pg_name (i := 4) sc_law_given.nd rfl (by first | exact Or.inl rfl | exact Or.inr rfl)) (pss_cons (ps_set (i := 5) sc_law_given.nd rfl (by first | exact Or.inl rfl | exact Or.inr rfl) (pe_op op_add (pe_op op_add (pv 3) pe_int) (pe_ix ix_list (pe_lst (pa_cons pe_int (pa_cons pe_int (pa_cons (pe_df D_law_dip hr (pa_cons (pv 0) (pa_cons (pv 1) pa_nil))) pa_nil)))) (pe_df D_law_dip hr (pa_cons (pv 0) (pa_cons pe_int pa_nil))) (fun _ _ => rfl))))
      (pss_cons (ps_set (i := 3) sc_law_given.nd rfl (by first | exact Or.inl rfl | exact Or.inr rfl) (pe_op op_add (pv 5) (pe_ix ix_list (pe_lst (pa_cons pe_int (pa_cons (pe_df D_law_dip hr (pa_cons (pv 0) (pa_cons pe_int pa_nil))) (pa_cons (pe_df D_law_dip hr (pa_cons (pv 0) (pa_cons (pv 1) pa_nil))) pa_nil)))) (pe_df D_law_dip hr (pa_cons (pv 0) (pa_cons pe_int pa_nil))) (fun _ _ => rfl))))
      (pss_one (ps_expr (pe_bm PySem.F.plainAttrs_list PySem.F.slot_list_append PySem.F.type_list_append mt_append (pv 2) (pa_cons (pe_tup (pa_cons (pv 5) (pa_cons (pv 3) (pa_cons (pe_ix ix_list (pe_lst (pa_cons pe_int (pa_cons pe_int (pa_cons (pe_op op_add pe_int (pe_df D_law_dip hr (pa_cons (pv 0) (pa_cons (pv 1) pa_nil)))) pa_nil)))) (pe_df D_law_dip hr (pa_cons (pv 0) (pa_cons pe_int pa_nil))) (fun _ _ => rfl)) pa_nil)))) pa_nil)))))))
      (pss_one (ps_ret (pv 2))))), ?_⟩
    have g1 : (10 : Int) ^ 100 ≤ 10 ^ 600 := by decide +kernel
    refine ⟨Nat.zero_le _, fun p np => ⟨_, _, rfl, ?_⟩⟩
    refine ⟨.ref b, rfl, b, 7, n, rfl, hb.ex (Ex.new np), by omega, by decide, by decide +kernel, fun r r0 r7 H1 e1 hb1 => ?_⟩
    have e01 := (Ex.new np).nx.trans e1
    refine ⟨r, rfl, by omega, by omega, for_range (lo := 0) (n := r.toNat) (fun i σ H2 => ∃ y4 y5 last us ps, σ = [some (.ref b), some (.int wd), some (.ref p), some (.int last), y4, y5] ∧ Nx H H2 ∧ Pd H2 b (n + 1 + 7 * i) ∧ H2 p = some (.lst us) ∧ PaP H2 us ps ∧ ps.length = i ∧
        (∀ q ∈ ps, Pok q ∧ q.2.1 - q.1 < wd ∧ q.2.2 ≤ wd ∧ q.2.1 ≤ last) ∧ AscP ps ∧ 0 ≤ last ∧ last ≤ wd * (3 * i))
      ⟨none, none, 0, [], [], rfl, e01, hb1, e1.at upd_same, .nil, rfl, fun q hq => absurd hq (by simp), List.Pairwise.nil, Int.le_refl _, by simp⟩ (fun i σ H2 hi z => ?_) (fun σ H2 z => ?_)⟩
    · obtain ⟨y4, y5, last, us, ps, rfl, e2, hb2, hp, pp, lp, ok, asc, l0, l1⟩ := z
      have bud : n + 1 + 7 * i + 7 ≤ 2 ^ 60 := by omega
      -- low
      refine ⟨.int last, rfl, last, 1, rfl, rfl, ?_⟩
      refine ⟨.ref b, rfl, .int wd, rfl, b, wd, _, rfl, hb2, by omega, by omega, by omega, fun r1 r10 r11 H3 e3 hb3 => ⟨by show 3 ≤ sizeLine; decide, fun q1 nq1 => ?_⟩⟩
      have x1 := Ex.new (o := .lst [V.int 0, V.int 0, V.int r1]) nq1
      refine ⟨.ref b, rfl, b, 3, _, rfl, hb3.ex x1, by omega, by decide, by decide +kernel, fun r2 r20 r21 H4 e4 hb4 => ?_⟩
      obtain ⟨g, ag, g0, gw⟩ := pick3 (p := fun m => 0 ≤ m ∧ m < wd) r20 r21 (x := 0) (y := 0) (z := r1) ⟨by omega, by omega⟩ ⟨by omega, by omega⟩ ⟨r10, r11⟩
      refine ⟨q1, _, r2, .int g, rfl, rfl, SqL.of (e4.at upd_same), ag, _, _, rfl, rfl, ?_⟩
      -- last
      refine ⟨_, rfl, .ref b, rfl, b, 3, _, rfl, hb4, by omega, by decide, by decide +kernel, fun r3 r30 r31 H5 e5 hb5 => ?_⟩
      refine ⟨.ref b, rfl, .int wd, rfl, b, wd, _, rfl, hb5, by omega, by omega, by omega, fun r4 r40 r41 H6 e6 hb6 => ⟨by show 3 ≤ sizeLine; decide, fun q2 nq2 => ?_⟩⟩
      have x2 := Ex.new (o := .lst [V.int 0, V.int r3, V.int r4]) nq2
      refine ⟨.ref b, rfl, b, 3, _, rfl, hb6.ex x2, by omega, by decide, by decide +kernel, fun r5 r50 r51 H7 e7 hb7 => ?_⟩
      obtain ⟨k, ak, k0, kw⟩ := pick3 (p := fun m => 0 ≤ m ∧ m < wd) r50 r51 (x := 0) (y := r3) (z := r4) ⟨by omega, by omega⟩ ⟨by omega, by omega⟩ ⟨r40, r41⟩
      refine ⟨q2, _, r5, .int k, rfl, rfl, SqL.of (e7.at upd_same), ak, _, _, rfl, rfl, ?_⟩
      -- found.append
      have e27 : Nx H2 H7 := ((((e3.trans x1.nx).trans e4).trans e5).trans (e6.trans x2.nx)).trans e7
      have hp7 := e27.at hp
      refine ⟨.ref p, rfl, .inl ⟨rfl, _, .inl (.inl hp7)⟩, .int (last + 1 + g), rfl, .int (last + 1 + g + k), rfl, ?_⟩
      refine ⟨.ref b, rfl, .int wd, rfl, b, wd, _, rfl, hb7, by omega, by omega, by omega, fun r6 r60 r61 H8 e8 hb8 => ⟨1, r6, rfl, rfl, by show 3 ≤ sizeLine; decide, fun q3 nq3 => ?_⟩⟩
      have x3 := Ex.new (o := .lst [V.int 1, V.int 2, V.int (1 + r6)]) nq3
      refine ⟨.ref b, rfl, b, 3, _, rfl, hb8.ex x3, by omega, by decide, by decide +kernel, fun r8 r80 r81 H9 e9 hb9 => ?_⟩
      obtain ⟨t, at_, t0, tw⟩ := pick3 (p := fun m => 1 ≤ m ∧ m ≤ wd) r80 r81 (x := 1) (y := 2) (z := 1 + r6) ⟨by omega, by omega⟩ ⟨by omega, by omega⟩ ⟨by omega, by omega⟩
      refine ⟨q3, _, r8, .int t, rfl, rfl, SqL.of (e9.at upd_same), at_, by show 3 ≤ sizeLine; decide, fun c nc => ?_⟩
      have e79 : Nx H7 H9 := (e8.trans x3.nx).trans e9
      have x4 := Ex.new (o := .tup [V.int (last + 1 + g), V.int (last + 1 + g + k), V.int t]) nc
      have hp10 := x4 _ _ (e79.at hp7)
      have pp10 : PaP (upd H9 c (.tup [V.int (last + 1 + g), V.int (last + 1 + g + k), V.int t])) (us ++ [.ref c]) (ps ++ [(last + 1 + g, last + 1 + g + k, t)]) := Pr.snoc (pp.nx ((e27.trans e79).trans x4.nx)) ⟨c, rfl, upd_same⟩
      have lu : us.length = i := by rw [Pr.len pp, lp]
      refine ⟨p, us, .ref c, rfl, rfl, hp10, small1000 (by omega), some (.int (0 + (i : Int))), some (.int (last + 1 + g)), last + 1 + g + k, us ++ [.ref c], ps ++ [(last + 1 + g, last + 1 + g + k, t)], ?_, (((e2.trans e27).trans e79).trans x4.nx).mut np, ((hb9.ex x4).lset hp10).mono (by omega), upd_same, PaP.lset hp10 pp10, by rw [List.length_append, lp]; rfl, fun q hq => ?_, ?_, by omega, ?_⟩
      · rfl
      · rcases List.mem_append.mp hq with hq | hq
        · obtain ⟨z1, z2, z3, z4⟩ := ok q hq
          exact ⟨z1, z2, z3, by omega⟩
        · rw [List.mem_singleton.mp hq]
          exact ⟨⟨by show 1 ≤ last + 1 + g; omega, by show last + 1 + g ≤ last + 1 + g + k; omega, t0⟩, by show last + 1 + g + k - (last + 1 + g) < wd; omega, tw, Int.le_refl _⟩
      · refine List.pairwise_append.mpr ⟨asc, List.pairwise_singleton .., fun x hx y hy => ?_⟩
        have := (ok x hx).2.2.2
        rw [List.mem_singleton.mp hy]
        show x.2.1 < last + 1 + g
        omega
      · have : wd * (3 * ((i + 1 : Nat) : Int)) = wd * (3 * (i : Int)) + 3 * wd := by
          rw [Int.natCast_add, Int.mul_add, Int.mul_add]
          omega
        omega
    · obtain ⟨y4, y5, last, us, ps, rfl, e2, hb2, hp, pp, lp, ok, asc, l0, l1⟩ := z
      refine ⟨.ref p, rfl, q p H2 ps np e2 (hb2.mono (by omega)) ⟨us, hp, pp⟩ ⟨fun x hx => ?_, asc⟩ (by omega)⟩
      obtain ⟨z1, z2, z3, z4⟩ := ok x hx
      rw [lp]
      exact ⟨z1, z2, z3, by omega⟩
theorem ok_many (B : Bt mg) (D_law_dip : Df P w K mg base "_law_dip" 1 ["pond", "many"] spDip) {f : Addr} {fd : FuncData} (F : Fun K "_law_many" "_law_many" s_law_many f fd) : FnOk P w K mg base CX0 2 f fd ["pond", "many"] spMany := by
  refine F.ok sc_law_many (fun vs H Q E h => ?_) (fun cdv A outer s H vs Q E hr h => ?_)
  · obtain ⟨b, wd, n, rfl, _⟩ := h
    rfl
  · obtain ⟨b, mn, n, rfl, hb, hn, w1, q⟩ := h
    refine ⟨_, (pss_cons (ps_par3 (i := 2) (j := 3) (l := 4) rfl sc_law_many.nd rfl rfl rfl (by decide) (by decide) (by decide) rfl rfl rfl (pa_cons (pe_lst pa_nil) (pa_cons pe_int (pa_cons pe_int pa_nil))) (by rfl))
      (pss_cons (ps_for PassesOwn.never rfl (pi_range1 (by rfl) B.range (pa_cons (pv 1) pa_nil)) (pg_name (i := 5) sc_law_many.nd rfl (by first | exact Or.inl rfl | exact Or.inr rfl)) (pss_cons (ps_if (pt_cmpR op_eq (pe_df D_law_dip hr (pa_cons (pv 0) (pa_cons pe_int pa_nil))) pe_int (nomark _)) (pss_one (ps_par (i := 3) (j := 4) rfl sc_law_many.nd rfl rfl (by decide) rfl rfl (pa_cons (pe_op op_add (pv 3) (pe_df D_law_dip hr (pa_cons (pv 0) (pa_cons pe_int pa_nil)))) (pa_cons (pe_op op_add pe_int (pe_df D_law_dip hr (pa_cons (pv 0) (pa_cons pe_int pa_nil)))) pa_nil)) (by rfl))) pss_nil)
      (pss_cons (ps_set (i := 6) sc_law_many.nd rfl (by first | exact Or.inl rfl | exact Or.inr rfl) (pe_op op_add (pv 3) pe_int))
      (pss_cons (ps_set (i := 3) sc_law_many.nd rfl (by first | exact Or.inl rfl | exact Or.inr rfl) (pe_op op_add (pv 6) (pe_df D_law_dip hr (pa_cons (pv 0) (pa_cons pe_int pa_nil)))))
      (pss_one (ps_expr (pe_bm PySem.F.plainAttrs_list PySem.F.slot_list_append PySem.F.type_list_append mt_append (pv 2) (pa_cons (pe_tup (pa_cons (pv 6) (pa_cons (pv 3) (pa_cons (pv 4) pa_nil)))) pa_nil))))))))
      (pss_one (ps_ret (pv 2))))), ?_⟩
    refine ⟨Nat.zero_le _, fun p np => ⟨_, _, _, rfl, ?_⟩⟩
    have e01 := (Ex.new (o := .lst []) np).nx
    refine ⟨.int mn, rfl, (mn : Int), rfl, by omega, by omega, for_range (lo := 0) (n := (mn : Int).toNat) (fun i σ H2 => ∃ y5 y6 last often us ps, σ = [some (.ref b), some (.int mn), some (.ref p), some (.int last), some (.int often), y5, y6] ∧ Nx H H2 ∧ Pd H2 b (n + 4 * i) ∧ H2 p = some (.lst us) ∧ PaP H2 us ps ∧ ps.length = i ∧
        (∀ q ∈ ps, Pok q ∧ q.2.1 - q.1 < 3 ∧ q.2.2 ≤ 3 ∧ q.2.1 ≤ last) ∧ AscP ps ∧ 0 ≤ last ∧ last ≤ 5 * i ∧ 1 ≤ often ∧ often ≤ 3)
      ⟨none, none, 0, 1, [], [], rfl, e01, hb.ex (Ex.new np), upd_same, .nil, rfl, fun q hq => absurd hq (by simp), List.Pairwise.nil, Int.le_refl _, by simp, by decide, by decide⟩ (fun i σ H2 hi z => ?_) (fun σ H2 z => ?_)⟩
    · obtain ⟨y5, y6, last, often, us, ps, rfl, e2, hb2, hp, pp, lp, ok, asc, l0, l1, o1, o3⟩ := z
      have bud : n + 4 * i + 4 ≤ 2 ^ 60 := by omega
      refine ⟨.ref b, rfl, b, 5, _, rfl, hb2, by omega, by decide, by decide +kernel, fun r1 r10 r11 H3 e3 hb3 => ⟨rfl, _, rfl, ?_⟩⟩
      refine ite2 (fun e => ?_) (fun e => ?_)
      · refine ⟨.int last, rfl, .ref b, rfl, b, 3, _, rfl, hb3, by omega, by decide, by decide +kernel, fun r2 r20 r21 H4 e4 hb4 => ⟨last, r2, rfl, rfl, ?_⟩⟩
        refine ⟨.ref b, rfl, b, 3, _, rfl, hb4, by omega, by decide, by decide +kernel, fun r3 r30 r31 H5 e5 hb5 => ⟨1, r3, rfl, rfl, _, _, rfl, ?_⟩⟩
        refine ⟨.int (last + r2), rfl, _, 1, rfl, rfl, .int (last + r2 + 1), rfl, .ref b, rfl, b, 3, _, rfl, hb5, by omega, by decide, by decide +kernel, fun r4 r40 r41 H6 e6 hb6 => ⟨_, _, rfl, rfl, ?_⟩⟩
        have e26 : Nx H2 H6 := ((e3.trans e4).trans e5).trans e6
        have hp6 := e26.at hp
        refine ⟨.ref p, rfl, .inl ⟨rfl, _, .inl (.inl hp6)⟩, .int (last + r2 + 1), rfl, .int (last + r2 + 1 + r4), rfl, .int (1 + r3), rfl, by show 3 ≤ sizeLine; decide, fun c nc => ?_⟩
        have x4 := Ex.new (o := .tup [V.int (last + r2 + 1), V.int (last + r2 + 1 + r4), V.int (1 + r3)]) nc
        have hp7 := x4 _ _ hp6
        have pp7 : PaP (upd H6 c (.tup [V.int (last + r2 + 1), V.int (last + r2 + 1 + r4), V.int (1 + r3)])) (us ++ [.ref c]) (ps ++ [(last + r2 + 1, last + r2 + 1 + r4, 1 + r3)]) := Pr.snoc (pp.nx (e26.trans x4.nx)) ⟨c, rfl, upd_same⟩
        have lu : us.length = i := by rw [Pr.len pp, lp]
        refine ⟨p, us, .ref c, rfl, rfl, hp7, small1000 (by omega), some (.int (0 + (i : Int))), some (.int (last + r2 + 1)), last + r2 + 1 + r4, 1 + r3, us ++ [.ref c], ps ++ [(last + r2 + 1, last + r2 + 1 + r4, 1 + r3)], rfl, ((e2.trans e26).trans x4.nx).mut np, ((hb6.ex x4).lset hp7).mono (by omega), upd_same, PaP.lset hp7 pp7, by rw [List.length_append, lp]; rfl, fun q hq => ?_, ?_, by omega, by omega, by omega, by omega⟩
        · rcases List.mem_append.mp hq with hq | hq
          · obtain ⟨z1, z2, z3, z4⟩ := ok q hq
            exact ⟨z1, z2, z3, by omega⟩
          · rw [List.mem_singleton.mp hq]
            exact ⟨⟨by show 1 ≤ last + r2 + 1; omega, by show last + r2 + 1 ≤ last + r2 + 1 + r4; omega, by show 1 ≤ 1 + r3; omega⟩, by show last + r2 + 1 + r4 - (last + r2 + 1) < 3; omega, by show 1 + r3 ≤ 3; omega, Int.le_refl _⟩
        · refine List.pairwise_append.mpr ⟨asc, List.pairwise_singleton .., fun x hx y hy => ?_⟩
          have := (ok x hx).2.2.2
          rw [List.mem_singleton.mp hy]
          show x.2.1 < last + r2 + 1
          omega
      · refine ⟨.int last, rfl, _, 1, rfl, rfl, .int (last + 1), rfl, .ref b, rfl, b, 3, _, rfl, hb3, by omega, by decide, by decide +kernel, fun r4 r40 r41 H6 e6 hb6 => ⟨_, _, rfl, rfl, ?_⟩⟩
        have e26 : Nx H2 H6 := e3.trans e6
        have hp6 := e26.at hp
        refine ⟨.ref p, rfl, .inl ⟨rfl, _, .inl (.inl hp6)⟩, .int (last + 1), rfl, .int (last + 1 + r4), rfl, .int often, rfl, by show 3 ≤ sizeLine; decide, fun c nc => ?_⟩
        have x4 := Ex.new (o := .tup [V.int (last + 1), V.int (last + 1 + r4), V.int often]) nc
        have hp7 := x4 _ _ hp6
        have pp7 : PaP (upd H6 c (.tup [V.int (last + 1), V.int (last + 1 + r4), V.int often])) (us ++ [.ref c]) (ps ++ [(last + 1, last + 1 + r4, often)]) := Pr.snoc (pp.nx (e26.trans x4.nx)) ⟨c, rfl, upd_same⟩
        have lu : us.length = i := by rw [Pr.len pp, lp]
        refine ⟨p, us, .ref c, rfl, rfl, hp7, small1000 (by omega), some (.int (0 + (i : Int))), some (.int (last + 1)), last + 1 + r4, often, us ++ [.ref c], ps ++ [(last + 1, last + 1 + r4, often)], rfl, ((e2.trans e26).trans x4.nx).mut np, ((hb6.ex x4).lset hp7).mono (by omega), upd_same, PaP.lset hp7 pp7, by rw [List.length_append, lp]; rfl, fun q hq => ?_, ?_, by omega, by omega, by omega, by omega⟩
        · rcases List.mem_append.mp hq with hq | hq
          · obtain ⟨z1, z2, z3, z4⟩ := ok q hq
            exact ⟨z1, z2, z3, by omega⟩
          · rw [List.mem_singleton.mp hq]
            exact ⟨⟨by show 1 ≤ last + 1; omega, by show last + 1 ≤ last + 1 + r4; omega, o1⟩, by show last + 1 + r4 - (last + 1) < 3; omega, o3, Int.le_refl _⟩
        · refine List.pairwise_append.mpr ⟨asc, List.pairwise_singleton .., fun x hx y hy => ?_⟩
          have := (ok x hx).2.2.2
          rw [List.mem_singleton.mp hy]
          show x.2.1 < last + 1
          omega
    · obtain ⟨y5, y6, last, often, us, ps, rfl, e2, hb2, hp, pp, lp, ok, asc, l0, l1, o1, o3⟩ := z
      refine ⟨.ref p, rfl, q p H2 ps np e2 (hb2.mono (by omega)) ⟨us, hp, pp⟩ (fun x hx => ?_) asc (by omega)⟩
      obtain ⟨z1, z2, z3, z4⟩ := ok x hx
      exact ⟨z1, z2, z3, by omega⟩
theorem ok_flattened (B : Bt mg) {f : Addr} {fd : FuncData} (F : Fun K "flattened" "flattened" sflattened f fd) : FnOk P w K mg base CX0 1 f fd ["pieces"] spFlat := by
  refine F.ok scflattened (fun vs H Q E h => ?_) (fun cdv A outer s H vs Q E hr h => ?_)
  · obtain ⟨a, ps, rfl, _⟩ := h
    rfl
  · obtain ⟨a, ps, rfl, ⟨vs, ha, pa⟩, few, q⟩ := h
    refine ⟨_, (pss_cons (ps_set (i := 1) scflattened.nd rfl (by first | exact Or.inl rfl | exact Or.inr rfl) pe_dnewK)
      (pss_cons (ps_for PassesOwn.never rfl (pi_list (pv 0)) (pg_tup rfl (pgs_cons (pg_name (i := 2) scflattened.nd rfl (by first | exact Or.inl rfl | exact Or.inr rfl)) (pgs_cons (pg_name (i := 3) scflattened.nd rfl (by first | exact Or.inl rfl | exact Or.inr rfl)) (pgs_cons (pg_name (i := 4) scflattened.nd rfl (by first | exact Or.inl rfl | exact Or.inr rfl)) pgs_nil)))) (pss_cons (ps_dput (hu_of hr) (pv 1) (pv 2) (pe_op op_add (pe_dget2 (hu_of hr) (pv 1) (pv 2) pe_int ⟨rfl, rfl, rfl, rfl⟩) (pv 4)) rfl)
      (pss_one (ps_dput (hu_of hr) (pv 1) (pe_op op_add (pv 3) pe_int) (pe_op op_sub (pe_dget2 (hu_of hr) (pv 1) (pe_op op_add (pv 3) pe_int) pe_int ⟨rfl, rfl, rfl, rfl⟩) (pv 4)) rfl))))
      (pss_cons (ps_set (i := 5) scflattened.nd rfl (by first | exact Or.inl rfl | exact Or.inr rfl) (pe_callB cr_sortedI (by rfl) B.sorted bo_sorted (pa_cons (pe_lock (pe_lc (own := [("distance", 10)]) (g := (gName 10)) (te := (tVar 10)) (tt := (tTest (tOp _ (tDGet (tVar 1) (tVar 10)) _))) rfl scflattened.nd (pi_keys (pv 1)) (blkOk_by (N := ["pieces", "changes", "low", "high", "times", "turns", "rows", "now", "start", "following", "distance"]) (sc := defScope sflattened) (by decide +kernel)) (by exact fun _ _ _ _ _ => (pg_name (i := 10) scflattened.nd rfl (by first | exact Or.inl rfl | exact Or.inr rfl))) (by exact fun _ _ _ _ _ => (pts_one (pt_cmpR op_ne (pe_dget (hu_of hr) (pv 1) (pv 10) (fun _ _ => rfl)) pe_int (nomark _)))) (by exact fun _ _ _ _ _ => (pv 10)))) pa_nil)))
      (pss_cons (ps_set (i := 6) scflattened.nd rfl (by first | exact Or.inl rfl | exact Or.inr rfl) (pe_lst pa_nil))
      (pss_cons (ps_set (i := 7) scflattened.nd rfl (by first | exact Or.inl rfl | exact Or.inr rfl) pe_int)
      (pss_cons (ps_for PassesOwn.never rfl (pi_zip (by rfl) B.zip (pa_cons (pv 5) (pa_cons (pe_slice sl_list (pv 5) (po_some pe_int) po_none) pa_nil))) (pg_tup rfl (pgs_cons (pg_name (i := 8) scflattened.nd rfl (by first | exact Or.inl rfl | exact Or.inr rfl)) (pgs_cons (pg_name (i := 9) scflattened.nd rfl (by first | exact Or.inl rfl | exact Or.inr rfl)) pgs_nil))) (pss_cons (ps_set (i := 7) scflattened.nd rfl (by first | exact Or.inl rfl | exact Or.inr rfl) (pe_op op_add (pv 7) (pe_dget (hu_of hr) (pv 1) (pv 8) (fun _ _ => rfl))))
      (pss_one (ps_if (pt_cmpR op_ne (pv 7) pe_int (nomark _)) (pss_one (ps_expr (pe_bm PySem.F.plainAttrs_list PySem.F.slot_list_append PySem.F.type_list_append mt_append (pv 6) (pa_cons (pe_tup (pa_cons (pv 8) (pa_cons (pe_op op_sub (pv 9) pe_int) (pa_cons (pv 7) pa_nil)))) pa_nil)))) pss_nil))))
      (pss_one (ps_ret (pv 6))))))))), ?_⟩
    have lv : vs.length = ps.length := Pr.len pa
    intro d nd
    have x0 := Ex.new (o := .dK []) nd
    refine ⟨.ref a, rfl, a, rfl, ⟨_, SqL.of (x0 _ _ ha)⟩, for_list (xs := vs) (fun i σ H1 => ∃ y2 y3 y4 kvs ks, σ = [some (.ref a), some (.ref d), y2, y3, y4, none, none, none, none, none, none] ∧ Ex H H1 ∧ H1 d = some (.dK kvs) ∧ DI kvs (chg (ps.take i)) ks ∧ (∀ p ∈ ps.take i, p.1 ∈ ks ∧ p.2.1 + 1 ∈ ks) ∧ ks.length ≤ 2 * i)
      ⟨none, none, none, [], [], rfl, x0, upd_same, DI.nil, fun p hp => absurd hp (by simp), by simp⟩ (fun i σ H1 _ z => ?_) (fun i v σ H1 hx z => ?_) (fun σ H1 z => ?_)⟩
    · obtain ⟨_, _, _, _, _, _, e1, _⟩ := z
      exact SqL.of (e1 _ _ ha)
    · obtain ⟨y2, y3, y4, kvs, ks, rfl, e1, hd, di, ends, lk⟩ := z
      obtain ⟨⟨l, h, t⟩, gs, tp, rfl, ht⟩ := Pr.get pa hx
      have li : i < ps.length := (List.getElem?_eq_some_iff.mp gs).1
      refine ⟨tp, _, rfl, SqT.of (e1 _ _ ht), rfl, _, _, rfl, _, _, rfl, _, _, rfl, rfl, ?_⟩
      refine ⟨.ref d, rfl, d, rfl, .inl ⟨kvs, .inl hd⟩, .int l, rfl, _, DGet.k (k := Sum.inl l) hd, ?_⟩
      rw [di.getD]
      refine ⟨.int t, rfl, _, _, rfl, rfl, .ref d, rfl, .int l, rfl, d, _, rfl, DPut.k (k := Sum.inl l) hd ?_, ?_⟩
      · rw [di.len]
        exact small20 (by omega)
      obtain ⟨ks1, di1, m1, s1, l1⟩ := di.put l (chg (ps.take i) l + t)
      refine ⟨.ref d, rfl, d, rfl, .inl ⟨_, .inl upd_same⟩, .int h, rfl, h, 1, rfl, rfl, _, DGet.k (k := Sum.inl (h + 1)) upd_same, ?_⟩
      rw [di1.getD]
      refine ⟨.int t, rfl, _, _, rfl, rfl, .ref d, rfl, .int h, rfl, h, 1, rfl, rfl, d, _, rfl, DPut.k (k := Sum.inl (h + 1)) upd_same ?_, ?_⟩
      · rw [di1.len]
        exact small20 (by omega)
      obtain ⟨ks2, di2, m2, s2, l2⟩ := di1.put (h + 1) ((if h + 1 = l then chg (ps.take i) l + t else chg (ps.take i) (h + 1)) - t)
      refine ⟨_, _, _, _, ks2, rfl, (e1.mut nd).mut nd, upd_same, di2.congr fun x => ?_, fun p hp => ?_, by omega⟩
      · rw [chg_snoc gs]
        show _ = if x = h + 1 then _ else if x = l then _ else _
        show chg (ps.take i) x + (if x = l then t else 0) - (if x = h + 1 then t else 0) = _
        by_cases b : x = h + 1
        · subst b
          rw [if_pos rfl, if_pos rfl]
          by_cases c : h + 1 = l
          · rw [if_pos c, if_pos c, c]
          · rw [if_neg c, if_neg c]
            omega
        · rw [if_neg b, if_neg b]
          by_cases c : x = l
          · subst c
            rw [if_pos rfl, if_pos rfl]
            omega
          · rw [if_neg c, if_neg c]
            omega
      · rw [List.take_add_one, gs] at hp
        rcases List.mem_append.mp hp with hp | hp
        · obtain ⟨u1, u2⟩ := ends p hp
          exact ⟨s2 _ (s1 _ u1), s2 _ (s1 _ u2)⟩
        · rw [List.mem_singleton.mp hp]
          exact ⟨s2 _ m1, m2⟩
    · obtain ⟨y2, y3, y4, kvs, ks, rfl, e1, hd, di, ends, lk⟩ := z
      rw [lv, List.take_length] at di ends
      rw [lv] at lk
      -- turns
      refine ⟨d, .dK kvs, hd, trivial, fun od => ?_⟩
      refine ⟨.ref d, rfl, d, od, rfl, .inl ⟨kvs, upd_same, fun D hD => lc_it walk_keys (fun i H2 => (∀ b u, b ≠ d → H1 b = some u → H2 b = some u) ∧ H2 d = some (.frz od (.dK kvs)) ∧ H2 D = some (.lst (((ks.take i).filter fun k => decide (chg ps k ≠ 0)).map V.int))) ?_ (fun i H2 _ p => p.2.1) (fun i x H2 H2' hi p y => ?_) (fun H2 p => ?_)⟩⟩
      · have nD : d ≠ D := fun z => by
          rw [z, upd_same] at hD
          cases hD
        refine ⟨fun b u nb hb => ?_, (upd_ne nD).trans upd_same, upd_same⟩
        have nb2 : b ≠ D := fun z => by
          rw [← z, upd_ne nb, hb] at hD
          cases hD
        rw [upd_ne nb2, upd_ne nb]
        exact hb
      · obtain ⟨p1, p2, p3⟩ := p
        obtain ⟨rfl, k, v, hk, rfl⟩ := y
        obtain ⟨n, gn, rfl, vn⟩ := di.at hk
        refine ⟨rfl, .ref d, rfl, .int n, rfl, d, .int (chg ps n), rfl, .inl ⟨kvs, Sum.inl n, .inr ⟨od, p2⟩, rfl, vn.symm⟩, rfl, _, rfl, ?_⟩
        have tk : (ks.take (i + 1)).filter (fun k => decide (chg ps k ≠ 0)) = (ks.take i).filter (fun k => decide (chg ps k ≠ 0)) ++ if chg ps n ≠ 0 then [n] else [] := by
          rw [List.take_add_one, gn, List.filter_append]
          show _ ++ List.filter _ [n] = _
          by_cases c : chg ps n = 0
          · rw [if_neg (by simp [c])]
            simp [c]
          · rw [if_pos c]
            simp [c]
        refine ite2 (fun e => ?_) (fun e => ?_)
        · have c : chg ps n ≠ 0 := fun z => by
            rw [z] at e
            cases e
          rw [if_pos c] at tk
          have nD : d ≠ D := fun z => by
            rw [← z, p2] at p3
            cases p3
          refine ⟨.int n, rfl, _, p3, ?_, fun b u nb hb => ?_, (upd_ne nD).trans p2, ?_⟩
          · rw [List.length_map]
            have := List.length_filter_le (fun k => decide (chg ps k ≠ 0)) (ks.take i)
            rw [List.length_take] at this
            exact small20 (by omega)
          · have nbD : b ≠ D := fun z => by
              rw [z] at hb
              have q1 : (upd H1 d (.frz od (.dK kvs))) D = none := hD
              rw [upd_ne (z ▸ nb), hb] at q1
              cases q1
            rw [upd_ne nbD]
            exact p1 b u nb hb
          · rw [upd_same, tk, List.map_append]
            rfl
        · have c : chg ps n = 0 := by
            by_cases z : chg ps n = 0
            · exact z
            · exact absurd (show (!decide (V.int (chg ps n) = V.int 0)) = true by rw [decide_eq_false (fun q => z (V.int.inj q))]; rfl) e
          rw [if_neg (by simp [c]), List.append_nil] at tk
          exact ⟨p1, p2, by rw [tk]; exact p3⟩
      · obtain ⟨p1, p2, p3⟩ := p
        rw [di.len, List.take_length] at p3
        refine ⟨p2, ?_⟩
        have e12 : Ex H1 (upd H2 d (.dK kvs)) := fun b u hb => by
          by_cases c : b = d
          · rw [c] at hb ⊢
            rw [hd] at hb
            rw [upd_same]
            exact hb
          · rw [upd_ne c]
            exact p1 b u c hb
        have nD : D ≠ d := fun z => by
          rw [z, p2] at p3
          cases p3
        have hD2 : (upd H2 d (.dK kvs)) D = some (.lst ((ks.filter fun k => decide (chg ps k ≠ 0)).map V.int)) := (upd_ne nD).trans p3
        have hd2 : (upd H2 d (.dK kvs)) d = some (.dK kvs) := upd_same
        generalize upd H2 d (.dK kvs) = H3 at e12 hD2 hd2 ⊢
        refine ⟨D, _, rfl, SqL.of hD2, fun ts p per ord np => ?_⟩
        have e13 := e1.trans (e12.trans (Ex.new (o := .lst (ts.map V.int)) np))
        have hp4 : (upd H3 p (.lst (ts.map V.int))) p = some (.lst (ts.map V.int)) := upd_same
        have hd4 : (upd H3 p (.lst (ts.map V.int))) d = some (.dK kvs) := Ex.new np _ _ hd2
        generalize upd H3 p (.lst (ts.map V.int)) = H4 at e13 hp4 hd4 ⊢
        obtain ⟨fc, fw, fl⟩ := flat_ok (ks := ks) (ts := ts) di.nd ends per ord
        -- rows, now
        refine ⟨Nat.zero_le _, fun r nr => ?_⟩
        have hp5 : (upd H4 r (.lst [])) p = some (.lst (ts.map V.int)) := Ex.new nr _ _ hp4
        have hd5 : (upd H4 r (.lst [])) d = some (.dK kvs) := Ex.new nr _ _ hd4
        have hr5 : (upd H4 r (.lst [])) r = some (.lst []) := upd_same
        have e15 := e13.trans (Ex.new (o := .lst []) nr)
        have nr0 := e13.back nr
        generalize upd H4 r (.lst []) = H5 at e15 hp5 hd5 hr5 ⊢
        refine ⟨.ref p, rfl, .ref p, rfl, 1, rfl, p, _, rfl, SqL.of hp5, fun c nc => ?_⟩
        rw [cut_one]
        have hp6 : (upd H5 c (.lst ((ts.map V.int).drop 1))) p = some (.lst (ts.map V.int)) := Ex.new nc _ _ hp5
        have hd6 : (upd H5 c (.lst ((ts.map V.int).drop 1))) d = some (.dK kvs) := Ex.new nc _ _ hd5
        have hr6 : (upd H5 c (.lst ((ts.map V.int).drop 1))) r = some (.lst []) := Ex.new nc _ _ hr5
        have hc6 : (upd H5 c (.lst ((ts.map V.int).drop 1))) c = some (.lst ((ts.map V.int).drop 1)) := upd_same
        have e16 := e15.trans (Ex.new (o := .lst ((ts.map V.int).drop 1)) nc)
        generalize upd H5 c (.lst ((ts.map V.int).drop 1)) = H6 at e16 hp6 hd6 hr6 hc6 ⊢
        have npr : p ≠ r := fun z => by
          rw [← z, hp4] at nr
          cases nr
        have ncr : c ≠ r := fun z => by
          rw [z, hr5] at nc
          cases nc
        have ndr : d ≠ r := fun z => by
          rw [← z, hd4] at nr
          cases nr
        have lts : ts.length ≤ ks.length := by rw [per.length_eq]; exact List.length_filter_le _ _
        refine ⟨p, c, _, _, rfl, SqL.of hp6, SqL.of hc6, for_zip (n := ts.length - 1) (xs := ts.map V.int) (ys := (ts.map V.int).drop 1) (by rw [List.length_drop, List.length_map]; omega)
          (fun i σ H7 => ∃ now y8 y9 us rs, σ = [some (.ref a), some (.ref d), y2, y3, y4, some (.ref p), some (.ref r), some (.int now), y8, y9, none] ∧ Ex H H7 ∧ H7 p = some (.lst (ts.map V.int)) ∧ H7 c = some (.lst ((ts.map V.int).drop 1)) ∧ H7 d = some (.dK kvs) ∧ H7 r = some (.lst us) ∧ PaP H7 us rs ∧ rs.length ≤ i ∧
            rs ++ rowsG (chg ps) (ts.drop i) now = rowsG (chg ps) ts 0)
          ⟨0, none, none, [], [], rfl, e16, hp6, hc6, hd6, hr6, .nil, Nat.zero_le _, rfl⟩ (fun i σ H7 _ z => ?_) (fun i x y T σ H7 hi hx hy nT z => ?_) (fun σ H7 z => ?_)⟩
        · obtain ⟨_, _, _, _, _, _, _, k1, k2, _⟩ := z
          exact ⟨SqL.of k1, SqL.of k2⟩
        · obtain ⟨now, y8, y9, us, rs, rfl, e7, hp7, hc7, hd7, hr7, prs, lrs, inv⟩ := z
          rw [List.getElem?_drop, Nat.add_comm 1 i] at hy
          rw [List.getElem?_map] at hx hy
          obtain ⟨s0, gs, rfl⟩ : ∃ s0, ts[i]? = some s0 ∧ x = V.int s0 := by
            cases g : ts[i]? with
            | none => rw [g] at hx; cases hx
            | some s0 => rw [g] at hx; exact ⟨s0, rfl, (Option.some.inj hx).symm⟩
          obtain ⟨f0, gf, rfl⟩ : ∃ f0, ts[i + 1]? = some f0 ∧ y = V.int f0 := by
            cases g : ts[i + 1]? with
            | none => rw [g] at hy; cases hy
            | some s0 => rw [g] at hy; exact ⟨s0, rfl, (Option.some.inj hy).symm⟩
          have mk : s0 ∈ ks := (List.mem_filter.mp (per.mem_iff.mp (List.mem_of_getElem? gs))).1
          have vk := di.val s0
          rw [if_pos mk] at vk
          have x7 := Ex.new (o := .tup [V.int s0, V.int f0]) nT
          have hd8 := x7 _ _ hd7
          have st := rowsG_step (c := chg ps) (now := now) gs gf
          refine ⟨T, _, rfl, SqT.of upd_same, rfl, _, _, rfl, _, _, rfl, rfl, ?_⟩
          have dg := DGet.k (k := Sum.inl s0) hd8
          rw [vk] at dg
          refine ⟨.int now, rfl, .ref d, rfl, .int s0, rfl, d, _, rfl, dg, now, _, rfl, rfl, ?_⟩
          refine ⟨.int (now + chg ps s0), rfl, rfl, _, rfl, ite2 (fun e => ?_) (fun e => ?_)⟩
          · have cz : now + chg ps s0 ≠ 0 := fun z => by
              rw [z] at e
              cases e
            rw [if_pos cz] at st
            refine ⟨.ref r, rfl, .inl ⟨rfl, _, .inl (.inl (x7 _ _ hr7))⟩, .int s0, rfl, .int f0, rfl, f0, 1, rfl, rfl, .int (now + chg ps s0), rfl, by show 3 ≤ sizeLine; decide, fun t nt => ?_⟩
            have x8 := Ex.new (o := .tup [V.int s0, V.int (f0 - 1), V.int (now + chg ps s0)]) nt
            have hr9 := x8 _ _ (x7 _ _ hr7)
            have lu : us.length ≤ i := by rw [Pr.len prs]; exact lrs
            refine ⟨r, us, .ref t, rfl, rfl, hr9, small20 (by omega), now + chg ps s0, some (.int s0), some (.int f0), us ++ [.ref t], rs ++ [(s0, f0 - 1, now + chg ps s0)], rfl, ((e7.trans x7).trans x8).mut nr0, (upd_ne npr).trans (x8 _ _ (x7 _ _ hp7)), (upd_ne ncr).trans (x8 _ _ (x7 _ _ hc7)), (upd_ne ndr).trans (x8 _ _ hd8), upd_same, PaP.lset hr9 (Pr.snoc ((prs.mono x7).mono x8) ⟨t, rfl, upd_same⟩), by rw [List.length_append, List.length_singleton]; omega, ?_⟩
            rw [← inv, st, List.append_assoc]
          · have cz : now + chg ps s0 = 0 := by
              by_cases z : now + chg ps s0 = 0
              · exact z
              · exact absurd (show (!decide (V.int (now + chg ps s0) = V.int 0)) = true by rw [decide_eq_false (fun q => z (V.int.inj q))]; rfl) e
            rw [if_neg (by simp [cz]), List.nil_append] at st
            refine ⟨now + chg ps s0, some (.int s0), some (.int f0), us, rs, rfl, e7.trans x7, x7 _ _ hp7, x7 _ _ hc7, hd8, x7 _ _ hr7, prs.mono x7, Nat.le_succ_of_le lrs, ?_⟩
            rw [← inv, st]
        · obtain ⟨now, y8, y9, us, rs, rfl, e7, hp7, hc7, hd7, hr7, prs, lrs, inv⟩ := z
          rw [rowsG_end (ts.length - 1) (Nat.le_refl _), List.append_nil] at inv
          refine ⟨_, rfl, q r H7 rs nr0 e7 ⟨us, hr7, prs⟩ ?_ ?_⟩
          · rw [inv]
            exact ⟨fc, fw⟩
          · rw [inv]
            omega
theorem ok_init {C : Addr} (T : Ptx K C) (Dcheck_distances : Df P w K mg base "check_distances" 4 ["cold", "pieces"] spCheckDist) (Dflattened : Df P w K mg base "flattened" 1 ["pieces"] spFlat) {f : Addr} {fd : FuncData} (F : Fun K "__init__" "Profile.__init__" sProfile___init__ f fd) :
    FnOk P w K mg base CX0 5 f fd ["self", "cold", "pieces"] (spInit C) := by
  refine F.ok scProfile___init__ (fun vs H Q E h => ?_) (fun cdv A outer s H vs Q E hr h => ?_)
  · obtain ⟨x, dx, c, a, ps, rfl, _⟩ := h
    rfl
  · obtain ⟨x, dx, c, a, ps, rfl, hx, c0, pa, V, q⟩ := h
    refine ⟨_, (pss_cons (ps_expr (pe_df Dcheck_distances hr (pa_cons (pv 1) (pa_cons (pv 2) pa_nil))))
      (pss_cons (ps_fld (pv 0) (pv 1) rfl)
      (pss_one (ps_fld (pv 0) (pe_df Dflattened hr (pa_cons (pv 2) pa_nil)) rfl)))), ?_⟩
    refine ⟨.int c, rfl, .ref a, rfl, c, a, ps, rfl, c0, pa, V.pok, V.asc, by have := V.few; omega, fun H1 e1 => ?_⟩
    have hx1 := e1 _ _ hx
    refine ⟨.int c, rfl, .ref x, rfl, x, C, dx, [], rfl, hx1, T.cl, T.nC, (by show 0 < 1000; decide), ?_⟩
    obtain ⟨vs, ha, pv⟩ := pa.mono e1
    have nxa : a ≠ x := ne_of ha hx1 (by intro z; cases z)
    have pa2 : Pcs (upd H1 x (.ins C dx (putF "cold" (.int c) []))) a ps := ⟨vs, (upd_ne nxa).trans ha, Pr.imp (fun v p r => by
      obtain ⟨t, e, ht⟩ := r
      exact ⟨t, e, (upd_ne (ne_of ht hx1 (by intro z; cases z))).trans ht⟩) pv⟩
    refine ⟨.ref a, rfl, a, ps, rfl, pa2, by have := V.few; omega, fun l H2 rs nl e2 hl Tl lr => ?_⟩
    have hx2 := e2 _ _ (upd_same (H := H1) (a := x) (o := .ins C dx (putF "cold" (.int c) [])))
    refine ⟨.ref x, rfl, x, C, dx, _, rfl, hx2, T.cl, T.nP, (by show 1 < 1000; decide), ?_⟩
    rw [pf_put]
    obtain ⟨us, hl2, pl⟩ := hl
    have nxl : l ≠ x := ne_of hl2 hx2 (by intro z; cases z)
    refine q _ rs (fun b o nb hb => ?_) ⟨⟨dx, l, upd_same, us, (upd_ne nxl).trans hl2, Pr.imp (fun v p r => by
      obtain ⟨t, e, ht⟩ := r
      exact ⟨t, e, (upd_ne (ne_of ht hx2 (by intro z; cases z))).trans ht⟩) pl⟩, V.tells Tl, Tl.can, by have := V.few; omega⟩ Tl
    rw [upd_ne nb]
    exact e2 _ _ ((upd_ne nb).trans (e1 _ _ hb))
end
end Kb

namespace Kb
open PySem PySem.Spec PyProof.Rows L2 StX
abbrev s_law_beyond : Stmt := topS 30
theorem sc_law_beyond : FnScope ["given", "size", "low", "high", "often"] ["given", "size"] (defScope s_law_beyond) := ⟨rfl, rfl, rfl, by decide +kernel, rfl, by decide +kernel, by decide +kernel⟩
/-- the least size with at most so many misses beyond the cold ones -/
def Lst (rs : List Pc) (m z : Int) : Prop := 0 ≤ z ∧ bey rs z ≤ m ∧ (0 < z → m < bey rs (z - 1))
def spCov : Sp := fun vs H Q _ => ∃ (a : Addr) (rs : List Pc) (m : Int), vs = [.ref a, .int m] ∧ Pcs H a rs ∧ Bd rs ∧ Can rs ∧ rs.length ≤ 20000 ∧ 0 ≤ m ∧ m ≤ 10 ^ 600 ∧ ∀ z, Lst rs m z → RetV (.int z) H Q
def spLeast (C : Addr) : Sp := fun vs H Q _ => ∃ (x : Addr) (c : Int) (rs : List Pc) (m : Int), vs = [.ref x, .int m] ∧ Pf C H x c rs ∧ 0 ≤ c ∧ 0 ≤ m ∧ m ≤ 10 ^ 600 ∧ ((m < c ∧ RetV .non H Q) ∨ (c ≤ m ∧ ∀ z, Lst rs (m - c) z → RetV (.int z) H Q))
def spLBey : Sp := fun vs H Q _ => ∃ (a : Addr) (ps : List Pc) (s : Int), vs = [.ref a, .int s] ∧ Pcs H a ps ∧ Val ps ∧ RetV (.int (bey ps s)) H Q
section
variable {P : Program} {w : World} {K : PySem.W.Frag} {mg : Str → Option Value} {base : Heap}
theorem ok_cov (B : Bt mg) (B2 : mg "reversed" = none) {f : Addr} {fd : FuncData} (F : Fun K "least_covering" "least_covering" sleast_covering f fd) : FnOk P w K mg base CX0 1 f fd ["pieces", "many"] spCov := by
  refine F.ok scleast_covering (fun vs H Q E h => ?_) (fun cdv A outer s H vs Q E hr h => ?_)
  · obtain ⟨a, rs, m, rfl, _⟩ := h
    rfl
  · obtain ⟨a, rs, m, rfl, ⟨vs, ha, pa⟩, bd, can, few, m0, m1, q⟩ := h
    refine ⟨_, (pss_cons (ps_set (i := 2) scleast_covering.nd rfl (by first | exact Or.inl rfl | exact Or.inr rfl) (pv 1))
      (pss_cons (ps_for PassesOwn.never rfl (pi_reversed (by rfl) (Br.reversed ⟨B2⟩) (pa_cons (pv 0) pa_nil)) (pg_tup rfl (pgs_cons (pg_name (i := 3) scleast_covering.nd rfl (by first | exact Or.inl rfl | exact Or.inr rfl)) (pgs_cons (pg_name (i := 4) scleast_covering.nd rfl (by first | exact Or.inl rfl | exact Or.inr rfl)) (pgs_cons (pg_name (i := 5) scleast_covering.nd rfl (by first | exact Or.inl rfl | exact Or.inr rfl)) pgs_nil)))) (pss_cons (ps_set (i := 6) scleast_covering.nd rfl (by first | exact Or.inl rfl | exact Or.inr rfl) (pe_op op_mulW (pe_op op_add (pe_op op_sub (pv 4) (pv 3)) pe_int) (pv 5)))
      (pss_cons (ps_if (pt_cmpR op_gt (pv 6) (pv 2) (nomark _)) (pss_one (ps_ret (pe_op op_sub (pv 4) (pe_op op_fdivW (pv 2) (pv 5))))) pss_nil)
      (pss_one (ps_set (i := 2) scleast_covering.nd rfl (by first | exact Or.inl rfl | exact Or.inr rfl) (pe_op op_sub (pv 2) (pv 6)))))))
      (pss_one (ps_ret pe_int)))), ?_⟩
    have lv : vs.length = rs.length := Pr.len pa
    have big : (10 : Nat) ^ 300 < 2 ^ 1000 := by decide +kernel
    have pok : ∀ p ∈ rs.reverse, Pok p := fun p hp => (bd p (List.mem_reverse.mp hp)).1
    obtain ⟨z0, z1, z2, _⟩ := lcov_ok can.desc pok m0
    rw [bey_rev] at z1 z2
    have fin := q _ ⟨z0, z1, z2⟩
    refine ⟨.int m, rfl, .ref a, rfl, a, vs, rfl, SqL.of ha, RT.for_Itv (xs := vs) (fun i σ H1 => ∃ left y3 y4 y5 y6, σ = [some (.ref a), some (.int m), some (.int left), y3, y4, y5, y6] ∧ Ex H H1 ∧ lcov rs.reverse m = lcov (rs.reverse.drop i) left) ⟨m, none, none, none, none, rfl, Ex.refl _, rfl⟩ (fun i σ H1 z => ?_) (fun i v σ H1 hi hx z => ?_) (fun σ H1 z => ?_)⟩
    · obtain ⟨_, _, _, _, _, _, e1, _⟩ := z
      exact SqL.of (e1 _ _ ha)
    · obtain ⟨left, y3, y4, y5, y6, rfl, e1, hl⟩ := z
      obtain ⟨⟨l, h, t⟩, gs, tp, rfl, ht⟩ := Pr.get pa hx
      obtain ⟨⟨b1, b2, b3⟩, b4, b5⟩ := bd _ (List.mem_of_getElem? gs)
      have b1' : 1 ≤ l := b1
      have b2' : l ≤ h := b2
      have b3' : 1 ≤ t := b3
      have b4' : h ≤ 10 ^ 300 := b4
      have b5' : t ≤ 10 ^ 300 := b5
      have gr : rs.reverse[i]? = some (l, h, t) := by
        rw [List.getElem?_reverse (by omega), ← lv]
        exact gs
      obtain ⟨hir, eg⟩ := List.getElem?_eq_some_iff.mp gr
      rw [List.drop_eq_getElem_cons hir, eg] at hl
      have hl : lcov rs.reverse m = if (h - l + 1) * t > left then h - left / t else lcov (rs.reverse.drop (i + 1)) (left - (h - l + 1) * t) := hl
      refine ⟨tp, _, rfl, SqT.of (e1 _ _ ht), rfl, _, _, rfl, _, _, rfl, _, _, rfl, rfl, ?_⟩
      refine ⟨.int h, rfl, .int l, rfl, h, l, rfl, rfl, h - l, 1, rfl, rfl, .int t, rfl, h - l + 1, t, rfl, rfl, ?_, ?_⟩
      · exact wide_mul (a := 1000) (b := 1000) (Nat.lt_of_le_of_lt (m := 10 ^ 300) (by omega) big) (Nat.lt_of_le_of_lt (m := 10 ^ 300) (by omega) big) (by decide) (by decide) (by decide)
      refine ⟨_, rfl, .int left, rfl, _, left, rfl, rfl, _, rfl, ite2 (fun e => ?_) (fun e => ?_)⟩
      · have e' : left < (h - l + 1) * t := of_decide_eq_true e
        rw [if_pos e'] at hl
        refine ⟨.int h, rfl, .int left, rfl, .int t, rfl, left, t, rfl, rfl, ⟨by omega, Nat.lt_trans (PySem.Flt.log2_lt_of (k := 1000) (by decide) (Nat.lt_of_le_of_lt (m := 10 ^ 300) (by omega) big)) (by decide)⟩, h, _, rfl, rfl, ?_⟩
        have := fin H1 e1
        rw [hl] at this
        exact this
      · have e' : ¬ left < (h - l + 1) * t := fun y => e (decide_eq_true y)
        rw [if_neg e'] at hl
        exact ⟨.int left, rfl, _, rfl, left, _, rfl, rfl, left - (h - l + 1) * t, some (.int l), some (.int h), some (.int t), some (.int ((h - l + 1) * t)), rfl, e1, hl⟩
    · obtain ⟨left, y3, y4, y5, y6, rfl, e1, hl⟩ := z
      rw [List.drop_eq_nil_of_le (by rw [List.length_reverse]; omega)] at hl
      have := fin H1 e1
      rw [hl] at this
      exact this
theorem ok_least {C : Addr} (T : Ptx K C) (Dcheck_from : Df P w K mg base "check_from" 2 ["number", "least"] spCheckFrom) (Dleast_covering : Df P w K mg base "least_covering" 1 ["pieces", "many"] spCov) {f : Addr} {fd : FuncData} (F : Fun K "least_size" "Profile.least_size" sProfile_least_size f fd) :
    FnOk P w K mg base CX0 3 f fd ["self", "misses"] (spLeast C) := by
  refine F.ok scProfile_least_size (fun vs H Q E h => ?_) (fun cdv A outer s H vs Q E hr h => ?_)
  · obtain ⟨x, c, rs, z, rfl, _⟩ := h
    rfl
  · obtain ⟨x, c, rs, m, rfl, Pp, c0, m0, m1, q⟩ := h
    refine ⟨_, (pss_cons (ps_expr (pe_df Dcheck_from hr (pa_cons (pv 1) (pa_cons pe_int pa_nil))))
      (pss_cons (ps_if (pt_cmpR op_lt (pv 1) (pe_fld (pv 0) rfl) (nomark _)) (pss_one (ps_ret pe_non)) pss_nil)
      (pss_one (ps_ret (pe_df Dleast_covering hr (pa_cons (pe_fld (pv 0) rfl) (pa_cons (pe_op op_sub (pv 1) (pe_fld (pv 0) rfl)) pa_nil))))))), ?_⟩
    refine ⟨.int m, rfl, m, 0, rfl, m0, fun H1 e1 => ?_⟩
    obtain ⟨dx, l, hx, hl⟩ := Pp.at_.mono e1
    refine ⟨.int m, rfl, .ref x, rfl, x, C, dx, _, _, rfl, hx, T.cl, T.nC, pf_cold _ _, m, c, rfl, rfl, _, rfl, ?_⟩
    rcases q with ⟨lt, q⟩ | ⟨le, q⟩
    · rw [decide_eq_true lt]
      exact iteT (q H1 e1)
    · rw [decide_eq_false (show ¬ m < c by omega)]
      refine iteF ⟨.ref x, rfl, x, C, dx, _, _, rfl, hx, T.cl, T.nP, pf_pieces _ _, .int m, rfl, .ref x, rfl, x, C, dx, _, _, rfl, hx, T.cl, T.nC, pf_cold _ _, m, c, rfl, rfl, l, rs, m - c, rfl, hl, Pp.bd, Pp.can, by have := Pp.few; omega, by omega, by omega, fun z hz H2 e2 => q z hz H2 (e1.trans e2)⟩
theorem ok_lbey14 (B : Bt mg) {f : Addr} {fd : FuncData} (F : Fun K "_law_beyond" "_law_beyond" s_law_beyond f fd) : FnOk P w K mg base CX0 1 f fd ["given", "size"] spLBey := by
  refine F.ok sc_law_beyond (fun vs H Q E h => ?_) (fun cdv A outer s H vs Q E hr h => ?_)
  · obtain ⟨a, ps, z, rfl, _⟩ := h
    rfl
  · obtain ⟨a, ps, z, rfl, ⟨vs, ha, pa⟩, Vp, q⟩ := h
    refine ⟨_, (pss_one (ps_ret (pe_callB (cr_sum rfl) (by rfl) B.sum bo_sum (pa_cons (pe_lc (own := [("low", 2), ("high", 3), ("often", 4)]) (g := (gTup K 3 (gCons (gName 2) (gCons (gName 3) (gCons (gName 4) gNil))))) (te := (tOp _ (tVar 4) (tCB _ (tCons _ (tCons (tOp _ (tVar 3) (tCB _ (tCons (tOp _ (tVar 2) _) (tCons (tVar 1) tNil)))) tNil))))) rfl sc_law_beyond.nd (pi_list (pv 0)) (blkOk_by (N := ["given", "size", "low", "high", "often"]) (sc := defScope s_law_beyond) (by decide +kernel)) (by exact fun _ _ _ _ _ => (pg_tup rfl (pgs_cons (pg_name (i := 2) sc_law_beyond.nd rfl (by first | exact Or.inl rfl | exact Or.inr rfl)) (pgs_cons (pg_name (i := 3) sc_law_beyond.nd rfl (by first | exact Or.inl rfl | exact Or.inr rfl)) (pgs_cons (pg_name (i := 4) sc_law_beyond.nd rfl (by first | exact Or.inl rfl | exact Or.inr rfl)) pgs_nil))))) (by exact fun _ _ _ _ _ => pts_nil) (by exact fun _ _ _ _ _ => (pe_op op_mulW (pv 4) (pe_callB (call_max2 rfl) (by rfl) B.max bo_max (pa_cons pe_int (pa_cons (pe_op op_sub (pv 3) (pe_callB (call_max2 rfl) (by rfl) B.max bo_max (pa_cons (pe_op op_sub (pv 2) pe_int) (pa_cons (pv 1) pa_nil)))) pa_nil)))))) pa_nil)))), ?_⟩
    have lv : vs.length = ps.length := Pr.len pa
    have few := Vp.few
    refine ⟨.ref a, rfl, a, rfl, ⟨_, SqL.of ha⟩, fun D hD => lc_list (xs := vs) (fun i H1 => Ex H H1 ∧ H1 D = some (.lst (((ps.take i).map fun p => be1 p z).map V.int))) ⟨Ex.new hD, upd_same⟩ (fun i H1 _ p => SqL.of (p.1 _ _ ha)) (fun i v H1 hx p => ?_) (fun H1 p => ?_)⟩
    · obtain ⟨e1, hL⟩ := p
      obtain ⟨⟨l, h, t⟩, gs, tp, rfl, ht⟩ := Pr.get pa hx
      have li : i < ps.length := (List.getElem?_eq_some_iff.mp gs).1
      obtain ⟨⟨b1, b2, b3⟩, b4, b5⟩ := Vp.bd _ (List.mem_of_getElem? gs)
      have b1' : 1 ≤ l := b1
      have b2' : l ≤ h := b2
      have b3' : 1 ≤ t := b3
      have b4' : h ≤ 10 ^ 200 := b4
      have b5' : t ≤ 10 ^ 200 := b5
      have big : (10 : Nat) ^ 200 < 2 ^ 1000 := by decide +kernel
      refine ⟨tp, _, rfl, SqT.of (e1 _ _ ht), rfl, _, _, rfl, _, _, rfl, _, _, rfl, rfl, rfl, ?_⟩
      refine ⟨.int t, rfl, .int h, rfl, .int l, rfl, l, 1, rfl, rfl, .int z, rfl, l - 1, z, rfl, h, _, rfl, rfl, 0, _, rfl, t, _, rfl, rfl, ?_, ?_⟩
      · refine wide_mul (a := 1000) (b := 1000) (Nat.lt_of_le_of_lt (m := 10 ^ 200) (by omega) big) (Nat.lt_of_le_of_lt (m := 10 ^ 200) ?_ big) (by decide) (by decide) (by decide)
        split <;> split at * <;> omega
      refine ⟨_, hL, by rw [List.length_map, List.length_map, List.length_take]; exact small20 (by omega), e1.mut hD, ?_⟩
      rw [upd_same, List.take_add_one, gs, List.map_append, List.map_append, max_if, max_if]
      rfl
    · obtain ⟨e1, hL⟩ := p
      rw [lv, List.take_length] at hL
      exact ⟨D, _, rfl, SqL.of hL, q.go e1⟩
end
end Kb

namespace Kb
open PySem PySem.Spec PyProof.Rows L2 StX
/-! ### own operators: ==, !=, +, * of instances of an own class -/
inductive Ty2 (H : Hp) : V → Value → Prop where
  | non : Ty2 H .non (.type "NoneType")
  | bl (b : Bool) : Ty2 H (.bl b) (.type "bool")
  | int (i : Int) : Ty2 H (.int i) (.type "int")
  | str (x : Str) : Ty2 H (.str x) (.type "str")
  | lst {a : Addr} {xs : List V} (e : H a = some (.lst xs)) : Ty2 H (.ref a) (.type "list")
  | tup {a : Addr} {xs : List V} (e : H a = some (.tup xs)) : Ty2 H (.ref a) (.type "tuple")
  | dK {a : Addr} {kvs : List (Key × V)} (e : H a = some (.dK kvs)) : Ty2 H (.ref a) (.type "dict")
  | ins {a C dx : Addr} {fs : List (Str × V)} (e : H a = some (.ins C dx fs)) : Ty2 H (.ref a) (.ref C)
section
variable {X : Cx} {pins : List (Addr × Obj)} {σ : L2.St} {H : Hp} {s : Shared}
theorem looks_cls {M : Model} {h : Heap} {a : Addr} {o : Obj} (e : h.get? a = some o) : PySem.W.Looks M h (typeOf (.ref a)) o.cls := (PySem.W.Looks.ld e).andThen .now
theorem looks_typeIs {M : Model} {a : Addr} {T : String} (e : s.TypeIs (.ref a) T) : PySem.W.Looks M s.heap (typeOf (.ref a)) (.type T) := by
  obtain ⟨o, h1, h2⟩ := e
  rw [← h2]
  exact looks_cls h1
theorem ty_looks {M : Model} {y : V} {u t : Value} (I : Inv X pins σ H s) (r : RelV y u) (ty : Ty2 H y t) : PySem.W.Looks M s.heap (typeOf u) t := by
  cases ty with
  | non =>
    cases (show u = Value.none from r)
    exact PySem.W.Looks.of_pure rfl
  | bl b =>
    cases (show u = Value.bool b from r)
    exact PySem.W.Looks.of_pure rfl
  | int i =>
    obtain ⟨tk, rfl⟩ := r
    exact PySem.W.Looks.of_pure rfl
  | str x =>
    obtain ⟨tk, rfl⟩ := r
    exact PySem.W.Looks.of_pure rfl
  | lst e =>
    cases (show u = Value.ref _ from r)
    obtain ⟨its, rv, hl, hz⟩ := I.list (SqL.of e)
    exact looks_typeIs hl.isList.typeIs
  | tup e =>
    cases (show u = Value.ref _ from r)
    obtain ⟨its, rv, hl, hz⟩ := I.tuple (SqT.of e)
    exact looks_typeIs hl.typeIs
  | dK e =>
    cases (show u = Value.ref _ from r)
    exact looks_typeIs (dict_typeIs I (DGet.k (k := Sum.inl 0) e))
  | ins e =>
    cases (show u = Value.ref _ from r)
    obtain ⟨mA, J, _⟩ := ins_get I.hok e
    obtain ⟨od, J, _⟩ := J.look
    exact J.type
/-- an own def run on values, somewhere below the running body -/
theorem own_run {C : Addr} {k : Nat} {f : Addr} {fd : FuncData} {ps : List Str} {sp : Sp} {A : Around} {us : List Value} {vs : List V} {Q : VK} {E' : Value → Shared → Prop} (F : FnOk X.prog X.w X.K X.mg X.base CX0 k f fd ps sp) (hb : Binds X.K fd ps []) (hr : Room k A) (hfr : A.frames = X.A.frames)
    (I : Inv X pins σ H s) (r : Vals vs us) (h : sp vs H Q E0) : wpAny (model X.prog X.w) A (call (.ref f) us) (fun w' s' => ∃ v H', Inv X pins σ H' s' ∧ RelV v w' ∧ Q v H') E' s := by
  have e0 : Env0 X.prog X.w X.K X.mg X.base A X.stack s H := by
    have e := I.env0
    exact ⟨by rw [hfr]; exact e.frames, e.mod, e.bs, e.bsz, e.funs, e.frf, e.hok, e.bare⟩
  have hl := F.len _ _ _ _ h
  refine wpAny_call (codeAny_mono (F.run A X.stack s H ⟨us, []⟩ us vs Q E0 hr e0 (by
    have := hb s us I.kIn (by rw [List.append_nil, ← r.length]; exact hl)
    rw [List.append_nil] at this
    exact this) r h) fun fr s' hq => ?_)
  cases fr with
  | error e => exact hq.elim
  | ok fl =>
    cases fl with
    | ret w' =>
      obtain ⟨z, H', I', rz, q⟩ := I.after hq
      exact ⟨z, H', I', rz, q⟩
    | next => exact False.elim hq
    | brk => exact False.elim hq
    | cont => exact False.elim hq
/-- its answer is a truth -/
def rOwnB (K : PySem.W.Frag) (C : Addr) (sp : Sp) (flip : Bool) : R2 := fun x y H Q => ∃ a dx fs t, x = .ref a ∧ H a = some (.ins C dx fs) ∧ Ty2 H y t ∧ PySem.W.notFirst K C t = true ∧ sp [x, y] H (fun v H' => ∃ k : Bool, v = .bl k ∧ Q (.bl (if flip then !k else k)) H') E0
theorem op_ownEq {C : Addr} {k k' : Nat} {sp : Sp} (D : DMt X.prog X.w X.K X.mg X.base C "__eq__" k ["self", "other"] sp) (hr : Room k' X.A) (hk : k ≤ k' := by decide) : OpR X (compareOp .Eq) (rOwnB X.K C sp false) := by
  intro pins s σ H x y v u Q I rx ry hq
  obtain ⟨f, fd, hcl, hm, hb, F⟩ := D.ex
  obtain ⟨a, dx, fs, t, rfl, ha, ty, nf, q⟩ := hq
  cases (show v = Value.ref a from rx)
  obtain ⟨mA, J, _⟩ := ins_get I.hok ha
  obtain ⟨od, J, _⟩ := J.look
  obtain ⟨m, hF⟩ := I.fr
  refine PySem.W.cmp_K (op := .Eq) (tb := t) (hr.mono hk).units0 hF I.ok.mod.kin J (ty_looks I ry ty) nf hm.at_ hm.fn ?_
  refine wpAny_mono (own_run (C := C) F hb (hr.mono hk) rfl I (.cons (show RelV (V.ref a) (Value.ref a) from rfl) (.cons ry .nil)) q) (fun w' s' z => ?_) fun _ _ e => e
  obtain ⟨v', H', I', rv, b, rfl, q'⟩ := z
  cases (show w' = Value.bool b from rv)
  exact ⟨.bl b, H', I', rfl, q'⟩
theorem ifBound_KS {A : Around} {E : Value → Shared → Prop} {K : PySem.W.Frag} {x C : Addr} {ox : Obj} {od : Option Obj} {name : Str} {id : String} {M : Model} {args : List Value} {Q : Option Value → Shared → Prop} (X : K.In s.heap) (I : PySem.W.InstAt s.heap x ox C od)
    (hs : PySem.W.findIn K (.ref C) name = some (some (.builtin id))) (S : Slot "object" name id)
    (h : wpAny M A (call (.builtin id) (.ref x :: args)) (fun v => Q (some v)) E s) : wpAny M A (callSpecialIfBound? (.ref x) name args) Q E s := by
  simp only [callSpecialIfBound?, bindSpecialIfBound?]
  refine wpAny_holding (wpAny_bind (wpAny_bind (wpAny_bind (I.type.here ((PySem.W.looks_findIn X hs).here ?_)))))
  simp only [S.bind]
  refine wpAny_bind (wpAny_askSetting (wpAny_ite ?_))
  have fin : wpAny M A (call (.builtin id) ([.ref x] ++ args) >>= fun v => pure (some v)) Q E s := wpAny_bind (wpAny_mono h (fun v s' h' => wpAny_pure h') fun _ _ h' => h')
  split
  · exact wpAny_bind (wpAny_pure (wpAny_pure fin))
  · exact wpAny_tryCatch (wpAny_bind (wpAny_pure (wpAny_pure fin)))
theorem op_ownNe {C : Addr} {k k' : Nat} {sp : Sp} (D : DMt X.prog X.w X.K X.mg X.base C "__eq__" k ["self", "other"] sp) (hne : PySem.W.findIn X.K (.ref C) "__ne__" = some (some (.builtin "object.__ne__"))) (hso : PySem.W.subIn X.K (.ref C) (.type "object") = some true)
    (hr : Room k' X.A) (hk : k + 1 ≤ k' := by decide) : OpR X (compareOp .NotEq) (rOwnB X.K C sp true) := by
  intro pins s σ H x y v u Q I rx ry hq
  obtain ⟨f, fd, hcl, hm, hb, Fn⟩ := D.ex
  obtain ⟨a, dx, fs, t, rfl, ha, ty, nf, q⟩ := hq
  cases (show v = Value.ref a from rx)
  obtain ⟨mA, J, _⟩ := ins_get I.hok ha
  obtain ⟨od, J, _⟩ := J.look
  have hr1 : Room k X.A.in1 := (hr.mono hk).in1
  have hu : X.A.units + 1 < cLine := hr1.units0
  have hu0 : X.A.units < cLine := Nat.lt_of_succ_lt hu
  have S : Slot "object" "__ne__" "object.__ne__" := Slot.of (T := "object") (name := "__ne__") (owner := "object") (n := "__ne__") (by rw [typeLookup_type, builtinLookup_eq_fast]; kernel_rfl) (by decide +kernel) (by decide +kernel) (by decide +kernel)
    (.inl (by decide +kernel)) (by rw [isSubtype_type]; kernel_rfl)
  have one : wpAny (model X.prog X.w) X.A (tryCompare (.ref a) "__ne__" u) (fun r s' => ∃ w', r = some w' ∧ EP X pins σ Q w' s') X.xe s := by
    unfold tryCompare
    refine wpAny_bind (ifBound_KS I.kIn J hne S (wpAny_call (codeAny_call_builtin S.plain PySem.F.cmpEntry_ne (PySem.W.check_slot PySem.F.cmpKind_ne PySem.F.cmpSplit_ne ((J.type).andThen (PySem.W.looks_subIn I.kIn hso)) (PySem.F.cmpArgs_ne _ _) ?_))))
    unfold Builtin.«object.__ne__»
    repeat (first
      | with_reducible refine wpAny_cRoomFor hu ?_
      | (refine wpAny_bind (m := callSpecialIfBound? (.ref a) (Str.ofString "__eq__") [u])
          (PySem.W.ifBound_K I.kIn J hm.at_ hm.fn (wpAny_mono (own_run (C := C) Fn hb hr1 rfl I (.cons (show RelV (V.ref a) (Value.ref a) from rfl) (.cons ry .nil)) q) (fun r s' z => by
            obtain ⟨v', H', I', rv, b, rfl, q'⟩ := z
            cases (show r = Value.bool b from rv)
            refine wpAny_bind (m := truthy (.bool b)) (wpAny_truthy_bool ?_)
            refine wpAny_pure ?_
            exact wpAny_pure ⟨_, rfl, .bl (!b), H', I', rfl, q'⟩) fun _ _ e => e)))
      | wp_step)
  show wpAny (model X.prog X.w) X.A (richCompare .NotEq (.ref a) u) (EP X pins σ Q) X.xe s
  unfold richCompare
  simp only [oneThing_ref]
  refine wpAny_holding (wpAny_bind (wpAny_cRoomFor hu0 ?_))
  refine wpAny_bind (J.type.here (wpAny_bind ((ty_looks I ry ty).here ?_)))
  rw [cmpInfo_NotEq]
  dsimp only
  split
  · rename_i qq
    have e : PySem.W.subIn X.K t (.ref C) = some false := by
      rcases Bool.or_eq_true_iff.mp nf with e | e
      · rw [beq_iff_eq.mp e] at qq; simp at qq
      · exact beq_iff_eq.mp e
    refine wpAny_bind ((PySem.W.looks_subIn I.kIn e).here ?_)
    simp only [Bool.false_eq_true, if_false]
    refine wpAny_bind (wpAny_mono one (fun r s' z => ?_) fun _ _ e => e)
    obtain ⟨v', rfl, hq'⟩ := z
    exact wpAny_pure hq'
  · refine wpAny_bind (wpAny_pure ?_)
    simp only [Bool.false_eq_true, if_false]
    refine wpAny_bind (wpAny_mono one (fun r s' z => ?_) fun _ _ e => e)
    obtain ⟨v', rfl, hq'⟩ := z
    exact wpAny_pure hq'
end
end Kb

namespace Kb
/-! ### pieces put together -/
def jst (acc : List Pc) (p : Pc) : List Pc := match acc.getLast? with
  | some q => if q.2.1 = p.1 - 1 ∧ q.2.2 = p.2.2 then acc.dropLast ++ [(q.1, p.2.1, p.2.2)] else acc ++ [p]
  | none => [p]
def jnP (ps : List Pc) : List Pc := ps.foldl jst []
theorem jst_nil (p : Pc) : jst [] p = [p] := rfl
theorem jst_snoc (pre : List Pc) (q p : Pc) : jst (pre ++ [q]) p = if q.2.1 = p.1 - 1 ∧ q.2.2 = p.2.2 then pre ++ [(q.1, p.2.1, p.2.2)] else pre ++ [q] ++ [p] := by
  unfold jst
  rw [show (pre ++ [q]).getLast? = some q by simp]
  dsimp only
  rw [show (pre ++ [q]).dropLast = pre by simp]
theorem atP_app (a b : List Pc) (d : Int) : atP (a ++ b) d = atP a d + atP b d := by simp [atP]
theorem atP_one (p : Pc) (d : Int) : atP [p] d = at1 p d := by simp [atP]
theorem Can.one {p : Pc} (h1 : p.1 ≤ p.2.1) (h2 : p.2.2 ≠ 0) : Can [p] := ⟨h1, h2, fun q hq => (by cases hq), trivial⟩
theorem Can.snoc : ∀ {pre : List Pc} {q p : Pc}, Can (pre ++ [q]) → p.1 ≤ p.2.1 → p.2.2 ≠ 0 → q.2.1 < p.1 → (q.2.1 + 1 = p.1 → q.2.2 ≠ p.2.2) → Can (pre ++ [q] ++ [p])
  | [], q, p, c, h1, h2, h3, h4 => ⟨c.1, c.2.1, fun x hx => by cases hx; exact ⟨h3, h4⟩, h1, h2, fun x hx => (by cases hx), trivial⟩
  | [x], q, p, c, h1, h2, h3, h4 => ⟨c.1, c.2.1, fun y hy => c.2.2.1 y hy, Can.snoc (pre := []) c.2.2.2 h1 h2 h3 h4⟩
  | x :: y :: r, q, p, c, h1, h2, h3, h4 => ⟨c.1, c.2.1, fun z hz => c.2.2.1 z hz, Can.snoc (pre := y :: r) c.2.2.2 h1 h2 h3 h4⟩
theorem Can.ext : ∀ {pre : List Pc} {q : Pc} {h : Int}, Can (pre ++ [q]) → q.2.1 ≤ h → Can (pre ++ [(q.1, h, q.2.2)])
  | [], q, h, c, k => ⟨by have := c.1; show q.1 ≤ h; omega, c.2.1, fun x hx => (by cases hx), trivial⟩
  | [x], q, h, c, k => ⟨c.1, c.2.1, fun y hy => by cases hy; exact c.2.2.1 q rfl, Can.ext (pre := []) c.2.2.2 k⟩
  | x :: y :: r, q, h, c, k => ⟨c.1, c.2.1, fun z hz => c.2.2.1 z hz, Can.ext (pre := y :: r) c.2.2.2 k⟩
theorem jp_go : ∀ (rs acc : List Pc), Can acc → (∀ q ∈ acc.getLast?, ∀ p ∈ rs, q.2.1 < p.1) → (∀ p ∈ rs, Pok p) → rs.Pairwise (fun a b => a.2.1 < b.1) →
    Can (rs.foldl jst acc) ∧ ∀ d, atP (rs.foldl jst acc) d = atP acc d + atP rs d
  | [], acc, c, _, _, _ => ⟨c, fun d => by show atP acc d = atP acc d + 0; omega⟩
  | p :: r, acc, c, lt, ok, asc => by
    obtain ⟨p1, p2, p3⟩ := ok p (List.mem_cons_self ..)
    have as2 := List.pairwise_cons.mp asc
    have ok' : ∀ q ∈ r, Pok q := fun q hq => ok q (List.mem_cons_of_mem _ hq)
    have key : ∀ acc', acc' = jst acc p → Can acc' ∧ (∃ q, acc'.getLast? = some q ∧ q.2.1 = p.2.1) ∧ ∀ d, atP acc' d = atP acc d + at1 p d := by
      intro acc' e
      subst e
      rcases List.eq_nil_or_concat acc with rfl | ⟨pre, q, rfl⟩
      · exact ⟨Can.one p2 (by omega), ⟨p, rfl, rfl⟩, fun d => by rw [jst_nil, atP_one]; show _ = 0 + _; omega⟩
      · rw [List.concat_eq_append] at *
        have hq := lt q (by simp) p (List.mem_cons_self ..)
        rw [jst_snoc]
        by_cases h : q.2.1 = p.1 - 1 ∧ q.2.2 = p.2.2
        · rw [if_pos h]
          refine ⟨?_, ⟨(q.1, p.2.1, p.2.2), by simp, rfl⟩, fun d => ?_⟩
          · rw [← h.2]
            exact c.ext (by omega)
          · have qq := c.le q (by simp)
            rw [atP_app, atP_app, atP_one, atP_one]
            have : at1 (q.1, p.2.1, p.2.2) d = at1 q d + at1 p d := by
              obtain ⟨e1, e2⟩ := h
              unfold at1
              show (if q.1 ≤ d ∧ d ≤ p.2.1 then p.2.2 else 0) = _
              rw [e2]
              by_cases a : q.1 ≤ d ∧ d ≤ q.2.1
              · rw [if_pos a, if_pos (by omega), if_neg (by omega)]
                omega
              · rw [if_neg a]
                by_cases b : p.1 ≤ d ∧ d ≤ p.2.1
                · rw [if_pos b, if_pos (by omega)]
                  omega
                · rw [if_neg b, if_neg (by omega)]
                  omega
            omega
        · rw [if_neg h]
          refine ⟨c.snoc p2 (by omega) hq fun e z => h ⟨by omega, z⟩, ⟨p, by simp, rfl⟩, fun d => ?_⟩
          rw [atP_app, atP_one]
    obtain ⟨k1, ⟨q, k2, k3⟩, k4⟩ := key _ rfl
    have ih := jp_go r (jst acc p) k1 (fun x hx y hy => by
      rw [k2] at hx
      cases hx
      have := as2.1 y hy
      omega) ok' as2.2
    refine ⟨ih.1, fun d => ?_⟩
    show atP (r.foldl jst (jst acc p)) d = _
    rw [ih.2, k4, atP_cons]
    omega
theorem jp_ok {ps : List Pc} (ok : ∀ p ∈ ps, Pok p) (asc : ps.Pairwise fun a b => a.2.1 < b.1) : Can (jnP ps) ∧ ∀ d, atP (jnP ps) d = atP ps d := by
  have g := jp_go ps [] trivial (fun q hq => (by cases hq)) ok asc
  refine ⟨g.1, fun d => ?_⟩
  show atP (ps.foldl jst []) d = _
  rw [g.2]
  show 0 + _ = _
  omega
/-- what a profile holds is what is put together -/
theorem Tells.jn {ps rs : List Pc} (T : Tells ps rs) (ok : ∀ p ∈ ps, Pok p) (asc : ps.Pairwise fun a b => a.2.1 < b.1) : rs = jnP ps := by
  have j := jp_ok ok asc
  exact Can.unique T.can j.1 fun d => by rw [T.at ok, j.2]
theorem jp_same {ps qs : List Pc} (ok : ∀ p ∈ ps, Pok p) (asc : ps.Pairwise fun a b => a.2.1 < b.1) (ok' : ∀ p ∈ qs, Pok p) (asc' : qs.Pairwise fun a b => a.2.1 < b.1) (h : ∀ d, atP qs d = atP ps d) : jnP qs = jnP ps := by
  have j := jp_ok ok asc
  have j' := jp_ok ok' asc'
  exact Can.unique j'.1 j.1 fun d => by rw [j.2, j'.2, h]
theorem jst_len (acc : List Pc) (p : Pc) : (jst acc p).length ≤ acc.length + 1 := by
  rcases List.eq_nil_or_concat acc with rfl | ⟨pre, q, rfl⟩
  · exact Nat.le_refl _
  · rw [List.concat_eq_append, jst_snoc]
    split <;> simp
theorem jp_snoc {ps : List Pc} {i : Nat} {p : Pc} (e : ps[i]? = some p) : jnP (ps.take (i + 1)) = jst (jnP (ps.take i)) p := by
  rw [List.take_add_one, e]
  unfold jnP
  rw [List.foldl_append]
  rfl
theorem jp_len (ps : List Pc) : (jnP ps).length ≤ ps.length := by
  have go : ∀ (ps acc : List Pc), (ps.foldl jst acc).length ≤ acc.length + ps.length := by
    intro ps
    induction ps with
    | nil => intro acc; exact Nat.le_refl _
    | cons p r ih =>
      intro acc
      have := ih (jst acc p)
      have := jst_len acc p
      show (r.foldl jst (jst acc p)).length ≤ _
      rw [List.length_cons]
      omega
  have := go ps []
  show (ps.foldl jst []).length ≤ _
  simpa using this
theorem bey_zero {ps : List Pc} (ok : ∀ p ∈ ps, Pok p) : bey ps 0 = (ps.map fun p => p.2.2 * (p.2.1 - p.1 + 1)).sum := by
  induction ps with
  | nil => rfl
  | cons p r ih =>
    obtain ⟨h1, h2, h3⟩ := ok p (List.mem_cons_self ..)
    rw [bey_cons, ih fun q hq => ok q (List.mem_cons_of_mem _ hq), List.map_cons, List.sum_cons]
    congr 1
    unfold be1
    rw [show max 0 (p.2.1 - max (p.1 - 1) 0) = p.2.1 - p.1 + 1 by omega]
end Kb

namespace Kb
open PySem PySem.Spec PyProof.Rows L2 StX
/-! ### lists of pieces as data -/
def pdPc (p : Pc) : PyData := .tuple [.int p.1, .int p.2.1, .int p.2.2]
def pdPs (ps : List Pc) : PyData := .list (ps.map pdPc)
theorem lay_P (ps : List Pc) : PyData.canLayAll0 (ps.map pdPc) = true := by
  induction ps with
  | nil => rfl
  | cons s r ih =>
    show (PyData.canLay0 (pdPc s) && PyData.canLayAll0 (r.map pdPc)) = true
    rw [ih]
    rfl
theorem depth_P (ps : List Pc) : PyData.depthAll (ps.map pdPc) ≤ 1 := by
  induction ps with
  | nil => exact Nat.zero_le _
  | cons s r ih =>
    show max (PyData.depth (pdPc s)) (PyData.depthAll (r.map pdPc)) ≤ 1
    have : PyData.depth (pdPc s) = 1 := rfl
    omega
theorem shaped_P (ps : List Pc) : SeqAt.shaped (pdPs ps) = true := by
  show (PyData.canLayAll0 (ps.map pdPc) && decide (PyData.depthAll (ps.map pdPc) + 1 ≤ 64)) = true
  have := depth_P ps
  rw [lay_P, decide_eq_true (by omega)]
  rfl
theorem eqv_Pc (s t : Pc) : PyData.eqv (pdPc s) (pdPc t) = decide (s = t) := by
  obtain ⟨a, b, e⟩ := s
  obtain ⟨c, d, f⟩ := t
  show ((a == c) && ((b == d) && ((e == f) && true))) = _
  rw [Bool.eq_iff_iff]
  simp
theorem eqv_P : ∀ ss ts : List Pc, PyData.eqv (pdPs ss) (pdPs ts) = decide (ss = ts)
  | [], [] => rfl
  | [], _ :: _ => rfl
  | _ :: _, [] => rfl
  | s :: r, t :: q => by
    show (PyData.eqv (pdPc s) (pdPc t) && PyData.eqv (pdPs r) (pdPs q)) = _
    rw [eqv_Pc, eqv_P r q, Bool.eq_iff_iff]
    simp
theorem Pcs.dp {K : PySem.W.Frag} {H : Hp} {a : Addr} {ps : List Pc} (h : Pcs H a ps) : Dp K H (.ref a) (pdPs ps) := by
  obtain ⟨vs, ha, pa⟩ := h
  have all : ∀ {vs : List V} {ps : List Pc}, PaP H vs ps → DpAll K H vs (ps.map pdPc) := by
    intro vs ps p
    induction p with
    | nil => exact .nil
    | cons h t ih =>
      obtain ⟨t0, rfl, ht⟩ := h
      exact .cons (.tup (SqT.of ht) (.cons (.int _) (.cons (.int _) (.cons (.int _) .nil)))) ih
  exact .lst (SqL.of ha) (all pa)
def Bn (n : Int) : Prop := 0 ≤ n ∧ n < 10 ^ 500
theorem Bn.show {n : Int} (h : Bn n) : decide (n.natAbs.log2 < 1920) = true ∧ decide ((PyData.shown (.int n)).length ≤ 510) = true := by
  have big : (10 : Nat) ^ 500 < 2 ^ 1700 := by decide +kernel
  refine ⟨decide_eq_true (Nat.lt_trans (PySem.Flt.log2_lt_of (k := 1700) (by decide) (Nat.lt_of_le_of_lt (show n.natAbs ≤ 10 ^ 500 by have := h.1; have := h.2; omega) big)) (by decide)), decide_eq_true ?_⟩
  have := PyProof.Rows.toString_length_le (k := 500) h.1 (by decide) h.2
  exact Nat.le_trans this (by decide)
theorem show_Ps {ps : List Pc} (h : ∀ p ∈ ps, Bn p.1 ∧ Bn p.2.1 ∧ Bn p.2.2) : PyData.showableAll (ps.map pdPc) = true ∧ PyData.hasDictAll (ps.map pdPc) = false ∧ PyData.leavesShortAll 510 (ps.map pdPc) = true ∧ PyData.bulkAll (ps.map pdPc) ≤ 14 * ps.length := by
  induction ps with
  | nil => exact ⟨rfl, rfl, rfl, Nat.zero_le _⟩
  | cons s r ih =>
    obtain ⟨i1, i2, i3, i4⟩ := ih fun t ht => h t (List.mem_cons_of_mem _ ht)
    obtain ⟨a1, a2, a3⟩ := h s List.mem_cons_self
    refine ⟨?_, ?_, ?_, ?_⟩
    · show ((decide (s.1.natAbs.log2 < 1920) && (decide (s.2.1.natAbs.log2 < 1920) && (decide (s.2.2.natAbs.log2 < 1920) && true))) && PyData.showableAll (r.map pdPc)) = true
      rw [a1.show.1, a2.show.1, a3.show.1, i1]
      rfl
    · show ((false || (false || (false || false))) || PyData.hasDictAll (r.map pdPc)) = false
      rw [i2]
      rfl
    · show ((decide ((PyData.shown (.int s.1)).length ≤ 510) && (decide ((PyData.shown (.int s.2.1)).length ≤ 510) && (decide ((PyData.shown (.int s.2.2)).length ≤ 510) && true))) && PyData.leavesShortAll 510 (r.map pdPc)) = true
      rw [a1.show.2, a2.show.2, a3.show.2, i3]
      rfl
    · simp only [List.map_cons, PyData.bulkAll, pdPc, PyData.bulk, List.length_cons]
      omega
def pdCPN (c : Int) (ps : List Pc) (n : Int) : PyData := .list [.int c, pdPs ps, .int n]
def pdCP (c : Int) (ps : List Pc) : PyData := .list [.int c, pdPs ps]
theorem show_CPN {c n : Int} {ps : List Pc} (hc : Bn c) (hn : Bn n) (h : ∀ p ∈ ps, Bn p.1 ∧ Bn p.2.1 ∧ Bn p.2.2) (l : ps.length ≤ 2000) :
    (pdCPN c ps n).showable = true ∧ (pdCPN c ps n).hasDict = false ∧ (pdCPN c ps n).depth ≤ 60 ∧ (pdCPN c ps n).shown.length ≤ sizeLine := by
  obtain ⟨i1, i2, i3, i4⟩ := show_Ps h
  have dp := depth_P ps
  refine ⟨?_, ?_, ?_, ?_⟩
  · show (decide (c.natAbs.log2 < 1920) && (PyData.showableAll (ps.map pdPc) && (decide (n.natAbs.log2 < 1920) && true))) = true
    rw [hc.show.1, hn.show.1, i1]
    rfl
  · show (false || (PyData.hasDictAll (ps.map pdPc) || (false || false))) = false
    rw [i2]
    rfl
  · show max 0 (max (PyData.depthAll (ps.map pdPc) + 1) (max 0 0)) + 1 ≤ 60
    omega
  · have lv : (pdCPN c ps n).leavesShort 510 = true := by
      show (decide ((PyData.shown (.int c)).length ≤ 510) && (PyData.leavesShortAll 510 (ps.map pdPc) && (decide ((PyData.shown (.int n)).length ≤ 510) && true))) = true
      rw [hc.show.2, hn.show.2, i3]
      rfl
    have bk : (pdCPN c ps n).bulk ≤ 14 * ps.length + 40 := by
      simp only [pdCPN, pdPs, PyData.bulk, PyData.bulkAll] at *
      omega
    have z := PyData.shown_le_bulk 510 (by decide) _ lv
    have y := Nat.mul_le_mul_left (510 + 2) bk
    rw [sizeLine_eq]
    omega
theorem show_CP {c : Int} {ps : List Pc} (hc : Bn c) (h : ∀ p ∈ ps, Bn p.1 ∧ Bn p.2.1 ∧ Bn p.2.2) (l : ps.length ≤ 2000) :
    (pdCP c ps).showable = true ∧ (pdCP c ps).hasDict = false ∧ (pdCP c ps).depth ≤ 60 ∧ (pdCP c ps).shown.length ≤ sizeLine := by
  obtain ⟨i1, i2, i3, i4⟩ := show_Ps h
  have dp := depth_P ps
  refine ⟨?_, ?_, ?_, ?_⟩
  · show (decide (c.natAbs.log2 < 1920) && (PyData.showableAll (ps.map pdPc) && true)) = true
    rw [hc.show.1, i1]
    rfl
  · show (false || (PyData.hasDictAll (ps.map pdPc) || false)) = false
    rw [i2]
    rfl
  · show max 0 (max (PyData.depthAll (ps.map pdPc) + 1) 0) + 1 ≤ 60
    omega
  · have lv : (pdCP c ps).leavesShort 510 = true := by
      show (decide ((PyData.shown (.int c)).length ≤ 510) && (PyData.leavesShortAll 510 (ps.map pdPc) && true)) = true
      rw [hc.show.2, i3]
      rfl
    have bk : (pdCP c ps).bulk ≤ 14 * ps.length + 40 := by
      simp only [pdCP, pdPs, PyData.bulk, PyData.bulkAll] at *
      omega
    have z := PyData.shown_le_bulk 510 (by decide) _ lv
    have y := Nat.mul_le_mul_left (510 + 2) bk
    rw [sizeLine_eq]
    omega
/-! ### promises -/
/-- what isinstance, == and != want of the class, beside its own attributes -/
structure Pof (K : PySem.W.Frag) (C : Addr) : Prop where
  cl : Cls K C
  ha : PySem.W.findIn K (.ref C) "__class__" = some (some (.builtin "object.__class__"))
  hn : PySem.W.specialIn K (.builtin "object.__class__") "__get__" = some (some (.builtin "getset_descriptor.__get__"))
  htk : PySem.W.takesIn K (.builtin "object.__class__") = some true
  hm : PySem.W.mroIn K C (.type "object") = some true
  me : PySem.W.kitOne K (.ref C) (.ref C) = some true
/-- a kind of values that is not of the class -/
def Oth (K : PySem.W.Frag) (C : Addr) (t : Value) : Prop := PySem.W.kitOne K t (.ref C) = some false ∧ PySem.W.notFirst K C t = true
theorem Ty2.tyx {K : PySem.W.Frag} {H : Hp} {y : V} {t : Value} (h : Ty2 H y t) (ni : ∀ a dx fs, ¬ (y = V.ref a ∧ ∃ C, H a = some (.ins C dx fs))) : TyX K H y t := by
  cases h with
  | non => exact .base .non
  | bl b => exact .base (.bl b)
  | int i => exact .base (.int i)
  | str x => exact .base (.str x)
  | lst e => exact .base (.lst e)
  | tup e => exact .base (.tup e)
  | dK e => exact .base (.dK e)
  | ins e => exact absurd ⟨rfl, _, e⟩ (ni _ _ _)
def spInitF (C : Addr) : Sp := fun vs H Q _ => ∃ (x dx : Addr) (c : Int) (a : Addr) (ps : List Pc), vs = [.ref x, .int c, .ref a] ∧ H x = some (.ins C dx []) ∧ 0 ≤ c ∧ Pcs H a ps ∧ Val ps ∧
  ∀ H' rs l, (∀ b o, b ≠ x → H b = some o → H' b = some o) → Pf C H' x c rs → Tells ps rs → H l = none → H' x = some (.ins C dx (pf c l)) → Q .non H'
def spPiecesP (C : Addr) : Sp := fun vs H Q _ => ∃ (x : Addr) (c : Int) (rs : List Pc), vs = [.ref x] ∧ Pf C H x c rs ∧ ∀ p H', H p = none → Ex H H' → Pcs H' p rs → Q (.ref p) H'
def spAccP (C : Addr) : Sp := fun vs H Q _ => ∃ (x : Addr) (c : Int) (rs : List Pc), vs = [.ref x] ∧ Pf C H x c rs ∧ RetV (.int (c + bey rs 0)) H Q
def spEqP (K : PySem.W.Frag) (C : Addr) : Sp := fun vs H Q _ => ∃ (x : Addr) (c : Int) (rs : List Pc) (y : V), vs = [.ref x, y] ∧ Pf C H x c rs ∧
  ((∃ z c' rs', y = .ref z ∧ Pf C H z c' rs' ∧ RetV (.bl (decide (c = c' ∧ rs = rs'))) H Q) ∨ (∃ t, Ty2 H y t ∧ (∀ a dx fs, ¬ (y = V.ref a ∧ ∃ C, H a = some (.ins C dx fs))) ∧ Oth K C t ∧ RetV (.bl false) H Q))
def spLJoin : Sp := fun vs H Q _ => ∃ (a : Addr) (ps : List Pc), vs = [.ref a] ∧ Pcs H a ps ∧ ps.length ≤ 2000 ∧ ∀ p H', H p = none → Ex H H' → Pcs H' p (jnP ps) → Q (.ref p) H'
/-- the same distances in other pieces -/
structure Alike (ps hs : List Pc) : Prop where
  val : Val hs
  same : ∀ d, atP hs d = atP ps d
def spHalved : Sp := fun vs H Q _ => ∃ (b a : Addr) (ps : List Pc) (n : Nat), vs = [.ref b, .ref a] ∧ Pd H b n ∧ n ≤ 2 ^ 50 ∧ Pcs H a ps ∧ Val ps ∧ ps.length ≤ 300 ∧
  ∀ p H' hs, H p = none → Nx H H' → Pd H' b (n + 600) → Pcs H' p hs → Alike ps hs → Q (.ref p) H'
/-- a pair of a number of cold accesses and a list of pieces -/
def IsNr (H : Hp) (v : V) (z : Int × List Pc) : Prop := ∃ t g, v = .ref t ∧ H t = some (.tup [.int z.1, .ref g]) ∧ Pcs H g z.2
theorem IsNr.nx {H H' : Hp} {v : V} {z : Int × List Pc} (e : Nx H H') (h : IsNr H v z) : IsNr H' v z := by
  obtain ⟨t, g, h1, h2, h3⟩ := h
  exact ⟨t, g, h1, e.at h2, h3.nx e⟩
def spNear : Sp := fun vs H Q _ => ∃ (b a : Addr) (ps : List Pc) (c : Int) (n : Nat), vs = [.ref b, .int c, .ref a] ∧ Pd H b n ∧ n ≤ 2 ^ 50 ∧ 0 ≤ c ∧ Pcs H a ps ∧ Val ps ∧ (∀ p ∈ ps, p.2.1 ≤ 10 ^ 100 ∧ p.2.2 ≤ 10 ^ 100) ∧ ps.length ≤ 300 ∧
  ∀ p H' us zs, H p = none → Nx H H' → Pd H' b (n + 1) → H' p = some (.lst us) → Paired (IsNr H') us zs → (∀ z ∈ zs, 0 ≤ z.1 ∧ Val z.2) → Q (.ref p) H'
def spRight12 : Sp := fun vs H Q _ => ∃ (b a : Addr) (ps : List Pc) (c : Int) (n : Nat), vs = [.ref b, .int c, .ref a] ∧ Pd H b n ∧ n ≤ 2 ^ 40 ∧ 0 ≤ c ∧ c ≤ 10 ^ 400 ∧ Pcs H a ps ∧ Val ps ∧ (∀ p ∈ ps, p.2.1 ≤ 10 ^ 100 ∧ p.2.2 ≤ 10 ^ 100) ∧ ps.length ≤ 300 ∧
  ∀ H' us, Nx (upd H a (.lst us)) H' → Pd H' b (n + 1300) → Q (.bl true) H'
end Kb

namespace Kb
open PySem PySem.Spec PyProof.Rows L2 StX
abbrev s_law_right : Stmt := topS 31
theorem sc_law_right : FnScope ["pond", "cold", "given", "made", "top", "some", "turn", "size", "more", "most", "told", "fits"] ["pond", "cold", "given"] (defScope s_law_right) := ⟨rfl, rfl, rfl, by decide +kernel, rfl, by decide +kernel, by decide +kernel⟩
def spRight14 : Sp := fun vs H Q _ => ∃ (b a : Addr) (ps : List Pc) (c : Int) (n : Nat), vs = [.ref b, .int c, .ref a] ∧ Pd H b n ∧ n ≤ 2 ^ 50 ∧ 0 ≤ c ∧ c ≤ 10 ^ 400 ∧ Pcs H a ps ∧ Val ps ∧ RetN (.bl true) b (n + 8) H Q
theorem first_range {p : Nat → Bool} {k : Nat} (hk : p k = true) (hn : ∀ j, j < k → p j = false) : ∀ n, k < n → ∃ r, (List.range n).filter p = k :: r := by
  intro n
  induction n with
  | zero => intro h; omega
  | succ n ih =>
    intro h
    rw [List.range_succ, List.filter_append]
    by_cases c : k < n
    · obtain ⟨r, e⟩ := ih c
      rw [e]
      exact ⟨_, rfl⟩
    · have e : k = n := by omega
      subst e
      refine ⟨[], ?_⟩
      have h1 : (List.range k).filter p = [] := List.filter_eq_nil_iff.mpr fun j hj => by
        rw [hn j (List.mem_range.mp hj)]
        decide
      rw [h1]
      show List.filter p [k] = [k]
      rw [List.filter_cons_of_pos hk]
      rfl
theorem Lst.unique {rs ps : List Pc} (T : Tells ps rs) (ok : ∀ p ∈ ps, Pok p) {m a b : Int} (x : Lst rs m a) (y : 0 ≤ b) (y1 : bey ps b ≤ m) (y2 : 0 < b → m < bey ps (b - 1)) : a = b := by
  obtain ⟨x0, x1, x2⟩ := x
  rw [T.bey ok] at x1
  rw [T.bey ok] at x2
  exact least_unique ok x0 x1 x2 y y1 y2
theorem top_ok {ps : List Pc} (ok : ∀ p ∈ ps, Pok p) (asc : ps.Pairwise fun a b => a.2.1 < b.1) {p : Pc} (hl : ps.getLast? = some p) : (∀ q ∈ ps, q.2.1 ≤ p.2.1) ∧ 0 < bey ps (p.2.1 - 1) ∧ p ∈ ps := by
  obtain ⟨r, rfl⟩ : ∃ r, ps = r ++ [p] := by
    obtain ⟨h, e⟩ := List.getLast?_eq_some_iff.mp hl
    exact ⟨h, e⟩
  have hp := ok p (by simp)
  obtain ⟨p1, p2, p3⟩ := hp
  refine ⟨fun q hq => ?_, ?_, by simp⟩
  · rcases List.mem_append.mp hq with h | h
    · have := (List.pairwise_append.mp asc).2.2 q h p (by simp)
      omega
    · rw [List.mem_singleton.mp h]
      exact Int.le_refl _
  · rw [bey_app]
    have a := bey_nn (ps := r) (fun q hq => ok q (by simp [hq])) (p.2.1 - 1)
    have b : bey [p] (p.2.1 - 1) = p.2.2 * 1 := by
      show be1 p (p.2.1 - 1) + 0 = _
      unfold be1
      rw [Int.add_zero, show max 0 (p.2.1 - max (p.1 - 1) (p.2.1 - 1)) = 1 by omega]
    rw [b]
    omega
section
variable {P : Program} {w : World} {K : PySem.W.Frag} {mg : Str → Option Value} {base : Heap}
theorem ok_right14 {C : Addr} (B : Bt mg) (DProfile : DMk P w K mg base "Profile" C 5 ["self", "cold", "pieces"] (spInit C)) (Dm_least_size : DMt P w K mg base C "least_size" 3 ["self", "misses"] (spLeast C))
    (D_law_dip : Df P w K mg base "_law_dip" 1 ["pond", "many"] spDip) (D_law_beyond : Df P w K mg base "_law_beyond" 1 ["given", "size"] spLBey) {f : Addr} {fd : FuncData} (F : Fun K "_law_right" "_law_right" s_law_right f fd) :
    FnOk P w K mg base CX0 7 f fd ["pond", "cold", "given"] spRight14 := by
  refine F.ok sc_law_right (fun vs H Q E h => ?_) (fun cdv A outer s H vs Q E hr h => ?_)
  · obtain ⟨b, a, ps, c, n, rfl, _⟩ := h
    rfl
  · obtain ⟨b, a, ps, c, n, rfl, hb, hn, c0, c1, pc, Vp, q⟩ := h
    refine ⟨_, (pss_cons (ps_par (i := 3) (j := 4) rfl sc_law_right.nd rfl rfl (by decide) rfl rfl (pa_cons (pe_mk DProfile hr (pa_cons (pv 1) (pa_cons (pv 2) pa_nil))) (pa_cons (pe_ifExp (pt_cmpR (op_neD hr.units) (pv 2) (pe_lst pa_nil) (nomark _)) (pe_ix ix_tup (pe_ix ix_list (pv 2) (pe_un un_neg pe_int) (fun _ _ => rfl)) pe_int (fun _ _ => rfl)) pe_int) pa_nil)) (by rfl))
      (pss_cons (ps_set (i := 5) sc_law_right.nd rfl (by first | exact Or.inl rfl | exact Or.inr rfl) (pe_lst (pa_cons pe_int (pa_cons (pe_callB (call_max2 rfl) (by rfl) B.max bo_max (pa_cons pe_int (pa_cons (pe_op op_sub (pv 1) pe_int) pa_nil))) (pa_cons (pv 1) (pa_cons (pe_op op_add (pv 1) pe_int) (pa_cons (pe_op op_add (pv 1) (pe_df D_law_beyond hr (pa_cons (pv 2) (pa_cons pe_int pa_nil)))) (pa_cons (pe_op op_add (pe_op op_add (pv 1) (pe_df D_law_beyond hr (pa_cons (pv 2) (pa_cons pe_int pa_nil)))) pe_int) pa_nil))))))))
      (pss_cons (ps_for PassesOwn.never rfl (pi_range1 (by rfl) B.range (pa_cons pe_int pa_nil)) (pg_name (i := 6) sc_law_right.nd rfl (by first | exact Or.inl rfl | exact Or.inr rfl)) (pss_cons (ps_set (i := 7) sc_law_right.nd rfl (by first | exact Or.inl rfl | exact Or.inr rfl) (pe_df D_law_dip hr (pa_cons (pv 0) (pa_cons (pe_op op_add (pv 4) pe_int) pa_nil))))
      (pss_cons (ps_set (i := 8) sc_law_right.nd rfl (by first | exact Or.inl rfl | exact Or.inr rfl) (pe_op op_add (pv 1) (pe_df D_law_beyond hr (pa_cons (pv 2) (pa_cons (pv 7) pa_nil)))))
      (pss_one (ps_set (i := 5) sc_law_right.nd rfl (by first | exact Or.inl rfl | exact Or.inr rfl) (pe_op op_cat (pv 5) (pe_lst (pa_cons (pe_callB (call_max2 rfl) (by rfl) B.max bo_max (pa_cons pe_int (pa_cons (pe_op op_sub (pv 8) pe_int) pa_nil))) (pa_cons (pv 8) (pa_cons (pe_op op_add (pv 8) pe_int) (pa_cons (pe_op op_add (pv 1) (pe_df D_law_dip hr (pa_cons (pv 0) (pa_cons (pe_op op_add (pe_df D_law_beyond hr (pa_cons (pv 2) (pa_cons pe_int pa_nil))) pe_int) pa_nil)))) pa_nil)))))))))))
      (pss_cons (ps_for PassesOwn.never rfl (pi_list (pv 5)) (pg_name (i := 9) sc_law_right.nd rfl (by first | exact Or.inl rfl | exact Or.inr rfl)) (pss_cons (ps_set (i := 10) sc_law_right.nd rfl (by first | exact Or.inl rfl | exact Or.inr rfl) (pe_mt Dm_least_size hr (pv 3) (pa_cons (pv 9) pa_nil)))
      (pss_one (ps_if (pt_cmpR op_lt (pv 9) (pv 1) (nomark _)) (pss_one (ps_if (pt_cmpR op_notN (pv 10) pe_non (nomark _)) (pss_one (ps_ret pe_bl)) pss_nil)) (pss_cons (ps_if (pw_or (pt_not (pt_val (pe_callB call_isi (by rfl) B.isinstance bo_isinstance (pa_cons (pv 10) (pa_cons (pe_bltn (v := .ty "int") (by rfl) B.int bo_int rfl) pa_nil))))) (pw_or (pt_cmpR op_lt (pv 10) pe_int (nomark _)) (pw_or1 (pt_cmpR op_gt (pe_op op_add (pv 1) (pe_df D_law_beyond hr (pa_cons (pv 2) (pa_cons (pv 10) pa_nil)))) (pv 9) (nomark _))))).pt (pss_one (ps_ret pe_bl)) pss_nil)
      (pss_cons (ps_if (pw_or (pw_and (pt_cmpR op_gt (pv 10) pe_int (nomark _)) (pw_and1 (pt_cmpR op_le (pe_op op_add (pv 1) (pe_df D_law_beyond hr (pa_cons (pv 2) (pa_cons (pe_op op_sub (pv 10) pe_int) pa_nil)))) (pv 9) (nomark _)))).pt (pw_or1 (pt_cmpR op_ne (pe_mt Dm_least_size hr (pv 3) (pa_cons (pv 9) pa_nil)) (pv 10) (nomark _)))).pt (pss_one (ps_ret pe_bl)) pss_nil)
      (pss_cons (ps_setLc (i := 11) (own := [("size", 7)]) (g := (gName 7)) (te := (tVar 7)) (tt := (tTest (tOp _ (tOp _ (tVar 1) (tCall _ [] E0 (tCons (tVar 2) (tCons (tVar 7) tNil)))) (tVar 9)))) rfl sc_law_right.nd rfl rfl (sw_true rfl rfl rfl (by decide +kernel)) (pi_range1 (by rfl) B.range (pa_cons pe_int pa_nil)) (blkOk_by (N := ["pond", "cold", "given", "made", "top", "some", "turn", "size", "more", "most", "told", "fits"]) (sc := defScope s_law_right) (by decide +kernel)) (by exact fun _ _ _ _ _ => (pg_name (i := 7) sc_law_right.nd rfl (by first | exact Or.inl rfl | exact Or.inr rfl))) (by exact fun _ _ _ _ _ => (pts_one (pt_cmpR op_le (pe_op op_add (pv 1) (pe_df D_law_beyond hr (pa_cons (pv 2) (pa_cons (pv 7) pa_nil)))) (pv 9) (nomark _)))) (by exact fun _ _ _ _ _ => (pv 7)))
      (pss_one (ps_if (pw_and (pt_cmpR op_lt (pv 4) pe_int (nomark _)) (pw_and1 (pt_cmpR op_ne (pv 10) (pe_ix ix_list (pv 11) pe_int (fun _ _ => rfl)) (nomark _)))).pt (pss_one (ps_ret pe_bl)) pss_nil)))))))))
      (pss_one (ps_ret (pe_cmpR op_eq (pe_mt Dm_least_size hr (pv 3) (pa_cons (pv 1) pa_nil)) (pv 4) (nomark _)))))))), ?_⟩
    have g200 : (1000 : Int) * (10 ^ 200 * 10 ^ 200) + 10 ^ 400 + 10 ^ 400 + 100 ≤ 10 ^ 600 := by decide +kernel
    have g4 : (0 : Int) ≤ 10 ^ 400 := by decide +kernel
    refine ⟨.int c, rfl, .ref a, rfl, fun x dx nx ndx ne => ?_⟩
    refine ⟨x, dx, c, a, ps, rfl, upd_same, c0, pc.mono (mk_ex0 nx ndx), Vp, fun H1 rs fr Pp Tl => ⟨rfl, ?_⟩⟩
    have e1 := mk_ex nx ndx fr
    have pc1 := pc.mono e1
    refine ⟨.ref a, rfl, Nat.zero_le _, fun l nl => ?_⟩
    have z1 := Ex.new (o := .lst ([] : List V)) nl
    refine ⟨pdPs ps, pdPs [], (pc1.mono z1).dp, .lst (SqL.of upd_same) .nil, shaped_P ps, rfl, _, rfl, ?_⟩
    rw [eqv_P]
    have pc2 := pc1.mono z1
    have Pp := Pp.mono z1
    have e2 := e1.trans z1
    have hb2 := hb.ex e2
    generalize upd H1 l (.lst []) = H2 at pc2 Pp e2 hb2 ⊢
    by_cases pn : ps = []
    case' pos =>
      rw [decide_eq_true pn]
      obtain ⟨T, eT⟩ : ∃ T : Int, T = 0 := ⟨_, rfl⟩
      have tops : 0 ≤ T ∧ T ≤ 10 ^ 200 ∧ (∀ q ∈ ps, q.2.1 ≤ T) ∧ (0 < T → 0 < bey ps (T - 1)) := ⟨by omega, by rw [eT]; decide +kernel, fun q hq => (by rw [pn] at hq; cases hq), fun h => by omega⟩
      refine iteF ⟨.ref x, .int T, by rw [eT], ?_⟩
    case' neg =>
      rw [decide_eq_false pn]
      obtain ⟨vs, ha, pa⟩ := id pc2
      obtain ⟨pl, hpl⟩ : ∃ pl, ps.getLast? = some pl := ⟨_, List.getLast?_eq_some_getLast pn⟩
      obtain ⟨t1, t2, t3⟩ := top_ok Vp.pok Vp.asc hpl
      have lv : vs.length = ps.length := Pr.len pa
      have ln : 0 < ps.length := List.length_pos_iff.mpr pn
      obtain ⟨vl, gv, tp, rfl, htp⟩ := Pr.get2 pa (i := ps.length - 1) (s := pl) (by rw [← hpl, List.getLast?_eq_getElem?])
      obtain ⟨⟨p1, p2, p3⟩, p4, p5⟩ := Vp.bd _ t3
      obtain ⟨T, eT⟩ : ∃ T : Int, T = pl.2.1 := ⟨_, rfl⟩
      have tops : 0 ≤ T ∧ T ≤ 10 ^ 200 ∧ (∀ q ∈ ps, q.2.1 ≤ T) ∧ (0 < T → 0 < bey ps (T - 1)) := ⟨by omega, by rw [eT]; exact p4, fun q hq => (by rw [eT]; exact t1 q hq), fun h => by rw [eT]; exact t2⟩
      have gl : vs.getLast? = some (.ref tp) := by
        rw [List.getLast?_eq_getElem?, lv]
        exact gv
      obtain ⟨us, rfl⟩ := List.getLast?_eq_some_iff.mp gl
      have al : atI (us ++ [V.ref tp]) (-1) = some (.ref tp) := atI_last _ _
      refine iteT ⟨.ref a, rfl, 1, rfl, a, _, -1, .ref tp, rfl, rfl, SqL.of ha, al, tp, _, 1, .int pl.2.1, rfl, rfl, SqT.of htp, rfl, .ref x, .int T, by rw [eT], ?_⟩
    all_goals
      clear eT
      obtain ⟨T0, T1, Ttop, Tpos⟩ := tops
      have bT : bey ps T = 0 := bey_top Ttop
      have b0 := Vp.bey_le 0 (Int.le_refl _)
      refine ⟨.int c, rfl, c, 1, rfl, rfl, 0, _, rfl, .int c, rfl, .int c, rfl, c, 1, rfl, rfl, .int c, rfl, .ref a, rfl, a, ps, 0, rfl, pc2, Vp, fun H3 e3 => ⟨c, _, rfl, rfl, .int c, rfl, .ref a, rfl, a, ps, 0, rfl, pc2.mono e3, Vp, fun H4 e4 => ⟨c, _, rfl, rfl, _, 5, rfl, rfl, by show 6 ≤ sizeLine; decide, fun s1 ns1 => ?_⟩⟩⟩
      have z5 := (e3.trans e4).trans (Ex.new (o := .lst ([0, if c - 1 > 0 then c - 1 else 0, c, c + 1, c + bey ps 0, c + bey ps 0 + 5].map V.int)) ns1)
      have hs1 : (upd H4 s1 (.lst ([0, if c - 1 > 0 then c - 1 else 0, c, c + 1, c + bey ps 0, c + bey ps 0 + 5].map V.int))) s1 = some (.lst ([0, if c - 1 > 0 then c - 1 else 0, c, c + 1, c + bey ps 0, c + bey ps 0 + 5].map V.int)) := upd_same
      have ok1 : ∀ m ∈ [0, if c - 1 > 0 then c - 1 else 0, c, c + 1, c + bey ps 0, c + bey ps 0 + 5], 0 ≤ m ∧ m ≤ 10 ^ 600 := fun m hm => by
        simp only [List.mem_cons, List.mem_nil_iff, or_false] at hm
        rcases hm with rfl | rfl | rfl | rfl | rfl | rfl
        · omega
        · split <;> omega
        · omega
        · omega
        · omega
        · omega
      have l1 : [0, if c - 1 > 0 then c - 1 else 0, c, c + 1, c + bey ps 0, c + bey ps 0 + 5].length = 6 := rfl
      have pc5 := pc2.mono z5
      have Pp5 := Pp.mono z5
      have hb5 := hb2.ex z5
      have e5 := e2.trans z5
      show tSeq _ _ _ _ (upd H4 s1 (.lst ([0, if c - 1 > 0 then c - 1 else 0, c, c + 1, c + bey ps 0, c + bey ps 0 + 5].map V.int)))
      generalize upd H4 s1 (.lst ([0, if c - 1 > 0 then c - 1 else 0, c, c + 1, c + bey ps 0, c + bey ps 0 + 5].map V.int)) = H5 at hs1 pc5 Pp5 hb5 e5 ⊢
      generalize [0, if c - 1 > 0 then c - 1 else 0, c, c + 1, c + bey ps 0, c + bey ps 0 + 5] = ms1 at hs1 ok1 l1 ⊢
      refine ⟨4, rfl, by decide, by decide, for_range (lo := 0) (n := 4) (fun i σ H' => ∃ (s : Addr) (ms : List Int) (y6 y7 y8 : Option V), σ = [some (.ref b), some (.int c), some (.ref a), some (.ref x), some (.int T), some (.ref s), y6, y7, y8, none, none, none] ∧ Nx H5 H' ∧ Pd H' b (n + 2 * i) ∧ H' s = some (.lst (ms.map V.int)) ∧ (∀ m ∈ ms, 0 ≤ m ∧ m ≤ 10 ^ 600) ∧ ms.length = 6 + 4 * i)
        ⟨s1, ms1, none, none, none, rfl, Nx.refl _, hb5, hs1, ok1, l1⟩ (fun i σ H6 hi z => ?_) (fun σ H6 z => ?_)⟩
      · obtain ⟨s, ms, y6, y7, y8, rfl, e6, hb6, hs, ok, lm⟩ := z
        refine ⟨.ref b, rfl, .int T, rfl, T, 2, rfl, rfl, b, T + 2, _, rfl, hb6, by omega, by omega, by omega, fun r r0 r1 H7 e7 hb7 => ?_⟩
        have pc7 := (pc5.nx e6).nx e7
        have br := Vp.bey_le r r0
        refine ⟨.int c, rfl, .ref a, rfl, .int r, rfl, a, ps, r, rfl, pc7, Vp, fun H8 e8 => ⟨c, _, rfl, rfl, ?_⟩⟩
        obtain ⟨mo, hmo⟩ : ∃ mo, mo = c + bey ps r := ⟨_, rfl⟩

        simp only [← hmo]
        refine ⟨.ref s, rfl, .int mo, rfl, mo, 1, rfl, rfl, 0, _, rfl, .int mo, rfl, .int mo, rfl, mo, 1, rfl, rfl, .int c, rfl, .ref b, rfl, .ref a, rfl, a, ps, 0, rfl, pc7.mono e8, Vp, fun H9 e9 => ⟨_, 1, rfl, rfl, b, _, _, rfl, hb7.ex (e8.trans e9), by omega, by omega, by omega, fun r2 r20 r21 H10 e10 hb10 => ⟨c, r2, rfl, rfl, by show 4 ≤ sizeLine; decide, fun l nl => ?_⟩⟩⟩
        have e610 := (e7.trans (e8.trans e9).nx).trans e10
        have hs10 := e610.at hs
        have zl := Ex.new (o := .lst ([if mo - 1 > 0 then mo - 1 else 0, mo, mo + 1, c + r2].map V.int)) nl
        refine ⟨s, l, ms.map V.int, [if mo - 1 > 0 then mo - 1 else 0, mo, mo + 1, c + r2].map V.int, rfl, rfl, zl _ _ hs10, upd_same, by rw [List.length_map, List.length_map, sizeLine_eq]; show ms.length + 4 ≤ _; omega, fun p np => ?_⟩
        have zp := zl.trans (Ex.new (o := .lst (ms.map V.int ++ [if mo - 1 > 0 then mo - 1 else 0, mo, mo + 1, c + r2].map V.int)) np)
        refine ⟨p, ms ++ [if mo - 1 > 0 then mo - 1 else 0, mo, mo + 1, c + r2], _, _, _, rfl, (e6.trans e610).trans zp.nx, (hb10.ex zp).mono (by omega), ?_, fun m hm => ?_, ?_⟩
        · rw [upd_same, List.map_append]
        · rcases List.mem_append.mp hm with hm | hm
          · exact ok m hm
          · simp only [List.mem_cons, List.mem_nil_iff, or_false] at hm
            rcases hm with rfl | rfl | rfl | rfl
            · split <;> omega
            · omega
            · omega
            · omega
        · rw [List.length_append]
          show ms.length + 4 = _
          omega
      · obtain ⟨s, ms, y6, y7, y8, rfl, e6, hb6, hs, ok, lm⟩ := z
        have pc6 := pc5.nx e6
        have Pp6 := Pp5.nx e6
        have rpok : ∀ p ∈ rs, Pok p := fun p hp => (Pp6.bd p hp).1
        have hat : ∀ H', Ex H6 H' → ∃ dx' l', H' x = some (.ins C dx' (pf c l')) ∧ (pf c l').lookup ("least_size" : Str) = none := fun H' e' => by
          obtain ⟨dx', l', h1, _⟩ := (Pp6.mono e').at_
          exact ⟨dx', l', h1, pf_no _ _ (by decide +kernel) (by decide +kernel)⟩
        refine ⟨.ref s, rfl, s, rfl, ⟨_, SqL.of hs⟩, for_list (xs := ms.map V.int) (fun i σ H' => ∃ (y9 y10 y11 : Option V), σ = [some (.ref b), some (.int c), some (.ref a), some (.ref x), some (.int T), some (.ref s), y6, y7, y8, y9, y10, y11] ∧ Ex H6 H') ⟨_, _, _, rfl, Ex.refl _⟩ (fun i σ H' _ z => ?_) (fun i v σ H7 hv z => ?_) (fun σ H7 z => ?_)⟩
        · obtain ⟨_, _, _, _, e⟩ := z
          exact SqL.of (e _ _ hs)
        · obtain ⟨y9, y10, y11, rfl, e7⟩ := z
          rw [List.getElem?_map] at hv
          obtain ⟨m, gm, rfl⟩ := Option.map_eq_some_iff.mp hv
          obtain ⟨m0, m1⟩ := ok m (List.mem_of_getElem? gm)
          obtain ⟨d7, l7, h7, n7⟩ := hat _ e7
          refine ⟨.ref x, rfl, x, d7, _, rfl, h7, n7, .int m, rfl, x, c, rs, m, rfl, Pp6.mono e7, c0, m0, m1, ?_⟩
          by_cases lt : m < c
          · refine .inl ⟨lt, fun H8 e8 => ⟨.int m, rfl, .int c, rfl, m, c, rfl, rfl, _, rfl, ?_⟩⟩
            rw [decide_eq_true lt]
            refine iteT ⟨.non, rfl, rfl, _, rfl, ?_⟩
            rw [decide_eq_true rfl]
            exact iteF ⟨_, _, _, rfl, e7.trans e8⟩
          · refine .inr ⟨by omega, fun z Lz H8 e8 => ⟨.int m, rfl, .int c, rfl, m, c, rfl, rfl, _, rfl, ?_⟩⟩
            rw [decide_eq_false lt]
            obtain ⟨zn0, zn1, zn2⟩ := id Lz
            rw [Tl.bey Vp.pok] at zn1
            rw [Tl.bey Vp.pok] at zn2
            refine iteF ⟨.int z, rfl, .int z, .ty "int", _, _, true, rfl, .ty _, .base (.int z), kit_ty (by decide +kernel), true, rfl, iteF ⟨.int z, rfl, z, 0, rfl, rfl, _, rfl, ?_⟩⟩
            rw [decide_eq_false (show ¬ z < 0 by omega)]
            have e78 := e7.trans e8
            refine iteF ⟨.int c, rfl, .ref a, rfl, .int z, rfl, a, ps, z, rfl, pc6.mono e78, Vp, fun H9 e9 => ⟨c, _, rfl, rfl, .int m, rfl, _, m, rfl, rfl, _, rfl, ?_⟩⟩
            rw [decide_eq_false (show ¬ m < c + bey ps z by omega)]
            have e79 := e78.trans e9
            refine iteF ⟨.int z, rfl, z, 0, rfl, rfl, _, rfl, ?_⟩
            by_cases zp : 0 < z
            case' pos =>
              rw [decide_eq_true zp]
              refine iteT ⟨.int c, rfl, .ref a, rfl, .int z, rfl, z, 1, rfl, rfl, a, ps, z - 1, rfl, pc6.mono e79, Vp, fun H10 e10 => ⟨c, _, rfl, rfl, .int m, rfl, _, m, rfl, rfl, _, rfl, ?_⟩⟩
              rw [decide_eq_false (show ¬ c + bey ps (z - 1) ≤ m by have := zn2 zp; omega)]
              have e80 := e79.trans e10
              refine iteF ?_
            case' neg =>
              rw [decide_eq_false zp]
              have e80 := e79
              refine iteF (iteF ?_)
            all_goals
              obtain ⟨d8, l8, h8, n8⟩ := hat _ e80
              refine ⟨.ref x, rfl, x, d8, _, rfl, h8, n8, .int m, rfl, x, c, rs, m, rfl, Pp6.mono e80, c0, m0, m1, .inr ⟨by omega, fun z' Lz' H11 e11 => ⟨.int z, rfl, rfl, _, rfl, ne_refl (congrArg V.int (Lst.unique Tl Vp.pok Lz' zn0 zn1 zn2)) ?_⟩⟩⟩
              have e81 := e80.trans e11
              refine ⟨62, rfl, by decide, by decide, fun D hD => lc_range (lo := 0) (n := 62) (fun i H' => Ex H11 H' ∧ H' D = some (.lst (((List.range i).filter fun (j : Nat) => decide (c + bey ps (0 + (j : Int)) ≤ m)).map fun (j : Nat) => V.int (0 + (j : Int))))) ⟨Ex.new hD, upd_same⟩ (fun i H' hi w => ?_) (fun H' w => ?_)⟩
              · obtain ⟨e12, hL⟩ := w
                refine ⟨rfl, .int c, rfl, .ref a, rfl, .int (0 + (i : Int)), rfl, a, ps, 0 + (i : Int), rfl, pc6.mono (e81.trans e12), Vp, fun H13 e13 => ⟨c, _, rfl, rfl, .int m, rfl, _, m, rfl, rfl, _, rfl, ite2 (fun e => ?_) (fun e => ?_)⟩⟩
                · refine ⟨_, rfl, _, e13 _ _ hL, ?_, (e12.trans e13).mut hD, ?_⟩
                  · rw [List.length_map]
                    have := List.length_filter_le (fun j : Nat => decide (c + bey ps (0 + (j : Int)) ≤ m)) (List.range i)
                    rw [List.length_range] at this
                    exact small20 (by omega)
                  · rw [upd_same, List.range_succ, List.filter_append, List.map_append, List.filter_cons_of_pos (p := fun (j : Nat) => decide (c + bey ps (0 + (j : Int)) ≤ m)) (show decide (c + bey ps (0 + (i : Int)) ≤ m) = true from e)]
                    rfl
                · refine ⟨e12.trans e13, ?_⟩
                  rw [e13 _ _ hL, List.range_succ, List.filter_append, List.map_append, List.filter_cons_of_neg (p := fun (j : Nat) => decide (c + bey ps (0 + (j : Int)) ≤ m)) (show ¬ decide (c + bey ps (0 + (i : Int)) ≤ m) = true from e)]
                  show some (HO.lst _) = some (HO.lst (_ ++ []))
                  rw [List.append_nil]
              obtain ⟨e12, hL⟩ := w
              refine ⟨.int T, rfl, T, 60, rfl, rfl, _, rfl, ?_⟩
              by_cases t60 : T < 60
              · rw [decide_eq_true t60]
                have zT : z ≤ T := Int.not_lt.mp fun h => by
                  have := zn2 (by omega)
                  have := bey_anti Vp.pok (s := T) (t := z - 1) (by omega)
                  omega
                have ez : 0 + ((z.toNat : Nat) : Int) = z := by omega
                obtain ⟨r, er⟩ := first_range (p := fun j : Nat => decide (c + bey ps (0 + (j : Int)) ≤ m)) (k := z.toNat) (decide_eq_true (by rw [ez]; omega)) (fun j hj => decide_eq_false (by
                  have := zn2 (by omega)
                  have := bey_anti Vp.pok (s := 0 + (j : Int)) (t := z - 1) (by omega)
                  omega)) 62 (by omega)
                rw [er] at hL
                refine iteT ⟨.int z, rfl, .ref D, rfl, D, _, 0, .int (0 + ((z.toNat : Nat) : Int)), rfl, rfl, SqL.of hL, atI_nat (j := 0) rfl, rfl, _, rfl, ne_refl (congrArg V.int ez.symm) ⟨_, _, _, rfl, e81.trans e12⟩⟩
              · rw [decide_eq_false t60]
                exact iteF (iteF ⟨_, _, _, rfl, e81.trans e12⟩)
        · obtain ⟨y9, y10, y11, rfl, e7⟩ := z
          obtain ⟨d7, l7, h7, n7⟩ := hat _ e7
          refine ⟨.ref x, rfl, x, d7, _, rfl, h7, n7, .int c, rfl, x, c, rs, c, rfl, Pp6.mono e7, c0, c0, by omega, .inr ⟨Int.le_refl _, fun z Lz H8 e8 => ⟨.int T, rfl, rfl, ?_⟩⟩⟩
          have ez := Lst.unique Tl Vp.pok (b := T) Lz T0 (by omega) (by rw [Int.sub_self]; exact Tpos)
          rw [decide_eq_true (congrArg V.int ez)]
          exact q _ ((e5.nx.trans e6).trans (e7.trans e8).nx) ((hb6.ex (e7.trans e8)).mono (by omega))
end
end Kb

namespace Kb
open PySem PySem.Spec PyProof.Rows L2 StX
abbrev slaw : Stmt := topS 32
theorem sclaw : FnScope ["script", "k", "pond", "turn", "wide", "given", "one", "told"] ["script"] (defScope slaw) := ⟨rfl, rfl, rfl, by decide +kernel, rfl, by decide +kernel, by decide +kernel⟩
theorem Drawn.val {wd : Int} {ps : List Pc} (D : Drawn wd ps) (few : ps.length ≤ 6) (w3 : 3 ≤ wd) (w1 : wd ≤ 10 ^ 30) : Val ps := by
  have g : (10 : Int) ^ 30 * 18 ≤ 10 ^ 200 := by decide +kernel
  have g2 : (10 : Int) ^ 30 ≤ 10 ^ 200 := by decide +kernel
  refine ⟨fun p hp => ?_, D.asc, by omega⟩
  obtain ⟨a, b, c, d⟩ := D.ok p hp
  have : wd * (3 * (ps.length : Int)) ≤ 10 ^ 30 * 18 := Int.mul_le_mul w1 (by omega) (by omega) (by decide)
  exact ⟨a, by omega, by omega⟩
theorem SqL.nx {K : PySem.W.Frag} {H H' : Hp} {a : Addr} {xs : List V} (e : Nx H H') (h : SqL K H a xs) : SqL K H' a xs := by
  rcases h with (h | ⟨o, h⟩) | h
  · exact .inl (.inl (e.at h))
  · exact .inl (.inr ⟨o, e.at h⟩)
  · exact .inr h
theorem many_val {m : Nat} {ps : List Pc} (ok : ∀ p ∈ ps, Pok p ∧ p.2.1 - p.1 < 3 ∧ p.2.2 ≤ 3 ∧ p.2.1 ≤ 5 * m) (asc : AscP ps) (l : ps.length = m) (hm : m ≤ 1000) : Val ps := by
  have g : (5000 : Int) ≤ 10 ^ 200 := by decide +kernel
  refine ⟨fun p hp => ?_, asc, by omega⟩
  obtain ⟨a, b, c, d⟩ := ok p hp
  exact ⟨a, by omega, by omega⟩
def gv14 : List Pc := [(1, 4, 9), (7, 7, 2)]
theorem gw_val : Val gv14 := by
  refine ⟨fun p hp => ?_, ?_, by decide⟩
  · simp only [gv14, List.mem_cons, List.mem_nil_iff, or_false] at hp
    rcases hp with rfl | rfl
    · exact ⟨⟨by decide, by decide, by decide⟩, by decide +kernel, by decide +kernel⟩
    · exact ⟨⟨by decide, by decide, by decide⟩, by decide +kernel, by decide +kernel⟩
  · exact List.pairwise_cons.mpr ⟨fun q hq => by rw [List.mem_singleton.mp hq]; decide, List.pairwise_singleton ..⟩
theorem gw_can : Can gv14 := ⟨by decide, by decide, (fun q hq => by cases hq; exact ⟨by decide, fun e => by cases e⟩), by decide, by decide, (fun q hq => by cases hq), trivial⟩
def pd14 : PyData := .list [.int 4, .none, .int 7, .int 4, .int 0]
section
variable {P : Program} {w : World} {K : PySem.W.Frag} {mg : Str → Option Value} {base : Heap}
theorem ok_law14 {C : Addr} (B : Bt mg) (DProfile : DMk P w K mg base "Profile" C 5 ["self", "cold", "pieces"] (spInit C)) (Dm_least_size : DMt P w K mg base C "least_size" 3 ["self", "misses"] (spLeast C))
    (D_law_pond : Df P w K mg base "_law_pond" 1 ["script", "k"] (spPond K)) (D_law_dip : Df P w K mg base "_law_dip" 1 ["pond", "many"] spDip) (D_law_given : Df P w K mg base "_law_given" 2 ["pond", "wide"] spGiven) (D_law_many : Df P w K mg base "_law_many" 2 ["pond", "many"] spMany)
    (D_law_right : Df P w K mg base "_law_right" 7 ["pond", "cold", "given"] spRight14)
    {f : Addr} {fd : FuncData} (F : Fun K "law" "law" slaw f fd) : FnG P w K mg base 8 f fd ["script"] (spLaw K) := by
  refine okG F sclaw (fun vs H Q E h => ?_) (fun cdv A outer s H vs Q E hr hg h => ?_)
  · obtain ⟨a, ns, rfl, _⟩ := h
    rfl
  · obtain ⟨a, ns, rfl, hS, hlen, q⟩ := h
    refine ⟨_, (pss_cons (ps_for PassesOwn.never rfl (pi_range1 (by rfl) B.range (pa_cons (pe_callB (call_max2 rfl) (by rfl) B.max bo_max (pa_cons pe_int (pa_cons (pe_callB (call_min2 rfl) (by rfl) B.min bo_min (pa_cons pe_int (pa_cons (pe_callB call_len_seq (by rfl) B.len bo_len (pa_cons (pv 0) pa_nil)) pa_nil))) pa_nil))) pa_nil)) (pg_name (i := 1) sclaw.nd rfl (by first | exact Or.inl rfl | exact Or.inr rfl)) (pss_cons (ps_set (i := 2) sclaw.nd rfl (by first | exact Or.inl rfl | exact Or.inr rfl) (pe_df D_law_pond hr (pa_cons (pv 0) (pa_cons (pv 1) pa_nil))))
      (pss_cons (ps_for PassesOwn.never rfl (pi_range1 (by rfl) B.range (pa_cons pe_int pa_nil)) (pg_name (i := 3) sclaw.nd rfl (by first | exact Or.inl rfl | exact Or.inr rfl)) (pss_cons (ps_set (i := 4) sclaw.nd rfl (by first | exact Or.inl rfl | exact Or.inr rfl) (pe_ix ix_list (pe_lst (pa_cons pe_int (pa_cons (pe_op op_pow pe_int pe_int) pa_nil))) (pe_op op_mod (pv 3) pe_int) (fun _ _ => rfl)))
      (pss_one (ps_if (pt_not (pt_val (pe_df D_law_right hr (pa_cons (pv 2) (pa_cons (pe_ix ix_list (pe_lst (pa_cons pe_int (pa_cons (pe_df D_law_dip hr (pa_cons (pv 2) (pa_cons (pv 4) pa_nil))) pa_nil))) (pe_df D_law_dip hr (pa_cons (pv 2) (pa_cons pe_int pa_nil))) (fun _ _ => rfl)) (pa_cons (pe_df D_law_given hr (pa_cons (pv 2) (pa_cons (pv 4) pa_nil))) pa_nil)))))) (pss_one (ps_ret pe_bl)) pss_nil))))
      (pss_cons (ps_set (i := 5) sclaw.nd rfl (by first | exact Or.inl rfl | exact Or.inr rfl) (pe_df D_law_many hr (pa_cons (pv 2) (pa_cons (pe_op op_add pe_int (pe_df D_law_dip hr (pa_cons (pv 2) (pa_cons pe_int pa_nil)))) pa_nil))))
      (pss_one (ps_if (pw_and (pt_cmpR op_eq (pv 1) pe_int (nomark _)) (pw_and1 (pt_not (pt_val (pe_df D_law_right hr (pa_cons (pv 2) (pa_cons (pe_df D_law_dip hr (pa_cons (pv 2) (pa_cons pe_int pa_nil))) (pa_cons (pv 5) pa_nil)))))))).pt (pss_one (ps_ret pe_bl)) pss_nil))))))
      (pss_cons (ps_set (i := 6) sclaw.nd rfl (by first | exact Or.inl rfl | exact Or.inr rfl) (pe_mk DProfile hr (pa_cons pe_int (pa_cons (pe_lst (pa_cons (pe_tup (pa_cons pe_int (pa_cons pe_int (pa_cons pe_int pa_nil)))) (pa_cons (pe_tup (pa_cons pe_int (pa_cons pe_int (pa_cons pe_int pa_nil)))) pa_nil))) pa_nil))))
      (pss_cons (ps_set (i := 7) sclaw.nd rfl (by first | exact Or.inl rfl | exact Or.inr rfl) (pe_lst (pa_cons (pe_mt Dm_least_size hr (pv 6) (pa_cons pe_int pa_nil)) (pa_cons (pe_mt Dm_least_size hr (pv 6) (pa_cons pe_int pa_nil)) (pa_cons (pe_mt Dm_least_size hr (pv 6) (pa_cons pe_int pa_nil)) (pa_cons (pe_mt Dm_least_size hr (pv 6) (pa_cons pe_int pa_nil)) (pa_cons (pe_mt Dm_least_size hr (pv 6) (pa_cons pe_int pa_nil)) pa_nil)))))))
      (pss_one (ps_ret (pe_and (pe_cmpR (op_eqD hr.units) (pv 7) (pe_lst (pa_cons pe_int (pa_cons pe_non (pa_cons pe_int (pa_cons pe_int (pa_cons pe_int pa_nil)))))) (nomark _)) (pe_one (pe_cmpR op_eq (pe_mt Dm_least_size hr (pe_mk DProfile hr (pa_cons pe_int (pa_cons (pe_lst pa_nil) pa_nil))) (pa_cons pe_int pa_nil)) pe_int (nomark _))))))))), ?_⟩
    have g400 : (10 : Int) ^ 30 ≤ 10 ^ 400 := by decide +kernel
    have g600 : (10 : Int) ^ 30 ≤ 10 ^ 600 := by decide +kernel
    have g100 : (10 : Int) ^ 30 ≤ 10 ^ 100 := by decide +kernel
    refine ⟨.ref a, rfl, a, _, rfl, .inl hS, 6, _, rfl, 1, _, rfl, ?_⟩
    generalize hN : (if (if ((ns.map V.int).length : Int) < 6 then ((ns.map V.int).length : Int) else 6) > 1 then (if ((ns.map V.int).length : Int) < 6 then ((ns.map V.int).length : Int) else 6) else 1) = N
    have N6 : 1 ≤ N ∧ N ≤ 6 := by
      rw [← hN]
      split <;> split at * <;> omega
    refine ⟨N, rfl, by omega, by omega, for_range (lo := 0) (n := N.toNat) (fun k σ H1 => ∃ y1 y2 y3 y4 y5, σ = [some (.ref a), y1, y2, y3, y4, y5, none, none] ∧ Nx H H1) ⟨none, none, none, none, none, rfl, Nx.refl _⟩ (fun k σ H1 hk z => ?_) (fun σ H1 z => ?_)⟩
    · obtain ⟨y1, y2, y3, y4, y5, rfl, e1⟩ := z
      refine ⟨.ref a, rfl, .int (0 + (k : Int)), rfl, a, ns, _, rfl, ?_, by omega, by omega, fun b H2 nb e2 hb => ?_⟩
      · exact SqL.nx e1 hS
      have e02 := e1.trans e2.nx
      refine ⟨4, rfl, by decide, by decide, for_range (lo := 0) (n := 4) (fun i σ H3 => ∃ y3 y4, σ = [some (.ref a), some (.int (0 + (k : Int))), some (.ref b), y3, y4, y5, none, none] ∧ Nx H2 H3 ∧ Pd H3 b (1200 * i)) ⟨y3, y4, rfl, Nx.refl _, hb⟩ (fun i σ H3 hi z => ?_) (fun σ H3 z => ?_)⟩
      · obtain ⟨y3, y4, rfl, e3, hb3⟩ := z
        refine ⟨10, 30, rfl, rfl, ⟨by decide, by decide, by decide⟩, by show 2 ≤ sizeLine; decide, fun q1 nq1 => ?_⟩
        have x1 := Ex.new (o := .lst [V.int 4, V.int (10 ^ (30 : Int).toNat)]) nq1
        have m2 : 0 ≤ (0 + (i : Int)) % 2 ∧ (0 + (i : Int)) % 2 < 2 := by omega
        obtain ⟨wd, aw, w3, w1⟩ : ∃ wd : Int, atI [V.int 4, V.int (10 ^ (30 : Int).toNat)] ((0 + (i : Int)) % 2) = some (.int wd) ∧ 3 ≤ wd ∧ wd ≤ 10 ^ 30 := by
          rcases (show (0 + (i : Int)) % 2 = 0 ∨ (0 + (i : Int)) % 2 = 1 by omega) with e | e
          · rw [e]
            exact ⟨4, rfl, by decide, by decide⟩
          · rw [e]
            exact ⟨10 ^ (30 : Int).toNat, rfl, by decide, by decide⟩
        refine ⟨_, rfl, _, 2, rfl, rfl, by show (0 : Int) < 2; decide, q1, _, _, .int wd, rfl, rfl, SqL.of upd_same, aw, ?_⟩
        refine ⟨.ref b, rfl, .ref b, rfl, .int wd, rfl, b, wd, _, rfl, hb3.ex x1, by omega, by omega, by omega, fun r r0 r1 H4 e4 hb4 => ⟨by show 2 ≤ sizeLine; decide, fun l nl => ?_⟩⟩
        have zl := Ex.new (o := .lst [V.int 0, V.int r]) nl
        refine ⟨.ref b, rfl, b, 2, _, rfl, hb4.ex zl, by omega, by decide, by decide +kernel, fun j j0 j1 H5 e5 hb5 => ?_⟩
        obtain ⟨cc, ac, cc0, cc1⟩ := pick2' (p := fun m => 0 ≤ m ∧ m ≤ 10 ^ 30) j0 j1 (x := 0) (y := r) ⟨by decide, by decide +kernel⟩ ⟨r0, by omega⟩
        refine ⟨l, _, j, .int cc, rfl, rfl, SqL.of (e5.at upd_same), ac, .ref b, rfl, .int wd, rfl, b, wd, _, rfl, hb5, by omega, w3, by omega, fun g H6 ps ng e6 hb6 hg6 D len => ?_⟩
        have Vp := D.val len w3 w1
        refine ⟨b, g, ps, cc, _, rfl, hb6, by omega, cc0, by omega, hg6, Vp, fun H7 e7 hb7 => ⟨true, rfl, iteF ?_⟩⟩
        exact ⟨_, _, rfl, ((((e3.trans x1.nx).trans e4).trans (zl.nx.trans e5)).trans e6).trans e7, hb7.mono (by omega)⟩
      · obtain ⟨y3, y4, rfl, e3, hb3⟩ := z
        refine ⟨.ref b, rfl, .ref b, rfl, b, 101, _, rfl, hb3, by omega, by decide, by decide +kernel, fun r r0 r1 H4 e4 hb4 => ⟨100, r, rfl, rfl, ?_⟩⟩
        have er : (100 + r : Int) = ((100 + r.toNat : Nat) : Int) := by omega
        refine ⟨b, 100 + r.toNat, _, by show [V.ref b, V.int (100 + r)] = _; rw [er], hb4, by omega, by omega, fun g H5 ps ng e5 hb5 hg5 ok asc len => ?_⟩
        have Vp := many_val ok asc len (by omega)
        have e35 := e4.trans e5
        refine ⟨_, rfl, rfl, _, rfl, ite2 (fun e => ?_) (fun e => ?_)⟩
        · refine ⟨.ref b, rfl, .ref b, rfl, b, 9, _, rfl, hb5, by omega, by decide, by decide +kernel, fun r' r0' r1' H6 e6 hb6 => ?_⟩
          refine ⟨.ref g, rfl, b, g, ps, r', _, rfl, hb6, by omega, r0', by omega, hg5.nx e6, Vp, fun H7 e7 hb7 => ⟨true, rfl, iteF ⟨_, _, _, _, _, rfl, e02.trans (e3.trans (e35.trans (e6.trans e7)))⟩⟩⟩
        · exact iteF ⟨_, _, _, _, _, rfl, e02.trans (e3.trans e35)⟩
    · obtain ⟨y1, y2, y3, y4, y5, rfl, e1⟩ := z
      -- one
      refine ⟨by show 3 ≤ sizeLine; decide, fun t1 nt1 => ⟨by show 3 ≤ sizeLine; decide, fun t2 nt2 => ⟨by show 2 ≤ sizeLine; decide, fun l nl => ?_⟩⟩⟩
      have x1 := Ex.new (o := .tup [V.int 1, V.int 4, V.int 9]) nt1
      have x2 := Ex.new (o := .tup [V.int 7, V.int 7, V.int 2]) nt2
      have x3 := Ex.new (o := .lst [V.ref t1, V.ref t2]) nl
      intro x dx nx ndx ne
      have pc : Pcs (upd (upd (upd H1 t1 (.tup [V.int 1, V.int 4, V.int 9])) t2 (.tup [V.int 7, V.int 7, V.int 2])) l (.lst [V.ref t1, V.ref t2])) l gv14 := ⟨_, upd_same, .cons ⟨t1, rfl, x3 _ _ (x2 _ _ upd_same)⟩ (.cons ⟨t2, rfl, x3 _ _ upd_same⟩ .nil)⟩
      refine ⟨x, dx, 4, l, gv14, rfl, upd_same, by decide, pc.mono (mk_ex0 nx ndx), gw_val, fun H2 rs fr Pp Tl => ⟨rfl, ?_⟩⟩
      have un : ∀ {m z y : Int}, Lst rs m z → 0 ≤ y → bey gv14 y ≤ m → (0 < y → m < bey gv14 (y - 1)) → z = y := fun h a b c => Lst.unique Tl gw_val.pok h a b c
      have hat : ∀ H', Ex H2 H' → ∃ dx' l', H' x = some (.ins C dx' (pf 4 l')) ∧ (pf 4 l').lookup ("least_size" : Str) = none := fun H' e' => by
        obtain ⟨dx', l', h1, _⟩ := (Pp.mono e').at_
        exact ⟨dx', l', h1, pf_no _ _ (by decide +kernel) (by decide +kernel)⟩
      obtain ⟨d2, l2, h2, n2⟩ := hat _ (Ex.refl _)
      refine ⟨.ref x, rfl, x, d2, _, rfl, h2, n2, x, 4, rs, 12, rfl, Pp, by decide, by decide, by decide +kernel, .inr ⟨by decide, fun z Lz H3 e3 => ?_⟩⟩
      cases un (y := 4) Lz (by decide) (by decide) (by decide)
      obtain ⟨d3, l3, h3, n3⟩ := hat _ e3
      refine ⟨.ref x, rfl, x, d3, _, rfl, h3, n3, x, 4, rs, 3, rfl, Pp.mono e3, by decide, by decide, by decide +kernel, .inl ⟨by decide, fun H4 e4 => ?_⟩⟩
      have e24 := e3.trans e4
      obtain ⟨d4, l4, h4, n4⟩ := hat _ e24
      refine ⟨.ref x, rfl, x, d4, _, rfl, h4, n4, x, 4, rs, 4, rfl, Pp.mono e24, by decide, by decide, by decide +kernel, .inr ⟨by decide, fun z Lz H5 e5 => ?_⟩⟩
      cases un (y := 7) Lz (by decide) (by decide) (by decide)
      have e25 := e24.trans e5
      obtain ⟨d5, l5, h5, n5⟩ := hat _ e25
      refine ⟨.ref x, rfl, x, d5, _, rfl, h5, n5, x, 4, rs, 6, rfl, Pp.mono e25, by decide, by decide, by decide +kernel, .inr ⟨by decide, fun z Lz H6 e6 => ?_⟩⟩
      cases un (y := 4) Lz (by decide) (by decide) (by decide)
      have e26 := e25.trans e6
      obtain ⟨d6, l6, h6, n6⟩ := hat _ e26
      refine ⟨.ref x, rfl, x, d6, _, rfl, h6, n6, x, 4, rs, 42, rfl, Pp.mono e26, by decide, by decide, by decide +kernel, .inr ⟨by decide, fun z Lz H7 e7 => ⟨by show 5 ≤ sizeLine; decide, fun L nL => ?_⟩⟩⟩
      cases un (y := 0) Lz (by decide) (by decide) (by decide)
      have z1 := Ex.new (o := .lst [V.int 4, V.non, V.int 7, V.int 4, V.int 0]) nL
      refine ⟨.ref L, rfl, by show 5 ≤ sizeLine; decide, fun L2 nL2 => ?_⟩
      have z2 := Ex.new (o := .lst [V.int 4, V.non, V.int 7, V.int 4, V.int 0]) nL2
      refine ⟨pd14, pd14, .lst (SqL.of (z2 _ _ upd_same)) (.cons (.int _) (.cons .non (.cons (.int _) (.cons (.int _) (.cons (.int _) .nil))))), .lst (SqL.of upd_same) (.cons (.int _) (.cons .non (.cons (.int _) (.cons (.int _) (.cons (.int _) .nil))))), by decide, by decide, ?_⟩
      rw [show PyData.eqv pd14 pd14 = true by decide]
      refine ⟨true, rfl, iteT ⟨Nat.zero_le _, fun l0 nl0 => ?_⟩⟩
      intro x' dx' nx' ndx' ne'
      have vn : Val [] := ⟨fun p hp => (by cases hp), List.Pairwise.nil, by decide⟩
      have pn : Pcs (upd (upd (upd H7 L (.lst [V.int 4, V.non, V.int 7, V.int 4, V.int 0])) L2 (.lst [V.int 4, V.non, V.int 7, V.int 4, V.int 0])) l0 (.lst [])) l0 [] := ⟨[], upd_same, .nil⟩
      refine ⟨x', dx', 0, l0, [], rfl, upd_same, Int.le_refl _, Pcs.mono (mk_ex0 nx' ndx') pn, vn, fun H9 rs9 fr9 P9 T9 => ⟨rfl, ?_⟩⟩
      obtain ⟨d9, l9, h9, _⟩ := P9.at_
      refine ⟨x', d9, _, rfl, h9, pf_no _ _ (by decide +kernel) (by decide +kernel), x', 0, rs9, 0, rfl, P9, Int.le_refl _, Int.le_refl _, by decide +kernel, .inr ⟨Int.le_refl _, fun z Lz H10 e10 => ⟨rfl, ?_⟩⟩⟩
      have ez := Lst.unique (b := 0) T9 vn.pok Lz (Int.le_refl _) (by decide) (fun h => absurd h (Int.lt_irrefl _))
      rw [decide_eq_true (congrArg V.int ez)]
      exact q _
end
theorem all_mk {P : Program} {w : World} {K : PySem.W.Frag} {h : Heap} {mg : Str → Option Value} {fa CC f_is_integer f_is_from_zero f_is_piece f_are_pieces f_check_from f_check_distances f_flattened f_least_covering f__law_pond f__law_dip f__law_given f__law_many f__law_beyond f__law_right f_law f_m___init__ f_m_least_size  : Addr} (X : K.In h) (G : h.Ns mainGlobals mg) (hfa : mg "law" = some (.ref fa))
    {od_is_integer an_is_integer od_is_from_zero an_is_from_zero od_is_piece an_is_piece od_are_pieces an_are_pieces od_check_from an_check_from od_check_distances an_check_distances od_flattened an_flattened od_least_covering an_least_covering od__law_pond an__law_pond od__law_dip an__law_dip od__law_given an__law_given od__law_many an__law_many od__law_beyond an__law_beyond od__law_right an__law_right od_law an_law od_m___init__ an_m___init__ od_m_least_size an_m_least_size : Option Addr} {sl_is_integer sl_is_from_zero sl_is_piece sl_are_pieces sl_check_from sl_check_distances sl_flattened sl_least_covering sl__law_pond sl__law_dip sl__law_given sl__law_many sl__law_beyond sl__law_right sl_law sl_m___init__ sl_m_least_size : Array (Option Value)}
    {oc_is_integer kV_is_integer dc_is_integer pm_is_integer cd_is_integer ct_is_integer oc_is_from_zero kV_is_from_zero dc_is_from_zero pm_is_from_zero cd_is_from_zero ct_is_from_zero oc_is_piece kV_is_piece dc_is_piece pm_is_piece cd_is_piece ct_is_piece oc_are_pieces kV_are_pieces dc_are_pieces pm_are_pieces cd_are_pieces ct_are_pieces oc_check_from kV_check_from dc_check_from pm_check_from cd_check_from ct_check_from oc_check_distances kV_check_distances dc_check_distances pm_check_distances cd_check_distances ct_check_distances oc_flattened kV_flattened dc_flattened pm_flattened cd_flattened ct_flattened oc_least_covering kV_least_covering dc_least_covering pm_least_covering cd_least_covering ct_least_covering oc__law_pond kV__law_pond dc__law_pond pm__law_pond cd__law_pond ct__law_pond oc__law_dip kV__law_dip dc__law_dip pm__law_dip cd__law_dip ct__law_dip oc__law_given kV__law_given dc__law_given pm__law_given cd__law_given ct__law_given oc__law_many kV__law_many dc__law_many pm__law_many cd__law_many ct__law_many oc__law_beyond kV__law_beyond dc__law_beyond pm__law_beyond cd__law_beyond ct__law_beyond oc__law_right kV__law_right dc__law_right pm__law_right cd__law_right ct__law_right oc_law kV_law dc_law pm_law cd_law ct_law oc_m___init__ kV_m___init__ dc_m___init__ pm_m___init__ cd_m___init__ ct_m___init__ oc_m_least_size kV_m_least_size dc_m_least_size pm_m_least_size cd_m_least_size ct_m_least_size : Value}
    (a_is_integer : PySem.W.nsIn K mainGlobals "is_integer" = some (some (.ref f_is_integer))) (l_is_integer : K.lookup f_is_integer = some ⟨oc_is_integer, od_is_integer, .func (PySem.W.fnOf "is_integer" "is_integer" (defArgs sis_integer) (defBody sis_integer) (defScope sis_integer) .none kV_is_integer dc_is_integer pm_is_integer an_is_integer cd_is_integer ct_is_integer), sl_is_integer⟩) (c_is_integer : PySem.W.codeIn K cd_is_integer "is_integer" = true) (k_is_integer : PySem.W.keepIn K (.ref f_is_integer) = true)
    (a_is_from_zero : PySem.W.nsIn K mainGlobals "is_from_zero" = some (some (.ref f_is_from_zero))) (l_is_from_zero : K.lookup f_is_from_zero = some ⟨oc_is_from_zero, od_is_from_zero, .func (PySem.W.fnOf "is_from_zero" "is_from_zero" (defArgs sis_from_zero) (defBody sis_from_zero) (defScope sis_from_zero) .none kV_is_from_zero dc_is_from_zero pm_is_from_zero an_is_from_zero cd_is_from_zero ct_is_from_zero), sl_is_from_zero⟩) (c_is_from_zero : PySem.W.codeIn K cd_is_from_zero "is_from_zero" = true) (k_is_from_zero : PySem.W.keepIn K (.ref f_is_from_zero) = true)
    (a_is_piece : PySem.W.nsIn K mainGlobals "is_piece" = some (some (.ref f_is_piece))) (l_is_piece : K.lookup f_is_piece = some ⟨oc_is_piece, od_is_piece, .func (PySem.W.fnOf "is_piece" "is_piece" (defArgs sis_piece) (defBody sis_piece) (defScope sis_piece) .none kV_is_piece dc_is_piece pm_is_piece an_is_piece cd_is_piece ct_is_piece), sl_is_piece⟩) (c_is_piece : PySem.W.codeIn K cd_is_piece "is_piece" = true) (k_is_piece : PySem.W.keepIn K (.ref f_is_piece) = true)
    (a_are_pieces : PySem.W.nsIn K mainGlobals "are_pieces" = some (some (.ref f_are_pieces))) (l_are_pieces : K.lookup f_are_pieces = some ⟨oc_are_pieces, od_are_pieces, .func (PySem.W.fnOf "are_pieces" "are_pieces" (defArgs sare_pieces) (defBody sare_pieces) (defScope sare_pieces) .none kV_are_pieces dc_are_pieces pm_are_pieces an_are_pieces cd_are_pieces ct_are_pieces), sl_are_pieces⟩) (c_are_pieces : PySem.W.codeIn K cd_are_pieces "are_pieces" = true) (k_are_pieces : PySem.W.keepIn K (.ref f_are_pieces) = true)
    (a_check_from : PySem.W.nsIn K mainGlobals "check_from" = some (some (.ref f_check_from))) (l_check_from : K.lookup f_check_from = some ⟨oc_check_from, od_check_from, .func (PySem.W.fnOf "check_from" "check_from" (defArgs scheck_from) (defBody scheck_from) (defScope scheck_from) .none kV_check_from dc_check_from pm_check_from an_check_from cd_check_from ct_check_from), sl_check_from⟩) (c_check_from : PySem.W.codeIn K cd_check_from "check_from" = true) (k_check_from : PySem.W.keepIn K (.ref f_check_from) = true)
    (a_check_distances : PySem.W.nsIn K mainGlobals "check_distances" = some (some (.ref f_check_distances))) (l_check_distances : K.lookup f_check_distances = some ⟨oc_check_distances, od_check_distances, .func (PySem.W.fnOf "check_distances" "check_distances" (defArgs scheck_distances) (defBody scheck_distances) (defScope scheck_distances) .none kV_check_distances dc_check_distances pm_check_distances an_check_distances cd_check_distances ct_check_distances), sl_check_distances⟩) (c_check_distances : PySem.W.codeIn K cd_check_distances "check_distances" = true) (k_check_distances : PySem.W.keepIn K (.ref f_check_distances) = true)
    (a_flattened : PySem.W.nsIn K mainGlobals "flattened" = some (some (.ref f_flattened))) (l_flattened : K.lookup f_flattened = some ⟨oc_flattened, od_flattened, .func (PySem.W.fnOf "flattened" "flattened" (defArgs sflattened) (defBody sflattened) (defScope sflattened) .none kV_flattened dc_flattened pm_flattened an_flattened cd_flattened ct_flattened), sl_flattened⟩) (c_flattened : PySem.W.codeIn K cd_flattened "flattened" = true) (k_flattened : PySem.W.keepIn K (.ref f_flattened) = true)
    (a_least_covering : PySem.W.nsIn K mainGlobals "least_covering" = some (some (.ref f_least_covering))) (l_least_covering : K.lookup f_least_covering = some ⟨oc_least_covering, od_least_covering, .func (PySem.W.fnOf "least_covering" "least_covering" (defArgs sleast_covering) (defBody sleast_covering) (defScope sleast_covering) .none kV_least_covering dc_least_covering pm_least_covering an_least_covering cd_least_covering ct_least_covering), sl_least_covering⟩) (c_least_covering : PySem.W.codeIn K cd_least_covering "least_covering" = true) (k_least_covering : PySem.W.keepIn K (.ref f_least_covering) = true)
    (a__law_pond : PySem.W.nsIn K mainGlobals "_law_pond" = some (some (.ref f__law_pond))) (l__law_pond : K.lookup f__law_pond = some ⟨oc__law_pond, od__law_pond, .func (PySem.W.fnOf "_law_pond" "_law_pond" (defArgs s_law_pond) (defBody s_law_pond) (defScope s_law_pond) .none kV__law_pond dc__law_pond pm__law_pond an__law_pond cd__law_pond ct__law_pond), sl__law_pond⟩) (c__law_pond : PySem.W.codeIn K cd__law_pond "_law_pond" = true) (k__law_pond : PySem.W.keepIn K (.ref f__law_pond) = true)
    (a__law_dip : PySem.W.nsIn K mainGlobals "_law_dip" = some (some (.ref f__law_dip))) (l__law_dip : K.lookup f__law_dip = some ⟨oc__law_dip, od__law_dip, .func (PySem.W.fnOf "_law_dip" "_law_dip" (defArgs s_law_dip) (defBody s_law_dip) (defScope s_law_dip) .none kV__law_dip dc__law_dip pm__law_dip an__law_dip cd__law_dip ct__law_dip), sl__law_dip⟩) (c__law_dip : PySem.W.codeIn K cd__law_dip "_law_dip" = true) (k__law_dip : PySem.W.keepIn K (.ref f__law_dip) = true)
    (a__law_given : PySem.W.nsIn K mainGlobals "_law_given" = some (some (.ref f__law_given))) (l__law_given : K.lookup f__law_given = some ⟨oc__law_given, od__law_given, .func (PySem.W.fnOf "_law_given" "_law_given" (defArgs s_law_given) (defBody s_law_given) (defScope s_law_given) .none kV__law_given dc__law_given pm__law_given an__law_given cd__law_given ct__law_given), sl__law_given⟩) (c__law_given : PySem.W.codeIn K cd__law_given "_law_given" = true) (k__law_given : PySem.W.keepIn K (.ref f__law_given) = true)
    (a__law_many : PySem.W.nsIn K mainGlobals "_law_many" = some (some (.ref f__law_many))) (l__law_many : K.lookup f__law_many = some ⟨oc__law_many, od__law_many, .func (PySem.W.fnOf "_law_many" "_law_many" (defArgs s_law_many) (defBody s_law_many) (defScope s_law_many) .none kV__law_many dc__law_many pm__law_many an__law_many cd__law_many ct__law_many), sl__law_many⟩) (c__law_many : PySem.W.codeIn K cd__law_many "_law_many" = true) (k__law_many : PySem.W.keepIn K (.ref f__law_many) = true)
    (a__law_beyond : PySem.W.nsIn K mainGlobals "_law_beyond" = some (some (.ref f__law_beyond))) (l__law_beyond : K.lookup f__law_beyond = some ⟨oc__law_beyond, od__law_beyond, .func (PySem.W.fnOf "_law_beyond" "_law_beyond" (defArgs s_law_beyond) (defBody s_law_beyond) (defScope s_law_beyond) .none kV__law_beyond dc__law_beyond pm__law_beyond an__law_beyond cd__law_beyond ct__law_beyond), sl__law_beyond⟩) (c__law_beyond : PySem.W.codeIn K cd__law_beyond "_law_beyond" = true) (k__law_beyond : PySem.W.keepIn K (.ref f__law_beyond) = true)
    (a__law_right : PySem.W.nsIn K mainGlobals "_law_right" = some (some (.ref f__law_right))) (l__law_right : K.lookup f__law_right = some ⟨oc__law_right, od__law_right, .func (PySem.W.fnOf "_law_right" "_law_right" (defArgs s_law_right) (defBody s_law_right) (defScope s_law_right) .none kV__law_right dc__law_right pm__law_right an__law_right cd__law_right ct__law_right), sl__law_right⟩) (c__law_right : PySem.W.codeIn K cd__law_right "_law_right" = true) (k__law_right : PySem.W.keepIn K (.ref f__law_right) = true)
    (a_law : PySem.W.nsIn K mainGlobals "law" = some (some (.ref f_law))) (l_law : K.lookup f_law = some ⟨oc_law, od_law, .func (PySem.W.fnOf "law" "law" (defArgs slaw) (defBody slaw) (defScope slaw) .none kV_law dc_law pm_law an_law cd_law ct_law), sl_law⟩) (c_law : PySem.W.codeIn K cd_law "law" = true) (k_law : PySem.W.keepIn K (.ref f_law) = true)
    (aC : PySem.W.nsIn K mainGlobals "Profile" = some (some (.ref CC))) (pg : PySem.W.plainGet K CC Str.empty = true) (hd : PySem.W.hasDictIn K CC = true) (po : PySem.W.plainOver K CC = true) (sa : PySem.W.findIn K (.ref CC) "__setattr__" = some (some (.builtin "object.__setattr__"))) (mk : PySem.W.makesIn K CC = true) (kc : PySem.W.keepIn K (.ref CC) = true)
    (na0 : PySem.W.findIn K (.ref CC) "cold" = some none)
    (na1 : PySem.W.findIn K (.ref CC) "_pieces" = some none)
    (a_m___init__ : PySem.W.findIn K (.ref CC) "__init__" = some (some (.ref f_m___init__))) (i_m___init__ : PySem.W.isFn K (.ref f_m___init__) = true)
    (l_m___init__ : K.lookup f_m___init__ = some ⟨oc_m___init__, od_m___init__, .func (PySem.W.fnOf "__init__" "Profile.__init__" (defArgs sProfile___init__) (defBody sProfile___init__) (defScope sProfile___init__) .none kV_m___init__ dc_m___init__ pm_m___init__ an_m___init__ cd_m___init__ ct_m___init__), sl_m___init__⟩) (c_m___init__ : PySem.W.codeIn K cd_m___init__ "Profile.__init__" = true) (k_m___init__ : PySem.W.keepIn K (.ref f_m___init__) = true)
    (a_m_least_size : PySem.W.findIn K (.ref CC) "least_size" = some (some (.ref f_m_least_size))) (i_m_least_size : PySem.W.isFn K (.ref f_m_least_size) = true)
    (l_m_least_size : K.lookup f_m_least_size = some ⟨oc_m_least_size, od_m_least_size, .func (PySem.W.fnOf "least_size" "Profile.least_size" (defArgs sProfile_least_size) (defBody sProfile_least_size) (defScope sProfile_least_size) .none kV_m_least_size dc_m_least_size pm_m_least_size an_m_least_size cd_m_least_size ct_m_least_size), sl_m_least_size⟩) (c_m_least_size : PySem.W.codeIn K cd_m_least_size "Profile.least_size" = true) (k_m_least_size : PySem.W.keepIn K (.ref f_m_least_size) = true)
    (z_len : PySem.W.nsIn K mainGlobals "len" = some none)
    (z_abs : PySem.W.nsIn K mainGlobals "abs" = some none)
    (z_max : PySem.W.nsIn K mainGlobals "max" = some none)
    (z_min : PySem.W.nsIn K mainGlobals "min" = some none)
    (z_sum : PySem.W.nsIn K mainGlobals "sum" = some none)
    (z_all : PySem.W.nsIn K mainGlobals "all" = some none)
    (z_repr : PySem.W.nsIn K mainGlobals "repr" = some none)
    (z_sorted : PySem.W.nsIn K mainGlobals "sorted" = some none)
    (z_isinstance : PySem.W.nsIn K mainGlobals "isinstance" = some none)
    (z_int : PySem.W.nsIn K mainGlobals "int" = some none)
    (z_bool : PySem.W.nsIn K mainGlobals "bool" = some none)
    (z_list : PySem.W.nsIn K mainGlobals "list" = some none)
    (z_tuple : PySem.W.nsIn K mainGlobals "tuple" = some none)
    (z_set : PySem.W.nsIn K mainGlobals "set" = some none)
    (z_range : PySem.W.nsIn K mainGlobals "range" = some none)
    (z_zip : PySem.W.nsIn K mainGlobals "zip" = some none)
    (z_reversed : PySem.W.nsIn K mainGlobals "reversed" = some none)
    : ∃ fd : FuncData, (∀ (s : Shared) (v : Value), BindsTo s fd ⟨[v], []⟩ [("script", v)]) ∧ ∀ base : Heap, K.In base → base.Ns mainGlobals mg → FnG P w K mg base 8 fa fd ["script"] (spLaw K) := by
  have e := hfa.symm.trans (PySem.W.mg_of X G a_law)
  cases e
  have Fis_integer := fun_mk (st := sis_integer) l_is_integer c_is_integer k_is_integer
  have Fis_from_zero := fun_mk (st := sis_from_zero) l_is_from_zero c_is_from_zero k_is_from_zero
  have Fis_piece := fun_mk (st := sis_piece) l_is_piece c_is_piece k_is_piece
  have Fare_pieces := fun_mk (st := sare_pieces) l_are_pieces c_are_pieces k_are_pieces
  have Fcheck_from := fun_mk (st := scheck_from) l_check_from c_check_from k_check_from
  have Fcheck_distances := fun_mk (st := scheck_distances) l_check_distances c_check_distances k_check_distances
  have Fflattened := fun_mk (st := sflattened) l_flattened c_flattened k_flattened
  have Fleast_covering := fun_mk (st := sleast_covering) l_least_covering c_least_covering k_least_covering
  have F_law_pond := fun_mk (st := s_law_pond) l__law_pond c__law_pond k__law_pond
  have F_law_dip := fun_mk (st := s_law_dip) l__law_dip c__law_dip k__law_dip
  have F_law_given := fun_mk (st := s_law_given) l__law_given c__law_given k__law_given
  have F_law_many := fun_mk (st := s_law_many) l__law_many c__law_many k__law_many
  have F_law_beyond := fun_mk (st := s_law_beyond) l__law_beyond c__law_beyond k__law_beyond
  have F_law_right := fun_mk (st := s_law_right) l__law_right c__law_right k__law_right
  have Flaw := fun_mk (st := slaw) l_law c_law k_law
  have Fm___init__ := fun_mk (st := sProfile___init__) l_m___init__ c_m___init__ k_m___init__
  have b___init__ := Fm___init__.binds (ps := ["self", "cold", "pieces"]) fun _ _ _ _ _ _ us hl => match us, hl with | [_, _, _], _ => rfl
  have Fm_least_size := fun_mk (st := sProfile_least_size) l_m_least_size c_m_least_size k_m_least_size
  have b_least_size := Fm_least_size.binds (ps := ["self", "misses"]) fun _ _ _ _ _ _ us hl => match us, hl with | [_, _], _ => rfl
  have B : Bt mg := { len := PySem.W.mg_none_of X G z_len, abs := PySem.W.mg_none_of X G z_abs, max := PySem.W.mg_none_of X G z_max, min := PySem.W.mg_none_of X G z_min, sum := PySem.W.mg_none_of X G z_sum, all := PySem.W.mg_none_of X G z_all, repr := PySem.W.mg_none_of X G z_repr, sorted := PySem.W.mg_none_of X G z_sorted, isinstance := PySem.W.mg_none_of X G z_isinstance, int := PySem.W.mg_none_of X G z_int, bool := PySem.W.mg_none_of X G z_bool, list := PySem.W.mg_none_of X G z_list, tuple := PySem.W.mg_none_of X G z_tuple, set := PySem.W.mg_none_of X G z_set, range := PySem.W.mg_none_of X G z_range, zip := PySem.W.mg_none_of X G z_zip }
  have T : Ptx K CC := ⟨⟨pg, hd, po, sa⟩, na0, na1⟩
  refine ⟨PySem.W.fnOf "law" "law" (defArgs slaw) (defBody slaw) (defScope slaw) .none kV_law dc_law pm_law an_law cd_law ct_law, fun s v => .of_eq rfl, fun base _ _ => ?_⟩
  have mis_integer {k : Nat} {sp : Sp} (ok : FnOk P w K mg base CX0 k f_is_integer _ ["value"] sp) : Df P w K mg base "is_integer" k ["value"] sp := ⟨_, _, PySem.W.mg_of X G a_is_integer, Fis_integer.kp, Fis_integer.binds fun _ _ _ _ _ _ us hl => match us, hl with | [_], _ => rfl, ok⟩
  have mis_from_zero {k : Nat} {sp : Sp} (ok : FnOk P w K mg base CX0 k f_is_from_zero _ ["value"] sp) : Df P w K mg base "is_from_zero" k ["value"] sp := ⟨_, _, PySem.W.mg_of X G a_is_from_zero, Fis_from_zero.kp, Fis_from_zero.binds fun _ _ _ _ _ _ us hl => match us, hl with | [_], _ => rfl, ok⟩
  have mis_piece {k : Nat} {sp : Sp} (ok : FnOk P w K mg base CX0 k f_is_piece _ ["value"] sp) : Df P w K mg base "is_piece" k ["value"] sp := ⟨_, _, PySem.W.mg_of X G a_is_piece, Fis_piece.kp, Fis_piece.binds fun _ _ _ _ _ _ us hl => match us, hl with | [_], _ => rfl, ok⟩
  have mare_pieces {k : Nat} {sp : Sp} (ok : FnOk P w K mg base CX0 k f_are_pieces _ ["value"] sp) : Df P w K mg base "are_pieces" k ["value"] sp := ⟨_, _, PySem.W.mg_of X G a_are_pieces, Fare_pieces.kp, Fare_pieces.binds fun _ _ _ _ _ _ us hl => match us, hl with | [_], _ => rfl, ok⟩
  have mcheck_from {k : Nat} {sp : Sp} (ok : FnOk P w K mg base CX0 k f_check_from _ ["number", "least"] sp) : Df P w K mg base "check_from" k ["number", "least"] sp := ⟨_, _, PySem.W.mg_of X G a_check_from, Fcheck_from.kp, Fcheck_from.binds fun _ _ _ _ _ _ us hl => match us, hl with | [_, _], _ => rfl, ok⟩
  have mcheck_distances {k : Nat} {sp : Sp} (ok : FnOk P w K mg base CX0 k f_check_distances _ ["cold", "pieces"] sp) : Df P w K mg base "check_distances" k ["cold", "pieces"] sp := ⟨_, _, PySem.W.mg_of X G a_check_distances, Fcheck_distances.kp, Fcheck_distances.binds fun _ _ _ _ _ _ us hl => match us, hl with | [_, _], _ => rfl, ok⟩
  have mflattened {k : Nat} {sp : Sp} (ok : FnOk P w K mg base CX0 k f_flattened _ ["pieces"] sp) : Df P w K mg base "flattened" k ["pieces"] sp := ⟨_, _, PySem.W.mg_of X G a_flattened, Fflattened.kp, Fflattened.binds fun _ _ _ _ _ _ us hl => match us, hl with | [_], _ => rfl, ok⟩
  have mleast_covering {k : Nat} {sp : Sp} (ok : FnOk P w K mg base CX0 k f_least_covering _ ["pieces", "many"] sp) : Df P w K mg base "least_covering" k ["pieces", "many"] sp := ⟨_, _, PySem.W.mg_of X G a_least_covering, Fleast_covering.kp, Fleast_covering.binds fun _ _ _ _ _ _ us hl => match us, hl with | [_, _], _ => rfl, ok⟩
  have m_law_pond {k : Nat} {sp : Sp} (ok : FnOk P w K mg base CX0 k f__law_pond _ ["script", "k"] sp) : Df P w K mg base "_law_pond" k ["script", "k"] sp := ⟨_, _, PySem.W.mg_of X G a__law_pond, F_law_pond.kp, F_law_pond.binds fun _ _ _ _ _ _ us hl => match us, hl with | [_, _], _ => rfl, ok⟩
  have m_law_dip {k : Nat} {sp : Sp} (ok : FnOk P w K mg base CX0 k f__law_dip _ ["pond", "many"] sp) : Df P w K mg base "_law_dip" k ["pond", "many"] sp := ⟨_, _, PySem.W.mg_of X G a__law_dip, F_law_dip.kp, F_law_dip.binds fun _ _ _ _ _ _ us hl => match us, hl with | [_, _], _ => rfl, ok⟩
  have m_law_given {k : Nat} {sp : Sp} (ok : FnOk P w K mg base CX0 k f__law_given _ ["pond", "wide"] sp) : Df P w K mg base "_law_given" k ["pond", "wide"] sp := ⟨_, _, PySem.W.mg_of X G a__law_given, F_law_given.kp, F_law_given.binds fun _ _ _ _ _ _ us hl => match us, hl with | [_, _], _ => rfl, ok⟩
  have m_law_many {k : Nat} {sp : Sp} (ok : FnOk P w K mg base CX0 k f__law_many _ ["pond", "many"] sp) : Df P w K mg base "_law_many" k ["pond", "many"] sp := ⟨_, _, PySem.W.mg_of X G a__law_many, F_law_many.kp, F_law_many.binds fun _ _ _ _ _ _ us hl => match us, hl with | [_, _], _ => rfl, ok⟩
  have m_law_beyond {k : Nat} {sp : Sp} (ok : FnOk P w K mg base CX0 k f__law_beyond _ ["given", "size"] sp) : Df P w K mg base "_law_beyond" k ["given", "size"] sp := ⟨_, _, PySem.W.mg_of X G a__law_beyond, F_law_beyond.kp, F_law_beyond.binds fun _ _ _ _ _ _ us hl => match us, hl with | [_, _], _ => rfl, ok⟩
  have m_law_right {k : Nat} {sp : Sp} (ok : FnOk P w K mg base CX0 k f__law_right _ ["pond", "cold", "given"] sp) : Df P w K mg base "_law_right" k ["pond", "cold", "given"] sp := ⟨_, _, PySem.W.mg_of X G a__law_right, F_law_right.kp, F_law_right.binds fun _ _ _ _ _ _ us hl => match us, hl with | [_, _, _], _ => rfl, ok⟩
  have mk_init {k : Nat} {sp : Sp} (ok : FnOk P w K mg base CX0 k f_m___init__ _ ["self", "cold", "pieces"] sp) : DMk P w K mg base "Profile" CC k ["self", "cold", "pieces"] sp := ⟨_, _, ⟨mk, a_m___init__, i_m___init__, kc⟩, PySem.W.mg_of X G aC, b___init__, ok⟩
  have mk_least {k : Nat} {sp : Sp} (ok : FnOk P w K mg base CX0 k f_m_least_size _ ["self", "misses"] sp) : DMt P w K mg base CC "least_size" k ["self", "misses"] sp := ⟨_, _, T.cl, ⟨a_m_least_size, i_m_least_size, k_m_least_size⟩, b_least_size, ok⟩
  have D1 := mis_integer (ok_is_integer B Fis_integer)
  have D2 := mis_from_zero (ok_is_from_zero D1 Fis_from_zero)
  have D3 := mis_piece (ok_is_piece B D1 Fis_piece)
  have D4 := mare_pieces (ok_are_pieces B D3 Fare_pieces)
  have D6 := mcheck_from (ok_check_from D1 Fcheck_from)
  have D7 := mcheck_distances (ok_check_distances D2 D4 Fcheck_distances)
  have D8 := mflattened (ok_flattened B Fflattened)
  have D9 := mleast_covering (ok_cov B (PySem.W.mg_none_of X G z_reversed) Fleast_covering)
  have M1 := mk_init (ok_init T D7 D8 Fm___init__)
  have M2 := mk_least (ok_least T D6 D9 Fm_least_size)
  have D12 := m_law_pond (ok_pond B F_law_pond)
  have D13 := m_law_dip (ok_dip B F_law_dip)
  have D14 := m_law_given (ok_given B D13 F_law_given)
  have D15 := m_law_many (ok_many B D13 F_law_many)
  have D17 := m_law_beyond (ok_lbey14 B F_law_beyond)
  have D19 := m_law_right (ok_right14 B M1 M2 D13 D17 F_law_right)
  exact ok_law14 B M1 M2 D12 D13 D14 D15 D19 Flaw
end Kb
open PySem PySem.W PyProof.Rows
set_option maxHeartbeats 0 in
theorem PySem.Challenge.cw_scanmisses_k14_least_sizes_holds : PySem.Challenge.rw_scanmisses_k14_least_sizes.Holds := by
  w_on; o_law; k_head; (case hw => w_witness2)
  k_fill
  refine Kb.walk_g (l := PySem.Challenge.rw_scanmisses_k14_least_sizes) (n := 63) (k := 8) (x := "script") (sp := fun w => Kb.spLaw _) rfl (by decide) rfl ⟨rfl, by decide, by decide⟩ (fun w h Y => PySem.W.kIn_of Y) ?F (fun _ _ a ns hl _ hS => ⟨a, ns, rfl, hS, hl, fun _ => rfl⟩)
  case F =>
    intro w mg fa h KX G hmg
    refine' Kb.all_mk KX G hmg ?a_is_integer ?l_is_integer ?c_is_integer ?k_is_integer ?a_is_from_zero ?l_is_from_zero ?c_is_from_zero ?k_is_from_zero ?a_is_piece ?l_is_piece ?c_is_piece ?k_is_piece ?a_are_pieces ?l_are_pieces ?c_are_pieces ?k_are_pieces ?a_check_from ?l_check_from ?c_check_from ?k_check_from ?a_check_distances ?l_check_distances ?c_check_distances ?k_check_distances ?a_flattened ?l_flattened ?c_flattened ?k_flattened ?a_least_covering ?l_least_covering ?c_least_covering ?k_least_covering ?a__law_pond ?l__law_pond ?c__law_pond ?k__law_pond ?a__law_dip ?l__law_dip ?c__law_dip ?k__law_dip ?a__law_given ?l__law_given ?c__law_given ?k__law_given ?a__law_many ?l__law_many ?c__law_many ?k__law_many ?a__law_beyond ?l__law_beyond ?c__law_beyond ?k__law_beyond ?a__law_right ?l__law_right ?c__law_right ?k__law_right ?a_law ?l_law ?c_law ?k_law ?aC ?pg ?hd ?po ?sa ?mk ?kc ?na0 ?na1 ?a_m___init__ ?i_m___init__ ?l_m___init__ ?c_m___init__ ?k_m___init__ ?a_m_least_size ?i_m_least_size ?l_m_least_size ?c_m_least_size ?k_m_least_size ?z_len ?z_abs ?z_max ?z_min ?z_sum ?z_all ?z_repr ?z_sorted ?z_isinstance ?z_int ?z_bool ?z_list ?z_tuple ?z_set ?z_range ?z_zip ?z_reversed
    (case a_is_integer => k_is)
    (case l_is_integer => k_is)
    (case c_is_integer => k_is)
    (case k_is_integer => k_is)
    (case a_is_from_zero => k_is)
    (case l_is_from_zero => k_is)
    (case c_is_from_zero => k_is)
    (case k_is_from_zero => k_is)
    (case a_is_piece => k_is)
    (case l_is_piece => k_is)
    (case c_is_piece => k_is)
    (case k_is_piece => k_is)
    (case a_are_pieces => k_is)
    (case l_are_pieces => k_is)
    (case c_are_pieces => k_is)
    (case k_are_pieces => k_is)
    (case a_check_from => k_is)
    (case l_check_from => k_is)
    (case c_check_from => k_is)
    (case k_check_from => k_is)
    (case a_check_distances => k_is)
    (case l_check_distances => k_is)
    (case c_check_distances => k_is)
    (case k_check_distances => k_is)
    (case a_flattened => k_is)
    (case l_flattened => k_is)
    (case c_flattened => k_is)
    (case k_flattened => k_is)
    (case a_least_covering => k_is)
    (case l_least_covering => k_is)
    (case c_least_covering => k_is)
    (case k_least_covering => k_is)
    (case a__law_pond => k_is)
    (case l__law_pond => k_is)
    (case c__law_pond => k_is)
    (case k__law_pond => k_is)
    (case a__law_dip => k_is)
    (case l__law_dip => k_is)
    (case c__law_dip => k_is)
    (case k__law_dip => k_is)
    (case a__law_given => k_is)
    (case l__law_given => k_is)
    (case c__law_given => k_is)
    (case k__law_given => k_is)
    (case a__law_many => k_is)
    (case l__law_many => k_is)
    (case c__law_many => k_is)
    (case k__law_many => k_is)
    (case a__law_beyond => k_is)
    (case l__law_beyond => k_is)
    (case c__law_beyond => k_is)
    (case k__law_beyond => k_is)
    (case a__law_right => k_is)
    (case l__law_right => k_is)
    (case c__law_right => k_is)
    (case k__law_right => k_is)
    (case a_law => k_is)
    (case l_law => k_is)
    (case c_law => k_is)
    (case k_law => k_is)
    (case aC => k_is)
    (case pg => k_is)
    (case hd => k_is)
    (case po => k_is)
    (case sa => k_is)
    (case mk => k_is)
    (case kc => k_is)
    (case na0 => k_is)
    (case na1 => k_is)
    (case a_m___init__ => k_is)
    (case i_m___init__ => k_is)
    (case l_m___init__ => k_is)
    (case c_m___init__ => k_is)
    (case k_m___init__ => k_is)
    (case a_m_least_size => k_is)
    (case i_m_least_size => k_is)
    (case l_m_least_size => k_is)
    (case c_m_least_size => k_is)
    (case k_m_least_size => k_is)
    (case z_len => k_is)
    (case z_abs => k_is)
    (case z_max => k_is)
    (case z_min => k_is)
    (case z_sum => k_is)
    (case z_all => k_is)
    (case z_repr => k_is)
    (case z_sorted => k_is)
    (case z_isinstance => k_is)
    (case z_int => k_is)
    (case z_bool => k_is)
    (case z_list => k_is)
    (case z_tuple => k_is)
    (case z_set => k_is)
    (case z_range => k_is)
    (case z_zip => k_is)
    (case z_reversed => k_is)
